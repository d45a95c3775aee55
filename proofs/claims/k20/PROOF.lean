import PyProof.Rows.All
import Wide.All
import OpenK.AllK
import Wide.FinOn
import Lean
import PyProof.EqAt
import PyProof.EqKinds
import PyProof.TupleCall
import KE.KTryMore
import KE.KRevIter
import PyProof.CollectIter
import PyProof.P3Eq
import PyProof.MinMaxWalk
import PyProof.StrCalls2
import PyProof.P3Statements
import PySem.Challenge.RW_oddjoins_k20_things_that_are_no_bound_pa
set_option Elab.async false
set_option linter.all false
set_option maxRecDepth 100000
set_option maxHeartbeats 8000000
open PySem renaming PyData→xH, wpAny_bind→xI, Value→xK, wpAny_pure→xN, Shared→xO, sizeLine→xV, wpAny→yb, Program→yk, mainGlobals→yp, wpAny_newObj_type→yF, NameKind→yH, FuncData→yM, wpAny_mono→y8
open Nat renaming le_refl→xL, lt_of_lt_of_le→yr, ne_of_lt→yu, le_trans→yv, zero_le→yY, lt_irrefl→y6, ne_of_gt→ze, lt_of_succ_lt_succ→zy, le_succ→zA, lt_or_ge→zF, lt_succ_of_lt→zG, lt_succ_self→zN, lt_of_le_of_lt→Ab, mod_two_eq_zero_or_one→Ae, succ_ne_self→Aj, not_lt→Am
open PySem.Heap renaming get?_push_of_some→xM, get?_push_size→xW, get?_update_other→xX, lt_size→yd, get?_update_self→yo, size_push→y9
open List renaming length_cons→xP, length_map→xQ, mem_cons→xR, mem_cons_of_mem→xT, size_toArray→xU, map_cons→xY, getElem?_cons_succ→xZ, mem_cons_self→ya, getElem?_cons_zero→ye, nil_append→yf, getElem?_map→yg, mem_singleton→yh, getD_eq_getElem?_getD→yi, replicate_succ→yj, getElem?_eq_some_iff→ym, length_nil→yn, getElem?_set_ne→yq, cons_append→yy, replicate_zero→yz, length_append→yB, getElem?_eq_getElem→yC, not_mem_nil→yE, getElem?_eq_none→yG, mem_map→yI, mem_append_right→yJ, length_set→yL, map_nil→yN, length_take→yO, mem_append→yQ, map_map→yS, map_append→yU, mem_filter→yV, drop_eq_getElem_cons→yX, append_nil→y0, getElem?_replicate→y7, drop_of_length_le→zb, filterMap_cons→zc, length_filter_le→zd, set_cons_zero→zg, length_drop→zh, lookup_cons→zi, mem_of_mem_take→zj, take_of_length_le→zm, pairwise_cons→zo, getElem_mem→zp, set_cons_succ→zq, all_cons→zr, mem_of_getElem?→zt, nodup_cons→zu, find?_cons→zv, getElem?_set_self→zx, perm_ext_iff_of_nodup→zB, getElem?_append_left→zC, flatten_cons→zE, any_cons→zK, reverse_cons→zL, append_assoc→zM, filter_cons→zO, filter_append→zQ, mem_range→zR, ext_getElem?→zS, take_add_one→zT, length_replicate→zU, length_singleton→zV, getElem?_toArray→zW, all_eq_true→zX, mem_append_left→zZ, lookup→z5, mem_of_mem_drop→z6, getElem?_range→z8, mem_filterMap→z9, getElem?_append_right→Aa, count_pos_iff→Ad, pairwise_iff_getElem→Af, nodup_append→Ag, foldl→Ak, range_succ_eq_map→Al, of_mem_zip→Ao
open Bool renaming false_eq_true→yt, and_eq_true→yD, false_ne_true→yT, not_true→za, not_false→zn, true_and→Ai, eq_iff_iff→An
open Int renaming toNat_natCast→yR, emod_lt_of_pos→zJ, emod_nonneg→zP, mul_le_mul_of_nonneg_left→z7
open Array renaming getElem?_toList→yW, length_toList→yZ, getElem_toList→zk, getElem?_eq_none→zI, getElem?_eq_some_iff→Ac
open Option renaming map_some→zD, map_eq_some_iff→zH, bind_some→zY, isSome_iff_exists→Ah
namespace L2
open PySem PySem.Spec PyProof.Rows
abbrev Key:=Sum Int Str
def keyIs:Key->xK->Bool
 | .inl k,v=>xK.isInt k v
 | .inr x,v=>xK.isStrOf x v
def keyH (w:World):Key->Int
 | .inl k=>hashInt k
 | .inr x=>hashStr w x
theorem aA:∀{k:Key} {v:xK},keyIs k v=true->(∃i t,k=Sum.inl i/\v=xK.int i t)\/(∃x t,k=Sum.inr x/\v=xK.str x t)
 | .inl i,v,h=>by
  obtain⟨t,e⟩:=xK.isInt_shape (k:=i) (v:=v) h
  exact .inl ⟨i,t,rfl,e⟩
 | .inr x,v,h=>by
  obtain⟨t,e⟩:=xK.isStrOf_shape (x:=x) (v:=v) h
  exact .inr ⟨x,t,rfl,e⟩
theorem oZ (i:Int)(t:Tok):keyIs (.inl i) (.int i t)=true:=by simp[keyIs,xK.isInt]
theorem o4 (x:Str)(t:Tok):keyIs (.inr x) (.str x t)=true:=by simp[keyIs,xK.isStrOf]
theorem vY (a b:Int):decide ((Sum.inl a:Key)=Sum.inl b)=(a == b):=by
 by_cases e:a=b
 ·subst e; simp
 ·have h:¬ (Sum.inl a:Key)=Sum.inl b:=λ q=>e (Sum.inl.inj q)
  rw[decide_eq_false h]
  exact (beq_eq_false_iff_ne.mpr e).symm
theorem vZ (a b:Str):decide ((Sum.inr a:Key)=Sum.inr b)=decide (a=b):=by
 by_cases e:a=b
 ·subst e; simp
 ·have h:¬ (Sum.inr a:Key)=Sum.inr b:=λ q=>e (Sum.inr.inj q)
  rw[decide_eq_false h,decide_eq_false e]
theorem v0 (a:Int)(b:Str):decide ((Sum.inl a:Key)=Sum.inr b)=false:=decide_eq_false (λ q=>nomatch q)
theorem v4 (a:Str)(b:Int):decide ((Sum.inr a:Key)=Sum.inl b)=false:=decide_eq_false (λ q=>nomatch q)
def aP (prog:yk)(w:World):PySem.KeyKind prog w Key where
 is:=keyIs
 hash:=keyH w
 inj:=λ v a b ha hb=>by
  rcases aA ha with⟨i,t,rfl,rfl⟩ | ⟨x,t,rfl,rfl⟩
  ·rcases aA hb with⟨j,u,rfl,e⟩ | ⟨y,u,rfl,e⟩
   ·injection e with e1 _; rw[e1]
   ·exact nomatch e
  ·rcases aA hb with⟨j,u,rfl,e⟩ | ⟨y,u,rfl,e⟩
   ·exact nomatch e
   ·injection e with e1 _; rw[e1]
 byValue:=λ k v h=>by
  rcases aA h with⟨i,t,rfl,rfl⟩ | ⟨x,t,rfl,rfl⟩ <;> rfl
 pyHash:=λ hv h=>by
  rcases aA hv with⟨i,t,rfl,rfl⟩ | ⟨x,t,rfl,rfl⟩
  ·exact wpAny_pyHash_int h
  ·exact wpAny_pyHash_str h
 eqBool:=λ hu hv h=>by
  rcases aA hu with⟨i,t,rfl,rfl⟩ | ⟨x,t,rfl,rfl⟩
  ·rcases aA hv with⟨j,u,rfl,rfl⟩ | ⟨y,u,rfl,rfl⟩
   ·rw[vY] at h; exact wpAny_eqBool_int h
   ·rw[v0] at h; exact SeqAt.EqAt.int_str i t y u _ _ _ _ h
  ·rcases aA hv with⟨j,u,rfl,rfl⟩ | ⟨y,u,rfl,rfl⟩
   ·rw[v4] at h; exact SeqAt.EqAt.str_int x t j u _ _ _ _ h
   ·rw[vZ] at h; exact wpAny_eqBool_str h
 «strs»:=λ k x t v h=>by
  rcases aA h with⟨i,u,rfl,e⟩ | ⟨y,u,rfl,e⟩
  ·exact nomatch e
  ·injection e with e1 _
   subst e1
   cases v <;> rfl
theorem lP (prog:yk)(w:World)(i:Int)(t:Tok):(aP prog w).is (.inl i) (.int i t)=true:=oZ i t
theorem lQ (prog:yk)(w:World)(x:Str)(t:Tok):(aP prog w).is (.inr x) (.str x t)=true:=o4 x t
inductive V where
 | non | bl (b:Bool) | int (i:Int) | str (x:Str) | byt (b:Array UInt8) | flt (b:UInt64) | ref (a:Addr) | ty (n:String)
 deriving DecidableEq
def RelV:V->xK->Prop
 | .non,u=>u=xK.none
 | .bl b,u=>u=xK.bool b
 | .int i,u=>∃t,u=xK.int i t
 | .str x,u=>∃t,u=xK.str x t
 | .byt b,u=>∃t,u=xK.bytes b t
 | .flt b,u=>∃t,u=xK.float b t
 | .ref a,u=>u=xK.ref a
 | .ty n,u=>u=xK.type n
abbrev Vals:List V->List xK->Prop:=Paired RelV
theorem Vals.length {xs:List V}{us:List xK}(r:Vals xs us):xs.length=us.length:=Paired.length r
theorem Vals.get:∀{xs:List V} {us:List xK} {i:Nat} {x:V},Vals xs us->xs[i]? = some x->∃u,us[i]? = some u/\RelV x u
 | _,_,_,_,.nil,e=>by simp at e
 | _,_,0,_,.cons r _,e=>by simp at e; subst e; exact⟨_,rfl,r⟩
 | _,_,i+1,x,.cons _ t,e=>by
  obtain⟨u,h1,h2⟩:=Vals.get (i:=i) (x:=x) t (by simpa using e)
  exact⟨u,by simpa using h1,h2⟩
theorem Vals.set {x:V}{u:xK}(r:RelV x u):∀{xs:List V} {us:List xK} (i:Nat),Vals xs us->Vals (xs.set i x) (us.set i u)
 | _,_,_,.nil=>.nil
 | _,_,0,.cons _ t=>.cons r t
 | _,_,i+1,.cons q t=>.cons q (Vals.set r i t)
theorem Vals.append:∀{xs ys:List V} {us ws:List xK},Vals xs us->Vals ys ws->Vals (xs++ys) (us++ws)
 | _,_,_,_,.nil,s=>s
 | _,_,_,_,.cons r t,s=>.cons r (Vals.append t s)
theorem Vals.take:∀{xs:List V} {us:List xK} (n:Nat),Vals xs us->Vals (xs.take n) (us.take n)
 | _,_,0,_=>.nil
 | _,_,_+1,.nil=>.nil
 | _,_,n+1,.cons r t=>.cons r (Vals.take n t)
theorem Vals.drop:∀{xs:List V} {us:List xK} (n:Nat),Vals xs us->Vals (xs.drop n) (us.drop n)
 | _,_,0,r=>r
 | _,_,_+1,.nil=>.nil
 | _,_,n+1,.cons _ t=>Vals.drop n t
def RelO:Option V->Option xK->Prop
 | some v,some u=>RelV v u
 | none,none=>True
 | _,_=>False
def KV {κ:Type}:List (κ × V)->List (κ × xK)->Prop:=Paired λ (p:κ × V) (q:κ × xK)=>p.1=q.1/\RelV p.2 q.2
def kV:Key->V
 | .inl i=>.int i
 | .inr x=>.str x
inductive HO where
 | lst (xs:List V)
 | tup (xs:List V)
 | dK (kvs:List (Key × V)) | dT (kvs:List (List Key × V))
 | set (S:Int->Bool) (n:Nat)
 | ins (C dx:Addr) (fs:List (Str × V))
 | own (x:Addr)
 | xd (fs:List (Str × V))
 | met (f x:Addr)
 | rng (lo hi:Int)
 | frz (o:Obj) (u:HO)
 | tbl (ps:Array xK)
 | ext (φ:Heap->Prop)
abbrev Hp:=Addr->Option HO
def upd (H:Hp)(a:Addr)(o:HO):Hp:=λ b=>if b=a then some o else H b
theorem af {H:Hp}{a:Addr}{o:HO}:upd H a o a=some o:=by unfold upd; rw[if_pos rfl]
theorem ag {H:Hp}{a b:Addr}{o:HO}(h:b≠a):upd H a o b=H b:=by unfold upd; rw[if_neg h]
theorem ne_of {H:Hp}{a b:Addr}{o u:HO}(h:H a=some o)(h':H b=some u)(d:o≠u):a≠b:=by
 intro e; subst e; rw[h] at h'; exact d (Option.some.inj h')
theorem aj {H:Hp}{a b:Addr}{o:HO}(h:H a=some o)(h':H b=none):a≠b:=by
 intro e; subst e; rw[h] at h'; cases h'
section
variable (P:yk)(w:World)
def TupN (h:Heap)(a:Addr)(items:Array xK):Prop:=∃o,h.get? a=some o/\o.cls=.type "tuple" /\ ∃n,o.data=.seq items n/\o.dict=none
omit P w in
theorem TupN.tup {h:Heap}{a:Addr}{items:Array xK}(p:TupN h a items):IsTup h a items:=let ⟨o,e,c,n,d,_⟩:=p; ⟨o,e,c,n,d⟩
omit P w in
theorem TupN.new (h:Heap)(items:Array xK):TupN (h.push { cls:=.type "tuple",data:=.seq items }) h.objs.size items:=⟨_,xW _ rfl,rfl,_,rfl,rfl⟩
def ObjOk (H:Hp)(h:Heap)(a:Addr):HO->Prop
 | .lst xs=>xs.length<=xV/\∃(its:List xK) (n:Nat),Vals xs its/\h.get? a=some { cls:=.type "list",data:=.seq its.toArray n }
 | .tup xs=>xs.length<=xV/\∃its:List xK,Vals xs its/\TupN h a its.toArray
 | .dK kvs=>kvs.length<=xV/\(a == sysModules)=false/\∃vs,KV kvs vs/\h.DictOf (aP P w) a vs
 | .dT kvs=>kvs.length<=xV/\(a == sysModules)=false/\∃xs:List (List Key × Addr × xK),
   Paired (λ (p:List Key × V) (q:List Key × Addr × xK)=>p.1=q.1/\H q.2.1=some (.tup (p.1.map kV))/\RelV p.2 q.2.2) kvs xs /\
   ∃o es ep,h.get? a=some o/\o.ExactDict/\o.data=.dict es ep/\es.toList=xs.map (entryOfKey (tupleKind (aP P w)))/\(xs.map (·.1)).Nodup
 | .set S n=>h.SetOf (intKind P w) a S n
 | .ins C dx fs=>H dx=some (.own a)/\fs.length<=1000/\dx≠a/\h.get? a=some (W.instObj C dx) /\
   ∃mA,h.Ns1 dx mA/\(∀f,RelO (fs.lookup f) (mA f))/\PySem.Within mA (fs.map (·.1))
 | .own _=>∃o,h.get? a=some o
 | .xd fs=>∃mA,h.Ns1 a mA/\∀f,RelO (fs.lookup f) (mA f)
 | .rng lo hi=>∃t u v,h.get? a=some { cls:=.type "range",data:=.fields #[.int lo t,.int hi u,.int 1 v] }
 | .frz o u=>h.get? a=some o/\ObjOk H h a u
 | .tbl ps=>h.get? a=some { cls:=.none,data:=.fields ps }
 | .met f x=>h.get? a=some (W.methodObj (.ref f) (.ref x))
 | .ext φ=>φ h/\(∃o,h.get? a=some o)/\∀h1 h2:Heap,φ h1->(∀o,h1.get? a=some o->h2.get? a=some o)->φ h2
def HOk (H:Hp)(h:Heap):Prop:=∀a o,H a=some o->ObjOk P w H h a o
end
section
variable {P:yk}{w:World}{H H':Hp}{h h':Heap}{a:Addr}{o:HO}
theorem ObjOk.lt (x:ObjOk P w H h a o):a<h.objs.size:=by
 cases o with
 | lst xs=>obtain⟨_,_,_,_,e⟩:=x; exact yd e
 | tup xs=>obtain⟨_,_,_,p⟩:=x; exact p.tup.lt
 | dK kvs=>obtain⟨_,_,_,_,o,_,_,e,_⟩:=x; exact yd e
 | dT kvs=>obtain⟨_,_,_,_,o,_,_,e,_⟩:=x; exact yd e
 | set S n=>obtain⟨o,_,_,_,e,_⟩:=x; exact yd e
 | ins C dx fs=>obtain⟨_,_,_,e,_⟩:=x; exact yd e
 | own y=>obtain⟨_,e⟩:=x; exact yd e
 | xd fs=>obtain⟨_,⟨_,_,_,e,_⟩,_⟩:=x; exact yd e
 | rng lo hi=>obtain⟨_,_,_,e⟩:=x; exact yd e
 | frz ob u=>obtain⟨e,_⟩:=x; exact yd e
 | tbl ps=>exact yd (show h.get? a=some _ from x)
 | met f y=>exact yd (show h.get? a=some _ from x)
 | ext φ=>obtain⟨_,⟨_,e⟩,_⟩:=x; exact yd e
theorem Paired.mapP {α β:Type}{F G:α->β->Prop}:∀{l₁:List α} {l₂:List β},Paired F l₁ l₂->(∀a b,F a b->G a b)->Paired G l₁ l₂
 | _,_,.nil,_=>.nil
 | _,_,.cons r t,f=>.cons (f _ _ r) (Paired.mapP t f)
theorem ObjOk.stay (x:ObjOk P w H h a o)(k:∀b u,(b=a\/H b=some (.own a))->h.get? b=some u->h'.get? b=some u)
  (ho:∀b,H b=some (.own a)->H' b=some (.own a)) (ht:∀b xs,H b=some (.tup xs)->H' b=some (.tup xs)):ObjOk P w H' h' a o:=by
 induction o with
 | lst xs=>obtain⟨z,its,n,r,e⟩:=x; exact⟨z,its,n,r,k _ _ (.inl rfl) e⟩
 | tup xs=>obtain⟨z,its,r,ob,e,c⟩:=x; exact⟨z,its,r,ob,k _ _ (.inl rfl) e,c⟩
 | dK kvs=>obtain⟨z,y,vs,r,ob,es,ep,e,c⟩:=x; exact⟨z,y,vs,r,ob,es,ep,k _ _ (.inl rfl) e,c⟩
 | dT kvs =>
  obtain⟨z,y,xs,r,ob,es,ep,e,c⟩:=x
  exact⟨z,y,xs,Paired.mapP r λ p q z=>⟨z.1,ht _ _ z.2.1,z.2.2⟩,ob,es,ep,k _ _ (.inl rfl) e,c⟩
 | set S n=>obtain⟨ob,es,ep,t,e,c⟩:=x; exact⟨ob,es,ep,t,k _ _ (.inl rfl) e,c⟩
 | ins C dx fs =>
  obtain⟨d,z,ne,e,mA,⟨od,es,ep,e2,c⟩,r⟩:=x
  exact⟨ho _ d,z,ne,k _ _ (.inl rfl) e,mA,⟨od,es,ep,k _ _ (.inr d) e2,c⟩,r⟩
 | own y=>obtain⟨ob,e⟩:=x; exact⟨ob,k _ _ (.inl rfl) e⟩
 | xd fs=>obtain⟨mA,⟨od,es,ep,e,c⟩,r⟩:=x; exact⟨mA,⟨od,es,ep,k _ _ (.inl rfl) e,c⟩,r⟩
 | rng lo hi=>obtain⟨t,u,v,e⟩:=x; exact⟨t,u,v,k _ _ (.inl rfl) e⟩
 | frz ob u ih=>obtain⟨e,q⟩:=x; exact⟨k _ _ (.inl rfl) e,ih q⟩
 | tbl ps =>
  have e:h.get? a=some { cls:=.none,data:=.fields ps }:=x
  show h'.get? a=some { cls:=.none,data:=.fields ps }
  exact k a _ (.inl rfl) e
 | met f y =>
  have e:h.get? a=some (W.methodObj (.ref f) (.ref y)):=x
  show h'.get? a=some (W.methodObj (.ref f) (.ref y))
  exact k a _ (.inl rfl) e
 | ext φ=>obtain⟨p,⟨o,e⟩,st⟩:=x; exact⟨st _ _ p λ o q=>k _ _ (.inl rfl) q,⟨o,k _ _ (.inl rfl) e⟩,st⟩
theorem HOk.lt (x:HOk P w H h)(e:H a=some o):a<h.objs.size:=(x a o e).lt
theorem HOk.fresh (x:HOk P w H h)(e:h.objs.size<=a):H a=none:=by
 cases q:H a with
 | none=>rfl
 | some u=>exact absurd (yr (x.lt q) e) (y6 _)
theorem HOk.kept (x:HOk P w H h)(k:∀b u,h.get? b=some u->h'.get? b=some u):HOk P w H h':=λ a o e =>
 (x a o e).stay (λ b u _ q=>k b u q) (λ _ q=>q) λ _ _ q=>q
theorem HOk.laid (x:HOk P w H h)(k:∀b u,h.get? b=some u->h'.get? b=some u)(hp:h.objs.size<=a)(new:ObjOk P w (upd H a o) h' a o):HOk P w (upd H a o) h':=λ b u e=>by
 have hn:=x.fresh hp
 by_cases hb:b=a
 ·subst hb; rw[af] at e; cases e; exact new
 ·rw[ag hb] at e
  exact (x b u e).stay (λ c v _ q=>k c v q) (λ c q=>by rw[ag (aj q hn)]; exact q) λ c xs q=>by rw[ag (aj q hn)]; exact q
end
def Rd (H:Hp)(a:Addr)(u:HO):Prop:=H a=some u\/∃o,H a=some (.frz o u)
theorem Rd.of {H:Hp}{a:Addr}{u:HO}(h:H a=some u):Rd H a u:=.inl h
theorem Rd.ok {P:yk}{w:World}{H:Hp}{h:Heap}{a:Addr}{u:HO}(r:Rd H a u)(x:HOk P w H h):ObjOk P w H h a u:=by
 rcases r with r | ⟨o,r⟩
 ·exact x a u r
 ·obtain⟨_,q⟩:=x a _ r
  exact q
def Mut:Option HO->Prop
 | some (.lst _)=>True
 | some (.dK _)=>True
 | some (.dT _)=>True
 | some (.set _ _)=>True
 | some (.ins _ _ _)=>True
 | some (.ext _)=>True
 | _=>False
section
variable {P:yk}{w:World}{H:Hp}{h h':Heap}{x e:Addr}{o':HO}
theorem HOk.write (ok:HOk P w H h)(mu:Mut (H x))(he:e=x\/H e=some (.own x))(k:∀b u,b≠e->h.get? b=some u->h'.get? b=some u)(heo:∃u,h'.get? e=some u)
  (new:ObjOk P w (upd H x o') h' x o'):HOk P w (upd H x o') h':=λ b u q=>by
 have nown:∀c y,H c=some (.own y)->c≠x:=λ c y r z=>by subst z; rw[r] at mu; exact mu
 have ntup:∀c xs,H c=some (.tup xs)->c≠x:=λ c xs r z=>by subst z; rw[r] at mu; exact mu
 by_cases hb:b=x
 ·subst hb; rw[af] at q; cases q; exact new
 ·rw[ag hb] at q
  by_cases hbe:b=e
  ·have q':H b=some (.own x):=by
    rcases he with z | z
    ·exact absurd (hbe.trans z) hb
    ·rw[hbe]; exact z
   rw[q] at q'; cases q'
   obtain⟨v,hv⟩:=heo
   exact⟨v,by rw[hbe]; exact hv⟩
  ·refine (ok b u q).stay (λ c v hc r=>k c v ?_ r) (λ c r=>by rw[ag (nown c b r)]; exact r) λ c xs r=>by rw[ag (ntup c xs r)]; exact r
   rcases hc with rfl | hc
   ·exact hbe
   ·rintro rfl
    rcases he with z | z
    ·exact nown c b hc z
    ·rw[hc] at z; cases z; exact hb rfl
end
structure Un (fs ex:List Addr) (H H':Hp) (h h':Heap):Prop where
 keep:∀b o,h.get? b=some o->H b=none->b ∉ fs->b ∉ ex->h'.get? b=some o
 slot:∀b o,h.get? b=some o->H b=none->b∈fs->b ∉ ex->∃sl,h'.get? b=some { o with slots:=sl }
 free:∀b o,h.get? b=some o->H b=none->b ∉ ex->H' b=none
 there:∀b o,h.get? b=some o->b ∉ ex->∃o',h'.get? b=some o'
 tups:∀b xs,H b=some (.tup xs)->H' b=some (.tup xs)
 frzs:∀b o u,H b=some (.frz o u)->H' b=some (.frz o u)
 tbls:∀b ps,H b=some (.tbl ps)->∃more,H' b=some (.tbl (ps++more))
section
variable {fs fs' ex ex':List Addr}{H H1 H2:Hp}{h h1 h2 h':Heap}{a x e:Addr}{o:HO}
theorem Un.any (u:Un fs ex H H1 h h1){b:Addr}{ob:Obj}(q:h.get? b=some ob)(n:H b=none)(hx:b ∉ ex):∃sl,h1.get? b=some { ob with slots:=sl }:=by
 by_cases hb:b∈fs
 ·exact u.slot b ob q n hb hx
 ·exact⟨ob.slots,u.keep b ob q n hb hx⟩
theorem Un.trans (a:Un fs ex H H1 h h1)(b:Un fs ex H1 H2 h1 h2):Un fs ex H H2 h h2 where
 keep:=λ c ob q n hc hx=>b.keep c ob (a.keep c ob q n hc hx) (a.free c ob q n hx) hc hx
 slot:=λ c ob q n hc hx=>by
  obtain⟨sl,e1⟩:=a.slot c ob q n hc hx
  obtain⟨sl',e2⟩:=b.slot c _ e1 (a.free c ob q n hx) hc hx
  exact⟨sl',e2⟩
 free:=λ c ob q n hx=>by
  obtain⟨o',e1⟩:=a.there c ob q hx
  exact b.free c o' e1 (a.free c ob q n hx) hx
 there:=λ c ob q hx=>by
  obtain⟨o',e1⟩:=a.there c ob q hx
  exact b.there c o' e1 hx
 tups:=λ c xs q=>b.tups c xs (a.tups c xs q)
 frzs:=λ c ob xs q=>b.frzs c ob xs (a.frzs c ob xs q)
 tbls:=λ c ps q=>by
  obtain⟨m1,e1⟩:=a.tbls c ps q
  obtain⟨m2,e2⟩:=b.tbls c _ e1
  exact⟨m1++m2,by rw[e2,Array.append_assoc]⟩
theorem Un.kept (k:∀b u,h.get? b=some u->h'.get? b=some u):Un fs ex H H h h' :=
 ⟨λ b ob q _ _ _=>k b ob q,λ b ob q _ _ _=>⟨ob.slots,k b ob q⟩,λ _ _ _ n _=>n,λ b ob q _=>⟨ob,k b ob q⟩,λ _ _ q=>q,λ _ _ _ q=>q,λ _ ps q=>⟨#[],by rw[q]; simp⟩⟩
theorem Un.refl:Un fs ex H H h h:=Un.kept λ _ _ q=>q
theorem Un.laid (k:∀b u,h.get? b=some u->h'.get? b=some u)(hp:h.objs.size<=a)(hn:H a=none):Un fs ex H (upd H a o) h h' where
 keep:=λ b u q _ _ _=>k b u q
 slot:=λ b u q _ _ _=>⟨u.slots,k b u q⟩
 free:=λ b u q n _=>by rw[ag (yu (yr (yd q) hp))]; exact n
 there:=λ b u q _=>⟨u,k b u q⟩
 tups:=λ b xs q=>by rw[ag (aj q hn)]; exact q
 frzs:=λ b u xs q=>by rw[ag (aj q hn)]; exact q
 tbls:=λ b ps q=>⟨#[],by rw[ag (aj q hn),q]; simp⟩
theorem Un.write (mu:Mut (H x))(he:e=x\/H e=some (.own x))(k:∀b u,b≠e->h.get? b=some u->h'.get? b=some u)(heo:∃u,h'.get? e=some u):Un fs ex H (upd H x o) h h':=by
 have hx:∀b,H b=none->b≠x:=λ b n z=>by subst z; rw[n] at mu; exact mu
 have hb:∀b,H b=none->b≠e:=λ b n z=>by
  subst z
  rcases he with r | r
  ·exact hx b n r
  ·rw[n] at r; cases r
 have hm:∀b u,H b=some u->¬ Mut (some u)->b≠x:=λ b u q nm z=>by subst z; rw[q] at mu; exact nm mu
 refine⟨λ b u q n _ _=>k b u (hb b n) q,λ b u q n _ _=>⟨u.slots,k b u (hb b n) q⟩,λ b u q n _=>by rw[ag (hx b n)]; exact n,λ b u q _=>?_,
  λ b xs q=>by rw[ag (hm b _ q λ z=>z)]; exact q,λ b u xs q=>by rw[ag (hm b _ q λ z=>z)]; exact q,λ b ps q=>⟨#[],by rw[ag (hm b _ q λ z=>z),q]; simp⟩⟩
 by_cases hbe:b=e
 ·subst hbe; exact heo
 ·exact⟨u,k b u hbe q⟩
theorem Un.mono (u:Un fs ex H H1 h h1)(hs:∀b∈fs,b∈fs')(hx:∀b∈ex,b∈ex'):Un fs' ex' H H1 h h1 :=
 ⟨λ b ob q n hb he=>u.keep b ob q n (λ z=>hb (hs b z)) λ z=>he (hx b z),λ _ _ q n _ he=>u.any q n λ z=>he (hx _ z),λ b ob q n he=>u.free b ob q n λ z=>he (hx b z),λ b ob q he=>u.there b ob q λ z=>he (hx b z),u.tups,u.frzs,u.tbls⟩
end
def trk (h:Heap)(H:Hp):List Addr:=(List.range h.objs.size).filter λ a=>(H a).isSome
def hidT (h:Heap)(H:Hp):Heap:=W.hideAll h (trk h H)
theorem o5 (h:Heap)(H:Hp):(hidT h H).objs.size=h.objs.size:=W.hideAll_size _ _
theorem rQ {h:Heap}{H:Hp}{b:Addr}{o:Obj}(e:h.get? b=some o)(n:H b=none):(hidT h H).get? b=some o :=
 W.hideAll_get _ e λ hm=>by
  have q:(H b).isSome=true:=(yV.mp hm).2
  rw[n] at q; simp at q
theorem uA {h:Heap}{H:Hp}{b:Addr}{o:Obj}(e:(hidT h H).get? b=some o):h.get? b=some o/\H b=none:=by
 have e':h.get? b=some o:=W.of_hideAll (trk h H) e
 refine⟨e',?_⟩
 cases q:H b with
 | none=>rfl
 | some x =>
  have hm:b∈trk h H:=yV.mpr ⟨zR.mpr (yd e'),by simp[q]⟩
  have z:(hidT h H).get? b=none:=W.hideAll_none (trk h H) hm
  rw[z] at e; cases e
def uB (g h:Heap)(L:Addr):List (Addr × Obj):=(List.range h.objs.size).filterMap λ a=>if a=L\/(g.get? a).isSome=true then none else (h.get? a).map λ o=>(a,o)
def rest (g h:Heap)(L d:Addr):List (Addr × Obj):=(uB g h L).filter λ p=>decide (p.1≠d)
structure Mod (K:W.Frag) (mg:Str->Option xK) (base:Heap):Prop where
 kin:K.In base
 glob:base.Ns yp mg
 blt:∃mb,base.Ns builtinsNs mb/\∀x:Str,x ≠ "__name__" -> mb x=bootBuiltins x
 nolimit:base.NoLimit
structure Cx where
 prog:yk
 w:World
 K:W.Frag
 mg:Str->Option xK
 base:Heap
 A:Around
 N:List Str
 s₀:xO
 H₀:Hp
 env:Env
 outer:List Env
 stack:List Env
 ex:List Addr
 fn:Str->Bool
 calm:Bool
 pn:List (Addr × Obj)
 xe:xK->xO->Prop
def frs (l:List Env):List Addr:=l.filterMap (·.frame)
abbrev Cx.fs (X:Cx):List Addr:=frs X.outer
def Vis (sc:Scope)(x:Str):Prop:=sc.names.lookup x=some .local\/sc.names.lookup x=some .cell\/sc.names.lookup x=some .free
def Loc (sc:Scope)(x:Str):Prop:=sc.names.lookup x=some .local\/sc.names.lookup x=some .cell
def Look (env:Env)(h:Heap)(m:Str->Option xK)(x:Str)(u:xK):Prop :=
 (env.kindOf x=some .local/\m x=some u)\/((env.kindOf x=some .cell\/env.kindOf x=some .free)/\∃c,env.cells.lookup x=some c/\h.IsCell c (some u))
structure Cx.Ok (X:Cx):Prop where
 mod:Mod X.K X.mg X.base
 kind:X.env.scope.kind=.function
 glob:X.env.globals=yp
 blt:X.env.builtins=builtinsNs
 above:X.s₀.heap.objs.size<=X.env.locals
 inj:∀x y c,X.env.cells.lookup x=some c->X.env.cells.lookup y=some c->x=y
 has:∀x,(X.env.kindOf x=some .cell\/X.env.kindOf x=some .free)->∃c,X.env.cells.lookup x=some c
 cab:∀x c,X.fn x=true->X.env.cells.lookup x=some c->X.s₀.heap.objs.size<=c
 hd:X.calm=true->X.A.handled=none
 frames:X.A.frames=some X.stack
 stk:X.stack=X.outer\/(X.stack=X.env::X.outer/\X.env.frame=some X.env.locals)
 exf:∀b∈X.ex,b≠X.env.locals/\∀x c,X.env.cells.lookup x=some c->c≠b
 bs:∀b o,X.base.get? b=some o->X.s₀.heap.get? b=some o/\X.H₀ b=none
 bsz:X.base.objs.size<=X.s₀.heap.objs.size
 noex:∀b o,X.base.get? b=some o->b ∉ X.ex
 exfs:∀b∈X.ex,b ∉ X.fs
 funs:X.s₀.heap.FunFrames X.base X.outer
 frf:∀b∈X.fs,X.H₀ b=none
structure Inv (X:Cx) (pins:List (Addr × Obj)) (σ:List (Option V)) (H:Hp) (s:xO):Prop where
 ok:X.Ok
 os:s.os=X.s₀.os
 bare:AllBare s.gens
 base:Un X.fs X.ex X.H₀ H X.s₀.heap s.heap
 loc:∃m,s.heap.Ns X.env.locals m/\∀(i:Nat) (x:Str) (v:V),X.N[i]? = some x->σ[i]? = some (some v)->Vis X.env.scope x->∃u,RelV v u/\Look X.env s.heap m x u
 cell:∀x c,X.env.cells.lookup x=some c->∃v,s.heap.IsCell c v
 free:H X.env.locals=none
 freeC:∀x c,X.env.cells.lookup x=some c->H c=none
 pin:∀p∈X.pn++pins,s.heap.get? p.1=some p.2/\H p.1=none/\p.1≠X.env.locals/\p.1 ∉ X.fs/\∀v,p.2.data≠.cell v
 hok:HOk X.prog X.w H s.heap
 len:σ.length=X.N.length
section
variable {X:Cx}{pins:List (Addr × Obj)}{σ:List (Option V)}{H H':Hp}{s:xO}{h':Heap}
theorem Cx.Ok.nofr (ok:X.Ok){b:Addr}{o:Obj}(e:X.base.get? b=some o):b ∉ X.fs:=λ hb=>by
 have:=(ok.funs.mem hb).1
 rw[e] at this; cases this
theorem Inv.bs (I:Inv X pins σ H s):∀b o,X.base.get? b=some o->s.heap.get? b=some o/\H b=none:=λ b o e =>
 ⟨I.base.keep b o (I.ok.bs b o e).1 (I.ok.bs b o e).2 (I.ok.nofr e) (I.ok.noex b o e),I.base.free b o (I.ok.bs b o e).1 (I.ok.bs b o e).2 (I.ok.noex b o e)⟩
theorem Inv.bk (I:Inv X pins σ H s):∀b o,X.base.get? b=some o->s.heap.get? b=some o:=λ b o e=>(I.bs b o e).1
theorem Inv.mod (I:Inv X pins σ H s):Mod X.K X.mg X.base:=I.ok.mod
theorem Inv.kIn (I:Inv X pins σ H s):X.K.In s.heap:=I.ok.mod.kin.keeps I.bk
theorem Inv.nolimit (I:Inv X pins σ H s):s.heap.NoLimit:=I.ok.mod.nolimit.keeps I.bk
theorem Inv.lt (I:Inv X pins σ H s):X.env.locals<s.heap.objs.size:=let ⟨_,hn,_⟩:=I.loc; hn.lt
theorem Inv.sz (I:Inv X pins σ H s):X.s₀.heap.objs.size<=s.heap.objs.size:=yv I.ok.above (Nat.le_of_lt I.lt)
theorem Inv.nofs (I:Inv X pins σ H s){a:Addr}(h:s.heap.objs.size<=a):a ∉ X.fs:=λ hb=>by
 obtain⟨_,o,ho,_⟩:=I.ok.funs.mem hb
 exact absurd (yr (yd ho) (yv I.sz h)) (y6 _)
theorem Inv.cne (I:Inv X pins σ H s):∀x c,X.env.cells.lookup x=some c->c≠X.env.locals:=λ x c e z=>by
 obtain⟨v,o,ho,hd⟩:=I.cell x c e
 obtain⟨m,⟨o',es,ep,ho',hd',_⟩,_⟩:=I.loc
 rw[z,ho'] at ho; cases ho; rw[hd'] at hd; cases hd
theorem Inv.funs (I:Inv X pins σ H s):s.heap.FunFrames X.base X.outer:=by
 have all:∀(l:List Env),(∀b∈frs l,b∈X.fs)->X.s₀.heap.FunFrames X.base l->s.heap.FunFrames X.base l:=by
  intro l
  induction l with
  | nil=>intro _ _; trivial
  | cons env r ih =>
   intro hs hl
   obtain⟨hk,⟨L,o,hf,hn,ho,hd⟩,hr⟩:=hl
   have hL:L∈X.fs:=hs L (by unfold frs; rw[zc,hf]; exact ya)
   obtain⟨sl,e⟩:=I.base.slot L o ho (I.ok.frf L hL) hL λ z=>I.ok.exfs L z hL
   exact⟨hk,⟨L,_,hf,hn,e,hd⟩,ih (λ b hb=>hs b (by unfold frs; rw[zc,hf]; exact xT _ hb)) hr⟩
 exact all X.outer (λ _ hb=>hb) I.ok.funs
theorem Inv.stack (I:Inv X pins σ H s):s.heap.FunFrames X.base X.stack:=by
 rcases I.ok.stk with e | ⟨e,hf⟩
 ·rw[e]; exact I.funs
 ·rw[e]
  obtain⟨m,hn,_⟩:=I.loc
  refine .cons (by rw[I.ok.kind]; decide) hf hn ?_ I.funs
  exact Heap.get?_none_of_le (yv I.ok.bsz I.ok.above)
theorem Inv.stkSub (I:Inv X pins σ H s):∀b∈frs X.stack,b∈X.env.locals::X.fs:=λ b hb=>by
 rcases I.ok.stk with e | ⟨e,hf⟩
 ·rw[e] at hb; exact xT _ hb
 ·rw[e] at hb
  unfold frs at hb
  rw[zc,hf] at hb
  exact hb
theorem Inv.stkFree (I:Inv X pins σ H s):∀b∈frs X.stack,H b=none:=λ b hb=>by
 rcases xR.mp (I.stkSub b hb) with e | hb
 ·rw[e]; exact I.free
 ·obtain⟨_,o,ho,_⟩:=I.ok.funs.mem hb
  exact I.base.free b o ho (I.ok.frf b hb) λ z=>I.ok.exfs b z hb
theorem Inv.step {g':Array GenState}{t':Nat}{d':Drawn}{ch:List Addr}(I:Inv X pins σ H s)
  (hch:∀b∈ch,(b∈X.ex\/X.s₀.heap.objs.size<=b)/\b≠X.env.locals/\(∀x c,X.env.cells.lookup x=some c->c≠b)/\∀p∈X.pn++pins,p.1≠b)
  (keep:∀b o,b≠X.env.locals->b ∉ X.fs->b ∉ ch->s.heap.get? b=some o->H b=none->h'.get? b=some o)
  (slot:∀b o,b≠X.env.locals->b∈X.fs->b ∉ ch->s.heap.get? b=some o->H b=none->∃sl,h'.get? b=some { o with slots:=sl }) (free:∀b o,b ∉ ch->s.heap.get? b=some o->H b=none->H' b=none)
  (there:∀b o,b ∉ ch->s.heap.get? b=some o->∃o',h'.get? b=some o')
  (tups:∀b xs,H b=some (.tup xs)->H' b=some (.tup xs)) (frzs:∀b o u,H b=some (.frz o u)->H' b=some (.frz o u)) (tbls:∀b ps,H b=some (.tbl ps)->∃more,H' b=some (.tbl (ps++more)))
  (ns:∀m,s.heap.Ns X.env.locals m->h'.Ns X.env.locals m) (hok:HOk X.prog X.w H' h') (hg:AllBare g') :
  Inv X pins σ H' { s with heap:=h',gens:=g',drawn:=d',toks:=t' }:=by
 have neL:∀b o,X.s₀.heap.get? b=some o->b≠X.env.locals:=λ b o e=>yu (yr (yd e) I.ok.above)
 have neC:∀b o,X.s₀.heap.get? b=some o->b ∉ X.ex->b ∉ ch:=λ b o e hx hb=>by
  rcases (hch b hb).1 with z | z
  ·exact hx z
  ·exact absurd (yr (yd e) z) (y6 _)
 have cellK:∀x c,X.env.cells.lookup x=some c->∀v,s.heap.IsCell c v->h'.IsCell c v:=λ x c e v ⟨o,ho,hd⟩=>by
  have nch:c ∉ ch:=λ z=>(hch c z).2.2.1 x c e rfl
  by_cases hc:c∈X.fs
  ·obtain⟨sl,q⟩:=slot c o (I.cne x c e) hc nch ho (I.freeC x c e)
   exact⟨_,q,hd⟩
  ·exact⟨o,keep c o (I.cne x c e) hc nch ho (I.freeC x c e),hd⟩
 refine⟨I.ok,I.os,hg,⟨λ b o e n hb hx=>?_,λ b o e n hb hx=>?_,λ b o e n hx=>?_,λ b o e hx=>?_,λ b xs e=>tups b xs (I.base.tups b xs e),λ b o xs e=>frzs b o xs (I.base.frzs b o xs e),λ b ps e=>?_⟩,?_,λ x c e=>?_,?_,λ x c e=>?_,λ p hp=>?_,hok,I.len⟩
 ·exact keep b o (neL b o e) hb (neC b o e hx) (I.base.keep b o e n hb hx) (I.base.free b o e n hx)
 ·obtain⟨sl,e1⟩:=I.base.slot b o e n hb hx
  obtain⟨sl',e2⟩:=slot b _ (neL b o e) hb (neC b o e hx) e1 (I.base.free b o e n hx)
  exact⟨sl',e2⟩
 ·obtain⟨o',e1⟩:=I.base.there b o e hx
  exact free b o' (neC b o e hx) e1 (I.base.free b o e n hx)
 ·obtain⟨o',e1⟩:=I.base.there b o e hx
  exact there b o' (neC b o e hx) e1
 ·obtain⟨m1,e1⟩:=I.base.tbls b ps e
  obtain⟨m2,e2⟩:=tbls b _ e1
  exact⟨m1++m2,by rw[e2,Array.append_assoc]⟩
 ·obtain⟨m,hn,hl⟩:=I.loc
  refine⟨m,ns m hn,λ i x v e1 e2 e3=>?_⟩
  obtain⟨u,r,l⟩:=hl i x v e1 e2 e3
  refine⟨u,r,?_⟩
  rcases l with l | ⟨k,c,e,z⟩
  ·exact .inl l
  ·exact .inr ⟨k,c,e,cellK x c e _ z⟩
 ·obtain⟨v,z⟩:=I.cell x c e
  exact⟨v,cellK x c e v z⟩
 ·obtain⟨m,⟨o,_,_,ho,_⟩,_⟩:=I.loc
  exact free _ o (λ z=>(hch _ z).2.1 rfl) ho I.free
 ·obtain⟨v,o,ho,hd⟩:=I.cell x c e
  exact free c o (λ z=>(hch c z).2.2.1 x c e rfl) ho (I.freeC x c e)
 ·obtain⟨e,n,ne,nf,d⟩:=I.pin p hp
  have nch:p.1 ∉ ch:=λ z=>(hch p.1 z).2.2.2 p hp rfl
  exact⟨keep p.1 p.2 ne nf nch e n,free p.1 p.2 nch e n,ne,nf,d⟩
theorem Inv.un {t':Nat}(I:Inv X pins σ H s)(u:Un X.fs [] H H' s.heap h')(hok:HOk X.prog X.w H' h'):Inv X pins σ H' { s with heap:=h',toks:=t' }:=by
 obtain⟨m,⟨o,es,ep,ho,r⟩,_⟩:=id I.loc
 obtain⟨sl,hL⟩:=u.any ho I.free (by simp)
 exact I.step (g':=s.gens) (d':=s.drawn) (ch:=[]) (λ _ z=>nomatch z) (λ b o _ hb _ e n=>u.keep b o e n hb (by simp)) (λ b o _ hb _ e n=>u.slot b o e n hb (by simp)) (λ b o _ e n=>u.free b o e n (by simp)) (λ b o _ e=>u.there b o e (by simp)) u.tups u.frzs u.tbls (λ m' hm=>by
  obtain⟨o',es',ep',ho',r'⟩:=hm
  rw[ho] at ho'; cases ho'
  exact⟨_,es',ep',hL,r'⟩) hok I.bare
theorem Inv.call {g':Array GenState}{t':Nat}{d':Drawn}{ch:List Addr}(I:Inv X pins σ H s)(u:Un (frs X.stack) ch H H' s.heap h')(hok:HOk X.prog X.w H' h')(hg:AllBare g')
  (hch:∀b∈ch,(b∈X.ex\/X.s₀.heap.objs.size<=b)/\b≠X.env.locals/\(∀x c,X.env.cells.lookup x=some c->c≠b)/\∀p∈X.pn++pins,p.1≠b) :
  Inv X pins σ H' { s with heap:=h',gens:=g',drawn:=d',toks:=t' }:=by
 obtain⟨m,⟨o,es,ep,ho,r⟩,_⟩:=id I.loc
 obtain⟨sl,hL⟩:=u.any ho I.free λ z=>(hch _ z).2.1 rfl
 exact I.step (ch:=ch) hch (λ b o hL hb hc e n=>u.keep b o e n (λ z=>(xR.mp (I.stkSub b z)).elim hL hb) hc) (λ b o _ _ hc e n=>u.any e n hc) (λ b o hc e n=>u.free b o e n hc) (λ b o hc e=>u.there b o e hc) u.tups u.frzs u.tbls (λ m' hm=>by
  obtain⟨o',es',ep',ho',r'⟩:=hm
  rw[ho] at ho'; cases ho'
  exact⟨_,es',ep',hL,r'⟩) hok hg
theorem Inv.turned {t':Nat}{it:Addr}(I:Inv X pins σ H s)(k:∀b o,b≠it->s.heap.get? b=some o->h'.get? b=some o)(hn:H it=none)(hL:it≠X.env.locals)
  (h1:it∈X.ex\/X.s₀.heap.objs.size<=it) (h2:∀x c,X.env.cells.lookup x=some c->c≠it) (h3:∀p∈X.pn++pins,p.1≠it):Inv X pins σ H { s with heap:=h',toks:=t' }:=by
 have nit:∀b u,H b=some u->b≠it:=λ b u e z=>by rw[z,hn] at e; cases e
 refine I.step (g':=s.gens) (d':=s.drawn) (ch:=[it]) (λ b hb=>?_) (λ b o _ _ hc e _=>k b o (λ z=>hc (by simp[z])) e) (λ b o _ _ hc e _=>⟨o.slots,k b o (λ z=>hc (by simp[z])) e⟩) (λ _ _ _ _ n=>n)
  (λ b o hc e=>⟨o,k b o (λ z=>hc (by simp[z])) e⟩) (λ _ _ e=>e) (λ _ _ _ e=>e) (λ b ps e=>⟨#[],by rw[e]; simp⟩) (λ m hm=>?_) (λ b u e=>?_) I.bare
 ·have e:b=it:=by simpa using hb
  subst e
  exact⟨h1,hL,h2,h3⟩
 ·obtain⟨o,es,ep,ho,r⟩:=hm
  exact⟨o,es,ep,k _ o (Ne.symm hL) ho,r⟩
 ·refine (I.hok b u e).stay (λ c v hc q=>k c v ?_ q) (λ _ q=>q) λ _ _ q=>q
  rcases hc with z | z
  ·rw[z]; exact nit b u e
  ·exact nit c _ z
theorem Inv.tok (I:Inv X pins σ H s)(t:Nat):Inv X pins σ H { s with toks:=t }:=I.un (h':=s.heap) (t':=t) Un.refl I.hok
theorem Inv.kept {t':Nat}(I:Inv X pins σ H s)(k:∀b u,s.heap.get? b=some u->h'.get? b=some u):Inv X pins σ H { s with heap:=h',toks:=t' }:=I.un (Un.kept k) (I.hok.kept k)
theorem Inv.laid {a:Addr}{o:HO}{t':Nat}(I:Inv X pins σ H s)(k:∀b u,s.heap.get? b=some u->h'.get? b=some u)(hp:s.heap.objs.size<=a)(new:ObjOk X.prog X.w (upd H a o) h' a o) :
  Inv X pins σ (upd H a o) { s with heap:=h',toks:=t' }:=I.un (Un.laid k hp (I.hok.fresh hp)) (I.hok.laid k hp new)
theorem Inv.write {x e:Addr}{o:HO}{t':Nat}(I:Inv X pins σ H s)(mu:Mut (H x))(he:e=x\/H e=some (.own x))(k:∀b u,b≠e->s.heap.get? b=some u->h'.get? b=some u)(heo:∃u,h'.get? e=some u)
  (new:ObjOk X.prog X.w (upd H x o) h' x o):Inv X pins σ (upd H x o) { s with heap:=h',toks:=t' }:=I.un (Un.write mu he k heo) (I.hok.write mu he k heo new)
theorem Inv.pins_of {pins':List (Addr × Obj)}(I:Inv X pins σ H s)(h:∀p∈pins',s.heap.get? p.1=some p.2/\H p.1=none/\p.1≠X.env.locals/\p.1 ∉ X.fs/\∀v,p.2.data≠.cell v):Inv X pins' σ H s :=
 ⟨I.ok,I.os,I.bare,I.base,I.loc,I.cell,I.free,I.freeC,λ p hp=>(yQ.mp hp).elim (λ z=>I.pin p (zZ _ z)) (h p),I.hok,I.len⟩
theorem js {N:List Str}(hN:N.Nodup){i j:Nat}{x:Str}(a:N[i]? = some x)(b:N[j]? = some x):i=j:=by
 obtain⟨h1,e1⟩:=ym.mp a
 obtain⟨h2,e2⟩:=ym.mp b
 exact (List.getElem_inj hN).mp (e1.trans e2.symm)
theorem o6 {M:Model}{A:Around}{E:xK->xO->Prop}{i:Nat}{x:Str}{v:V}{u:xK}{Q:Unit->xO->Prop}(I:Inv X pins σ H s)(hN:X.N.Nodup)(hi:X.N[i]? = some x)(hx:Loc X.env.scope x)(r:RelV v u)
  (h:∀s',Inv X pins (σ.set i (some v)) H s'->(∃a,Heap.SameBut a s.heap s'.heap/\(a=X.env.locals\/X.env.cells.lookup x=some a))->Q () s') (hf:X.fn x=true\/X.env.scope.names.lookup x=some .local:=by first | exact .inl rfl | exact .inr rfl | assumption):yb M A (storeName X.env x u) Q E s:=by
 obtain⟨m,hn,hl⟩:=id I.loc
 have hcls:(X.env.scope.kind == .class || (X.env.scope.kind == .module && X.env.locals != X.env.globals))=false:=by rw[I.ok.kind]; rfl
 have hiσ:i<σ.length:=by rw[I.len]; exact (ym.mp hi).1
 have cne:=I.cne
 have tracked:∀{a:Addr} {h':Heap},(∃o,s.heap.get? a=some o/\H a=none)->Heap.SameBut a s.heap h'->HOk X.prog X.w H h':=λ {a h'} ha hs b ob e=>by
  obtain⟨_,_,hfree⟩:=ha
  refine (I.hok b ob e).stay (λ c w' hc q=>(hs.2 c ?_).trans q) (λ _ q=>q) λ _ _ q=>q
  rintro rfl
  rcases hc with rfl | hc
  ·rw[hfree] at e; cases e
  ·rw[hfree] at hc; cases hc
 rcases hx with hk | hk
 ·refine wpAny_storeName_local hk hn (λ h' hn' hs=>?_) hcls
  obtain⟨oL,_,_,hoL,_⟩:=id hn
  refine h _ ⟨I.ok,I.os,I.bare,⟨λ b o e n hb hx=>?_,λ b o e n hb hx=>?_,I.base.free,λ b o e hx=>?_,I.base.tups,I.base.frzs,I.base.tbls⟩,⟨_,hn',λ j y v' e1 e2 e3=>?_⟩,λ y c e=>?_,I.free,I.freeC,λ p hp=>?_,tracked ⟨oL,hoL,I.free⟩ hs,by simpa using I.len⟩ ⟨_,hs,.inl rfl⟩
  ·exact (hs.2 b (yu (yr (yd e) I.ok.above))).trans (I.base.keep b o e n hb hx)
  ·obtain⟨sl,e1⟩:=I.base.slot b o e n hb hx
   exact⟨sl,(hs.2 b (yu (yr (yd e) I.ok.above))).trans e1⟩
  ·obtain⟨o',e1⟩:=I.base.there b o e hx
   exact⟨o',(hs.2 b (yu (yr (yd e) I.ok.above))).trans e1⟩
  ·by_cases hj:j=i
   ·subst hj
    rw[hi] at e1; cases e1
    rw[zx hiσ] at e2
    cases e2
    exact⟨u,r,.inl ⟨hk,by simp⟩⟩
   ·rw[yq (Ne.symm hj)] at e2
    obtain⟨u',r',q⟩:=hl j y v' e1 e2 e3
    refine⟨u',r',?_⟩
    rcases q with⟨k,e⟩ | ⟨k,c,e,z⟩
    ·refine .inl ⟨k,?_⟩
     have:y≠x:=λ e=>hj (js hN e1 (e ▸ hi))
     simp[this,e]
    ·exact .inr ⟨k,c,e,z.sameBut hs (cne y c e)⟩
  ·obtain⟨w',z⟩:=I.cell y c e
   exact⟨w',z.sameBut hs (cne y c e)⟩
  ·obtain⟨e,n,ne,nf,d⟩:=I.pin p hp
   exact⟨(hs.2 p.1 ne).trans e,n,ne,nf,d⟩
 ·have hfn:X.fn x=true:=by
   rcases hf with z | z
   ·exact z
   ·rw[z] at hk; cases hk
  obtain⟨c,hc⟩:=I.ok.has x (.inl hk)
  obtain⟨w',z⟩:=I.cell x c hc
  refine wpAny_storeName_cell I.ok.kind hk hc z (λ h' hc' hs=>?_)
  obtain⟨oc,hoc,hocd⟩:=id z
  refine h { s with heap:=h' } ⟨I.ok,I.os,I.bare,⟨λ b o e n hb hx=>?_,λ b o e n hb hx=>?_,I.base.free,λ b o e hx=>?_,I.base.tups,I.base.frzs,I.base.tbls⟩,⟨m,hn.sameBut hs (Ne.symm (cne x c hc)),λ j y v' e1 e2 e3=>?_⟩,λ y c' e=>?_,I.free,I.freeC,λ p hp=>?_,tracked ⟨oc,hoc,I.freeC x c hc⟩ hs,by simpa using I.len⟩ ⟨c,hs,.inr hc⟩
  ·exact (hs.2 b (yu (yr (yd e) (I.ok.cab x c hfn hc)))).trans (I.base.keep b o e n hb hx)
  ·obtain⟨sl,e1⟩:=I.base.slot b o e n hb hx
   exact⟨sl,(hs.2 b (yu (yr (yd e) (I.ok.cab x c hfn hc)))).trans e1⟩
  ·obtain⟨o',e1⟩:=I.base.there b o e hx
   exact⟨o',(hs.2 b (yu (yr (yd e) (I.ok.cab x c hfn hc)))).trans e1⟩
  ·by_cases hj:j=i
   ·subst hj
    rw[hi] at e1; cases e1
    rw[zx hiσ] at e2
    cases e2
    exact⟨u,r,.inr ⟨.inl hk,c,hc,hc'⟩⟩
   ·rw[yq (Ne.symm hj)] at e2
    obtain⟨u',r',q⟩:=hl j y v' e1 e2 e3
    refine⟨u',r',?_⟩
    rcases q with q | ⟨k,c',e,z'⟩
    ·exact .inl q
    ·refine .inr ⟨k,c',e,z'.sameBut hs ?_⟩
     rintro rfl
     exact hj (js hN e1 (I.ok.inj _ _ _ e hc ▸ hi))
  ·by_cases hcc:c'=c
   ·subst hcc; exact⟨_,hc'⟩
   ·obtain⟨w2,z2⟩:=I.cell y c' e
    exact⟨w2,z2.sameBut hs hcc⟩
  ·obtain⟨e,n,ne,nf,d⟩:=I.pin p hp
   refine⟨(hs.2 p.1 ?_).trans e,n,ne,nf,d⟩
   intro q
   rw[q,hoc] at e
   have q':oc=p.2:=Option.some.inj e
   exact d w' (by rw[<- q']; exact hocd)
theorem gw {M:Model}{A:Around}{E:xK->xO->Prop}{i:Nat}{x:Str}{v:V}{u:xK}{Q:Unit->xO->Prop}(I:Inv X pins σ H s)(hN:X.N.Nodup)(hi:X.N[i]? = some x)(hx:Loc X.env.scope x)(r:RelV v u)
  (h:∀s',Inv X pins (σ.set i (some v)) H s'->Q () s') (hf:X.fn x=true\/X.env.scope.names.lookup x=some .local:=by first | exact .inl rfl | exact .inr rfl | assumption):yb M A (storeName X.env x u) Q E s :=
 o6 I hN hi hx r (λ s' I' _=>h s' I') hf
theorem Inv.call' {s':xO}{ch:List Addr}(I:Inv X pins σ H s)(ho:s'.os=s.os)(u:Un (frs X.stack) ch H H' s.heap s'.heap)(hok:HOk X.prog X.w H' s'.heap)(hg:AllBare s'.gens)
  (hch:∀b∈ch,(b∈X.ex\/X.s₀.heap.objs.size<=b)/\b≠X.env.locals/\(∀x c,X.env.cells.lookup x=some c->c≠b)/\∀p∈X.pn++pins,p.1≠b):Inv X pins σ H' s':=by
 obtain⟨h',g',d',t',o'⟩:=s'
 have e:o'=s.os:=ho
 subst e
 exact I.call (g':=g') (t':=t') (d':=d') u hok hg hch
end
abbrev XK:=xK->Option Addr->Hp->Prop
abbrev St:=List (Option V)
abbrev VK:=V->Hp->Prop
abbrev TE:=St->Hp->VK->Prop
abbrev TT:=St->Hp->(Bool->Hp->Prop)->Prop
abbrev TA:=St->Hp->(List V->Hp->Prop)->Prop
structure Ends where
 nx:St->Hp->Prop
 rt:VK
 bk:St->Hp->Prop:=λ _ _=>False
 ct:St->Hp->Prop:=λ _ _=>False
abbrev TS:=Ends->St->Hp->Prop
def EP (X:Cx)(pins:List (Addr × Obj))(σ:St)(Q:VK)(u:xK)(s':xO):Prop:=∃v H',Inv X pins σ H' s'/\RelV v u/\Q v H'
def TP (X:Cx)(pins:List (Addr × Obj))(σ:St)(Q:Bool->Hp->Prop)(b:Bool)(s':xO):Prop:=∃H',Inv X pins σ H' s'/\Q b H'
def AP (X:Cx)(pins:List (Addr × Obj))(σ:St)(Q:List V->Hp->Prop)(us:List xK)(s':xO):Prop:=∃vs H',Inv X pins σ H' s'/\Vals vs us/\Q vs H'
def SP (X:Cx)(pins:List (Addr × Obj))(D:Ends)(f:Flow)(s':xO):Prop :=
 match f with
 | .next=>∃σ' H',Inv X pins σ' H' s'/\D.nx σ' H'
 | .brk=>∃σ' H',Inv X pins σ' H' s'/\D.bk σ' H'
 | .cont=>∃σ' H',Inv X pins σ' H' s'/\D.ct σ' H'
 | .ret u=>∃v σ' H',Inv X pins σ' H' s'/\RelV v u/\D.rt v H'
def PE (X:Cx)(e:Expr)(t:TE):Prop :=
 ∀(pins:List (Addr × Obj)) (s:xO) (σ:St) (H:Hp) (Q:VK),Inv X pins σ H s->t σ H Q->yb (model X.prog X.w) X.A (eval e X.env) (EP X pins σ Q) X.xe s
def PT (X:Cx)(e:Expr)(t:TT):Prop :=
 ∀(pins:List (Addr × Obj)) (s:xO) (σ:St) (H:Hp) (Q:Bool->Hp->Prop),Inv X pins σ H s->t σ H Q->yb (model X.prog X.w) X.A (isTrue e X.env (eval e X.env)) (TP X pins σ Q) X.xe s
def PW (X:Cx)(e:Expr)(t:TT):Prop :=
 ∀(whole:Sem xK) (pins:List (Addr × Obj)) (s:xO) (σ:St) (H:Hp) (Q:Bool->Hp->Prop),Inv X pins σ H s->t σ H Q->yb (model X.prog X.w) X.A (isTrue e X.env whole) (TP X pins σ Q) X.xe s
theorem PW.pt {X:Cx}{e:Expr}{t:TT}(h:PW X e t):PT X e t:=h _
def PA (X:Cx)(es:List Expr)(t:TA):Prop :=
 ∀(pos:Pos) (pins:List (Addr × Obj)) (s:xO) (σ:St) (H:Hp) (Q:List V->Hp->Prop),Inv X pins σ H s->t σ H Q->yb (model X.prog X.w) X.A (spliced (backTo pos (starEach es X.env))) (AP X pins σ Q) X.xe s
def PS (X:Cx)(st:Stmt)(t:TS):Prop :=
 ∀(pins:List (Addr × Obj)) (s:xO) (σ:St) (H:Hp) (D:Ends),Inv X pins σ H s->t D σ H->yb (model X.prog X.w) X.A (exec st X.env) (SP X pins D) X.xe s
def PSs (X:Cx)(st:List Stmt)(t:TS):Prop :=
 ∀(pins:List (Addr × Obj)) (s:xO) (σ:St) (H:Hp) (D:Ends),Inv X pins σ H s->t D σ H->yb (model X.prog X.w) X.A (execs st X.env) (SP X pins D) X.xe s
theorem thn {α:Type}{t:Sem α}{Q Q':α->xO->Prop}{M:Model}{A:Around}{E:xK->xO->Prop}{s:xO}(h:yb M A t Q E s)(hQ:∀a s,Q a s->Q' a s):yb M A t Q' E s:=y8 h hQ λ _ _ x=>x
section
variable {X:Cx}
def tVar (i:Nat):TE:=λ σ H Q=>∃v,σ[i]? = some (some v)/\Q v H
def tC (v:V):TE:=λ _ H Q=>Q v H
theorem tG {i:Nat}{x:Str}{pos:Pos}(hN:X.N[i]? = some x)(hv:Vis X.env.scope x)(hd:(x == ("__debug__" : Str))=false:=by decide)(hcd:(x == ("__classdict__" : Str))=false:=by decide):PE X (.Name x pos) (tVar i):=by
 intro pins s σ H Q I h
 obtain⟨v,e,h⟩:=h
 obtain⟨m,hn,hl⟩:=I.loc
 obtain⟨u,r,l⟩:=hl i x v hN e hv
 have fin:EP X pins σ Q u s:=⟨v,H,I,r,h⟩
 rcases l with⟨hk,hm⟩ | ⟨hk,c,hc,hcell⟩
 ·exact wpAny_Name (wpAny_loadName_local I.ok.kind hk hn hm fin) hd
 ·rcases hk with hk | hk
  ·exact wpAny_Name (wpAny_loadName_cell I.ok.kind hk hc hcell fin) hd
  ·exact wpAny_Name (wpAny_loadName_free I.ok.kind hk hc hcell fin hcd) hd
theorem tH {i j pos}:PE X (.Constant (.int i) j pos) (tC (.int i)):=λ _ _ _ H _ I h=>wpAny_Constant_int ⟨.int i,H,I.tok _,⟨_,rfl⟩,h⟩
theorem pe_bl {b j pos}:PE X (.Constant (.bool b) j pos) (tC (.bl b)):=λ _ _ _ H _ I h=>Constant_bool ⟨.bl b,H,I,rfl,h⟩
theorem v5 {j pos}:PE X (.Constant .none j pos) (tC .non):=λ _ _ _ H _ I h=>Constant_none ⟨.non,H,I,rfl,h⟩
theorem v6 {x j pos}:PE X (.Constant (.str x) j pos) (tC (.str x)):=λ _ _ _ H _ I h=>Calls.Constant_str ⟨.str x,H,I.tok _,⟨_,rfl⟩,h⟩
def Gl (X:Cx)(x:Str):Prop:=X.env.kindOf x=some .globalImplicit
theorem fo {E:xK->xO->Prop}{pins:List (Addr × Obj)}{s:xO}{σ:St}{H:Hp}{x:Str}{u:xK}{pos:Pos}{Q:xK->xO->Prop}(I:Inv X pins σ H s)(hg:Gl X x)(hm:X.mg x=some u)(h:Q u s)
  (hd:(x == ("__debug__" : Str))=false:=by decide):yb (model X.prog X.w) X.A (eval (.Name x pos) X.env) Q E s :=
 Calls.Name_function_global I.ok.kind hg (Calls.loadGlobal_global (by rw[I.ok.glob]; exact I.mod.glob.keeps I.bk) hm h) hd
theorem ke {E:xK->xO->Prop}{pins:List (Addr × Obj)}{s:xO}{σ:St}{H:Hp}{x:Str}{u:xK}{pos:Pos}{Q:xK->xO->Prop}(I:Inv X pins σ H s)(hg:Gl X x)(hm:X.mg x=none)(hv:bootBuiltins x=some u)(h:Q u s)
  (hn:x ≠ "__name__" := by decide) (hd:(x == ("__debug__" : Str))=false:=by decide):yb (model X.prog X.w) X.A (eval (.Name x pos) X.env) Q E s:=by
 obtain⟨mb,h1,h2⟩:=I.mod.blt
 exact Calls.Name_function_global I.ok.kind hg (Calls.loadGlobal_builtin (by rw[I.ok.glob]; exact I.mod.glob.keeps I.bk) hm (by rw[I.ok.blt]; exact h1.keeps I.bk) ((h2 x hn).trans hv) h) hd
theorem uD {x:Str}{v:V}{u:xK}{pos:Pos}(hg:Gl X x)(hm:X.mg x=some u)(r:RelV v u)(hd:(x == ("__debug__" : Str))=false:=by decide):PE X (.Name x pos) (tC v) :=
 λ _ _ _ H _ I h=>fo I hg hm ⟨v,H,I,r,h⟩ hd
theorem uE {x:Str}{v:V}{u:xK}{pos:Pos}(hg:Gl X x)(hm:X.mg x=none)(hv:bootBuiltins x=some u)(r:RelV v u)(hn:x ≠ "__name__" := by decide)(hd:(x == ("__debug__" : Str))=false:=by decide):PE X (.Name x pos) (tC v) :=
 λ _ _ _ H _ I h=>ke I hg hm hv ⟨v,H,I,r,h⟩ hn hd
variable {a b:Expr}{ta tb:TE}{pos:Pos}
def tB (t:TE):TT:=λ σ H Q=>t σ H λ x H1=>∃c,x=.bl c/\Q c H1
theorem v7 {e:Expr}{t:TE}(h:PE X e t)(he:∀whole,isTrue e X.env whole=(do let v <- whole; standAt e.pos; holding [v] (truthy v)):=by intro _; rfl):PT X e (tB t):=by
 intro pins s σ H Q I hw
 refine isTrue_plain (thn (h pins s σ H _ I hw) λ v s1 ⟨x,H1,I1,r1,q1⟩=>?_) (he _)
 obtain⟨d,rfl,q⟩:=q1
 cases r1
 exact wpAny_truthy_bool ⟨H1,I1,q⟩
variable {tA tB':TT}{rest:List Expr}
def tAnd (t u:TT):TT:=λ σ H Q=>t σ H λ c H1=>if c=true then u σ H1 Q else Q false H1
def tOr (t u:TT):TT:=λ σ H Q=>t σ H λ c H1=>if c=true then Q true H1 else u σ H1 Q
def tNot (t:TT):TT:=λ σ H Q=>t σ H λ c H1=>Q (!c) H1
theorem uF (ha:PT X a tA):PW X (.BoolOp .And [a] pos) tA:=by
 intro wh pins s σ H Q I h
 refine isTrue_and (thn (ha pins s σ H Q I h) λ c s1 e=>?_)
 cases c with
 | true=>exact isTrue_and_nil e
 | false=>exact e
theorem v8 (ha:PT X a tA):PW X (.BoolOp .Or [a] pos) tA:=by
 intro wh pins s σ H Q I h
 refine isTrue_or (thn (ha pins s σ H Q I h) λ c s1 e=>?_)
 cases c with
 | false=>exact isTrue_or_nil e
 | true=>exact e
theorem v9 (ha:PT X a tA)(hb:PW X (.BoolOp .And (b::rest) pos) tB'):PW X (.BoolOp .And (a::b::rest) pos) (tAnd tA tB'):=by
 intro wh pins s σ H Q I h
 refine isTrue_and (thn (ha pins s σ H _ I h) λ c s1 ⟨H1,I1,q1⟩=>?_)
 cases c with
 | true=>exact hb wh pins s1 σ H1 Q I1 q1
 | false=>exact⟨H1,I1,q1⟩
theorem pw_or (ha:PT X a tA)(hb:PW X (.BoolOp .Or (b::rest) pos) tB'):PW X (.BoolOp .Or (a::b::rest) pos) (tOr tA tB'):=by
 intro wh pins s σ H Q I h
 refine isTrue_or (thn (ha pins s σ H _ I h) λ c s1 ⟨H1,I1,q1⟩=>?_)
 cases c with
 | true=>exact⟨H1,I1,q1⟩
 | false=>exact hb wh pins s1 σ H1 Q I1 q1
theorem wa (ha:PT X a tA):PT X (.UnaryOp .Not a pos) (tNot tA):=by
 intro pins s σ H Q I h
 exact isTrue_not (ha pins s σ H (λ c H1=>Q (!c) H1) I h)
def tAndV (ta tb:TE):TE:=λ σ H Q=>ta σ H λ x H1=>∃c,x=.bl c/\if c=true then tb σ H1 Q else Q (.bl false) H1
def tOrV (ta tb:TE):TE:=λ σ H Q=>ta σ H λ x H1=>∃c,x=.bl c/\if c=true then Q (.bl true) H1 else tb σ H1 Q
def tNotV (ta:TE):TE:=λ σ H Q=>ta σ H λ x H1=>∃c,x=.bl c/\Q (.bl (!c)) H1
theorem wb {op}{t:TE}(h:PE X a t):PE X (.BoolOp op [a] pos) t:=λ pins s σ H Q I hw=>BoolOp_one (h pins s σ H Q I hw)
theorem wc (ha:PE X a ta)(hb:PE X (.BoolOp .And (b::rest) pos) tb):PE X (.BoolOp .And (a::b::rest) pos) (tAndV ta tb):=by
 intro pins s σ H Q I h
 refine BoolOp_and (thn (ha pins s σ H _ I h) λ v s1 ⟨x,H1,I1,r1,q1⟩=>?_)
 obtain⟨c,rfl,q1⟩:=q1
 cases r1
 refine wpAny_truthy_bool ?_
 cases c with
 | true=>exact hb pins s1 σ H1 Q I1 q1
 | false=>exact⟨.bl false,H1,I1,rfl,q1⟩
theorem pe_or (ha:PE X a ta)(hb:PE X (.BoolOp .Or (b::rest) pos) tb):PE X (.BoolOp .Or (a::b::rest) pos) (tOrV ta tb):=by
 intro pins s σ H Q I h
 refine BoolOp_or (thn (ha pins s σ H _ I h) λ v s1 ⟨x,H1,I1,r1,q1⟩=>?_)
 obtain⟨c,rfl,q1⟩:=q1
 cases r1
 refine wpAny_truthy_bool ?_
 cases c with
 | false=>exact hb pins s1 σ H1 Q I1 q1
 | true=>exact⟨.bl true,H1,I1,rfl,q1⟩
theorem wd (ha:PE X a ta):PE X (.UnaryOp .Not a pos) (tNotV ta):=by
 intro pins s σ H Q I h
 refine UnaryOp_ (thn (ha pins s σ H _ I h) λ v s1 ⟨x,H1,I1,r1,q1⟩=>?_)
 obtain⟨c,rfl,q1⟩:=q1
 cases r1
 exact not_of (wpAny_truthy_bool ⟨.bl (!c),H1,I1,rfl,q1⟩)
def tIf (t:TT)(ta tb:TE):TE:=λ σ H Q=>t σ H λ c H1=>if c=true then ta σ H1 Q else tb σ H1 Q
theorem rR {c:Expr}(hc:PT X c tA)(ha:PE X a ta)(hb:PE X b tb):PE X (.IfExp c a b pos) (tIf tA ta tb):=by
 intro pins s σ H Q I h
 refine wpAny_IfExp (thn (hc pins s σ H _ I h) λ d s1 ⟨H1,I1,q1⟩=>?_)
 cases d with
 | true=>exact ha pins s1 σ H1 Q I1 q1
 | false=>exact hb pins s1 σ H1 Q I1 q1
end
def SqL (K:W.Frag)(H:Hp)(a:Addr)(xs:List V):Prop :=
 Rd H a (.lst xs) \/
  ∃(o:Obj) (its:Array xK) (n:Nat),K.lookup a=some o/\o.cls=.type "list" /\ o.dict=none/\o.data=.seq its n/\its.size<=xV/\Vals xs its.toList
def SqT (K:W.Frag)(H:Hp)(a:Addr)(xs:List V):Prop :=
 Rd H a (.tup xs) \/
  ∃(o:Obj) (its:Array xK) (n:Nat),K.lookup a=some o/\o.cls=.type "tuple" /\ o.data=.seq its n/\its.size<=xV/\Vals xs its.toList
def absV:xK->Option V
 | .none=>some .non
 | .bool b=>some (.bl b)
 | .int i _=>some (.int i)
 | .str x _=>some (.str x)
 | .bytes b _=>some (.byt b)
 | .float b _=>some (.flt b)
 | .ref a=>some (.ref a)
 | .type n=>some (.ty n)
 | _=>none
theorem RelV.abs {x:V}{u:xK}(r:RelV x u):absV u=some x:=by
 cases x with
 | non=>cases r; rfl
 | bl _=>cases r; rfl
 | int _=>obtain⟨t,rfl⟩:=r; rfl
 | str _=>obtain⟨t,rfl⟩:=r; rfl
 | byt _=>obtain⟨t,rfl⟩:=r; rfl
 | flt _=>obtain⟨t,rfl⟩:=r; rfl
 | ref _=>cases r; rfl
 | ty _=>cases r; rfl
theorem RelV.inj {x y:V}{u:xK}(r:RelV x u)(q:RelV y u):x=y:=Option.some.inj (r.abs.symm.trans q.abs)
theorem Vals.inj:∀{xs ys:List V} {us:List xK},Vals xs us->Vals ys us->xs=ys
 | _,_,_,.nil,.nil=>rfl
 | _,_,_,.cons r t,.cons r' t'=>by rw[r.inj r',Vals.inj t t']
section
variable {X:Cx}{pins:List (Addr × Obj)}{σ:St}{H:Hp}{s:xO}{a:Addr}{xs ys:List V}
theorem SqL.of {K:W.Frag}(h:H a=some (.lst xs)):SqL K H a xs:=.inl (.inl h)
theorem SqT.of {K:W.Frag}(h:H a=some (.tup xs)):SqT K H a xs:=.inl (.inl h)
theorem Inv.list (I:Inv X pins σ H s)(h:SqL X.K H a xs):∃its:List xK,Vals xs its/\PlainL s.heap a its.toArray/\xs.length<=xV:=by
 rcases h with h | ⟨o,its,n,hk,hc,hd,hs,hz,r⟩
 ·obtain⟨z,its,n,r,e⟩:=h.ok I.hok
  exact⟨its,r,⟨_,n,e,rfl,rfl,rfl⟩,z⟩
 ·refine⟨its.toList,r,⟨o,n,I.kIn a o hk,hc,hd,by simpa using hs⟩,?_⟩
  have e:=r.length
  simp only[yZ] at e
  omega
theorem Inv.tuple (I:Inv X pins σ H s)(h:SqT X.K H a xs):∃its:List xK,Vals xs its/\IsTup s.heap a its.toArray/\xs.length<=xV:=by
 rcases h with h | ⟨o,its,n,hk,hc,hs,hz,r⟩
 ·obtain⟨z,its,r,p⟩:=h.ok I.hok
  exact⟨its,r,p.tup,z⟩
 ·refine⟨its.toList,r,⟨o,I.kIn a o hk,hc,n,by simpa using hs⟩,?_⟩
  have e:=r.length
  simp only[yZ] at e
  omega
theorem Inv.list_inj (I:Inv X pins σ H s)(h:SqL X.K H a xs)(h':SqL X.K H a ys):xs=ys:=by
 obtain⟨its,r,⟨o,n,e,_,_,d⟩,_⟩:=I.list h
 obtain⟨its',r',⟨o',n',e',_,_,d'⟩,_⟩:=I.list h'
 rw[e] at e'; cases e'
 rw[d] at d'
 injection d' with d1 _
 have:its=its':=by simpa using congrArg Array.toList d1
 subst this
 exact r.inj r'
theorem Inv.tuple_inj (I:Inv X pins σ H s)(h:SqT X.K H a xs)(h':SqT X.K H a ys):xs=ys:=by
 obtain⟨its,r,⟨o,e,_,n,d⟩,_⟩:=I.tuple h
 obtain⟨its',r',⟨o',e',_,n',d'⟩,_⟩:=I.tuple h'
 rw[e] at e'; cases e'
 rw[d] at d'
 injection d' with d1 _
 have:its=its':=by simpa using congrArg Array.toList d1
 subst this
 exact r.inj r'
end
abbrev Cx.wish (X:Cx)(E:xK->xO->Prop):Cx:={ X with xe:=E }
abbrev Cx.nox (X:Cx):Cx:=X.wish λ _ _=>False
theorem Cx.Ok.wish {X:Cx}(ok:X.Ok)(E:xK->xO->Prop):(X.wish E).Ok :=
 ⟨ok.mod,ok.kind,ok.glob,ok.blt,ok.above,ok.inj,ok.has,ok.cab,ok.hd,ok.frames,ok.stk,ok.exf,ok.bs,ok.bsz,ok.noex,ok.exfs,ok.funs,ok.frf⟩
theorem Cx.Ok.unwish {X:Cx}{E:xK->xO->Prop}(ok:(X.wish E).Ok):X.Ok :=
 ⟨ok.mod,ok.kind,ok.glob,ok.blt,ok.above,ok.inj,ok.has,ok.cab,ok.hd,ok.frames,ok.stk,ok.exf,ok.bs,ok.bsz,ok.noex,ok.exfs,ok.funs,ok.frf⟩
section
variable {X:Cx}{pins:List (Addr × Obj)}{σ:St}{H:Hp}{s:xO}{E:xK->xO->Prop}
theorem Inv.wish (I:Inv X pins σ H s)(E:xK->xO->Prop):Inv (X.wish E) pins σ H s:=⟨I.ok.wish E,I.os,I.bare,I.base,I.loc,I.cell,I.free,I.freeC,I.pin,I.hok,I.len⟩
theorem Inv.unwish (I:Inv (X.wish E) pins σ H s):Inv X pins σ H s:=⟨I.ok.unwish,I.os,I.bare,I.base,I.loc,I.cell,I.free,I.freeC,I.pin,I.hok,I.len⟩
theorem SP.unwish {D:Ends}{f:Flow}{s':xO}(h:SP (X.wish E) pins D f s'):SP X pins D f s':=by
 cases f with
 | next=>obtain⟨σ',H',I,q⟩:=h; exact⟨σ',H',I.unwish,q⟩
 | brk=>obtain⟨σ',H',I,q⟩:=h; exact⟨σ',H',I.unwish,q⟩
 | cont=>obtain⟨σ',H',I,q⟩:=h; exact⟨σ',H',I.unwish,q⟩
 | ret u=>obtain⟨v,σ',H',I,r,q⟩:=h; exact⟨v,σ',H',I.unwish,r,q⟩
theorem PSs.nox {st:List Stmt}{t:TS}(h:PSs X.nox st t):PSs X st t:=λ pins s σ H D I hw =>
 y8 (h pins s σ H D (I.wish _) hw) (λ _ _ q=>q.unwish) λ _ _ z=>False.elim z
end
section
variable {X:Cx}{st:Stmt}{rest:List Stmt}{t u:TS}{e:Expr}{te:TE}{pos:Pos}
def tNext:TS:=λ D σ H=>D.nx σ H
def tSeq (t u:TS):TS:=λ D σ H=>t { D with nx:=u D } σ H
theorem uG:PSs X [] tNext:=λ _ _ σ H _ I h=>wpAny_execs_nil ⟨σ,H,I,h⟩
theorem rS (h1:PS X st t)(h2:PSs X rest u):PSs X (st::rest) (tSeq t u):=by
 intro pins s σ H D I h
 refine wpAny_execs_cons (thn (h1 pins s σ H { D with nx:=u D } I h) λ f s1 q=>?_)
 cases f with
 | next =>
  obtain⟨σ',H',I',q⟩:=q
  exact h2 pins s1 σ' H' D I' q
 | ret v=>exact q
 | brk=>exact q
 | cont=>exact q
theorem uH (h1:PS X st t):PSs X [st] t:=by
 intro pins s σ H D I h
 refine wpAny_execs_cons (thn (h1 pins s σ H D I h) λ f s1 q=>?_)
 cases f with
 | next=>exact wpAny_execs_nil q
 | ret v=>exact q
 | brk=>exact q
 | cont=>exact q
theorem Inv.quiet {pins:List (Addr × Obj)}{σ:St}{H:Hp}{s:xO}(I:Inv X pins σ H s):interactive X.env=false:=by simp[interactive,I.ok.kind]
def tDrop (te:TE):TS:=λ D σ H=>te σ H λ _ H1=>D.nx σ H1
theorem uI (he:PE X e te)(hs:swapsWith e none pos.line X.env=pure false:=by rfl):PS X (.Expr e pos) (tDrop te):=by
 intro pins s σ H D I h
 exact wpAny_Expr_any (thn (he pins s σ H _ I h) λ v s1 ⟨x,H1,I1,r1,q1⟩=>⟨σ,H1,I1,q1⟩) I.quiet hs
def tRet (te:TE):TS:=λ D σ H=>te σ H D.rt
theorem we (he:PE X e te):PS X (.Return (some e) pos) (tRet te):=by
 intro pins s σ H D I h
 exact wpAny_Return_some (thn (he pins s σ H _ I h) λ v s1 ⟨x,H1,I1,r1,q1⟩=>⟨x,σ,H1,I1,r1,q1⟩)
def tIfS (c:TT)(t u:TS):TS:=λ D σ H=>c σ H λ b H1=>if b=true then t D σ H1 else u D σ H1
theorem ps_if {c:Expr}{a b:List Stmt}{tc:TT}(hc:PT X c tc)(ha:PSs X a t)(hb:PSs X b u):PS X (.If c a b pos) (tIfS tc t u):=by
 intro pins s σ H D I h
 refine wpAny_If (thn (hc pins s σ H _ I h) λ d s1 ⟨H1,I1,q1⟩=>?_)
 cases d with
 | true=>exact ha pins s1 σ H1 D I1 q1
 | false=>exact hb pins s1 σ H1 D I1 q1
end
abbrev TG:=V->St->Hp->(St->Hp->Prop)->Prop
abbrev TGs:=List V->St->Hp->(St->Hp->Prop)->Prop
def PG (X:Cx)(target:Expr)(t:TG):Prop :=
 ∀(pins:List (Addr × Obj)) (s:xO) (σ:St) (H:Hp) (v:V) (u:xK) (Q:St->Hp->Prop),Inv X pins σ H s->RelV v u->t v σ H Q ->
  yb (model X.prog X.w) X.A (assign target X.env u) (λ _ s'=>∃σ' H',Inv X pins σ' H' s'/\Q σ' H') X.xe s
def PGs (X:Cx)(ts:List Expr)(t:TGs):Prop :=
 ∀(pins:List (Addr × Obj)) (s:xO) (σ:St) (H:Hp) (vs:List V) (us:List xK) (Q:St->Hp->Prop),Inv X pins σ H s->Vals vs us->t vs σ H Q ->
  yb (model X.prog X.w) X.A (assignInOrder ((assignEach ts X.env).map (·.2)) us) (λ _ s'=>∃σ' H',Inv X pins σ' H' s'/\Q σ' H') X.xe s
abbrev TSet:=V->V->V->Hp->(Hp->Prop)->Prop
def PSet (X:Cx)(t:TSet):Prop :=
 ∀(pins:List (Addr × Obj)) (s:xO) (σ:St) (H:Hp) (o i v:V) (ov iv u:xK) (Q:Hp->Prop),Inv X pins σ H s->RelV o ov->RelV i iv->RelV v u->t o i v H Q ->
  yb (model X.prog X.w) X.A (setItem ov iv u) (λ _ s'=>∃H',Inv X pins σ H' s'/\Q H') X.xe s
abbrev TIp:=V->V->Hp->VK->Prop
def PIp (X:Cx)(op:Operator)(t:TIp):Prop :=
 ∀(pins:List (Addr × Obj)) (s:xO) (σ:St) (H:Hp) (x y:V) (v u:xK) (Q:VK),Inv X pins σ H s->RelV x v->RelV y u->t x y H Q ->
  yb (model X.prog X.w) X.A (inplaceOp op v u) (EP X pins σ Q) X.xe s
section
variable {X:Cx}{pos:Pos}
def gName (i:Nat):TG:=λ v σ H Q=>Q (σ.set i (some v)) H
theorem uJ {i:Nat}{x:Str}(hN:X.N.Nodup)(hi:X.N[i]? = some x)(hx:Loc X.env.scope x)(hf:X.fn x=true\/X.env.scope.names.lookup x=some .local:=by first | exact .inl rfl | exact .inr rfl | assumption):PG X (.Name x pos) (gName i):=by
 intro pins s σ H v u Q I r h
 exact wpAny_assign_Name (gw I hN hi hx r (λ s' I'=>⟨_,H,I',h⟩) hf)
def gNil:TGs:=λ vs σ H Q=>vs=[]/\Q σ H
def gCons (t:TG)(u:TGs):TGs:=λ vs σ H Q=>∃v r,vs=v::r/\t v σ H λ σ' H'=>u r σ' H' Q
theorem uK:PGs X [] gNil:=by
 intro pins s σ H vs us Q I r h
 obtain⟨e,h⟩:=h
 subst e
 cases r
 exact assignInOrder_nil ⟨σ,H,I,h⟩
theorem rT {e:Expr}{es:List Expr}{t:TG}{u:TGs}(h1:PG X e t)(h2:PGs X es u)
  (hs:(assignEach (e::es) X.env).map (·.2)=assign e X.env::(assignEach es X.env).map (·.2):=by rfl):PGs X (e::es) (gCons t u):=by
 intro pins s σ H vs us Q I r h
 obtain⟨v,vr,e1,h⟩:=h
 subst e1
 cases r with
 | cons r rr =>
  rw[hs]
  refine assignInOrder_cons (thn (h1 pins s σ H _ _ _ I r h) λ _ s1 ⟨σ1,H1,I1,q1⟩=>?_)
  exact h2 pins s1 σ1 H1 _ _ Q I1 rr q1
def gTup (K:W.Frag)(n:Nat)(t:TGs):TG:=λ v σ H Q=>∃a xs,v=.ref a/\SqT K H a xs/\xs.length=n/\t xs σ H Q
theorem wf {es:List Expr}{k:Nat}{t:TGs}{n:Nat}(hc:X.calm=true)(h:PGs X es t)
  (hn:(assignEach es X.env).length=n:=by rfl) (hst:(assignEach es X.env).findIdx? (·.1)=none:=by rfl):PG X (.Tuple es k pos) (gTup X.K n t):=by
 intro pins s σ H v u Q I r hw
 obtain⟨a,xs,e1,hq,hl,hw⟩:=hw
 subst e1
 cases r
 obtain⟨its,rv,ht,hz⟩:=I.tuple hq
 refine assign_Tuple_tuple (I.ok.hd hc) ht (by simp[hn,<- hl,rv.length]) hst λ h' hx=>?_
 have I1:Inv X pins σ H { s with heap:=h' }:=I.kept (t':=s.toks) λ b o e=>hx b o (yu (yd e)) e
 exact h pins _ σ H xs _ Q I1 (by simpa using rv) hw
def gSub (to ti:TE)(t:TSet):TG:=λ v σ H Q=>to σ H λ o H1=>ti σ H1 λ i H2=>t o i v H2 λ H3=>Q σ H3
theorem wg {o i:Expr}{to ti:TE}{t:TSet}(ho:PE X o to)(hi:PE X i ti)(hs:PSet X t)
  (ha:∀v,assign (.Subscript o i pos) X.env v=(do
   let ov <- holding [v] (eval o X.env)
   let iv <- holding [v,ov] (eval i X.env)
   standAt pos
   holding [v,ov,iv] (setItem ov iv v)
   release [v,ov,iv] []):=by intro _; rfl):PG X (.Subscript o i pos) (gSub to ti t):=by
 intro pins s σ H v u Q I r h
 rw[ha]
 refine xI (wpAny_holding (thn (ho pins s σ H _ I h) λ ov s1 ⟨x,H1,I1,r1,q1⟩=>?_))
 refine xI (wpAny_holding (thn (hi pins s1 σ H1 _ I1 q1) λ iv s2 ⟨y,H2,I2,r2,q2⟩=>?_))
 refine xI (wpAny_standAt (xI (wpAny_holding (thn (hs pins s2 σ H2 x y v ov iv u _ I2 r1 r2 r q2) λ _ s3 ⟨H3,I3,q3⟩=>?_))))
 exact wpAny_release ⟨σ,H3,I3,q3⟩
def tAsg (te:TE)(g:TG):TS:=λ D σ H=>te σ H λ x H1=>g x σ H1 D.nx
theorem wj {tg e:Expr}{te:TE}{g:TG}(he:PE X e te)(hg:PG X tg g)(hs:swapsWithSole [tg] e pos.line X.env=pure false:=by rfl)(hw:swappedStores [tg] e X.env=pure none:=by rfl)
  (h1:(assignEach [tg] X.env).map (·.2)=[assign tg X.env]:=by rfl):PS X (.Assign [tg] e pos) (tAsg te g):=by
 intro pins s σ H D I h
 refine wpAny_Assign_stores (thn (he pins s σ H _ I h) λ v s1 ⟨x,H1,I1,r1,q1⟩=>?_) hs hw
 rw[h1]
 exact thn (hg pins s1 σ H1 x v _ I1 r1 q1) λ _ s2 q=>q
theorem wk {i:Nat}{x:Str}{e:Expr}{te:TE}{pos':Pos}(hN:X.N.Nodup)(hi:X.N[i]? = some x)(hx:Loc X.env.scope x)(he:PE X e te)(hs:swapsWith e (some (.Name x pos')) pos.line X.env=pure false:=by rfl)(hf:X.fn x=true\/X.env.scope.names.lookup x=some .local:=by first | exact .inl rfl | exact .inr rfl | assumption) :
  PS X (.Assign [.Name x pos'] e pos) (tAsg te (gName i)):=by
 intro pins s σ H D I h
 refine wpAny_Assign_Name (thn (he pins s σ H _ I h) λ v s1 ⟨y,H1,I1,r1,q1⟩=>?_) hs
 exact gw I1 hN hi hx r1 (λ s2 I2=>⟨_,H1,I2,q1⟩) hf
def tAugS (to ti te:TE)(tget:V->V->Hp->VK->Prop)(tip:TIp)(tset:TSet):TS:=λ D σ H=>to σ H λ o H1=>ti σ H1 λ i H2=>tget o i H2 λ x H3=>te σ H3 λ y H4=>tip x y H4 λ z H5=>tset o i z H5 λ H6=>D.nx σ H6
def PGet (X:Cx)(t:V->V->Hp->VK->Prop):Prop :=
 ∀(pins:List (Addr × Obj)) (s:xO) (σ:St) (H:Hp) (o i:V) (ov iv:xK) (Q:VK),Inv X pins σ H s->RelV o ov->RelV i iv->t o i H Q ->
  yb (model X.prog X.w) X.A (getItem ov iv) (EP X pins σ Q) X.xe s
theorem uM {o i e:Expr}{to ti te:TE}{tget:V->V->Hp->VK->Prop}{tip:TIp}{tset:TSet}{op:Operator}{tpos:Pos}(ho:PE X o to)(hi:PE X i ti)(hg:PGet X tget)(he:PE X e te)(hp:PIp X op tip)(hs:PSet X tset)
  (ha:∀ov iv new,augStore i ov iv new=(do holding [new,ov,iv] (setItem ov iv new); release [new,ov,iv] []; pure .next):=by intros; rfl):PS X (.AugAssign (.Subscript o i tpos) op e pos) (tAugS to ti te tget tip tset):=by
 intro pins s σ H D I h
 refine wpAny_AugAssign_SubscriptAny (thn (ho pins s σ H _ I h) λ ov s1 ⟨x1,H1,I1,r1,q1⟩=>?_) ha
 refine thn (hi pins s1 σ H1 _ I1 q1) λ iv s2 ⟨x2,H2,I2,r2,q2⟩=>?_
 refine thn (hg pins s2 σ H2 x1 x2 ov iv _ I2 r1 r2 q2) λ old s3 ⟨x3,H3,I3,r3,q3⟩=>?_
 refine thn (he pins s3 σ H3 _ I3 q3) λ v s4 ⟨x4,H4,I4,r4,q4⟩=>?_
 refine thn (hp pins s4 σ H4 x3 x4 old v _ I4 r3 r4 q4) λ new s5 ⟨x5,H5,I5,r5,q5⟩=>?_
 exact thn (hs pins s5 σ H5 x1 x2 x5 ov iv new _ I5 r1 r2 r5 q5) λ _ s6 ⟨H6,I6,q6⟩=>⟨σ,H6,I6,q6⟩
def ipI (f:Int->Int->Int):TIp:=λ x y H Q=>∃i j,x=.int i/\y=.int j/\Q (.int (f i j)) H
theorem wm:PIp X .Add (ipI λ i j=>i+j):=by
 intro pins s σ H x y v u Q I r1 r2 h
 obtain⟨i,j,e1,e2,q⟩:=h
 subst e1; subst e2
 obtain⟨t,rfl⟩:=r1
 obtain⟨t',rfl⟩:=r2
 exact iadd_int ⟨.int _,H,I.tok _,⟨_,rfl⟩,q⟩
end
structure It where
 go:Nat->Hp->Prop
 yld:Nat->Hp->V->Hp->Prop
 stop:Nat->Hp->Prop
def FpOk (X:Cx)(pins:List (Addr × Obj))(H:Hp)(b:Addr):Prop :=
 H b=none/\b≠X.env.locals/\b ∉ X.fs/\(b∈X.ex\/X.s₀.heap.objs.size<=b)/\(∀x c,X.env.cells.lookup x=some c->c≠b)/\∀p∈X.pn++pins,p.1≠b
theorem Inv.fpOk {X:Cx}{pins:List (Addr × Obj)}{σ:St}{H H':Hp}{s:xO}{b:Addr}(I:Inv X pins σ H s)(hb:s.heap.objs.size<=b)(hn:H' b=none):FpOk X pins H' b:=by
 refine⟨hn,ze (yr I.lt hb),I.nofs hb,.inr (yv I.sz hb),λ x c e z=>?_,λ p hp z=>?_⟩
 ·obtain⟨v,q⟩:=I.cell x c e
  exact absurd (yr q.lt (by rw[z]; exact hb)) (y6 _)
 ·exact absurd (yr (yd (I.pin p hp).1) (by rw[z]; exact hb)) (y6 _)
structure Turn (P:yk) (w:World) (K:W.Frag) (tg:Expr) (J:It) (fp:List Addr) (it:Addr) (tn:Nat->Heap->Prop):Prop where
 mem:it∈fp
 obj:∀i h,tn i h->∀b∈fp,∃o,h.get? b=some o/\∀v,o.data≠.cell v
 keep:∀i h h',tn i h->(∀b∈fp,∀o,h.get? b=some o->h'.get? b=some o)->tn i h'
 item:∀(X:Cx),X.prog=P->X.w=w->X.K=K->X.calm=true->∀(i:Nat) (pins:List (Addr × Obj)) (s:xO) (σ:St) (H:Hp) (E:xK->xO->Prop),Inv X pins σ H s->(∀b∈fp,FpOk X pins H b)->tn i s.heap->J.go i H ->
  yb (model P w) X.A (pyNext (.ref it)) (λ r s1=>∃u,r=some u /\
   yb (model P w) X.A (letOwnedTupleGo tg (.ref it) u) (λ _ s2=>∃x H',Inv X pins σ H' s2/\RelV x u/\J.yld i H x H'/\tn (i+1) s2.heap/\∀b∈fp,H' b=none) E s1) E s
 done:∀(X:Cx),X.prog=P->X.w=w->X.K=K->X.calm=true->∀(i:Nat) (pins:List (Addr × Obj)) (s:xO) (σ:St) (H:Hp) (E:xK->xO->Prop),Inv X pins σ H s->(∀b∈fp,FpOk X pins H b)->tn i s.heap->J.stop i H ->
  yb (model P w) X.A (pyNext (.ref it)) (λ r s1=>r=none/\Inv X pins σ H s1) E s
 self:∀(A:Around) (i:Nat) (s:xO) (Q:xK->xO->Prop) (E:xK->xO->Prop),tn i s.heap->Q (.ref it) s->yb (model P w) A (pyIter (.ref it)) Q E s
abbrev TI:=St->Hp->(It->Hp->Prop)->Prop
def PIE (X:Cx)(pins:List (Addr × Obj))(σ:St)(tg:Expr)(R:It->Hp->Prop)(itv:xK)(s2:xO):Prop :=
 ∃(it:Addr) (fp:List Addr) (tn:Nat->Heap->Prop) (J:It) (H':Hp),itv=.ref it/\Inv X pins σ H' s2/\Turn X.prog X.w X.K tg J fp it tn/\tn 0 s2.heap/\(∀b∈fp,FpOk X pins H' b)/\R J H'
def PI (X:Cx)(tg iter:Expr)(wi:TI):Prop :=
 ∀(pins:List (Addr × Obj)) (s:xO) (σ:St) (H:Hp) (R:It->Hp->Prop),Inv X pins σ H s->wi σ H R ->
  yb (model X.prog X.w) X.A (eval iter X.env) (λ v s1=>yb (model X.prog X.w) X.A (pyIter v) (PIE X pins σ tg R) X.xe s1) X.xe s
theorem go_of {M:Model}{A:Around}{E:xK->xO->Prop}{s:xO}{tg:Expr}{it:Addr}{u:xK}{o:Obj}{n:String}{vs:Array xK}{Q:Unit->xO->Prop}(ho:s.heap.get? it=some o)(hc:o.cls=.type n)(hd:o.data=.fields vs)
  (hn:["enumerate", "zip", "dict_itemiterator", "dict_reverseitemiterator", "odict_iterator", "itertools.zip_longest", "itertools.pairwise"].contains n=false) (hQ:Q () s):yb M A (letOwnedTupleGo tg (.ref it) u) Q E s:=by
 unfold letOwnedTupleGo
 cases tg <;> first
  | exact xN hQ
  | (cases u <;> first
    | exact xN hQ
    | (refine xI (wpAny_load ho ?_); rw[hc,hd]; show yb M A (if (["enumerate", "zip", "dict_itemiterator", "dict_reverseitemiterator", "odict_iterator", "itertools.zip_longest", "itertools.pairwise"].contains n && vs[0]? == some (rawInt _))=true then _ else _) Q E s; rw[if_neg (by intro h; rw[hn,Bool.false_and] at h; cases h)]; exact xN hQ))
def Itl (K:W.Frag)(a:Addr):It :=
 ⟨λ i H=>∃xs x,SqL K H a xs/\xs[i]? = some x,λ i H x H'=>H'=H/\∀xs,SqL K H a xs->xs[i]? = some x,λ i H=>∃xs,SqL K H a xs/\xs.length<=i⟩
def Itt (K:W.Frag)(a:Addr):It :=
 ⟨λ i H=>∃xs x,SqT K H a xs/\xs[i]? = some x,λ i H x H'=>H'=H/\∀xs,SqT K H a xs->xs[i]? = some x,λ i H=>∃xs,SqT K H a xs/\xs.length<=i⟩
def Itr (lo:Int)(n:Nat):It:=⟨λ i _=>i<n,λ i H x H'=>H'=H/\x=.int (lo+i),λ i _=>n<=i⟩
theorem kf {P:yk}{w:World}{K:W.Frag}{tg:Expr}(a it:Addr):Turn P w K tg (Itl K a) [it] it (λ i h=>h.IsListIter it a i) where
 mem:=by simp
 obj:=λ i h st b hb=>by
  have e:b=it:=by simpa using hb
  subst e
  obtain⟨o,e,c,d⟩:=st
  exact⟨o,e,λ v z=>by rw[d] at z; cases z⟩
 keep:=λ i h h' st k=>st.at λ o e=>k it (by simp) o e
 item:=by
  intro X hP hw hK hc i pins s σ H E I hf st hg
  subst hP hw hK
  obtain⟨xs,x,hq,hx⟩:=hg
  obtain⟨its,rv,p,hz⟩:=I.list hq
  obtain⟨u,hu,ru⟩:=rv.get hx
  obtain⟨f0,f1,f2,f3,f4,f5⟩:=hf it (by simp)
  refine wpAny_pyNext_list_item st p.isList (x:=u) (by simpa using hu) λ h' st' sb=>?_
  have I1:Inv X pins σ H { s with heap:=h' }:=I.turned (t':=s.toks) (λ b o hb e=>(sb.2 b hb).trans e) f0 f1 f3 f4 f5
  obtain⟨o,e,c,d⟩:=id st'
  exact⟨u,rfl,go_of (s:={ s with heap:=h' }) e c d (by decide) ⟨x,H,I1,ru,⟨rfl,λ ys hy=>by rw[I.list_inj hy hq]; exact hx⟩,st',λ b hb=>(hf b hb).1⟩⟩
 done:=by
  intro X hP hw hK hc i pins s σ H E I hf st hg
  subst hP hw hK
  obtain⟨xs,hq,hx⟩:=hg
  obtain⟨its,rv,p,hz⟩:=I.list hq
  obtain⟨f0,f1,f2,f3,f4,f5⟩:=hf it (by simp)
  have hl:=rv.length
  exact wpAny_pyNext_list_end (I.ok.hd hc) st p.isList (by simp; omega) λ h' eb=>⟨rfl,I.turned (t':=s.toks) (λ b o hb e=>eb b o hb e) f0 f1 f3 f4 f5⟩
 self:=λ _ _ _ _ _ st h=>wpAny_pyIter_listiter st h
theorem i6 {P:yk}{w:World}{K:W.Frag}{tg:Expr}(a it:Addr):Turn P w K tg (Itt K a) [it] it (λ i h=>h.IsTupleIter it a i) where
 mem:=by simp
 obj:=λ i h st b hb=>by
  have e:b=it:=by simpa using hb
  subst e
  obtain⟨o,e,c,d⟩:=st
  exact⟨o,e,λ v z=>by rw[d] at z; cases z⟩
 keep:=λ i h h' st k=>st.at λ o e=>k it (by simp) o e
 item:=by
  intro X hP hw hK hc i pins s σ H E I hf st hg
  subst hP hw hK
  obtain⟨xs,x,hq,hx⟩:=hg
  obtain⟨its,rv,p,hz⟩:=I.tuple hq
  obtain⟨u,hu,ru⟩:=rv.get hx
  obtain⟨f0,f1,f2,f3,f4,f5⟩:=hf it (by simp)
  refine wpAny_pyNext_tuple_item st (show s.heap.IsTuple a its.toArray from p) (x:=u) (by simpa using hu) λ h' st' sb=>?_
  have I1:Inv X pins σ H { s with heap:=h' }:=I.turned (t':=s.toks) (λ b o hb e=>(sb.2 b hb).trans e) f0 f1 f3 f4 f5
  obtain⟨o,e,c,d⟩:=id st'
  exact⟨u,rfl,go_of (s:={ s with heap:=h' }) e c d (by decide) ⟨x,H,I1,ru,⟨rfl,λ ys hy=>by rw[I.tuple_inj hy hq]; exact hx⟩,st',λ b hb=>(hf b hb).1⟩⟩
 done:=by
  intro X hP hw hK hc i pins s σ H E I hf st hg
  subst hP hw hK
  obtain⟨xs,hq,hx⟩:=hg
  obtain⟨its,rv,p,hz⟩:=I.tuple hq
  obtain⟨f0,f1,f2,f3,f4,f5⟩:=hf it (by simp)
  have hl:=rv.length
  exact wpAny_pyNext_tuple_end (I.ok.hd hc) st (show s.heap.IsTuple a its.toArray from p) (by simp; omega) λ h' eb=>⟨rfl,I.turned (t':=s.toks) (λ b o hb e=>eb b o hb e) f0 f1 f3 f4 f5⟩
 self:=λ _ _ _ _ _ st h=>wpAny_pyIter_tupleiter st h
theorem nL {P:yk}{w:World}{K:PySem.W.Frag}{tg:Expr}(it:Addr)(lo:Int)(n:Nat):Turn P w K tg (Itr lo n) [it] it (λ i h=>IsRangeIter h it (lo+(i:Nat) * 1) ((n:Int) - (i:Nat)) 1) where
 mem:=by simp
 obj:=λ i h st b hb=>by
  have e:b=it:=by simpa using hb
  subst e
  exact⟨_,st,λ v z=>by
   have z':Data.fields _=Data.cell v:=z
   cases z'⟩
 keep:=λ i h h' st k=>k it (by simp) _ st
 item:=by
  intro X hP hw hK hc i pins s σ H E I hf st hg
  subst hP hw hK
  obtain⟨f0,f1,f2,f3,f4,f5⟩:=hf it (by simp)
  have W:=Walks.range (prog:=X.prog) (w:=X.w) (I.ok.hd hc) it lo 1 n
  refine W.item i s _ _ hg st λ v h' tk hv st' kk=>?_
  obtain⟨t,rfl⟩:=hv
  have I1:Inv X pins σ H { s with heap:=h',toks:=tk }:=I.turned (λ b o hb e=>kk b o (by simpa using hb) e) f0 f1 f3 f4 f5
  refine⟨_,rfl,go_of (s:={ s with heap:=h',toks:=tk }) (n := "range_iterator") st' rfl rfl (by decide) ⟨.int (lo+i),H,I1,⟨t,?_⟩,⟨rfl,rfl⟩,st',λ b hb=>(hf b hb).1⟩⟩
  rw[Int.mul_one]
 done:=by
  intro X hP hw hK hc i pins s σ H E I hf st hg
  subst hP hw hK
  obtain⟨f0,f1,f2,f3,f4,f5⟩:=hf it (by simp)
  exact wpAny_pyNext_range_end (I.ok.hd hc) st (by have:n<=i:=hg; omega) λ h' eb=>⟨rfl,I.turned (t':=s.toks) (λ b o hb e=>eb b o hb e) f0 f1 f3 f4 f5⟩
 self:=λ _ _ _ _ _ st h=>wpAny_pyIter_rangeiter st h
section
variable {X:Cx}{tg:Expr}
def iList (K:W.Frag)(tl:TE):TI:=λ σ H R=>tl σ H λ x H1=>∃a,x=.ref a/\(∃xs,SqL K H1 a xs)/\R (Itl K a) H1
def iTup (K:W.Frag)(tl:TE):TI:=λ σ H R=>tl σ H λ x H1=>∃a,x=.ref a/\(∃xs,SqT K H1 a xs)/\R (Itt K a) H1
theorem uN {l:Expr}{tl:TE}(hl:PE X l tl):PI X tg l (iList X.K tl):=by
 intro pins s σ H R I h
 refine thn (hl pins s σ H _ I h) λ v s1 ⟨x,H1,I1,r1,q1⟩=>?_
 obtain⟨a,e,⟨xs,hq⟩,q⟩:=q1
 subst e
 cases r1
 obtain⟨its,rv,p,hz⟩:=I1.list hq
 refine wpAny_pyIter_list p.isList ?_
 refine⟨s1.heap.objs.size,[s1.heap.objs.size],_,_,H1,rfl,I1.kept (t':=s1.toks) λ b o e=>xM _ e,kf a _,⟨_,xW _ rfl,rfl,rfl⟩,λ b hb=>?_,q⟩
 have e:b=s1.heap.objs.size:=by simpa using hb
 subst e
 exact I1.fpOk (xL _) (I1.hok.fresh (xL _))
theorem wn {l:Expr}{tl:TE}(hl:PE X l tl):PI X tg l (iTup X.K tl):=by
 intro pins s σ H R I h
 refine thn (hl pins s σ H _ I h) λ v s1 ⟨x,H1,I1,r1,q1⟩=>?_
 obtain⟨a,e,⟨xs,hq⟩,q⟩:=q1
 subst e
 cases r1
 obtain⟨its,rv,p,hz⟩:=I1.tuple hq
 refine wpAny_pyIter_tuple (show s1.heap.IsTuple a its.toArray from p) ?_
 refine⟨s1.heap.objs.size,[s1.heap.objs.size],_,_,H1,rfl,I1.kept (t':=s1.toks) λ b o e=>xM _ e,i6 a _,⟨_,xW _ rfl,rfl,rfl⟩,λ b hb=>?_,q⟩
 have e:b=s1.heap.objs.size:=by simpa using hb
 subst e
 exact I1.fpOk (xL _) (I1.hok.fresh (xL _))
theorem rV {pins:List (Addr × Obj)}{σ:St}{H:Hp}{s:xO}{R:It->Hp->Prop}{E:xK->xO->Prop}{lo hi:Int}{t u v:Tok}{tk:Nat}(I:Inv X pins σ H s)(h1:-(2 ^ 62)<=lo)(h2:lo<2 ^ 62)(h3:-(2 ^ 62)<=hi)(h4:hi<2 ^ 62)
  (q:R (Itr lo (hi - lo).toNat) H):yb (model X.prog X.w) X.A (pyIter (.ref s.heap.objs.size)) (PIE X pins σ tg R) E { s with heap:=s.heap.push { cls:=.type "range",data:=.fields #[.int lo t,.int hi u,.int 1 v] },toks:=tk }:=by
 refine wpAny_pyIter_range (IsRange.new ..) (small_one h1 h2 h3 h4) ?_
 have I1:Inv X pins σ H { s with heap:=s.heap.push { cls:=.type "range",data:=.fields #[.int lo t,.int hi u,.int 1 v] },toks:=tk }:=I.kept λ b o e=>xM _ e
 refine⟨(s.heap.push { cls:=.type "range",data:=.fields #[.int lo t,.int hi u,.int 1 v] }).objs.size,[(s.heap.push { cls:=.type "range",data:=.fields #[.int lo t,.int hi u,.int 1 v] }).objs.size],_,_,H,rfl,
  I1.kept (t':=tk) λ b o e=>xM _ e,nL _ lo (hi - lo).toNat,?_,λ b hb=>?_,q⟩
 ·have e1:lo+((0:Nat):Int) * 1=lo:=by simp
  have e2:(((hi - lo).toNat:Nat):Int) - ((0:Nat):Int)=Builtin.Range.rangeSize lo hi 1:=by rw[rangeSize_one]; split <;> omega
  show IsRangeIter _ _ (lo+((0:Nat):Int) * 1) ((((hi - lo).toNat:Nat):Int) - ((0:Nat):Int)) 1
  rw[e1,e2]
  exact xW _ rfl
 ·have e:b=(s.heap.push { cls:=.type "range",data:=.fields #[.int lo t,.int hi u,.int 1 v] }).objs.size:=by simpa using hb
  subst e
  exact I1.fpOk (xL _) (I1.hok.fresh (xL _))
def iRng1 (ta:TA):TI:=λ σ H R=>ta σ H λ vs H1=>∃j:Int,vs=[.int j]/\-(2 ^ 62)<=j/\j<2 ^ 62/\R (Itr 0 j.toNat) H1
theorem o7 {a:Expr}{ta:TA}{p pos:Pos}(hg:Gl X "range")(hm:X.mg "range" = none)(ha:PA X [a] ta)(hs:starEach [a] X.env=[(false,eval a X.env)]:=by rfl):PI X tg (.Call (.Name "range" p) [a] [] pos) (iRng1 ta):=by
 intro pins s σ H R I h
 refine Call_ (ke I hg hm boot_range (PyProof.Rows.callWith_type1 (thn (ha pos pins s σ H _ I h) λ us s1 ⟨vs,H1,I1,r1,q1⟩=>?_) hs rfl))
 obtain⟨j,e,q1,q2,q⟩:=q1
 subst e
 cases r1 with
 | cons r rr =>
  cases rr
  obtain⟨t,rfl⟩:=r
  exact call_range_1 (rV I1 (by omega) (by omega) q1 q2 (by simpa using q))
def tFor (wi:TI)(g:TG)(tb:TS):TS:=λ D σ H=>wi σ H λ J H1=>∃W:Nat->Nat->St->Hp->Prop,(∃m,W 0 m σ H1)/\∀i m σ H,W i m σ H ->
 (J.stop i H/\D.nx σ H)\/(J.go i H/\∃N:St->Hp->Prop,(∀σ' H',N σ' H'->∃m',m' < m/\W (i+1) m' σ' H')/\∀x H',J.yld i H x H'->g x σ H' λ σ2 H2=>tb { D with nx:=N,ct:=N,bk:=D.nx } σ2 H2)
def kg (fp:List Addr)(h:Heap):List (Addr × Obj):=fp.filterMap λ b=>(h.get? b).map λ o=>(b,o)
theorem dR {fp:List Addr}{h:Heap}{b:Addr}{o:Obj}(hb:b∈fp)(e:h.get? b=some o):(b,o)∈kg fp h:=z9.mpr ⟨b,hb,by rw[e]; rfl⟩
theorem o8 {fp:List Addr}{h:Heap}{p:Addr × Obj}(hp:p∈kg fp h):p.1∈fp/\h.get? p.1=some p.2:=by
 obtain⟨b,hb,e⟩:=z9.mp hp
 cases q:h.get? b with
 | none=>rw[q] at e; cases e
 | some o =>
  rw[q] at e
  have e':(b,o)=p:=Option.some.inj e
  subst e'
  exact⟨hb,q⟩
theorem Inv.pinned {pins:List (Addr × Obj)}{σ:St}{H:Hp}{s:xO}{fp:List Addr}(I:Inv X pins σ H s)(hf:∀b∈fp,FpOk X pins H b)(ho:∀b∈fp,∃o,s.heap.get? b=some o/\∀v,o.data≠.cell v):Inv X (pins++kg fp s.heap) σ H s :=
 I.pins_of λ p hp=>(yQ.mp hp).elim (λ z=>I.pin p (yJ _ z)) λ z=>by
  obtain⟨hb,e⟩:=o8 z
  obtain⟨f0,f1,f2,_⟩:=hf p.1 hb
  obtain⟨o,e',d⟩:=ho p.1 hb
  rw[e] at e'; cases e'
  exact⟨e,f0,f1,f2,d⟩
theorem Inv.unpinned {pins pl:List (Addr × Obj)}{σ:St}{H:Hp}{s:xO}(I:Inv X (pins++pl) σ H s):Inv X pins σ H s:=I.pins_of λ p hp=>I.pin p (yJ _ (zZ _ hp))
theorem wo {iter:Expr}{body:List Stmt}{wi:TI}{g:TG}{tb:TS}{pos:Pos}(hp:PassesOwn (model X.prog X.w) X.A X.env X.xe)(hc:X.calm=true)(hi:PI X tg iter wi)(hg:PG X tg g)(hb:PSs X body tb)
  (hs:∀x,foldedSetIterable iter X.env x=pure x:=by intro _; rfl):PS X (.For tg iter body [] pos) (tFor wi g tb):=by
 intro pins s σ H D I h
 refine wpAny_For (thn (hi pins s σ H _ I h) λ v s1 h1=>thn h1 λ itv s2 h2=>?_) hs
 obtain⟨it,fp,tn,J,H2,e,I2,T,st2,f2,W,⟨m0,w0⟩,turn⟩:=h2
 subst e
 have stat:∀{H':Hp},(∀b∈fp,H' b=none)->∀b∈fp,FpOk X pins H' b:=λ hn b hb=>⟨hn b hb,(f2 b hb).2⟩
 refine codeAny_forLoop_any (λ n s'=>∃i σ' H',Inv X pins σ' H' s'/\tn i s'.heap/\(∀b∈fp,H' b=none)/\W i n σ' H') ?_ m0 ⟨0,σ,H2,I2,st2,λ b hb=>(f2 b hb).1,w0⟩
 rintro n s3 ⟨i,σ3,H3,I3,st3,fr3,w3⟩
 rcases turn i n σ3 H3 w3 with⟨stop,qn⟩ | ⟨go,N,hN,step⟩
 ·refine wpAny_passesOwn hp (thn (T.done X rfl rfl rfl hc i pins s3 σ3 H3 X.xe I3 (stat fr3) st3 stop) λ r s4 ⟨hr,I4⟩=>?_)
  subst hr
  exact wpAny_execs_nil ⟨σ3,H3,I4,qn⟩
 ·refine wpAny_passesOwn hp (thn (T.item X rfl rfl rfl hc i pins s3 σ3 H3 X.xe I3 (stat fr3) st3 go) λ r s4 ⟨u,hr,h4⟩=>?_)
  subst hr
  refine wpAny_passesOwn hp (thn h4 λ _ s5 ⟨x,H5,I5,r5,y5,st5,fr5⟩=>?_)
  have I5':=I5.pinned (stat fr5) (T.obj _ _ st5)
  refine wpAny_passesOwn hp (thn (hg _ s5 σ3 H5 x u _ I5' r5 (step x H5 y5)) λ _ s6 ⟨σ6,H6,I6,q6⟩=>?_)
  refine wpAny_passesOwn hp (thn (hb _ s6 σ6 H6 _ I6 q6) λ f s7 q7=>?_)
  have again:∀{σ7:St} {H7:Hp},Inv X (pins++kg fp s5.heap) σ7 H7 s7->N σ7 H7->∃m,m<n/\∃i σ' H',Inv X pins σ' H' s7/\tn i s7.heap/\(∀b∈fp,H' b=none)/\W i m σ' H':=λ {σ7 H7} I7 n7=>by
   obtain⟨m',hm,w7⟩:=hN σ7 H7 n7
   refine⟨m',hm,i+1,σ7,H7,I7.unpinned,T.keep _ _ _ st5 λ b hb o e=>(I7.pin (b,o) (yJ _ (yJ _ (dR hb e)))).1,λ b hb=>?_,w7⟩
   obtain⟨o,e,d⟩:=T.obj _ _ st5 b hb
   exact (I7.pin (b,o) (yJ _ (yJ _ (dR hb e)))).2.1
  cases f with
  | next=>obtain⟨σ7,H7,I7,n7⟩:=q7; exact again I7 n7
  | cont=>obtain⟨σ7,H7,I7,n7⟩:=q7; exact again I7 n7
  | brk=>obtain⟨σ7,H7,I7,q7⟩:=q7; exact⟨σ7,H7,I7.unpinned,q7⟩
  | ret v=>obtain⟨x7,σ7,H7,I7,r7,q7⟩:=q7; exact⟨x7,σ7,H7,I7.unpinned,r7,q7⟩
end
theorem rW {K:PySem.W.Frag}{a:Addr}{xs:List V}{g:TG}{tb:TS}{D:Ends}{σ:St}{H:Hp}(Pv:Nat->St->Hp->Prop)(h0:Pv 0 σ H)(hl:∀i σ H,i<=xs.length->Pv i σ H->SqL K H a xs)
  (hs:∀i x σ H,xs[i]? = some x->Pv i σ H->g x σ H λ σ2 H2=>tb { D with nx:=Pv (i+1),ct:=Pv (i+1),bk:=D.nx } σ2 H2) (hd:∀σ H,Pv xs.length σ H->D.nx σ H) :
  ∃W:Nat->Nat->St->Hp->Prop,(∃m,W 0 m σ H)/\∀i m σ H,W i m σ H ->
   ((Itl K a).stop i H/\D.nx σ H)\/((Itl K a).go i H/\∃N:St->Hp->Prop,(∀σ' H',N σ' H'->∃m',m' < m/\W (i+1) m' σ' H')/\∀x H',(Itl K a).yld i H x H'->g x σ H' λ σ2 H2=>tb { D with nx:=N,ct:=N,bk:=D.nx } σ2 H2):=by
 refine⟨λ i m σ H=>m=xs.length - i/\i<=xs.length/\Pv i σ H,⟨xs.length,by simp,yY _,h0⟩,?_⟩
 rintro i m σ H ⟨rfl,hi,p⟩
 have q:=hl i σ H hi p
 by_cases hlt:i<xs.length
 ·refine .inr ⟨⟨xs,xs[i],q,by simp[hlt]⟩,Pv (i+1),λ σ' H' p'=>⟨xs.length - (i+1),by omega,rfl,hlt,p'⟩,λ x H' y=>?_⟩
  obtain⟨e,y⟩:=y
  subst e
  exact hs i x σ _ (y xs q) p
 ·have e:i=xs.length:=by omega
  subst e
  exact .inl ⟨⟨xs,q,xL _⟩,hd σ H p⟩
theorem uO {K:PySem.W.Frag}{a:Addr}{xs:List V}{g:TG}{tb:TS}{D:Ends}{σ:St}{H:Hp}(Pv:Nat->St->Hp->Prop)(h0:Pv 0 σ H)(hl:∀i σ H,i<=xs.length->Pv i σ H->SqT K H a xs)
  (hs:∀i x σ H,xs[i]? = some x->Pv i σ H->g x σ H λ σ2 H2=>tb { D with nx:=Pv (i+1),ct:=Pv (i+1),bk:=D.nx } σ2 H2) (hd:∀σ H,Pv xs.length σ H->D.nx σ H) :
  ∃W:Nat->Nat->St->Hp->Prop,(∃m,W 0 m σ H)/\∀i m σ H,W i m σ H ->
   ((Itt K a).stop i H/\D.nx σ H)\/((Itt K a).go i H/\∃N:St->Hp->Prop,(∀σ' H',N σ' H'->∃m',m' < m/\W (i+1) m' σ' H')/\∀x H',(Itt K a).yld i H x H'->g x σ H' λ σ2 H2=>tb { D with nx:=N,ct:=N,bk:=D.nx } σ2 H2):=by
 refine⟨λ i m σ H=>m=xs.length - i/\i<=xs.length/\Pv i σ H,⟨xs.length,by simp,yY _,h0⟩,?_⟩
 rintro i m σ H ⟨rfl,hi,p⟩
 have q:=hl i σ H hi p
 by_cases hlt:i<xs.length
 ·refine .inr ⟨⟨xs,xs[i],q,by simp[hlt]⟩,Pv (i+1),λ σ' H' p'=>⟨xs.length - (i+1),by omega,rfl,hlt,p'⟩,λ x H' y=>?_⟩
  obtain⟨e,y⟩:=y
  subst e
  exact hs i x σ _ (y xs q) p
 ·have e:i=xs.length:=by omega
  subst e
  exact .inl ⟨⟨xs,q,xL _⟩,hd σ H p⟩
abbrev R2:=V->V->Hp->VK->Prop
def OpR (X:Cx)(f:xK->xK->Sem xK)(r:R2):Prop :=
 ∀(pins:List (Addr × Obj)) (s:xO) (σ:St) (H:Hp) (x y:V) (v u:xK) (Q:VK),Inv X pins σ H s->RelV x v->RelV y u->r x y H Q ->
  yb (model X.prog X.w) X.A (f v u) (EP X pins σ Q) X.xe s
def UnR (X:Cx)(f:xK->Sem xK)(r:V->Hp->VK->Prop):Prop :=
 ∀(pins:List (Addr × Obj)) (s:xO) (σ:St) (H:Hp) (x:V) (v:xK) (Q:VK),Inv X pins σ H s->RelV x v->r x H Q ->
  yb (model X.prog X.w) X.A (f v) (EP X pins σ Q) X.xe s
def CallR (X:Cx)(f:xK)(r:List V->Hp->VK->Prop):Prop :=
 ∀(pins:List (Addr × Obj)) (s:xO) (σ:St) (H:Hp) (xs:List V) (us:List xK) (Q:VK),Inv X pins σ H s->Vals xs us->r xs H Q ->
  yb (model X.prog X.w) X.A (call f us) (EP X pins σ Q) X.xe s
def tOp (r:R2)(ta tb:TE):TE:=λ σ H Q=>ta σ H λ x H1=>tb σ H1 λ y H2=>r x y H2 Q
def tUn (r:V->Hp->VK->Prop)(ta:TE):TE:=λ σ H Q=>ta σ H λ x H1=>r x H1 Q
def rI (C:Int->Int->Prop)(g:Int->Int->V):R2:=λ x y H Q=>∃i j,x=.int i/\y=.int j/\C i j/\Q (g i j) H
def rI0 (g:Int->Int->V):R2:=λ x y H Q=>∃i j,x=.int i/\y=.int j/\Q (g i j) H
def rU (g:Int->V):V->Hp->VK->Prop:=λ x H Q=>∃i,x=.int i/\Q (g i) H
section
variable {X:Cx}{a b c:Expr}{ta tb tc:TE}{pos:Pos}
theorem binT (ha:PE X a ta)(hb:PE X b tb){pins:List (Addr × Obj)}{s:xO}{σ:St}{H:Hp}{R:V->V->Hp->Prop}(I:Inv X pins σ H s)
  (h:ta σ H λ x H1=>tb σ H1 λ y H2=>R x y H2) {Q:xK->xO->Prop} {f:xK->xK->Sem xK}
  (hf:∀v u s2 x y H2,Inv X pins σ H2 s2->RelV x v->RelV y u->R x y H2->yb (model X.prog X.w) X.A (f v u) Q X.xe s2) :
  yb (model X.prog X.w) X.A (eval a X.env) (λ v s₁=>yb (model X.prog X.w) X.A (eval b X.env) (λ u s₂=>yb (model X.prog X.w) X.A (f v u) Q X.xe s₂) X.xe s₁) X.xe s:=by
 refine thn (ha pins s σ H _ I h) λ v s1 ⟨x,H1,I1,r1,q1⟩=>?_
 refine thn (hb pins s1 σ H1 _ I1 q1) λ u s2 ⟨y,H2,I2,r2,q2⟩=>?_
 exact hf v u s2 x y H2 I2 r1 r2 q2
theorem pe_op {op:Operator}{r:R2}(ho:OpR X (binaryOp op) r)(ha:PE X a ta)(hb:PE X b tb):PE X (.BinOp a op b pos) (tOp r ta tb):=by
 intro pins s σ H Q I h
 exact wpAny_BinOp (binT ha hb I h λ v u s2 x y H2 I2 rx ry q=>ho pins s2 σ H2 x y v u Q I2 rx ry q)
theorem pe_un {op:UnaryOp}{r:V->Hp->VK->Prop}(ho:UnR X (unaryOp op) r)(ha:PE X a ta):PE X (.UnaryOp op a pos) (tUn r ta):=by
 intro pins s σ H Q I h
 exact UnaryOp_ (thn (ha pins s σ H _ I h) λ v s1 ⟨x,H1,I1,r1,q1⟩=>ho pins s1 σ H1 x v Q I1 r1 q1)
theorem opI {f:xK->xK->Sem xK}{C:Int->Int->Prop}{g:Int->Int->Int}
  (rule:∀(i j:Int) (t u:Tok) (s:xO) (Q:xK->xO->Prop) (E:xK->xO->Prop),C i j->Q (.int (g i j) s.toks) { s with toks:=s.toks+1 }->yb (model X.prog X.w) X.A (f (.int i t) (.int j u)) Q E s) :
  OpR X f (rI C λ i j=>.int (g i j)):=by
 intro pins s σ H x y v u Q I rx ry h
 obtain⟨i,j,rfl,rfl,hc,q⟩:=h
 obtain⟨t,rfl⟩:=rx
 obtain⟨t',rfl⟩:=ry
 exact rule i j t t' s _ _ hc ⟨.int (g i j),H,I.tok _,⟨_,rfl⟩,q⟩
theorem opI0 {f:xK->xK->Sem xK}{g:Int->Int->Int}
  (rule:∀(i j:Int) (t u:Tok) (s:xO) (Q:xK->xO->Prop) (E:xK->xO->Prop),Q (.int (g i j) s.toks) { s with toks:=s.toks+1 }->yb (model X.prog X.w) X.A (f (.int i t) (.int j u)) Q E s) :
  OpR X f (rI0 λ i j=>.int (g i j)):=by
 intro pins s σ H x y v u Q I rx ry h
 obtain⟨i,j,rfl,rfl,q⟩:=h
 obtain⟨t,rfl⟩:=rx
 obtain⟨t',rfl⟩:=ry
 exact rule i j t t' s _ _ ⟨.int (g i j),H,I.tok _,⟨_,rfl⟩,q⟩
theorem opB0 {f:xK->xK->Sem xK}{g:Int->Int->Bool}
  (rule:∀(i j:Int) (t u:Tok) (s:xO) (Q:xK->xO->Prop) (E:xK->xO->Prop),Q (.bool (g i j)) s->yb (model X.prog X.w) X.A (f (.int i t) (.int j u)) Q E s) :
  OpR X f (rI0 λ i j=>.bl (g i j)):=by
 intro pins s σ H x y v u Q I rx ry h
 obtain⟨i,j,rfl,rfl,q⟩:=h
 obtain⟨t,rfl⟩:=rx
 obtain⟨t',rfl⟩:=ry
 exact rule i j t t' s _ _ ⟨.bl (g i j),H,I,rfl,q⟩
def CDiv (i j:Int):Prop:=0<j/\j<1073741824
def CPow (i j:Int):Prop:=0<=j/\j<=1000000/\i.natAbs<2 ^ 64
def CMul (i j:Int):Prop:=(-(2 ^ 64)<i/\i<2 ^ 64)\/(-(2 ^ 64)<j/\j<2 ^ 64)
theorem CMul.ok {i j:Int}(h:CMul i j):IntMulOk i j:=by
 rcases h with⟨h1,h2⟩ | ⟨h1,h2⟩
 ·exact .of_left (intBits_le_64 h1 h2)
 ·exact .of_right (intBits_le_64 h1 h2)
theorem op_add:OpR X (binaryOp .Add) (rI0 λ i j=>.int (i+j)):=opI0 λ _ _ _ _ _ _ _ q=>add_int q
theorem wq:OpR X (binaryOp .Sub) (rI0 λ i j=>.int (i - j)):=opI0 λ _ _ _ _ _ _ _ q=>sub_int q
theorem op_mul:OpR X (binaryOp .Mult) (rI CMul λ i j=>.int (i * j)):=opI λ _ _ _ _ _ _ _ hc q=>mul_int q hc.ok
theorem o9:OpR X (binaryOp .FloorDiv) (rI CDiv λ i j=>.int (i / j)):=opI λ i j _ _ _ _ _ hc q=>by
 have h1:(0:Int)<j:=hc.1
 have h2:j<1073741824:=hc.2
 exact floordiv_int (by omega) (by rw[Int.fdiv_eq_ediv_of_nonneg i (by omega)]; exact q) (.inl (PyProof.noPylong_small (by omega)))
theorem eU:OpR X (binaryOp .Mod) (rI (λ _ j=>0<j) λ i j=>.int (i % j)):=opI λ i j _ _ _ _ _ hc q=>by
 have h1:(0:Int)<j:=hc
 exact mod_int' (by omega) (by rw[Int.fmod_eq_emod_of_nonneg i (by omega)]; exact q)
theorem wu:OpR X (binaryOp .Pow) (rI CPow λ i j=>.int (i ^ j.toNat)):=opI λ _ _ _ _ _ _ _ hc q=>pow_int_small hc.1 hc.2.1 hc.2.2 q
theorem unI {f:xK->Sem xK}{g:Int->Int}
  (rule:∀(i:Int) (t:Tok) (s:xO) (Q:xK->xO->Prop) (E:xK->xO->Prop),Q (.int (g i) s.toks) { s with toks:=s.toks+1 }->yb (model X.prog X.w) X.A (f (.int i t)) Q E s) :
  UnR X f (rU λ i=>.int (g i)):=by
 intro pins s σ H x v Q I rx h
 obtain⟨i,rfl,q⟩:=h
 obtain⟨t,rfl⟩:=rx
 exact rule i t s _ _ ⟨.int (g i),H,I.tok _,⟨_,rfl⟩,q⟩
theorem tI:UnR X (unaryOp .USub) (rU λ i=>.int (-i)):=unI λ _ _ _ _ _ q=>neg_int q
end
def scal:V->V->Bool
 | .non,.non=>true | .non,.int _=>true | .int _,.non=>true | .non,.bl _=>true | .bl _,.non=>true | .non,.str _=>true | .str _,.non=>true
 | .int _,.int _=>true | .bl _,.bl _=>true | .str _,.str _=>true | .byt _,.byt _=>true
 | .int _,.str _=>true | .str _,.int _=>true | .bl _,.str _=>true | .str _,.bl _=>true
 | _,_=>false
def rNe:R2:=λ x y H Q=>scal x y=true/\Q (.bl (!decide (x=y))) H
theorem uP {i j:Int}:decide (V.int i=V.int j)=(i == j):=by
 rw[An]
 simp
theorem wv {i j:Bool}:decide (V.bl i=V.bl j)=(i == j):=by
 rw[An]
 simp
theorem uQ {i j:Str}:decide (V.str i=V.str j)=(i == j):=by
 rw[An]
 simp
theorem uR {i j:Array UInt8}:decide (V.byt i=V.byt j)=(i.toList == j.toList):=by
 rw[An]
 cases i
 cases j
 simp
section
variable {X:Cx}{a b c:Expr}{ta tb tc:TE}{pos:Pos}
theorem bH {pins:List (Addr × Obj)}{σ:St}{H:Hp}{s:xO}{Q:VK}{k k':Bool}(I:Inv X pins σ H s)(q:Q (.bl k) H)(e:k=k'):EP X pins σ Q (.bool k') s:=by
 subst e
 exact⟨.bl k,H,I,rfl,q⟩
theorem op_ne:OpR X (compareOp .NotEq) rNe:=by
 intro pins s σ H x y v u Q I rx ry h
 obtain⟨hs,q⟩:=h
 cases x with
 | non =>
  cases rx
  cases y with
  | non=>cases ry; exact PySem.EqNone.ne_none_none (bH I q (by simp))
  | bl j=>cases ry; exact PySem.EqNone.ne_none_bool (bH I q (by simp))
  | int j=>obtain⟨t',rfl⟩:=ry; exact PySem.EqNone.ne_none_int (bH I q (by simp))
  | str j=>obtain⟨t',rfl⟩:=ry; exact PySem.EqNone.ne_none_str (bH I q (by simp))
  | _=>exact absurd (show false=true from hs) yT
 | bl i =>
  cases rx
  cases y with
  | non=>cases ry; exact PySem.EqNone.ne_bool_none (bH I q (by simp))
  | bl j=>cases ry; exact ne_bool (bH I q (congrArg not wv))
  | str j=>obtain⟨t',rfl⟩:=ry; exact PySem.EqMixed.ne_bool_str (bH I q (by simp))
  | _=>exact absurd (show false=true from hs) yT
 | int i =>
  obtain⟨t,rfl⟩:=rx
  cases y with
  | non=>cases ry; exact PySem.EqNone.ne_int_none (bH I q (by simp))
  | int j=>obtain⟨t',rfl⟩:=ry; exact ne_int (bH I q (congrArg not uP))
  | str j=>obtain⟨t',rfl⟩:=ry; exact PySem.EqMixed.ne_int_str (bH I q (by simp))
  | _=>exact absurd (show false=true from hs) yT
 | str i =>
  obtain⟨t,rfl⟩:=rx
  cases y with
  | non=>cases ry; exact PySem.EqNone.ne_str_none (bH I q (by simp))
  | bl j=>cases ry; exact PySem.EqMixed.ne_str_bool (bH I q (by simp))
  | int j=>obtain⟨t',rfl⟩:=ry; exact PySem.EqMixed.ne_str_int (bH I q (by simp))
  | str j=>obtain⟨t',rfl⟩:=ry; exact ne_str (bH I q (congrArg not uQ))
  | _=>exact absurd (show false=true from hs) yT
 | byt i =>
  obtain⟨t,rfl⟩:=rx
  cases y with
  | byt j=>obtain⟨t',rfl⟩:=ry; exact W.ne_bytes (bH I q (congrArg not uR))
  | _=>exact absurd (show false=true from hs) yT
 | _=>cases y <;> exact absurd (show false=true from hs) yT
theorem op_lt:OpR X (compareOp .Lt) (rI0 λ i j=>.bl (decide (i<j))):=opB0 λ _ _ _ _ _ _ _ q=>lt_int q
theorem op_le:OpR X (compareOp .LtE) (rI0 λ i j=>.bl (decide (i<=j))):=opB0 λ _ _ _ _ _ _ _ q=>le_int q
theorem op_gt:OpR X (compareOp .Gt) (rI0 λ i j=>.bl (decide (j<i))):=opB0 λ _ _ _ _ _ _ _ q=>gt_int q
theorem op_ge:OpR X (compareOp .GtE) (rI0 λ i j=>.bl (decide (j<=i))):=opB0 λ _ _ _ _ _ _ _ q=>ge_int q
theorem ww:OpR X (compareOp .Is) (λ x y H Q=>y=.non/\Q (.bl (decide (x=.non))) H):=by
 intro pins s σ H x y v u Q I rx ry h
 obtain⟨rfl,q⟩:=h
 cases ry
 refine is_none_gen (bH I q ?_)
 cases x <;> first
  | (cases rx; rfl)
  | (obtain⟨t,rfl⟩:=rx; rfl)
theorem OpR.or {f:xK->xK->Sem xK}{r r':R2}(h:OpR X f r)(h':OpR X f r'):OpR X f (λ x y H Q=>r x y H Q\/r' x y H Q):=by
 intro pins s σ H x y v u Q I rx ry q
 rcases q with q | q
 ·exact h pins s σ H x y v u Q I rx ry q
 ·exact h' pins s σ H x y v u Q I rx ry q
theorem i7 (b:Expr){op:CmpOp}(h:op≠.In:=by decide)(h2:op≠.NotIn:=by decide):behindInMarks op b=false:=by
 have e1:(op == CmpOp.In)=false:=by cases op <;> first | rfl | exact absurd rfl h
 have e2:(op == CmpOp.NotIn)=false:=by cases op <;> first | rfl | exact absurd rfl h2
 cases b <;> simp[behindInMarks,e1,e2]
theorem uS {op:CmpOp}{r:R2}(ho:OpR X (compareOp op) r)(ha:PE X a ta)(hb:PE X b tb)(hm:behindInMarks op b=false):PE X (.Compare a [op] [b] pos) (tOp r ta tb):=by
 intro pins s σ H Q I h
 exact wpAny_Compare1 (binT ha hb I h λ v u s2 x y H2 I2 rx ry q=>ho pins s2 σ H2 x y v u Q I2 rx ry q) hm
def tTest (t:TE):TT:=λ σ H Q=>t σ H λ x H'=>∃k,x=.bl k/\Q k H'
theorem uT {op:CmpOp}{r:R2}(ho:OpR X (compareOp op) r)(ha:PE X a ta)(hb:PE X b tb)(hm:behindInMarks op b=false):PT X (.Compare a [op] [b] pos) (tTest (tOp r ta tb)):=by
 intro pins s σ H Q I h
 refine wpAny_isTrue_Compare1 (thn (ha pins s σ H _ I h) λ v s1 ⟨x,H1,I1,r1,q1⟩=>thn (hb pins s1 σ H1 _ I1 q1) λ u s2 ⟨y,H2,I2,r2,q2⟩ =>
  thn (ho pins s2 σ H2 x y v u _ I2 r1 r2 q2) λ c s3 ⟨z,H3,I3,r3,k,e,q3⟩=>?_) hm
 subst e
 cases r3
 exact wpAny_truthy_bool ⟨H3,I3,q3⟩
theorem kh:(xV:Nat)<2 ^ 63:=by rw[sizeLine_eq]; decide
theorem nM:OpR X (binaryOp .Add) (λ x y H Q=>∃i j,x=.str i/\y=.str j/\i.length+j.length<=xV/\Q (.str (i++j)) H):=by
 intro pins s σ H x y v u Q I rx ry h
 obtain⟨i,j,rfl,rfl,hz,q⟩:=h
 obtain⟨t,rfl⟩:=rx
 obtain⟨t',rfl⟩:=ry
 exact add_str (λ t' tk=>⟨.str (i++j),H,I.tok _,⟨_,rfl⟩,q⟩) hz
theorem vals1 {x:V}{us:List xK}(r:Vals [x] us):∃u,us=[u]/\RelV x u:=by
 cases r with
 | cons r1 r2=>cases r2; exact⟨_,rfl,r1⟩
theorem vals2 {x y:V}{us:List xK}(r:Vals [x,y] us):∃u w',us=[u,w']/\RelV x u/\RelV y w':=by
 cases r with
 | cons r1 r2 =>
  cases r2 with
  | cons r3 r4=>cases r4; exact⟨_,_,rfl,r1,r3⟩
theorem rX:CallR X (.builtin "abs") (λ xs H Q=>∃i,xs=[.int i]/\Q (.int (if i<0 then -i else i)) H):=by
 intro pins s σ H xs us Q I r h
 obtain⟨i,rfl,q⟩:=h
 obtain⟨u,rfl,t,rfl⟩:=vals1 r
 exact call_abs_int λ u tk=>⟨.int (if i<0 then -i else i),H,I.tok _,⟨_,rfl⟩,q⟩
theorem pc (hc:X.calm=true):CallR X (.builtin "max") (λ xs H Q=>∃i j,xs=[.int i,.int j]/\Q (.int (if j > i then j else i)) H):=by
 intro pins s σ H xs us Q I r h
 obtain⟨i,j,rfl,q⟩:=h
 obtain⟨u,w',rfl,⟨t,rfl⟩,⟨t',rfl⟩⟩:=vals2 r
 refine max_two_ints (I.ok.hd hc) λ h' tk k=>⟨_,H,I.kept k,?_,q⟩
 by_cases hj:j > i
 ·rw[if_pos hj,if_pos hj]; exact⟨_,rfl⟩
 ·rw[if_neg hj,if_neg hj]; exact⟨_,rfl⟩
theorem pd (hc:X.calm=true):CallR X (.builtin "min") (λ xs H Q=>∃i j,xs=[.int i,.int j]/\Q (.int (if j<i then j else i)) H):=by
 intro pins s σ H xs us Q I r h
 obtain⟨i,j,rfl,q⟩:=h
 obtain⟨u,w',rfl,⟨t,rfl⟩,⟨t',rfl⟩⟩:=vals2 r
 refine min_two_ints (I.ok.hd hc) λ h' tk k=>⟨_,H,I.kept k,?_,q⟩
 by_cases hj:j<i
 ·rw[if_pos hj,if_pos hj]; exact⟨_,rfl⟩
 ·rw[if_neg hj,if_neg hj]; exact⟨_,rfl⟩
theorem ki:CallR X (.type "int") (λ xs H Q=>(∃i,xs=[.int i]/\Q (.int i) H)\/∃k,xs=[.bl k]/\Q (.int (if k then 1 else 0)) H):=by
 intro pins s σ H xs us Q I r h
 rcases h with⟨i,rfl,q⟩ | ⟨k,rfl,q⟩
 ·obtain⟨u,rfl,t,rfl⟩:=vals1 r
  exact call_int_int ⟨.int i,H,I,⟨_,rfl⟩,q⟩
 ·obtain⟨u,rfl,r1⟩:=vals1 r
  cases r1
  exact call_int_bool ⟨.int (if k then 1 else 0),H,I.tok _,⟨_,rfl⟩,q⟩
theorem kj:CallR X (.type "str") (λ xs H Q=>∃i,xs=[.int i]/\i.natAbs.log2<1920/\Q (.str (toString i)) H):=by
 intro pins s σ H xs us Q I r h
 obtain⟨i,rfl,hz,q⟩:=h
 obtain⟨u,rfl,t,rfl⟩:=vals1 r
 exact PySem.P.str_of_int hz ⟨.str _,H,I.tok _,⟨_,rfl⟩,q⟩
end
structure ObjM (h:Heap) (x dx C:Addr) (mA:Str->Option xK):Prop where
 obj:h.get? x=some (W.instObj C dx)
 ns:h.Ns1 dx mA
 ne:dx≠x
theorem gI {h:Heap}{dx:Addr}{mA:Str->Option xK}(n:h.Ns1 dx mA):∃od,h.get? dx=some od/\∀name,W.lookIn name od=some (mA name):=by
 obtain⟨o,es,ep,ho,hd,hk,_,hm⟩:=n
 refine⟨o,ho,λ name=>?_⟩
 have e:=hm name
 unfold nsFind findBy at e
 rw[<- Array.find?_toList] at e
 unfold W.lookIn
 rw[hd]
 dsimp only
 split
 ·rename_i y q
  rw[q] at e
  exact congrArg some e
 ·rename_i q
  rw[q] at e
  have a:es.toList.any (·.refKey)=false:=by
   rw[List.any_eq_false]
   intro y hy
   obtain⟨z,t,hkey⟩:=hk y (Array.mem_toList_iff.mp hy)
   simp[DictEntry.refKey,hkey]
  have a':¬ es.toList.any (·.refKey)=true:=by rw[a]; exact yT
  rw[if_neg a']
  exact congrArg some e
theorem ObjM.look {h:Heap}{x dx C:Addr}{mA:Str->Option xK}(I:ObjM h x dx C mA):∃od,W.InstAt h x (W.instObj C dx) C (some od)/\∀name,W.lookIn name od=some (mA name) :=
 let ⟨od,ho,hl⟩:=gI I.ns
 ⟨od,⟨I.obj,rfl,rfl,ho⟩,hl⟩
def putF (f:Str)(v:V):List (Str × V)->List (Str × V)
 | []=>[(f,v)]
 | (g,x)::r=>if g=f then (g,v)::r else (g,x)::putF f v r
theorem gJ (f g:Str)(v:V):∀fs:List (Str × V),(putF f v fs).lookup g=if g=f then some v else fs.lookup g
 | []=>by
  show z5 g [(f,v)]=_
  by_cases h:g=f
  ·have hb:(g == f)=true:=beq_iff_eq.mpr h
   simp only[z5,hb,if_pos h]
  ·have hb:(g == f)=false:=beq_eq_false_iff_ne.mpr h
   simp only[z5,hb,if_neg h]
 | (k,x)::r=>by
  have ih:=gJ f g v r
  rw[show putF f v ((k,x)::r)=(if k=f then (k,v)::r else (k,x)::putF f v r) from rfl]
  by_cases hk:k=f
  ·rw[if_pos hk]
   by_cases h:g=k
   ·have hb:(g == k)=true:=beq_iff_eq.mpr h
    simp only[z5,hb,if_pos (h.trans hk)]
   ·have hb:(g == k)=false:=beq_eq_false_iff_ne.mpr h
    simp only[z5,hb,if_neg (λ e:g=f=>h (e.trans hk.symm))]
  ·rw[if_neg hk]
   by_cases h:g=k
   ·have hb:(g == k)=true:=beq_iff_eq.mpr h
    simp only[z5,hb,if_neg (λ e:g=f=>hk (h.symm.trans e))]
   ·have hb:(g == k)=false:=beq_eq_false_iff_ne.mpr h
    simp only[z5,hb]
    exact ih
theorem RelO.some_of {v:V}{o:Option xK}(r:RelO (some v) o):∃u,o=some u/\RelV v u:=by
 cases o with
 | none=>exact (show False from r).elim
 | some u=>exact⟨u,rfl,r⟩
theorem pf {v:V}{u:xK}(r:RelV v u):W.handedIn u=true:=by
 cases v with
 | non=>cases (show u=xK.none from r); rfl
 | bl b=>cases (show u=xK.bool b from r); rfl
 | int i=>obtain⟨t,e⟩:=(show ∃t,u=xK.int i t from r); cases e; rfl
 | str x=>obtain⟨t,e⟩:=(show ∃t,u=xK.str x t from r); cases e; rfl
 | byt b=>obtain⟨t,e⟩:=(show ∃t,u=xK.bytes b t from r); cases e; rfl
 | flt b=>obtain⟨t,e⟩:=(show ∃t,u=xK.float b t from r); cases e; rfl
 | ref a=>cases (show u=xK.ref a from r); rfl
 | ty n=>cases (show u=xK.type n from r); rfl
section
variable {P:yk}{w:World}{H H':Hp}{h h':Heap}{a C dx:Addr}{fs fs':List (Str × V)}
theorem uU (hok:HOk P w H h)(e:H a=some (.ins C dx fs)):∃mA,ObjM h a dx C mA/\(∀f,RelO (fs.lookup f) (mA f))/\PySem.Within mA (fs.map (·.1))/\fs.length<=1000/\H dx=some (.own a):=by
 obtain⟨d,z,ne,ob,mA,n,r,q⟩:=(show ObjOk P w H h a (.ins C dx fs) from hok a _ e)
 exact⟨mA,⟨ob,n,ne⟩,r,q,z,d⟩
end
structure Cls (K:W.Frag) (C:Addr):Prop where
 pg:W.plainGet K C Str.empty=true
 hd:W.hasDictIn K C=true
 po:W.plainOver K C=true
 sa:W.findIn K (.ref C) "__setattr__" = some (some (.builtin "object.__setattr__"))
theorem Cls.get {K:W.Frag}{C:Addr}(c:Cls K C)(f:Str):W.plainGet K C f=true:=c.pg
section
variable {X:Cx}{pins:List (Addr × Obj)}{σ:St}{H:Hp}{s:xO}{a C dx:Addr}{fs:List (Str × V)}{f:Str}{v:V}{A:Around}{E:xK->xO->Prop}
theorem Inv.made (I:Inv X pins σ H s):Inv X pins σ (upd (upd H s.heap.objs.size (.own (s.heap.objs.size+1))) (s.heap.objs.size+1) (.ins C s.heap.objs.size []))
  { s with heap:=(s.heap.push W.emptyDict).push (W.instObj C s.heap.objs.size) }:=by
 have e1:(s.heap.push W.emptyDict).get? s.heap.objs.size=some W.emptyDict:=xW s.heap rfl
 have e2:((s.heap.push W.emptyDict).push (W.instObj C s.heap.objs.size)).get? (s.heap.objs.size+1)=some (W.instObj C s.heap.objs.size):=by
  have:=xW (s.heap.push W.emptyDict) (o:=W.instObj C s.heap.objs.size) rfl
  rwa [y9] at this
 have e3:(s.heap.push W.emptyDict).Ns s.heap.objs.size (λ _=>none):=⟨W.emptyDict,#[],_,e1,rfl,(λ e he=>absurd he (by simp)),λ _=>rfl⟩
 have I1:=I.laid (a:=s.heap.objs.size) (o:=.own (s.heap.objs.size+1)) (h':=s.heap.push W.emptyDict) (t':=s.toks) (λ b u q=>xM _ q) (xL _) ⟨_,e1⟩
 refine I1.laid (a:=s.heap.objs.size+1) (o:=.ins C s.heap.objs.size []) (t':=s.toks) (λ b u q=>xM _ q) (Nat.le_of_eq (y9 _ _)) ?_
 have ne:s.heap.objs.size≠s.heap.objs.size+1:=yu (zN _)
 refine⟨by rw[ag ne,af],yY _,ne,e2,λ _=>none,(Heap.Ns1.of_empty e3).at λ o q=>xM _ q,λ _=>True.intro,λ y hy=>absurd rfl hy⟩
theorem uV {prog:yk}{w:World}{env:Env}{e:Expr}{f:Str}{pos:Pos}{s:xO}{Q:xK->xO->Prop}(hb:attributeBase e f env (eval e env)=eval e env)
  (h:yb (model prog w) A (eval e env) (λ o s₁=>yb (model prog w) A (getAttr o f true) Q E s₁) E s):yb (model prog w) A (eval (.Attribute e f pos) env) Q E s :=
 Attribute_any_ h (by rw[arm_eval_Attribute,hb])
end
section
variable {X:Cx}{pins:List (Addr × Obj)}{σ:St}{H:Hp}{s:xO}{A:Around}{E:xK->xO->Prop}{Q:xK->xO->Prop}{c:xK}{b:Bool}
inductive TyOf (K:W.Frag) (H:Hp):V->xK->Prop where
 | non:TyOf K H .non (.type "NoneType")
 | bl (x:Bool):TyOf K H (.bl x) (.type "bool")
 | int (i:Int):TyOf K H (.int i) (.type "int")
 | str (x:Str):TyOf K H (.str x) (.type "str")
 | flt (x:UInt64):TyOf K H (.flt x) (.type "float")
 | lst {a:Addr} {xs:List V} (e:H a=some (.lst xs)):TyOf K H (.ref a) (.type "list")
 | frz {a:Addr} {o:Obj} {xs:List V} (e:H a=some (.frz o (.lst xs))):TyOf K H (.ref a) (.type "list")
 | tup {a:Addr} {xs:List V} (e:H a=some (.tup xs)):TyOf K H (.ref a) (.type "tuple")
 | dK {a:Addr} {kvs:List (Key × V)} (e:H a=some (.dK kvs)):TyOf K H (.ref a) (.type "dict")
 | dT {a:Addr} {kvs:List (List Key × V)} (e:H a=some (.dT kvs)):TyOf K H (.ref a) (.type "dict")
 | ins {a C dx:Addr} {fs:List (Str × V)} (e:H a=some (.ins C dx fs)) (cl:Cls K C) (ha:W.findIn K (.ref C) "__class__" = some (some (.builtin "object.__class__")))
   (hn:W.specialIn K (.builtin "object.__class__") "__get__" = some (some (.builtin "getset_descriptor.__get__"))) (htk:W.takesIn K (.builtin "object.__class__")=some true)
   (hm:W.mroIn K C (.type "object")=some true):TyOf K H (.ref a) (.ref C)
theorem ph {x:V}{u t:xK}(I:Inv X pins σ H s)(rx:RelV x u)(ty:TyOf X.K H x t)(e:W.kitOne X.K t c=some b)(h:∀tk,Q (.bool b) { s with toks:=tk }) :
  yb (model X.prog X.w) A (call (.builtin "isinstance") [u,c]) Q E s:=by
 cases ty with
 | non=>cases (show u=xK.none from rx); exact W.kia_one W.kitx_none I.kIn True.intro e (λ z=>nomatch z) h
 | bl y=>cases (show u=xK.bool y from rx); exact W.kia_one W.kitx_bool I.kIn True.intro e (λ z=>nomatch z) h
 | int i=>obtain⟨t,q⟩:=(show ∃t,u=xK.int i t from rx); cases q; exact W.kia_one W.kitx_int I.kIn True.intro e (λ z=>nomatch z) h
 | str y=>obtain⟨t,q⟩:=(show ∃t,u=xK.str y t from rx); cases q; exact W.kia_one W.kitx_str I.kIn True.intro e (λ z=>nomatch z) h
 | flt y=>obtain⟨t,q⟩:=(show ∃t,u=xK.float y t from rx); cases q; exact W.kia_one W.kitx_float I.kIn True.intro e (λ z=>nomatch z) h
 | @lst a xs ea =>
  cases (show u=xK.ref a from rx)
  obtain⟨_,_,n,_,h1⟩:=(show ObjOk X.prog X.w H s.heap a (.lst xs) from I.hok a _ ea)
  exact W.kia_one W.kitx_list I.kIn ⟨_,h1,rfl⟩ e (λ z=>nomatch z) h
 | @frz a ob xs ea =>
  cases (show u=xK.ref a from rx)
  obtain⟨_,_,_,n,_,h1⟩:=(show ObjOk X.prog X.w H s.heap a (.frz ob (.lst xs)) from I.hok a _ ea)
  exact W.kia_one W.kitx_list I.kIn ⟨_,h1,rfl⟩ e (λ z=>nomatch z) h
 | @tup a xs ea =>
  cases (show u=xK.ref a from rx)
  obtain⟨_,_,_,p⟩:=(show ObjOk X.prog X.w H s.heap a (.tup xs) from I.hok a _ ea)
  obtain⟨o,h1,h2,_⟩:=p
  exact W.kia_one W.kitx_tuple I.kIn ⟨o,h1,h2⟩ e (λ z=>nomatch z) h
 | @dK a kvs ea =>
  cases (show u=xK.ref a from rx)
  obtain⟨_,_,vs,_,p⟩:=(show ObjOk X.prog X.w H s.heap a (.dK kvs) from I.hok a _ ea)
  obtain⟨o,es,ep,h1,h2,_⟩:=p
  exact W.kia_one W.kitx_dict I.kIn ⟨o,h1,h2.1⟩ e (λ z=>nomatch z) h
 | @dT a kvs ea =>
  cases (show u=xK.ref a from rx)
  obtain⟨_,_,xs,_,o,es,ep,h1,h2,_⟩:=(show ObjOk X.prog X.w H s.heap a (.dT kvs) from I.hok a _ ea)
  exact W.kia_one W.kitx_dict I.kIn ⟨o,h1,h2.1⟩ e (λ z=>nomatch z) h
 | @ins a C dx fs ea cl ha hn htk hm =>
  cases (show u=xK.ref a from rx)
  obtain⟨mA,O,_⟩:=uU I.hok ea
  obtain⟨od,J,_⟩:=O.look
  exact W.kia_one (W.kitx_own (cl.get _) cl.hd ha hn htk hm) I.kIn J e (λ z=>nomatch z) h
end
structure Room (k:Nat) (A:Around):Prop where
 hd:A.handled=none
 dp:A.depth+3 * k+5<recursionLimit
 un:A.units+16 * k+200<cLine
 gd:A.guards=some []
theorem Room.mono {j k:Nat}{A:Around}(r:Room k A)(h:j<=k):Room j A:=⟨r.hd,by have:=r.dp; omega,by have:=r.un; omega,r.gd⟩
theorem Room.deeper {k:Nat}{A:Around}(r:Room (k+1) A)(env:Env):Room k (A.deeper env) :=
 ⟨r.hd,by have:=r.dp; show A.depth+1+3 * k+5<_; omega,by have:=r.un; show A.units+3+16 * k+200<_; omega,r.gd⟩
theorem Room.in1 {k:Nat}{A:Around}(r:Room (k+1) A):Room k A.in1 :=
 ⟨r.hd,by have:=r.dp; show A.depth+3 * k+5<_; omega,by have:=r.un; show A.units+1+16 * k+200<_; omega,r.gd⟩
theorem nN {A:Around}{C:Addr}{us:List xK}{kw:List (Str × xK)}:(A.under (.builtin "type.__call__" ⟨.ref C::us,kw⟩)).depth=A.depth+1:=by
 first | rfl | simp[Around.under,Code.weight,Code.isCreation,Code.isGuard,Code.isCaller,Code.frames,Code.isFrame,guardIds]
theorem nO {A:Around}{C:Addr}{us:List xK}{kw:List (Str × xK)}:(A.under (.builtin "type.__call__" ⟨.ref C::us,kw⟩)).units=A.units+1:=by
 first | rfl | simp[Around.under,Code.cUnits,Code.frames,Code.isFrame]
theorem Room.make {k:Nat}{A:Around}(r:Room (k+1) A)(C:Addr)(us:List xK)(kw:List (Str × xK)):Room k (A.under (.builtin "type.__call__" ⟨.ref C::us,kw⟩)) :=
 ⟨r.hd,by have:=r.dp; rw[nN]; omega,by have:=r.un; rw[nO]; omega,by first | exact r.gd | (have:=r.gd; simpa [Around.under,Code.isGuard,guardIds] using this)⟩
theorem Room.depth {k:Nat}{A:Around}(r:Room k A):A.depth<recursionLimit:=by have:=r.dp; omega
theorem Room.units {k:Nat}{A:Around}(r:Room k A):A.units+64<cLine:=by have:=r.un; omega
def tNil:TA:=λ _ H Q=>Q [] H
def tCons (ta:TE)(tr:TA):TA:=λ σ H Q=>ta σ H λ x H1=>tr σ H1 λ xs H2=>Q (x::xs) H2
section
variable {X:Cx}{e:Expr}{es:List Expr}{te:TE}{t:TA}{pos:Pos}
theorem wx:PA X [] tNil:=λ _ _ _ _ H Q I h=>Calls.spliced_nil ⟨[],H,I,.nil,h⟩
theorem uW (ha:PE X e te)(hr:PA X es t)(hs:starEach (e::es) X.env=(false,eval e X.env)::starEach es X.env:=by rfl):PA X (e::es) (tCons te t):=by
 intro pos pins s σ H Q I h
 rw[hs]
 show yb _ _ (spliced ((false,eval e X.env)::backTo pos (starEach es X.env))) _ _ s
 refine Calls.spliced_cons (thn (ha pins s σ H _ I h) λ u s1 ⟨x,H1,I1,r1,q1⟩=>?_)
 exact thn (hr pos pins s1 σ H1 _ I1 q1) λ us s2 ⟨xs,H2,I2,r2,q2⟩=>⟨x::xs,H2,I2,.cons r1 r2,q2⟩
def tTup (t:TA):TE:=λ σ H Q=>t σ H λ xs H1=>xs.length<=xV/\∀p,H1 p=none->Q (.ref p) (upd H1 p (.tup xs))
def tLst (t:TA):TE:=λ σ H Q=>t σ H λ xs H1=>xs.length<=xV/\∀p,H1 p=none->Q (.ref p) (upd H1 p (.lst xs))
theorem wy {x1}(h:PA X es t):PE X (.Tuple es x1 pos) (tTup t):=by
 intro pins s σ H Q I hq
 refine wpAny_Tuple_spliced (thn (h pos pins s σ H _ I hq) λ us s1 ⟨xs,H1,I1,r,z,q⟩=>⟨by rw[<- r.length]; exact z,?_⟩)
 have hf:H1 s1.heap.objs.size=none:=I1.hok.fresh (xL _)
 refine⟨.ref s1.heap.objs.size,upd H1 s1.heap.objs.size (.tup xs),I1.laid (t':=s1.toks) (λ b u e=>xM _ e) (xL _) ?_,rfl,q _ hf⟩
 exact⟨z,us,r,⟨_,xW _ rfl,rfl,_,rfl,rfl⟩⟩
theorem wz (h:PA X es t):PE X (.List es pos) (tLst t):=by
 intro pins s σ H Q I hq
 refine wpAny_List_spliced (thn (h pos pins s σ H _ I hq) λ us s1 ⟨xs,H1,I1,r,z,q⟩=>⟨by rw[<- r.length]; exact z,?_⟩)
 have hf:H1 s1.heap.objs.size=none:=I1.hok.fresh (xL _)
 refine⟨.ref s1.heap.objs.size,upd H1 s1.heap.objs.size (.lst xs),I1.laid (t':=s1.toks) (λ b u e=>xM _ e) (xL _) ?_,rfl,q _ hf⟩
 exact⟨z,us,0,r,xW _ rfl⟩
end
abbrev Sp:=List V->Hp->VK->XK->Prop
abbrev CXT:=List Env->Hp->xO->XK->xK->xO->Prop
structure Env0 (P:yk) (w:World) (K:W.Frag) (mg:Str->Option xK) (base:Heap) (A:Around) (outer:List Env) (s:xO) (H:Hp):Prop where
 frames:A.frames=some outer
 mod:Mod K mg base
 bs:∀b o,base.get? b=some o->s.heap.get? b=some o/\H b=none
 bsz:base.objs.size<=s.heap.objs.size
 funs:s.heap.FunFrames base outer
 frf:∀b∈frs outer,H b=none
 hok:HOk P w H s.heap
 bare:AllBare s.gens
def CE (outer:List Env)(P:yk)(w:World)(H:Hp)(s:xO)(Q:VK)(u:xK)(s':xO):Prop :=
 ∃v H',s'.os=s.os/\AllBare s'.gens/\Un (frs outer) [] H H' s.heap s'.heap/\HOk P w H' s'.heap/\RelV v u/\Q v H'
def CR (CX:CXT)(outer:List Env)(P:yk)(w:World)(H:Hp)(s:xO)(Q:VK)(E:XK)(r:Result)(s':xO):Prop :=
 match r with
 | .ok (.ret u)=>CE outer P w H s Q u s'
 | .ok _=>False
 | .error e=>CX outer H s E e s'
structure FnOk (P:yk) (w:World) (K:W.Frag) (mg:Str->Option xK) (base:Heap) (CX:CXT) (k:Nat) (f:Addr) (fd:yM) (ps:List Str) (sp:Sp):Prop where
 len:∀vs H Q E,sp vs H Q E->vs.length=ps.length
 run:∀(A:Around) (outer:List Env) (s:xO) (H:Hp) (args:Args) (us:List xK) (vs:List V) (Q:VK) (E:XK),Room k A->Env0 P w K mg base A outer s H->BindsTo s fd args (ps.zip us)->Vals vs us->sp vs H Q E ->
  codeAny (model P w) A (.call (.ref f) args) (CR CX outer P w H s Q E) s
theorem FnOk.mono {P:yk}{w:World}{K:W.Frag}{mg:Str->Option xK}{base:Heap}{CX:CXT}{j k:Nat}{f:Addr}{fd:yM}{ps:List Str}{sp:Sp}(F:FnOk P w K mg base CX j f fd ps sp)(h:j<=k) :
  FnOk P w K mg base CX k f fd ps sp:=⟨F.len,λ A outer s H args us vs Q E hr=>F.run A outer s H args us vs Q E (hr.mono h)⟩
theorem FnOk.imp {P:yk}{w:World}{K:W.Frag}{mg:Str->Option xK}{base:Heap}{CX:CXT}{k:Nat}{f:Addr}{fd:yM}{ps:List Str}{sp sp':Sp}(F:FnOk P w K mg base CX k f fd ps sp)
  (h:∀vs H Q E,sp' vs H Q E->sp vs H Q E):FnOk P w K mg base CX k f fd ps sp' :=
 ⟨λ vs H Q E q=>F.len vs H Q E (h _ _ _ _ q),λ A outer s H args us vs Q E hr he hb hv hs=>F.run A outer s H args us vs Q E hr he hb hv (h _ _ _ _ hs)⟩
theorem Env0.make {P:yk}{w:World}{K:W.Frag}{mg:Str->Option xK}{base:Heap}{A:Around}{outer:List Env}{s:xO}{H:Hp}(e:Env0 P w K mg base A outer s H)(C:Addr)(us:List xK)(kw:List (Str × xK)) :
  Env0 P w K mg base (A.under (.builtin "type.__call__" ⟨.ref C::us,kw⟩)) outer s H:=⟨by first | exact e.frames | (simpa [Around.under,Code.envs,Code.isFrame,pushEnvs] using e.frames),e.mod,e.bs,e.bsz,e.funs,e.frf,e.hok,e.bare⟩
theorem Env0.in1 {P:yk}{w:World}{K:W.Frag}{mg:Str->Option xK}{base:Heap}{A:Around}{outer:List Env}{s:xO}{H:Hp}(e:Env0 P w K mg base A outer s H) :
  Env0 P w K mg base A.in1 outer s H:=⟨e.frames,e.mod,e.bs,e.bsz,e.funs,e.frf,e.hok,e.bare⟩
section
variable {X:Cx}{pins:List (Addr × Obj)}{σ:St}{H:Hp}{s s':xO}
theorem Inv.env0 (I:Inv X pins σ H s):Env0 X.prog X.w X.K X.mg X.base X.A X.stack s H :=
 ⟨I.ok.frames,I.ok.mod,I.bs,yv I.ok.bsz I.sz,I.stack,I.stkFree,I.hok,I.bare⟩
theorem Inv.after {Q:VK}{u:xK}(I:Inv X pins σ H s)(h:CE X.stack X.prog X.w H s Q u s'):EP X pins σ Q u s':=by
 obtain⟨v,H',os,bare,un,hok,r,q⟩:=h
 obtain⟨hh,g,d,t,os'⟩:=s'
 obtain rfl:os'=s.os:=os
 exact⟨v,H',I.call (h':=hh) (g':=g) (d':=d) (t':=t) (ch:=[]) un hok bare (λ b z=>absurd z (by simp)),r,q⟩
end
def tCall (sp:Sp)(dvs:List V)(E:XK)(t:TA):TE:=λ σ H Q=>t σ H λ vs H1=>sp (vs++dvs) H1 Q E
def Binds (K:W.Frag)(fd:yM)(ps:List Str)(ds:List xK):Prop :=
 ∀(s:xO) (us:List xK),K.In s.heap->(us++ds).length=ps.length->BindsTo s fd ⟨us,[]⟩ (ps.zip (us++ds))
theorem Binds.all {K:W.Frag}{fd:yM}{ps:List Str}(h:∀us:List xK,us.length=ps.length->bindArgs fd ⟨us,[]⟩=pure (ps.zip us)):Binds K fd ps []:=λ s us _ hl=>by
 rw[y0] at hl ⊢
 exact .of_eq (h us hl)
def pj (CX:CXT)(X:Cx)(E:XK):Prop:=∀(pins:List (Addr × Obj)) (σ:St) (H:Hp) (s:xO) (e:xK) (s':xO),Inv X pins σ H s->CX X.stack H s E e s'->X.xe e s'
section
variable {X:Cx}{CX:CXT}{k:Nat}{f C:Addr}{fd:yM}{ps:List Str}{sp:Sp}{dvs:List V}{ds:List xK}{E:XK}{x m:Str}{p pos apos:Pos}{e o:Expr}{es:List Expr}{ta:TE}{t:TA}
theorem wA {pins:List (Addr × Obj)}{σ:St}{H:Hp}{s:xO}{Q:VK}{us:List xK}{vs:List V}(F:FnOk X.prog X.w X.K X.mg X.base CX k f fd ps sp)(hr:Room k X.A)(hb:Binds X.K fd ps ds)(hd:Vals dvs ds)(hx:pj CX X E)
  (I:Inv X pins σ H s) (r:Vals vs us) (h:sp (vs++dvs) H Q E):yb (model X.prog X.w) X.A (call (.ref f) us) (EP X pins σ Q) X.xe s:=by
 have r2:Vals (vs++dvs) (us++ds):=r.append hd
 have hl:(us++ds).length=ps.length:=by rw[<- r2.length]; exact F.len _ _ _ _ h
 refine wpAny_call (codeAny_mono (F.run X.A X.stack s H ⟨us,[]⟩ (us++ds) (vs++dvs) Q E hr I.env0 (hb s us I.kIn hl) r2 h) λ r s' hq=>?_)
 cases r with
 | error e=>exact hx pins σ H s e s' I hq
 | ok fl =>
  cases fl with
  | ret u=>exact I.after hq
  | next=>exact False.elim hq
  | brk=>exact False.elim hq
  | cont=>exact False.elim hq
theorem pk (F:FnOk X.prog X.w X.K X.mg X.base CX k f fd ps sp)(hr:Room k X.A)(hg:Gl X x)(hm:X.mg x=some (.ref f))(hk:W.keepIn X.K (.ref f)=true)(hb:Binds X.K fd ps ds)(hd:Vals dvs ds)(hx:pj CX X E)
  (ha:PA X (e::es) t) (hdb:(x == ("__debug__" : Str))=false:=by decide) (he:starEach (e::es) X.env=(false,eval e X.env)::starEach es X.env:=by rfl) (hpl:(backTo pos (starEach es X.env)).any (·.1)=false:=by rfl) :
  PE X (.Call (.Name x p) (e::es) [] pos) (tCall sp dvs E t):=by
 intro pins s σ H Q I h
 refine wpAny_Call_Name_kw (fo I hg hm ?_ hdb)
 refine W.callWith_K (h₀:=X.base) I.ok.mod.kin hk (thn (ha pos pins s σ H _ I h) λ us s1 ⟨vs,H1,I1,r,q⟩=>⟨I1.kIn,?_⟩) he hpl
 exact wA F hr hb hd hx I1 r q
end
section
variable {X:Cx}{CX:CXT}{k:Nat}{f C:Addr}{fd:yM}{ps ks:List Str}{sp:Sp}{E:XK}{x m:Str}{p pos apos kpos:Pos}{e o:Expr}{es:List Expr}{kws:List Keyword}{te ta:TE}{t tk:TA}{nm:Option Str}
variable {g:List xK->List xK->List xK}{gV:List V->List V->List V}
end
structure FnScope (N P:List Str) (sc:Scope):Prop where
 kind:sc.kind=.function
 co:sc.isCoroutine=false
 gen:sc.isGenerator=false
 nd:N.Nodup
 pre:N.take P.length=P
 par:∀x∈P,sc.names.lookup x=some .local\/sc.names.lookup x=some .cell
 nofree:∀y∈sc.names,y.2≠.free
theorem kl {kindOf:Str->Option yH}{x:Str}:∀{binds:List (Str × xK)} {m:Str->Option xK},(∀v,(x,v) ∉ binds)->bindL kindOf binds m x=m x
 | [],_,_=>rfl
 | (n,v)::r,m,h=>by
  unfold bindL
  rw[kl λ w hw=>h w (xT _ hw)]
  split
  ·have:x≠n:=by rintro rfl; exact h v ya
   simp[this]
  ·rfl
theorem km {kindOf:Str->Option yH}{x:Str}:∀{binds:List (Str × xK)} {m:Str->Option xK},(∀v,(x,v) ∉ binds)->bindC kindOf binds m x=m x
 | [],_,_=>rfl
 | (n,v)::r,m,h=>by
  unfold bindC
  rw[km λ w hw=>h w (xT _ hw)]
  split
  ·rfl
  ·have:x≠n:=by rintro rfl; exact h v ya
   simp[this]
theorem ko {kindOf:Str->Option yH}{x:Str}{v:xK}:∀{P:List Str} {vs:List xK} {i:Nat} {m:Str->Option xK},P.Nodup->P[i]? = some x->vs[i]? = some v->kindOf x=some .local ->
  bindL kindOf (P.zip vs) m x=some v
 | [],_,_,_,_,h,_,_=>by simp at h
 | _::_,[],_,_,_,_,h,_=>by simp at h
 | p::P,w::vs,0,m,nd,h1,h2,hk=>by
  simp at h1 h2; subst h1; subst h2
  show bindL kindOf ((p,w)::P.zip vs) m p=_
  unfold bindL
  rw[kl λ v hv=>(zu.mp nd).1 (Ao hv).1,if_pos hk]
  simp
 | p::P,w::vs,i+1,m,nd,h1,h2,hk=>by
  show bindL kindOf ((p,w)::P.zip vs) m x=_
  unfold bindL
  exact ko (i:=i) (zu.mp nd).2 (by simpa using h1) (by simpa using h2) hk
theorem kr {kindOf:Str->Option yH}{x:Str}{v:xK}:∀{P:List Str} {vs:List xK} {i:Nat} {m:Str->Option xK},P.Nodup->P[i]? = some x->vs[i]? = some v->kindOf x≠some .local ->
  bindC kindOf (P.zip vs) m x=some v
 | [],_,_,_,_,h,_,_=>by simp at h
 | _::_,[],_,_,_,_,h,_=>by simp at h
 | p::P,w::vs,0,m,nd,h1,h2,hk=>by
  simp at h1 h2; subst h1; subst h2
  show bindC kindOf ((p,w)::P.zip vs) m p=_
  unfold bindC
  rw[km λ v hv=>(zu.mp nd).1 (Ao hv).1,if_neg hk]
  simp
 | p::P,w::vs,i+1,m,nd,h1,h2,hk=>by
  show bindC kindOf ((p,w)::P.zip vs) m x=_
  unfold bindC
  exact kr (i:=i) (zu.mp nd).2 (by simpa using h1) (by simpa using h2) hk
def start (N:List Str)(vs:List V):St:=vs.map some++List.replicate (N.length - vs.length) none
def cxOf (CX:CXT)(P:yk)(w:World)(K:W.Frag)(mg:Str->Option xK)(base:Heap)(N:List Str)(qual:Str)(scope:Scope)(f:Addr)(cd:xK)(A:Around)(outer:List Env)(s:xO)(H:Hp)(E:XK):Cx where
 prog:=P
 w:=w
 K:=K
 mg:=mg
 base:=base
 A:=A.deeper (envOfC qual scope s.heap.objs.size f cd)
 N:=N
 s₀:=s
 H₀:=H
 env:=envOfC qual scope s.heap.objs.size f cd
 outer:=outer
 stack:=envOfC qual scope s.heap.objs.size f cd::outer
 ex:=[]
 calm:=true
 fn:=λ _=>true
 pn:=[]
 xe:=λ e s'=>yb (model P w) (A.deeper (envOfC qual scope s.heap.objs.size f cd)) (leaving (envOfC qual scope s.heap.objs.size f cd) e) (λ _ s''=>CX outer H s E e s'') (λ e' s''=>CX outer H s E e' s'') s'
theorem mH {sc:Scope}{n:Nat}{x:Str}(h:sc.names.lookup x=some .cell):∃c,(cellsFrom n sc.names []).lookup x=some c:=by
 have q:=W.cellsFrom_some sc.names n [] (.inl h)
 exact Ah.mp q
theorem ku {CX:CXT}{P:yk}{w:World}{K:W.Frag}{mg:Str->Option xK}{base:Heap}{N ps:List Str}{qual:Str}{scope:Scope}{f:Addr}{cd:xK}{A:Around}{outer:List Env}{s s1:xO}{H:Hp}{E:XK}{us:List xK}{vs:List V}
  (S:FnScope N ps scope) (hd:A.handled=none) (e0:Env0 P w K mg base A outer s H) (hl:vs.length=ps.length) (r:Vals vs us)
  (x:InCallC s s.heap.objs.size (bindL (envOfC qual scope s.heap.objs.size f cd).kindOf (ps.zip us) λ _=>none) (cellsFrom (s.heap.objs.size+1) scope.names []) (bindC (envOfC qual scope s.heap.objs.size f cd).kindOf (ps.zip us) λ _=>none) s1) :
  Inv (cxOf CX P w K mg base N qual scope f cd A outer s H E) [] (start N vs) H s1:=by
 have hpl:ps.length<=N.length:=by have:=congrArg List.length S.pre; rw[yO] at this; omega
 obtain⟨h1,tk,rfl,hk⟩:=x.done
 have noA:∀b:Addr,b ∉ (cxOf CX P w K mg base N qual scope f cd A outer s H E).ex:=λ b z=>absurd (show b∈([]:List Addr) from z) (by simp)
 refine⟨⟨e0.mod,S.kind,rfl,rfl,xL _,λ y z c h1 h2=>?_,λ y hy=>?_,λ y c _ h=>?_,λ _=>hd,Around.frames_deeper e0.frames,.inr ⟨rfl,rfl⟩,λ b z=>absurd z (noA b),e0.bs,e0.bsz,λ b _ _=>noA b,λ b z=>absurd z (noA b),e0.funs,e0.frf⟩,
  rfl,e0.bare,Un.kept hk,⟨_,x.toInCall.ns,λ i y v h1 h2 h3=>?_⟩,λ y c h=>⟨_,x.cell y c h⟩,e0.hok.fresh (xL _),λ y c h=>?_,λ p hp=>absurd (show p∈([]:List (Addr × Obj)) from hp) (by simp),e0.hok.kept hk,?_⟩
 ·exact name_of_addr x.apart (PySem.mem_of_lookup h1) (PySem.mem_of_lookup h2)
 ·have hy:scope.names.lookup y=some .cell\/scope.names.lookup y=some .free:=hy
  rcases hy with hy | hy
  ·exact mH hy
  ·exact absurd rfl (S.nofree _ (PySem.mem_of_lookup hy))
 ·exact Nat.le_of_lt (x.above y c (PySem.mem_of_lookup h))
 ·have hi:i<vs.length:=by
   unfold start at h2
   by_cases hi:i<vs.length
   ·exact hi
   ·rw[Aa (by simpa using hi)] at h2
    rw[y7] at h2
    split at h2 <;> cases h2
  have ha:vs[i]? = some v:=by
   unfold start at h2
   rw[zC (by simpa using hi),yg] at h2
   cases e:vs[i]? with
   | none=>rw[e] at h2; cases h2
   | some a=>rw[e] at h2; cases h2; rfl
  obtain⟨u,hu,rv⟩:=r.get ha
  have hp:ps[i]? = some y:=by
   rw[<- S.pre,List.getElem?_take_of_lt (by omega)]; exact h1
  have ndP:ps.Nodup:=by rw[<- S.pre]; exact S.nd.sublist (List.take_sublist _ _)
  refine⟨u,rv,?_⟩
  rcases S.par y (zt hp) with k | k
  ·exact .inl ⟨k,ko ndP hp hu k⟩
  ·obtain⟨c,e⟩:=mH (n:=s.heap.objs.size+1) k
   refine .inr ⟨.inl k,c,e,?_⟩
   have q:=x.cell y c e
   rw[kr ndP hp hu (by show scope.names.lookup y≠_; rw[k]; decide)] at q
   exact q
 ·exact e0.hok.fresh (Nat.le_of_lt (x.above y c (PySem.mem_of_lookup h)))
 ·unfold start
  show _=N.length
  rw[yB,xQ,zU]
  omega
theorem fn_of {CX:CXT}{P:yk}{w:World}{K:W.Frag}{mg:Str->Option xK}{base:Heap}{k:Nat}{f:Addr}{name qual:Str}{params:Arguments}{body:List Stmt}{scope:Scope}{dV kV doc pm cdv ct oc:xK}{an od:Option Addr}
  {osl:Array (Option xK)} {N ps:List Str} {sp:Sp} (lk:K.lookup f=some ⟨oc,od,.func (W.fnOf name qual params body scope dV kV doc pm an cdv ct),osl⟩) (hcd:W.codeIn K cdv qual=true) (S:FnScope N ps scope)
  (len:∀vs H Q E,sp vs H Q E->vs.length=ps.length)
  (hbody:∀(A:Around) (outer:List Env) (s:xO) (H:Hp) (vs:List V) (Q:VK) (E:XK),Room k (A.deeper (envOfC qual scope s.heap.objs.size f cdv))->sp vs H Q E ->
   ∃t,PSs (cxOf CX P w K mg base N qual scope f cdv A outer s H E) body t/\t { nx:=λ _ H'=>Q .non H',rt:=Q } (start N vs) H) :
  FnOk P w K mg base CX (k+1) f (W.fnOf name qual params body scope dV kV doc pm an cdv ct) ps sp:=by
 refine⟨len,λ A outer s H args us vs Q E hr e0 hb r hsp=>?_⟩
 have hl:=len _ _ _ _ hsp
 have KX:K.In s.heap:=e0.mod.kin.keeps λ b o e=>(e0.bs b o e).1
 have lim:s.heap.NoLimit:=e0.mod.nolimit.keeps λ b o e=>(e0.bs b o e).1
 have hkind:∀y∈ps.zip us,scope.names.lookup y.1=some .local\/(scope.names.lookup y.1=some .cell/\((cellsFrom (s.heap.objs.size+1) scope.names []).lookup y.1).isSome=true):=λ ⟨n,v⟩ hy=>by
  rcases S.par n (Ao hy).1 with q | q
  ·exact .inl q
  ·exact .inr ⟨q,W.cellsFrom_some _ _ _ (.inl q)⟩
 refine codeAny_call_function hr.depth (KX _ _ lk) rfl S.co S.gen rfl (W.codeRec_of KX hcd) (hb _ _ _ _ ?_)
 refine wpAny_newFunctionEnv_cells S.kind hkind λ env he s1 x=>?_
 subst he
 refine⟨lim.keeps x.toInCall.keep,codeAny_func ?_⟩
 obtain⟨t,ht,hq⟩:=hbody A outer s H vs Q E (hr.deeper _) hsp
 have I:Inv (cxOf CX P w K mg base N qual scope f cdv A outer s H E) [] (start N vs) H s1:=ku S hr.hd e0 hl r x
 refine y8 (ht [] s1 (start N vs) H _ I hq) (λ fl s' hs=>?_) λ e s' hs=>hs
 have fin:∀{σ':St} {H':Hp} {v:V} {u:xK},Inv (cxOf CX P w K mg base N qual scope f cdv A outer s H E) [] σ' H' s'->RelV v u->Q v H'->CE outer P w H s Q u s' :=
  λ {σ' H' v u} J rv q=>⟨v,H',J.os,J.bare,J.base,J.hok,rv,q⟩
 cases fl with
 | ret u =>
  obtain⟨v,σ',H',J,rv,q⟩:=hs
  exact fin J rv q
 | next =>
  obtain⟨σ',H',J,q⟩:=hs
  exact fin (v:=V.non) (u:=xK.none) J rfl q
 | brk =>
  obtain⟨_,_,_,q⟩:=hs
  exact False.elim q
 | cont =>
  obtain⟨_,_,_,q⟩:=hs
  exact False.elim q
section
variable {X:Cx}{x:Str}{p pos:Pos}{e:Expr}{es:List Expr}{t:TA}{id T:String}{r:List V->Hp->VK->Prop}
def tCB (r:List V->Hp->VK->Prop)(t:TA):TE:=λ σ H Q=>t σ H λ vs H1=>r vs H1 Q
theorem rY (hc:CallR X (.builtin id) r)(hg:Gl X x)(hm:X.mg x=none)(hv:bootBuiltins x=some (.builtin id))(ha:PA X (e::es) t)(hn:x ≠ "__name__" := by decide)(hdb:(x == ("__debug__" : Str))=false:=by decide)
  (he:starEach (e::es) X.env=(false,eval e X.env)::starEach es X.env:=by rfl) (hpl:(backTo pos (starEach es X.env)).any (·.1)=false:=by rfl):PE X (.Call (.Name x p) (e::es) [] pos) (tCB r t):=by
 intro pins s σ H Q I h
 refine wpAny_Call_Name_kw (ke I hg hm hv ?_ hn hdb)
 exact PyProof.Rows.callWith_builtin1 (thn (ha pos pins s σ H _ I h) λ us s1 ⟨vs,H1,I1,r1,q1⟩=>hc pins s1 σ H1 vs us Q I1 r1 q1) he hpl
theorem pq (hc:CallR X (.type T) r)(hg:Gl X x)(hm:X.mg x=none)(hv:bootBuiltins x=some (.type T))(ha:PA X (e::es) t)(hn:x ≠ "__name__" := by decide)(hdb:(x == ("__debug__" : Str))=false:=by decide)
  (he:starEach (e::es) X.env=(false,eval e X.env)::starEach es X.env:=by rfl) (hpl:(backTo pos (starEach es X.env)).any (·.1)=false:=by rfl):PE X (.Call (.Name x p) (e::es) [] pos) (tCB r t):=by
 intro pins s σ H Q I h
 refine wpAny_Call_Name_kw (ke I hg hm hv ?_ hn hdb)
 exact PyProof.Rows.callWith_type1 (thn (ha pos pins s σ H _ I h) λ us s1 ⟨vs,H1,I1,r1,q1⟩=>hc pins s1 σ H1 vs us Q I1 r1 q1) he hpl
end
end L2
namespace HT
open PySem PyProof.Rows
section
variable {prog:yk}{w:World}{A:Around}{E:xK->xO->Prop}{s:xO}
theorem cat_tup {t b:Addr}{vs ws:List xK}{Q:xK->xO->Prop}(ht:IsTup s.heap t vs.toArray)(hb:IsTup s.heap b ws.toArray)(hv:vs≠[])
  (h1:ws=[]->Q (.ref t) s) (h2:ws≠[]->Q (.ref s.heap.objs.size) { s with heap:=s.heap.push { cls:=.type "tuple",data:=.seq (vs++ws).toArray } })
  (hsz:vs.length+ws.length<=xV):yb (model prog w) A (binaryOp .Add (.ref t) (.ref b)) Q E s:=by
 obtain⟨⟨cls,dd,data,sl⟩,ho,hc,n,hd⟩:=id ht
 obtain⟨⟨cls2,dd2,data2,sl2⟩,ho2,hc2,n2,hd2⟩:=id hb
 simp only at hc hd hc2 hd2
 subst hc hd hc2 hd2
 have e:vs.toArray++ws.toArray=(vs++ws).toArray:=by simp
 by_cases hw:ws=[]
 ·exact concat_meets ⟨_,ho,rfl⟩ ⟨_,ho2,rfl⟩ noFill_tuple_add seq_tuple_add PySem.F.slot_tuple_add PySem.F.entry_tuple_add (PySem.F.args_tuple_add_2 _ _)
   (tuple_addW1 t b vs.toArray ws.toArray n n2 dd dd2 sl sl2 (by simpa using hv) (by simp[hw])) ⟨ho,ho2,h1 hw⟩
 ·refine concat_meets ⟨_,ho,rfl⟩ ⟨_,ho2,rfl⟩ noFill_tuple_add seq_tuple_add PySem.F.slot_tuple_add PySem.F.entry_tuple_add (PySem.F.args_tuple_add_2 _ _)
   (tuple_addW2 t b vs.toArray ws.toArray n n2 dd dd2 sl sl2 (by simpa using hv) (by simpa using hw) (by rw[xU,xU]; exact hsz)) ⟨ho,ho2,?_⟩
  rw[e]
  exact h2 hw
def sIx (n d:Nat):Option Int->Nat
 | none=>d
 | some v=>if v<0 then (v+(n:Int)).toNat else min v.toNat n
theorem sIx_none (n d:Nat):sIx n d none=d:=rfl
theorem sIx_nat (n d k:Nat):sIx n d (some (k:Int))=min k n:=by
 show (if (k:Int)<0 then ((k:Int)+(n:Int)).toNat else min (k:Int).toNat n)=min k n
 rw[if_neg (by omega),yR]
theorem wB (n d:Nat)(hd:d<=n)(o:Option Int):sIx n d o<=n:=by
 cases o with
 | none=>exact hd
 | some v =>
  show (if v<0 then (v+(n:Int)).toNat else min v.toNat n)<=n
  by_cases hv:v<0
  ·rw[if_pos hv]; omega
  ·rw[if_neg hv]; exact Nat.min_le_right _ _
theorem pr (v:Int)(n d:Nat):(if v<0 then max (v+(n:Int)) 0 else min v (n:Int))=((sIx n d (some v):Nat):Int):=by
 show (if v<0 then max (v+(n:Int)) 0 else min v (n:Int))=(((if v<0 then (v+(n:Int)).toNat else min v.toNat n):Nat):Int)
 by_cases hv:v<0
 ·simp only[if_pos hv]; omega
 ·simp only[if_neg hv]; omega
theorem nP (lo hi:Option Int)(n:Nat):Builtin.Slice.sliceAdjust lo hi 1 (n:Int)=(((sIx n 0 lo:Nat):Int),((sIx n n hi:Nat):Int)):=by
 have h1:¬ ((1:Int)<0):=by omega
 unfold Builtin.Slice.sliceAdjust
 simp only[h1,if_false]
 refine Prod.ext ?_ ?_
 ·cases lo with
  | none=>rfl
  | some v=>exact pr v n 0
 ·cases hi with
  | none=>rfl
  | some v=>exact pr v n n
theorem nQ (i j:Nat):Builtin.Slice.slicePlaces (i:Int) (j:Int) 1=j - i:=by
 unfold Builtin.Slice.slicePlaces
 have h1:(1:Int) > 0:=by omega
 simp only[h1,if_true,Int.ediv_one]
 split <;> omega
theorem i8 {v:xK}{o:Option Int}{Q:Option Int->xO->Prop}(p:IsPart v o)(h:Q o s):yb (model prog w) A (Builtin.Slice.slicePartIndex v) Q E s:=by
 cases p with
 | none=>exact slicePart_none h
 | int i t=>exact slicePart_int h
theorem dl {sl:Addr}{vl vu:xK}{lo hi:Option Int}{n:Nat}{Q:Int × Int × Nat->xO->Prop}(hs:s.heap.IsSliceOf sl vl vu .none)(pl:IsPart vl lo)(pu:IsPart vu hi)
  (h:Q (((sIx n 0 lo:Nat):Int),1,sIx n n hi - sIx n 0 lo) s):yb (model prog w) A (Builtin.Slice.sliceApplied (.ref sl) (pure (n:Int))) Q E s:=by
 obtain⟨os,hos,hcs,hds⟩:=id hs
 unfold Builtin.Slice.sliceApplied Builtin.Slice.sliceFields
 refine xI (xI (wpAny_field hos hds (x:=vl) rfl (xI (wpAny_field hos hds (x:=vu) rfl (xI (wpAny_field hos hds (x:=.none) rfl (xN ?_)))))))
 refine xI (slicePart_none ?_)
 show yb _ _ (if ((1:Int) == 0)=true then _ else _) _ _ s
 rw[if_neg (by decide)]
 refine xI (i8 pl (xI (i8 pu (xI (xN ?_)))))
 show yb _ _ (match Builtin.Slice.sliceAdjust lo hi 1 (n:Int) with | (lo,hi)=>pure (lo,(1:Int),Builtin.Slice.slicePlaces lo hi 1)) _ _ s
 rw[nP lo hi n]
 show yb _ _ (pure (((sIx n 0 lo:Nat):Int),(1:Int),Builtin.Slice.slicePlaces ((sIx n 0 lo:Nat):Int) ((sIx n n hi:Nat):Int) 1)) _ _ s
 rw[nQ]
 exact xN h
theorem rZ (xs:Array xK)(i k:Nat):((List.range k).filterMap λ (m:Nat)=>xs[((i:Int)+(m:Int) * 1).toNat]?).toArray=((xs.toList.drop i).take k).toArray:=by
 have e:(λ (m:Nat)=>xs[((i:Int)+(m:Int) * 1).toNat]?)=λ m=>xs[i+m]? := by
  funext m
  have:((i:Int)+(m:Int) * 1).toNat=i+m:=by omega
  rw[this]
 rw[e]
 have:=pick_run xs i k
 rw[List.filterMap_map] at this
 have e2:((λ x=>xs[x]?) ∘ λ x=>i+x)=λ m=>xs[i+m]? := rfl
 rw[e2] at this
 rw[this]
theorem getItem_tuple_cut {t sl:Addr}{items:Array xK}{vl vu:xK}{lo hi:Option Int}{Q:xK->xO->Prop}(ht:IsTup s.heap t items)(hs:s.heap.IsSliceOf sl vl vu .none)(pl:IsPart vl lo)(pu:IsPart vu hi)
  (hw:¬ (sIx items.size 0 lo=0/\sIx items.size items.size hi=items.size))
  (h:Q (.ref s.heap.objs.size) { s with heap:=s.heap.push { cls:=.type "tuple",data:=.seq ((items.toList.drop (sIx items.size 0 lo)).take (sIx items.size items.size hi - sIx items.size 0 lo)).toArray } })
  (hsz:items.size<=xV):yb (model prog w) A (getItem (.ref t) (.ref sl)) Q E s:=by
 have htake:sizeOk (.seq ((items.toList.drop (sIx items.size 0 lo)).take (sIx items.size items.size hi - sIx items.size 0 lo)).toArray):=by
  show ((items.toList.drop (sIx items.size 0 lo)).take (sIx items.size items.size hi - sIx items.size 0 lo)).toArray.size<=xV
  rw[xU,yO,zh,yZ]
  omega
 have hj:sIx items.size items.size hi<=items.size:=wB _ _ (xL _) hi
 obtain⟨os,hos,hcs,hds⟩:=id hs
 have hTs:s.TypeIs (.ref sl) "slice" := ⟨os,hos,hcs⟩
 unfold getItem
 try with_reducible refine wpAny_holding ?_
 first | refine xI (xN ?_) | skip
 refine xI (wpAny_sequenceKey ht.typeIs (by decide) ?_)
 refine xI (wpAny_callSpecial?_slot (name:=Str.ofString "__getitem__") ht.typeIs PyProof.Rows.slot_tuple_getitem
  (wpAny_call_entry PyProof.Rows.slot_tuple_getitem ht.typeIs entry_tuple_getitem ?_ (args_tuple_getitem _ _)))
 show yb _ _ (Builtin.Tuple.tupleItemsOf (.ref t) >>= _) _ _ s
 refine xI (tupleItemsOf_ ht ?_)
 refine xI (wpAny_typeOf hTs ?_)
 rw[if_pos (by decide)]
 refine xI (dl hs pl pu ?_)
 have hno:¬ ((((sIx items.size 0 lo:Nat):Int) == 0 && (1:Int) == 1 && (sIx items.size items.size hi - sIx items.size 0 lo) == items.size)=true):=by
  intro q
  rw[yD,yD] at q
  have q1:((sIx items.size 0 lo:Nat):Int)=0:=eq_of_beq q.1.1
  have q2:sIx items.size items.size hi - sIx items.size 0 lo=items.size:=eq_of_beq q.2
  exact hw ⟨by omega,by omega⟩
 show yb _ _ (if (((sIx items.size 0 lo:Nat):Int) == 0 && (1:Int) == 1 && (sIx items.size items.size hi - sIx items.size 0 lo) == items.size)=true then _ else _) _ _ s
 rw[if_neg hno,rZ]
 first
  | exact xI (m:=Builtin.Tuple.tupleExact _) (yF (xN ⟨_,rfl,xN h⟩) htake)
  | exact xI (m:=Builtin.Tuple.tupleExact _) (yF (xI (xN (xN ⟨_,rfl,xN h⟩))) htake)
  | exact xI (xI (m:=Builtin.Tuple.tupleExact _) (yF (xN (xN ⟨_,rfl,xN h⟩)) htake))
  | exact xI (xI (m:=Builtin.Tuple.tupleExact _) (yF (xN ⟨_,rfl,xN h⟩) htake))
end
end HT
namespace L2
open PySem PySem.Spec PyProof.Rows
abbrev TO:=St->Hp->(Option Int->Hp->Prop)->Prop
def PO (X:Cx)(e:Option Expr)(t:TO):Prop :=
 ∀(pins:List (Addr × Obj)) (s:xO) (σ:St) (H:Hp) (Q:Option Int->Hp->Prop),Inv X pins σ H s->t σ H Q ->
  yb (model X.prog X.w) X.A (evalPart e X.env) (λ u s'=>∃o H',Inv X pins σ H' s'/\IsPart u o/\Q o H') X.xe s
def pw:TO:=λ _ H Q=>Q none H
def tPart (t:TE):TO:=λ σ H Q=>t σ H λ x H1=>∃i,x=.int i/\Q (some i) H1
section
variable {X:Cx}{e:Expr}{te:TE}{lo hi:Option Expr}{tl th:TO}{pos p2:Pos}
theorem uX:PO X none pw:=by
 intro pins s σ H Q I h
 rw[evalPart_none]
 exact xN ⟨none,H,I,.none,h⟩
theorem uY (h:PE X e te):PO X (some e) (tPart te):=by
 intro pins s σ H Q I hw
 rw[evalPart_some]
 refine thn (h pins s σ H _ I hw) λ u s1 ⟨x,H1,I1,r1,q1⟩=>?_
 obtain⟨i,rfl,q⟩:=q1
 obtain⟨t,rfl⟩:=r1
 exact⟨some i,H1,I1,.int i t,q⟩
def SlR (X:Cx)(r:V->Option Int->Option Int->Hp->VK->Prop):Prop :=
 ∀(pins:List (Addr × Obj)) (s:xO) (σ:St) (H:Hp) (x:V) (v vl vu:xK) (lo hi:Option Int) (sl:Addr) (Q:VK),Inv X pins σ H s->RelV x v->s.heap.IsSliceOf sl vl vu .none->IsPart vl lo->IsPart vu hi->r x lo hi H Q ->
  ∃T id,typeLookup (.type T) "__getitem__" = pure (some (.builtin id))/\s.TypeIs v T/\yb (model X.prog X.w) X.A (getItem v (.ref sl)) (EP X pins σ Q) X.xe s
theorem SlR.or {r r':V->Option Int->Option Int->Hp->VK->Prop}(h:SlR X r)(h':SlR X r'):SlR X (λ x lo hi H Q=>r x lo hi H Q\/r' x lo hi H Q):=by
 intro pins s σ H x v vl vu lo hi sl Q I rx hs pl pu q
 rcases q with q | q
 ·exact h pins s σ H x v vl vu lo hi sl Q I rx hs pl pu q
 ·exact h' pins s σ H x v vl vu lo hi sl Q I rx hs pl pu q
def tSl (r:V->Option Int->Option Int->Hp->VK->Prop)(te:TE)(tl th:TO):TE:=λ σ H Q=>te σ H λ x H1=>tl σ H1 λ l H2=>th σ H2 λ u H3=>r x l u H3 Q
theorem r6 {r:V->Option Int->Option Int->Hp->VK->Prop}(hr:SlR X r)(he:PE X e te)(hl:PO X lo tl)(hu:PO X hi th):PE X (.Subscript e (.Slice lo hi none p2) pos) (tSl r te tl th):=by
 intro pins s σ H Q I h
 refine Subscript_ (thn (he pins s σ H _ I h) λ v s1 ⟨x,H1,I1,r1,q1⟩=>?_)
 refine wpAny_Slice (thn (hl pins s1 σ H1 _ I1 q1) λ vl s2 ⟨l,H2,I2,pl,q2⟩=>thn (hu pins s2 σ H2 _ I2 q2) λ vu s3 ⟨u,H3,I3,pu,q3⟩=>?_)
 rw[evalPart_none]
 refine xN ?_
 have I4:Inv X pins σ H3 { s3 with heap:=s3.heap.push { cls:=.type "slice",data:=.fields #[vl,vu,.none] } }:=I3.kept (t':=s3.toks) λ b ob q=>xM _ q
 obtain⟨T,id,hT,ht,hg⟩:=hr pins { s3 with heap:=s3.heap.push { cls:=.type "slice",data:=.fields #[vl,vu,.none] } } σ H3 x v vl vu l u s3.heap.objs.size Q I4 r1 (Heap.IsSliceOf.new ..) pl pu q3
 show yb (model X.prog X.w) X.A (subscriptTail e (.Slice lo hi none p2) v (.ref s3.heap.objs.size)) (EP X pins σ Q) X.xe { s3 with heap:=s3.heap.push { cls:=.type "slice",data:=.fields #[vl,vu,.none] } }
 exact tail_any (ops:=[.ref s3.heap.objs.size,v]) ht hT hg (by with_unfolding_all rfl)
def cutV (xs:List V)(lo hi:Option Int):List V:=(xs.drop (HT.sIx xs.length 0 lo)).take (HT.sIx xs.length xs.length hi - HT.sIx xs.length 0 lo)
theorem gK (xs:List V)(lo hi:Option Int):(cutV xs lo hi).length<=xs.length:=by
 unfold cutV
 rw[yO,zh]
 omega
def rSlT (K:W.Frag):V->Option Int->Option Int->Hp->VK->Prop:=λ x lo hi H Q=>∃a xs,x=.ref a/\SqT K H a xs /\
 ¬ (HT.sIx xs.length 0 lo=0/\HT.sIx xs.length xs.length hi=xs.length)/\∀p,H p=none->Q (.ref p) (upd H p (.tup (cutV xs lo hi)))
theorem wC:SlR X (rSlT X.K):=by
 intro pins s σ H x v vl vu lo hi sl Q I rx hs pl pu h
 obtain⟨a,xs,rfl,hx,hw,q⟩:=h
 cases rx
 obtain⟨its,r,ht,hz⟩:=I.tuple hx
 have hlen:its.toArray.size=xs.length:=by rw[xU]; exact r.length.symm
 refine⟨"tuple",_,PyProof.Rows.slot_tuple_getitem.lookup,ht.typeIs,?_⟩
 refine HT.getItem_tuple_cut ht hs pl pu (by rw[hlen]; exact hw) ?_ (by rw[hlen]; exact hz)
 rw[hlen]
 refine⟨.ref s.heap.objs.size,_,I.laid (t':=s.toks) (o:=.tup (cutV xs lo hi)) (λ b ob q=>xM _ q) (xL _) ?_,rfl,q _ (I.hok.fresh (xL _))⟩
 exact⟨yv (gK xs lo hi) hz,_,(r.drop (HT.sIx xs.length 0 lo)).take (HT.sIx xs.length xs.length hi - HT.sIx xs.length 0 lo),TupN.new _ _⟩
def rCatT (K:W.Frag):R2:=λ x y H Q=>∃a b xs ys,x=.ref a/\y=.ref b/\SqT K H a xs/\SqT K H b ys/\xs≠[]/\xs.length+ys.length<=xV /\
 (ys=[]->Q (.ref a) H)/\(ys≠[]->∀p,H p=none->Q (.ref p) (upd H p (.tup (xs++ys))))
theorem Vals.nil_iff {xs:List V}{us:List xK}(r:Vals xs us):us=[]↔xs=[]:=by
 cases r with
 | nil=>simp
 | cons _ _=>simp
theorem uZ:OpR X (binaryOp .Add) (rCatT X.K):=by
 intro pins s σ H x y v u Q I rx ry h
 obtain⟨a,b,xs,ys,rfl,rfl,ha,hb,hx,hz,q1,q2⟩:=h
 cases rx
 cases ry
 obtain⟨its,r1,p1,_⟩:=I.tuple ha
 obtain⟨its2,r2,p2,_⟩:=I.tuple hb
 refine HT.cat_tup p1 p2 (λ z=>hx (r1.nil_iff.mp z)) (λ z=>⟨.ref a,H,I,rfl,q1 (r2.nil_iff.mp z)⟩) (λ z=>?_) (by rw[<- r1.length,<- r2.length]; exact hz)
 refine⟨.ref s.heap.objs.size,_,I.laid (t':=s.toks) (o:=.tup (xs++ys)) (λ b ob q=>xM _ q) (xL _) ?_,rfl,q2 (λ w=>z (r2.nil_iff.mpr w)) _ (I.hok.fresh (xL _))⟩
 exact⟨by rw[yB]; exact hz,_,r1.append r2,TupN.new _ _⟩
end
def ixN (n:Nat)(i:Int):Option Nat:=if 0<=i then (if i<n then some i.toNat else none) else if -(n:Int)<=i then some (i+n).toNat else none
def atI {α:Type}(xs:List α)(i:Int):Option α:=(ixN xs.length i).bind λ j=>xs[j]?
theorem py {n:Nat}{i:Int}{j:Nat}(h:ixN n i=some j):seqIndex? i n=some j/\j<n/\-(n:Int)<=i/\i<n:=by
 unfold ixN at h
 by_cases h0:0<=i
 ·rw[if_pos h0] at h
  by_cases h1:i<n
  ·rw[if_pos h1] at h
   have e:i.toNat=j:=Option.some.inj h
   exact⟨by rw[seqIndex_of h0 h1,e],by omega,by omega,h1⟩
  ·rw[if_neg h1] at h; cases h
 ·rw[if_neg h0] at h
  by_cases h1:-(n:Int)<=i
  ·rw[if_pos h1] at h
   have e:(i+n).toNat=j:=Option.some.inj h
   exact⟨by rw[seqIndex_neg (by omega) h1,e],by omega,h1,by omega⟩
  ·rw[if_neg h1] at h; cases h
theorem pz {α:Type}{xs:List α}{i:Int}{v:α}(h:atI xs i=some v):∃j,seqIndex? i xs.length=some j/\xs[j]? = some v/\j<xs.length/\-(xs.length:Int)<=i/\i<xs.length:=by
 unfold atI at h
 cases e:ixN xs.length i with
 | none=>rw[e] at h; cases h
 | some j =>
  rw[e] at h
  obtain⟨h1,h2,h3,h4⟩:=py e
  exact⟨j,h1,h,h2,h3,h4⟩
def lR (b:Expr):Prop:=∀o i,subscripted b false o i=operate [o,i] (getItem o i)
def IxR (X:Cx)(r:R2):Prop :=
 ∀(value slice:Expr) (pins:List (Addr × Obj)) (s:xO) (σ:St) (H:Hp) (x y:V) (v u:xK) (Q:VK),Inv X pins σ H s->RelV x v->RelV y u->r x y H Q ->
  subscripted slice false v u=operate [v,u] (getItem v u)->yb (model X.prog X.w) X.A (subscriptTail value slice v u) (EP X pins σ Q) X.xe s
def MtR (X:Cx)(id:String)(r:V->List V->Hp->VK->Prop):Prop :=
 ∀(pins:List (Addr × Obj)) (s:xO) (σ:St) (H:Hp) (x:V) (xs:List V) (v:xK) (us:List xK) (Q:VK),Inv X pins σ H s->RelV x v->Vals xs us->r x xs H Q ->
  yb (model X.prog X.w) X.A (call (.builtin id) (v::us)) (EP X pins σ Q) X.xe s
section
variable {X:Cx}{a b:Expr}{ta tb:TE}{pos:Pos}
theorem IxR.or {r r':R2}(h:IxR X r)(h':IxR X r'):IxR X (λ x y H Q=>r x y H Q\/r' x y H Q):=by
 intro value slice pins s σ H x y v u Q I rx ry q hs
 rcases q with q | q
 ·exact h value slice pins s σ H x y v u Q I rx ry q hs
 ·exact h' value slice pins s σ H x y v u Q I rx ry q hs
theorem MtR.or {id:String}{r r':V->List V->Hp->VK->Prop}(h:MtR X id r)(h':MtR X id r'):MtR X id (λ x xs H Q=>r x xs H Q\/r' x xs H Q):=by
 intro pins s σ H x xs v us Q I rx rs q
 rcases q with q | q
 ·exact h pins s σ H x xs v us Q I rx rs q
 ·exact h' pins s σ H x xs v us Q I rx rs q
theorem pe_ix {r:R2}(hr:IxR X r)(ha:PE X a ta)(hb:PE X b tb)(hs:lR b):PE X (.Subscript a b pos) (tOp r ta tb):=by
 intro pins s σ H Q I h
 exact Subscript_ (binT ha hb I h λ v u s2 x y H2 I2 rx ry q=>hr a b pins s2 σ H2 x y v u Q I2 rx ry q (hs _ _))
def rIxL (K:W.Frag):R2:=λ x y H Q=>∃p xs i v,x=.ref p/\y=.int i/\SqL K H p xs/\atI xs i=some v/\Q v H
def rIxT (K:W.Frag):R2:=λ x y H Q=>∃p xs i v,x=.ref p/\y=.int i/\SqT K H p xs/\atI xs i=some v/\Q v H
theorem u0:IxR X (rIxL X.K):=by
 intro value slice pins s σ H x y v u Q I rx ry h hs
 obtain⟨p,xs,i,z,rfl,rfl,hq,he,q⟩:=h
 cases rx
 obtain⟨t,rfl⟩:=ry
 obtain⟨its,r,pl,hz⟩:=I.list hq
 obtain⟨j,h1,h2,h3,h4,h5⟩:=pz he
 obtain⟨w,ew,rw'⟩:=r.get h2
 have hl:=r.length
 have hn:=kh
 have fin:EP X pins σ Q w s:=⟨z,H,I,rw',q⟩
 by_cases h0:0<=i
 ·have hj:i.toNat=j:=by
   rw[seqIndex_of h0 h5] at h1
   exact Option.some.inj h1
  exact item_listR pl.isList h0 (by omega) (by rw[hj]; simpa using ew) fin hs
 ·have hj:(i+(its.toArray.size:Int)).toNat=j:=by
   rw[seqIndex_neg (by omega) h4] at h1
   rw[xU,<- hl]
   exact Option.some.inj h1
  exact subscriptTail_builtinR (x:=w) pl.isList.typeIs slot_list_getitem.lookup
   (wpAny_getItem_list_neg (Q:=λ r s'=>r=w/\EP X pins σ Q r s') pl.isList (by omega) (by rw[xU] <;> omega) (by omega) (by rw[hj]; simpa using ew) ⟨rfl,fin⟩) hs
theorem wD:IxR X (rIxT X.K):=by
 intro value slice pins s σ H x y v u Q I rx ry h hs
 obtain⟨p,xs,i,z,rfl,rfl,hq,he,q⟩:=h
 cases rx
 obtain⟨t,rfl⟩:=ry
 obtain⟨its,r,pl,hz⟩:=I.tuple hq
 obtain⟨j,h1,h2,h3,h4,h5⟩:=pz he
 obtain⟨w,ew,rw'⟩:=r.get h2
 have hl:=r.length
 have hn:=kh
 have fin:EP X pins σ Q w s:=⟨z,H,I,rw',q⟩
 exact subscriptTail_builtinR (x:=w) pl.typeIs slot_tuple_getitem.lookup
  (getItem_tuple (j:=j) (Q:=λ r s'=>r=w/\EP X pins σ Q r s') pl (by omega) (by omega) (by rw[xU,<- hl]; exact h1) (by simpa using ew) ⟨rfl,fin⟩) hs
theorem nR (its:List xK)(n j:Nat)(u:xK):Obj.mapSeq (·.setIfInBounds j u) { cls:=.type "list",data:=.seq its.toArray n }={ cls:=.type "list",data:=.seq (its.set j u).toArray n }:=by
 simp[Obj.mapSeq]
theorem Inv.lst {pins:List (Addr × Obj)}{σ:St}{H:Hp}{s:xO}{p:Addr}{xs:List V}(I:Inv X pins σ H s)(h:H p=some (.lst xs)) :
  ∃(its:List xK) (n:Nat),Vals xs its/\s.heap.get? p=some { cls:=.type "list",data:=.seq its.toArray n }/\xs.length<=xV:=by
 obtain⟨z,its,n,r,e⟩:=I.hok p _ h
 exact⟨its,n,r,e,z⟩
theorem Inv.lstUpd {pins:List (Addr × Obj)}{σ:St}{H:Hp}{s:xO}{p:Addr}{xs ys:List V}{its its':List xK}{n n':Nat}{f:Obj->Obj}(I:Inv X pins σ H s)(h:H p=some (.lst xs))
  (ho:s.heap.get? p=some { cls:=.type "list",data:=.seq its.toArray n }) (hf:f { cls:=.type "list",data:=.seq its.toArray n }={ cls:=.type "list",data:=.seq its'.toArray n' }) (r:Vals ys its') (hz:ys.length<=xV) (t:Nat) :
  Inv X pins σ (upd H p (.lst ys)) { s with heap:=s.heap.update p f,toks:=t }:=by
 have e:(s.heap.update p f).get? p=some { cls:=.type "list",data:=.seq its'.toArray n' }:=by
  rw[yo f ho (by rw[hf] <;> rfl),hf]
 refine I.write (x:=p) (e:=p) (by rw[h]; trivial) (.inl rfl) (λ b u hb q=>(xX _ _ (Ne.symm hb)).trans q) ⟨_,e⟩ ?_
 exact⟨hz,its',n',r,e⟩
def rSetL:V->V->V->Hp->(Hp->Prop)->Prop:=λ o i v H Q=>∃p xs k j,o=.ref p/\i=.int k/\H p=some (.lst xs)/\ixN xs.length k=some j/\Q (upd H p (.lst (xs.set j v)))
theorem gx:PSet X rSetL:=by
 intro pins s σ H o i v ov iv u Q I ro ri rv h
 obtain⟨p,xs,k,j,rfl,rfl,hp,hj,q⟩:=h
 cases ro
 obtain⟨t,rfl⟩:=ri
 obtain⟨its,n,r,ho,hz⟩:=I.lst hp
 obtain⟨h1,h2,h3,h4⟩:=py hj
 have hl:=r.length
 have hn:=kh
 have I':Inv X pins σ (upd H p (.lst (xs.set j v))) { s with heap:=s.heap.update p (Obj.mapSeq (·.setIfInBounds j u)) } :=
  I.lstUpd hp ho (nR its n j u) (r.set rv j) (by rw[yL]; exact hz) s.toks
 by_cases h0:0<=k
 ·have hk:k.toNat=j:=by
   rw[seqIndex_of h0 h4] at h1
   exact Option.some.inj h1
  exact W.ki_setAt ho h0 (by omega) (by rw[xU,<- hl]; exact h4) (by rw[hk]; exact⟨_,I',q⟩)
 ·have hk:(k+(its.toArray.size:Int)).toNat=j:=by
   rw[seqIndex_neg (by omega) h3] at h1
   rw[xU,<- hl]
   exact Option.some.inj h1
  exact W.ki_setBack ho (by omega) (by rw[xU,<- hl]; exact h3) (by omega) (by rw[hk]; exact⟨_,I',q⟩)
theorem kx (lo hi:Option Int)(n:Nat):(sliceBounds lo hi none n).1=((HT.sIx n 0 lo:Nat):Int)/\(sliceBounds lo hi none n).2.1=((HT.sIx n n hi:Nat):Int)/\(sliceBounds lo hi none n).2.2=1:=by
 refine⟨?_,?_,rfl⟩
 ·cases lo with
  | none=>simp[sliceBounds,HT.sIx]
  | some i =>
   simp only[sliceBounds,HT.sIx,Option.getD_none,show (1:Int) > 0 by decide,if_true]
   by_cases h:i<0
   ·simp only[h,if_true] <;> omega
   ·simp only[h,if_false] <;> omega
 ·cases hi with
  | none=>simp[sliceBounds,HT.sIx]
  | some i =>
   simp only[sliceBounds,HT.sIx,Option.getD_none,show (1:Int) > 0 by decide,if_true]
   by_cases h:i<0
   ·simp only[h,if_true] <;> omega
   ·simp only[h,if_false] <;> omega
theorem jt (its:List xK)(lo hi:Option Int):slicePick its.toArray lo hi none=((its.drop (HT.sIx its.length 0 lo)).take (HT.sIx its.length its.length hi - HT.sIx its.length 0 lo)).toArray:=by
 obtain⟨h1,h2,h3⟩:=kx lo hi its.toArray.size
 unfold slicePick
 rw[h1,h2,h3]
 simp only[sliceRange_one,pick_run,xU] <;> rfl
def rSlL (K:W.Frag):V->Option Int->Option Int->Hp->VK->Prop:=λ x lo hi H Q=>∃a xs,x=.ref a/\SqL K H a xs/\∀p,H p=none->Q (.ref p) (upd H p (.lst (cutV xs lo hi)))
theorem u3:SlR X (rSlL X.K):=by
 intro pins s σ H x v vl vu lo hi sl Q I rx hs pl pu h
 obtain⟨a,xs,rfl,hx,q⟩:=h
 cases rx
 obtain⟨its,r,ht,hz⟩:=I.list hx
 have hlen:=r.length
 refine⟨"list",_,slot_list_getitem.lookup,ht.isList.typeIs,?_⟩
 refine wpAny_getItem_list_slice ht.isList hs pl pu .none (by simp) ?_ (by rw[xU] <;> omega)
 rw[jt,<- hlen]
 refine⟨.ref s.heap.objs.size,_,I.laid (t':=s.toks) (o:=.lst (cutV xs lo hi)) (λ b ob q=>xM _ q) (xL _) ?_,rfl,q _ (I.hok.fresh (xL _))⟩
 exact⟨yv (gK xs lo hi) hz,_,0,(r.drop (HT.sIx xs.length 0 lo)).take (HT.sIx xs.length xs.length hi - HT.sIx xs.length 0 lo),xW _ rfl⟩
theorem ky:CallR X (.builtin "len") (λ xs H Q=>∃p ys,xs=[.ref p]/\(SqL X.K H p ys\/SqT X.K H p ys)/\Q (.int ys.length) H):=by
 intro pins s σ H xs us Q I r h
 obtain⟨p,ys,rfl,hq,q⟩:=h
 obtain⟨u,rfl,rx⟩:=vals1 r
 cases rx
 have hn:=kh
 rcases hq with hq | hq
 ·obtain⟨its,r',pl,hz⟩:=I.list hq
  have hlen:=r'.length
  exact Calls.call_len_list pl.isList (by simp only[xU] <;> omega) ⟨.int ys.length,H,I.tok _,⟨s.toks+1,by rw[xU,hlen]⟩,q⟩
 ·obtain⟨its,r',pl,hz⟩:=I.tuple hq
  have hlen:=r'.length
  exact len_tuple pl (by simp only[xU] <;> omega) ⟨.int ys.length,H,I.tok _,⟨s.toks+1,by rw[xU,hlen]⟩,q⟩
theorem CallR.or {f:xK}{r r':List V->Hp->VK->Prop}(h:CallR X f r)(h':CallR X f r'):CallR X f (λ xs H Q=>r xs H Q\/r' xs H Q):=by
 intro pins s σ H xs us Q I rs q
 rcases q with q | q
 ·exact h pins s σ H xs us Q I rs q
 ·exact h' pins s σ H xs us Q I rs q
theorem kz:CallR X (.type "list") (λ xs H Q=>∃p ys,xs=[.ref p]/\(SqL X.K H p ys\/SqT X.K H p ys)/\∀l,H l=none->Q (.ref l) (upd H l (.lst ys))):=by
 intro pins s σ H xs us Q I r h
 obtain⟨p,ys,rfl,hq,q⟩:=h
 obtain⟨u,rfl,rx⟩:=vals1 r
 cases rx
 have fin:∀(its:List xK),Vals ys its->ys.length<=xV->∀(h':Heap) (c':Nat),(∀b o',s.heap.get? b=some o'->h'.get? b=some o') ->
   h'.get? s.heap.objs.size=some { cls:=.type "list",dict:=none,data:=.seq its.toArray c',slots:=#[] }->EP X pins σ Q (.ref s.heap.objs.size) { s with heap:=h' }:=λ its r' hz h' c' kp e =>
  ⟨.ref s.heap.objs.size,_,I.laid (t':=s.toks) kp (xL _) (show ObjOk X.prog X.w _ h' _ (.lst ys) from ⟨hz,its,c',r',e⟩),rfl,q _ (I.hok.fresh (xL _))⟩
 rcases hq with hq | hq
 ·obtain⟨its,r',pl,hz⟩:=I.list hq
  have hlen:=r'.length
  obtain⟨o,ho,hc,n,hd⟩:=pl.isList
  exact call_list_seq p (.inl rfl) ho hc hd (λ h' c' kp e=>fin its r' hz h' c' kp e) (by simp only[xU] <;> omega)
 ·obtain⟨its,r',pl,hz⟩:=I.tuple hq
  have hlen:=r'.length
  obtain⟨o,ho,hc,n,hd⟩:=pl
  exact call_list_seq p (.inr rfl) ho hc hd (λ h' c' kp e=>fin its r' hz h' c' kp e) (by simp only[xU] <;> omega)
theorem ju:CallR X (.type "tuple") (λ xs H Q=>∃p ys,xs=[.ref p]/\((SqL X.K H p ys/\∀l,H l=none->Q (.ref l) (upd H l (.tup ys)))\/(SqT X.K H p ys/\Q (.ref p) H))):=by
 intro pins s σ H xs us Q I r h
 obtain⟨p,ys,rfl,h⟩:=h
 obtain⟨u,rfl,rx⟩:=vals1 r
 cases rx
 rcases h with⟨hq,q⟩ | ⟨hq,q⟩
 ·obtain⟨its,r',pl,hz⟩:=I.list hq
  have hlen:=r'.length
  refine call_tuple_list pl.isList (λ h' kp=>?_) (by simp only[xU] <;> omega)
  have I1:Inv X pins σ H { s with heap:=h' }:=I.kept (t':=s.toks) kp
  have I2:Inv X pins σ (upd H h'.objs.size (.tup ys)) { s with heap:=h'.push { cls:=.type "tuple",data:=.seq its.toArray } } :=
   I1.laid (t':=s.toks) (λ b o e=>xM _ e) (xL _) (show ObjOk X.prog X.w _ _ _ (.tup ys) from ⟨hz,its,r',TupN.new _ _⟩)
  exact⟨.ref h'.objs.size,_,I2,rfl,q _ (I1.hok.fresh (xL _))⟩
 ·obtain⟨its,r',pl,hz⟩:=I.tuple hq
  exact call_tuple_same pl ⟨.ref p,H,I,rfl,q⟩
def tyV (K:W.Frag)(T:String)(x:V)(H:Hp):Prop:=match x with
 | .str _=>T = "str"
 | .int _=>T = "int"
 | .ref p=>(T = "list" /\ ∃xs,SqL K H p xs)\/(T = "tuple" /\ ∃o,K.lookup p=some o/\o.cls=.type "tuple" /\ o.dict=none) \/
   (T = "dict" /\ ((∃kvs,H p=some (.dK kvs))\/∃kvs,H p=some (.dT kvs)))\/(T = "set" /\ ∃S n,H p=some (.set S n))
 | _=>False
theorem wE {pins:List (Addr × Obj)}{σ:St}{H:Hp}{s:xO}{T:String}{x:V}{v:xK}(I:Inv X pins σ H s)(r:RelV x v)(ty:tyV X.K T x H) :
  s.TypeIs v T/\∀a,v=.ref a->∃ob,s.heap.get? a=some ob/\ob.dict=none:=by
 cases x with
 | str z =>
  obtain⟨t,rfl⟩:=r
  cases (show T = "str" from ty)
  exact⟨typeIs_str s z t,λ _ e=>nomatch e⟩
 | int i =>
  obtain⟨t,rfl⟩:=r
  cases (show T = "int" from ty)
  exact⟨typeIs_int s i t,λ _ e=>nomatch e⟩
 | ref p =>
  cases r
  rcases ty with⟨rfl,xs,hq⟩ | ⟨rfl,o,hk,hc,hd⟩ | ⟨rfl,hk⟩ | ⟨rfl,S,n,hk⟩
  ·obtain⟨its,_,pl,_⟩:=I.list hq
   refine⟨pl.isList.typeIs,λ a e=>?_⟩
   cases e
   obtain⟨o,n,e,c,hd,_⟩:=pl
   exact⟨o,e,hd⟩
  ·refine⟨⟨o,I.kIn p o hk,hc⟩,λ a e=>?_⟩
   cases e
   exact⟨o,I.kIn _ o hk,hd⟩
  ·have z:∃o,s.heap.get? p=some o/\o.ExactDict:=by
    rcases hk with⟨kvs,hk⟩ | ⟨kvs,hk⟩
    ·obtain⟨_,_,_,_,o,_,_,e,ex,_⟩:=I.hok p _ hk
     exact⟨o,e,ex⟩
    ·obtain⟨_,_,_,_,o,_,_,e,ex,_⟩:=I.hok p _ hk
     exact⟨o,e,ex⟩
   obtain⟨o,e,ex⟩:=z
   refine⟨⟨o,e,ex.1⟩,λ a e2=>?_⟩
   cases e2
   exact⟨o,e,ex.2.1⟩
  ·obtain⟨o,_,_,_,e,ex,_⟩:=I.hok p _ hk
   refine⟨⟨o,e,ex.1⟩,λ a e2=>?_⟩
   cases e2
   exact⟨o,e,ex.2.1⟩
 | _=>exact False.elim ty
def tBM (K:W.Frag)(T:String)(r:V->List V->Hp->VK->Prop)(to:TE)(t:TA):TE:=λ σ H Q=>to σ H λ x H1=>tyV K T x H1/\t σ H1 λ xs H2=>r x xs H2 Q
variable {o e:Expr}{es:List Expr}{to:TE}{t:TA}{name:Str}{apos cpos:Pos}{T id:String}{r:V->List V->Hp->VK->Prop}
theorem pe_bm (pa:PlainAttrs T)(slot:Slot T name id)(hty:typeOf (.builtin id)=pure (.type "method_descriptor"))(hm:MtR X id r)(ho:PE X o to)(ha:PA X (e::es) t)
  (hbase:attributeBase o name X.env (eval o X.env)=eval o X.env:=by rfl)
  (hfew:((backTo cpos (starEach (e::es) X.env)).all (λ x=>!x.1) && (backToKw cpos (keywordEach [] X.env)).all (λ x=>x.1.isSome)
   && decide ((e::es).length+([]:List Keyword).length+(if ([]:List Keyword).isEmpty then 0 else 1)<30))=true:=by rfl)
  (hline:(apos.endLine == cpos.line)=true:=by rfl) (hs:starEach (e::es) X.env=(false,eval e X.env)::starEach es X.env:=by rfl) (hplain:(backTo cpos (starEach es X.env)).any (·.1)=false:=by rfl) :
  PE X (.Call (.Attribute o name apos) (e::es) [] cpos) (tBM X.K T r to t):=by
 intro pins s σ H Q I h
 refine wpAny_Call_method_late hbase hfew hline rfl (thn (ho pins s σ H _ I h) λ v s1 ⟨x,H1,I1,r1,ty,q1⟩=>?_)
 obtain⟨h1,h2⟩:=wE I1 r1 ty
 refine⟨T,id,pa,slot,hty,h1,h2,?_⟩
 have hA:=ha cpos pins s1 σ H1 _ I1 q1
 rw[hs] at hA ⊢
 refine Calls.callWith_builtin (by show (false || (backTo cpos (starEach es X.env)).any (·.1))=false; rw[hplain] <;> rfl) (Calls.evalArgs_plain ?_)
 exact thn hA λ us s2 ⟨vs,H2,I2,r2,q2⟩=>hm pins s2 σ H2 x vs v us Q I2 r1 r2 q2
end
def MtM (X:Cx)(id:String)(r:V->List V->Hp->VK->Prop):Prop :=
 ∀(pins:List (Addr × Obj)) (s:xO) (σ:St) (H:Hp) (x:V) (xs:List V) (v:xK) (us:List xK) (Q:VK),Inv X pins σ H s->RelV x v->Vals xs us->r x xs H Q ->
  yb (model X.prog X.w) X.A (call (.builtin id) (v::us)) (EP X pins σ Q) X.xe s
theorem Vals.one {x:V}{us:List xK}(h:Vals [x] us):∃u,us=[u]/\RelV x u:=by
 cases h with
 | cons r t =>
  cases t
  exact⟨_,rfl,r⟩
theorem Vals.two {x y:V}{us:List xK}(h:Vals [x,y] us):∃u v,us=[u,v]/\RelV x u/\RelV y v:=by
 cases h with
 | cons r t =>
  obtain⟨v,rfl,q⟩:=Vals.one t
  exact⟨_,v,rfl,r,q⟩
theorem Vals.reverse {xs:List V}{us:List xK}(h:Vals xs us):Vals xs.reverse us.reverse:=by
 induction h with
 | nil=>exact .nil
 | cons r t ih=>rw[zL,zL]; exact Vals.append ih (.cons r .nil)
theorem Vals.rep {xs:List V}{us:List xK}(h:Vals xs us):∀k:Nat,Vals (List.replicate k xs).flatten (List.replicate k us).flatten
 | 0=>.nil
 | k+1=>by
  rw[yj,yj,zE,zE]
  exact Vals.append h (Vals.rep h k)
theorem gL (its:List xK):∀(k:Nat) (acc:List xK),
  Ak (λ x1 x2=>x1++x2) acc.toArray (List.replicate k its.toArray)=(acc++(List.replicate k its).flatten).toArray
 | 0,acc=>by simp
 | k+1,acc=>by
  have e:acc.toArray++its.toArray=(acc++its).toArray:=by simp
  have e2:(acc++its)++(List.replicate k its).flatten=acc++(List.replicate (k+1) its).flatten:=by
   rw[yj,zE,zM]
  rw[<- e2,<- gL its k (acc++its),<- e,yj,List.foldl_cons]
section
variable {X:Cx}{pins:List (Addr × Obj)}{σ:St}{H:Hp}{s:xO}{l b:Addr}{xs ys zs:List V}
theorem Inv.lset {its its':List xK}{n:Nat}{f:Array xK->Array xK}{t':Nat}(I:Inv X pins σ H s)(hH:H l=some (.lst xs))
  (e:s.heap.get? l=some { cls:=.type "list",data:=.seq its.toArray n }) (hf:f its.toArray=its'.toArray) (hv:Vals ys its') (hz:ys.length<=xV) :
  Inv X pins σ (upd H l (.lst ys)) { s with heap:=s.heap.update l (Obj.mapSeq f),toks:=t' }:=by
 have q:=PySem.IsL.update e f
 rw[hf] at q
 refine I.write (x:=l) (e:=l) (by rw[hH]; exact trivial) (.inl rfl) (λ b' u hb hu=>(xX s.heap (Obj.mapSeq f) (Ne.symm hb)).trans hu) ⟨_,q⟩ ?_
 exact⟨hz,its',_,hv,q⟩
theorem Inv.lnew {its:List xK}{t':Nat}(I:Inv X pins σ H s)(hv:Vals ys its)(hz:ys.length<=xV) :
  Inv X pins σ (upd H s.heap.objs.size (.lst ys)) { s with heap:=s.heap.push { cls:=.type "list",data:=.seq its.toArray },toks:=t' } :=
 I.laid (λ _ _ q=>xM _ q) (xL _) ⟨hz,its,0,hv,xW _ rfl⟩
theorem Inv.fresh (I:Inv X pins σ H s):H s.heap.objs.size=none:=I.hok.fresh (xL _)
theorem Inv.lstM (I:Inv X pins σ H s)(hH:H l=some (.lst xs)):xs.length<=xV/\∃(its:List xK) (n:Nat),Vals xs its/\xs.length=its.length/\s.heap.get? l=some { cls:=.type "list",data:=.seq its.toArray n }:=by
 obtain⟨z,its,n,r,e⟩:=I.hok l _ hH
 exact⟨z,its,n,r,r.length,e⟩
theorem jv {n:Nat}(h:n<=xV):Builtin.List.listTooLong n=false:=by
 unfold Builtin.List.listTooLong
 exact decide_eq_false (by omega)
end
section
variable {X:Cx}
def u4:V->List V->Hp->VK->Prop:=λ x vs H Q=>∃l xs y,x=.ref l/\vs=[y]/\H l=some (.lst xs)/\xs.length<xV/\Q .non (upd H l (.lst (xs++[y])))
theorem pA:MtM X "list.append" u4:=by
 intro pins s σ H x vs v us Q I rx rv h
 obtain⟨l,xs,y,rfl,rfl,hH,hz,q⟩:=h
 cases rx
 obtain⟨u,rfl,ru⟩:=rv.one
 obtain⟨z,its,n,r,hl,e⟩:=I.lstM hH
 refine call_meets F.slot_list_append ⟨_,e,rfl⟩ F.entry_list_append (F.args_list_append_2 _ _) (PySem.list_append l its.toArray n u (by rw[xU]; omega)) ⟨e,?_⟩
 refine⟨.non,_,I.lset (its':=its++[u]) hH e (by simp) (r.append (.cons ru .nil)) ?_,rfl,q⟩
 rw[yB,zV]
 omega
def u5:V->List V->Hp->VK->Prop:=λ x vs H Q=>∃l b xs zs,x=.ref l/\vs=[.ref b]/\H l=some (.lst xs)/\H b=some (.lst zs)/\xs.length+zs.length<=xV/\Q .non (upd H l (.lst (xs++zs)))
theorem pB:MtM X "list.extend" u5:=by
 intro pins s σ H x vs v us Q I rx rv h
 obtain⟨l,b,xs,zs,rfl,rfl,hH,hB,hz,q⟩:=h
 cases rx
 obtain⟨u,rfl,ru⟩:=rv.one
 cases ru
 obtain⟨z,its,n,r,hl,e⟩:=I.lstM hH
 obtain⟨z2,its2,n2,r2,hl2,e2⟩:=I.lstM hB
 have hsz:its.toArray.size+its2.toArray.size<=xV:=by rw[xU,xU]; omega
 have hlong:¬ (!its.toArray.isEmpty && Builtin.List.listTooLong (its.toArray.size+its2.toArray.size))=true:=by
  rw[jv hsz,Bool.and_false]
  exact yT
 refine call_meets F.slot_list_extend ⟨_,e,rfl⟩ F.entry_list_extend (F.args_list_extend_2 _ _)
  (AutoSeq1.list_extend_list_list_0 l its.toArray n b its2.toArray n2 hlong (by rw[xU]; omega) (by omega)) ⟨e,e2,?_⟩
 refine⟨.non,_,I.lset (its':=its++its2) hH e (by simp) (r.append r2) ?_,rfl,q⟩
 rw[yB]
 omega
def rCat:R2:=λ x y H Q=>∃l b xs zs,x=.ref l/\y=.ref b/\H l=some (.lst xs)/\H b=some (.lst zs)/\xs.length+zs.length<=xV/\∀p,H p=none->Q (.ref p) (upd H p (.lst (xs++zs)))
theorem tJ:OpR X (binaryOp .Add) rCat:=by
 intro pins s σ H x y v u Q I rx ry h
 obtain⟨l,b,xs,zs,rfl,rfl,hH,hB,hz,q⟩:=h
 cases rx
 cases ry
 obtain⟨z,its,n,r,hl,e⟩:=I.lstM hH
 obtain⟨z2,its2,n2,r2,hl2,e2⟩:=I.lstM hB
 refine PySem.P.add_list e e2 ?_ (by rw[xU,xU]; omega)
 have ea:its.toArray++its2.toArray=(its++its2).toArray:=by simp
 rw[ea]
 exact⟨.ref _,_,I.lnew (t':=s.toks) (r.append r2) (by rw[yB]; omega),rfl,q _ I.fresh⟩
def rRep:R2:=λ x y H Q=>∃l k xs,x=.ref l/\y=.int k/\H l=some (.lst xs)/\-(2 ^ 63)<=k/\k<2 ^ 63/\xs.length * k.toNat<=xV /\
 ∀p,H p=none->Q (.ref p) (upd H p (.lst (List.replicate k.toNat xs).flatten))
theorem lS {α:Type}(xs:List α)(k:Nat):(List.replicate k xs).flatten.length=k * xs.length:=by
 induction k with
 | zero=>simp
 | succ k ih=>rw[yj,zE,yB,ih,Nat.succ_mul,Nat.add_comm]
theorem pC:OpR X (binaryOp .Mult) rRep:=by
 intro pins s σ H x y v u Q I rx ry h
 obtain⟨l,k,xs,rfl,rfl,hH,h1,h2,hz,q⟩:=h
 cases rx
 obtain⟨t,rfl⟩:=ry
 obtain⟨z,its,n,r,hl,e⟩:=I.lstM hH
 have hlen:its.toArray.size * k.toNat<=xV:=by rw[xU,<- hl]; exact hz
 have hcap:¬ its.toArray.size * k.toNat > (2 ^ 63 - 1) / 8:=by
  have:(xV:Nat)<=(2 ^ 63 - 1) / 8:=by decide
  omega
 have hfit:¬ (!Builtin.List.listFitsIndex k)=true:=by
  rw[fitsIndex_both h1 h2]
  exact yT
 have hlong:¬ Builtin.List.listTooLong (its.toArray.size * k.toNat)=true:=by
  rw[jv hlen]
  exact yT
 have hnew:Ak (λ x1 x2=>x1++x2) #[] (List.replicate (if its.toArray.isEmpty=true then 0 else k.toNat) its.toArray)=(List.replicate k.toNat its).flatten.toArray:=by
  have f0:∀m:Nat,Ak (λ x1 x2=>x1++x2) #[] (List.replicate m its.toArray)=(List.replicate m its).flatten.toArray:=λ m=>by
   have:=gL its m []
   rw[yf] at this
   exact this
  rw[f0]
  cases its with
  | nil=>simp
  | cons a r'=>rw[if_neg (by simp)]
 refine wpAny_binaryOp_repeat_ref (T := "list") (U := "int") (by decide) ⟨_,e,rfl⟩ (λ s'=>typeIs_int s' k t) noFill_list_mul F.fills_int_mul F.slot_int_rmul repeat_list F.slot_int_index.lookup
  (call_meets F.slot_int_rmul (typeIs_int s k t) F.entry_int_rmul (F.args_int_rmul_2 _ _) (int___rmul___int_list k t l its.toArray n)
   ⟨e,rfl,⟨_,e,rfl⟩,call_meets F.slot_list_mul ⟨_,e,rfl⟩ F.entry_list_mul (F.args_list_mul_2 _ _) (AutoListH.list___mul___list_int_3 l its.toArray n k t hfit hcap hlong) ⟨e,?_⟩⟩)
 rw[hnew]
 exact⟨.ref _,_,I.lnew (t':=s.toks) (r.rep k.toNat) (by rw[lS,Nat.mul_comm]; exact hz),rfl,q _ I.fresh⟩
end
end L2
namespace Att
open PySem PySem.W PySem.Calls PyProof.Rows
theorem gM {P:Params}{h:Heap}:∀(ns:List Int) (vs:List xK),WellAll P h vs (ns.map WData.int)->IntsAre vs ns:=by
 intro ns
 induction ns with
 | nil =>
  intro vs w
  rw[yN] at w
  cases w
  exact .nil
 | cons n ns ih =>
  intro vs w
  rw[xY] at w
  cases w with
  | cons a b =>
   cases a
   exact .cons _ _ (ih _ b)
theorem pD {l:OpenLaw}{n:Nat}(hn:l.most=some n){P:Params}{h:Heap}{args:List WData}{vals:List xK}
  (hpre:l.row.toRowW.claim.pre args=true) (hwl:WellAll P h vals args) :
  ∃a vs ns,vals=[xK.ref a]/\args=[WData.list (ns.map WData.int)]/\h.get? a=some { cls:=.type "list",data:=.seq vs.toArray }/\IntsAre vs ns/\ns.length<=n:=by
 have hsh:WShape.hasAll [] args [.list .int]=true:=(pre_splitW hpre).1
 have hc:l.pre.holds [] { args:=args }=true:=(pre_splitW hpre).2
 obtain⟨d,r,rfl,h1,h2⟩:=hasAllW_cons hsh
 obtain rfl:=hasAllW_nil h2
 obtain⟨xs,rfl,h3⟩:=hasW_list h1
 obtain⟨ns,rfl⟩:=items_int h3
 have hlen:ns.length<=n:=by
  unfold OpenLaw.pre at hc
  have h4:(WTm.not (.lt (.lit (.int (n:Int))) (.len (.arg 0)))).holds [] { args:=[.list (ns.map .int)] }=true:=by
   have h4:=(holds_andW hc).1
   rw[hn] at h4
   exact h4
  have h5:=condW_of h4 (w_not (w_lt w_lit (w_len_list (w_arg rfl))))
  rw[xQ] at h5
  refine Nat.le_of_not_lt λ q=>?_
  have q':(n:Int)<((ns.length:Nat):Int):=by omega
  first
   | (rw[decide_eq_true q'] at h5; exact absurd h5 (by decide))
   | (simp at h5; omega)
 cases hwl with
 | cons w1 w2 =>
  cases w2
  cases w1 with
  | list ho hall=>exact⟨_,_,ns,rfl,rfl,ho,gM ns _ hall,hlen⟩
theorem pE (l:OpenLaw)(args:List WData):l.row.toRowW.claim.post args (.bool true) args=true :=
 postW_of (r:=l.row.toRowW) (X:=(true == true))
  (show WShape.has [] (.bool true) .bool=true by first | rfl | decide | simp[WShape.has,WShape.arms,WShape.armsAll])
  (show (WTm.eq .res (.lit (.bool true))).value [] { args:=args,res:=some (.bool true),after:=args }=some (.bool (true == true)) from w_eq_bool (w_res rfl) w_lit) rfl
theorem attach_call {l:OpenLaw}{n:Nat}{q:yk}{loose:List Str}{XP:(Str->Option xK)->Heap->Prop}{YP:World->Heap->Prop}{d:DefRec}
  (hn:l.most=some n) (hdf:d.params.defaults=[])
  (call:∀(w:World) (s₀ s₁:xO) (mg mb:Str->Option xK) (fa:Addr) (o:Obj) (pm cd doc:xK) (a:Addr) (vs:List xK) (ns:List Int),
   Ground q loose [] XP w s₀ mg mb s₁.heap->YP w s₁.heap ->
   s₁.heap.get? fa=some o->o.data=.func (docDef d.name d.params d.body d.scope pm cd doc)->s₁.heap.CodeRec cd d.name->mg d.name=some (.ref fa) ->
   s₁.heap.get? a=some { cls:=.type "list",data:=.seq vs.toArray }->IntsAre vs ns->ns.length<=n->s₁.gens=#[] ->
   codeAny (model l.prog w) callerA (.call (.ref fa) ⟨[.ref a],[]⟩) (λ r s'=>r=.ok (.ret (.bool true))/\OldK s₁.heap s'.heap/\s'.os=s₁.os/\AllBare s'.gens) s₁) :
  WalkO q loose XP YP l.row.toRowW d [] (λ f vs=>PySem.call f vs):=by
 intro w s₀ s₁ mg mb G Y fa o pm cd doc dV kV ho hd hcd hD hmg hg args vals as hpre hlay hrd hwl hlo
 obtain rfl:dV=.none:=Dflts.none hD hdf
 obtain rfl:kV=.none:=Dflts.noKw hD
 obtain⟨a,vs,ns,rfl,rfl,hobj,hints,hlen⟩:=pD hn hpre hwl
 refine enter_call (codeAny_mono (call w s₀ s₁ mg mb fa o pm cd doc a vs ns G Y ho (fd_plain hd) hcd hmg hobj hints hlen hg) λ r s' hq=>?_)
 obtain⟨rfl,h2,h3,h4⟩:=hq
 exact⟨.inl ⟨.bool true,.bool true,[],rfl,λ _=>rfl,.bool true,pE l _,λ _=>⟨List.Pairwise.nil,λ _ hm=>(nomatch hm)⟩⟩,h2,h3,h4⟩
section
variable {prog:yk}{w:World}{A:Around}{E:xK->xO->Prop}{s:xO}{K:Frag}
def xG (h:Heap)(L d:Addr):List (Addr × Obj):=(List.range h.objs.size).filterMap λ a=>if a=L\/a=d then none else (h.get? a).map λ o=>(a,o)
end
end Att
namespace L2
open PySem PySem.Spec PyProof.Rows
theorem kA:∀{vs:List xK} {ns:List Int},IntsAre vs ns->Vals (ns.map V.int) vs
 | _,_,.nil=>.nil
 | _,_,.cons n t h=>.cons ⟨t,rfl⟩ (kA h)
def Only (H:Hp):Prop:=∀b,H b=none\/∃o xs,H b=some (.frz o (.lst xs))
theorem r9 {P:yk}{w:World}{K:W.Frag}{mg mb:Str->Option xK}{CX:CXT}{k:Nat}{fa a:Addr}{fd:yM}{x:Str}{sp:Sp}{s₁:xO}{vs:List xK}{ns:List Int}
  (KX:K.In s₁.heap) (hns:s₁.heap.Ns yp mg) (hb:s₁.heap.Ns builtinsNs mb) (hbb:∀x:Str,x ≠ "__name__" -> mb x=bootBuiltins x) (hlim:s₁.heap.NoLimit) (hg:s₁.gens=#[])
  (ha:s₁.heap.get? a=some { cls:=.type "list",data:=.seq vs.toArray }) (hi:IntsAre vs ns) (hl:ns.length<=xV) (hr:Room k callerA)
  (F:∀base:Heap,K.In base->base.Ns yp mg->FnOk P w K mg base CX k fa fd [x] sp) (hbind:∀(s:xO) (u:xK),BindsTo s fd ⟨[u],[]⟩ [(x,u)])
  (hsp:∀H:Hp,Only H->SqL K H a (ns.map V.int)->sp [.ref a] H (λ v _=>v=.bl true) λ _ _ _=>False)
  (hCX:∀H e s',CX [] H s₁ (λ _ _ _=>False) e s'->False) :
  codeAny (model P w) callerA (.call (.ref fa) ⟨[.ref a],[]⟩) (λ r s'=>r=.ok (.ret (.bool true))/\OldK s₁.heap s'.heap/\s'.os=s₁.os/\AllBare s'.gens) s₁:=by
 have rv:=kA hi
 have lenV:=hi.length
 have core:∀H:Hp,Only H->SqL K H a (ns.map V.int)->HOk P w H s₁.heap->(∀b,H b≠none->b=a)->(H a≠none->K.lookup a=none) ->
   codeAny (model P w) callerA (.call (.ref fa) ⟨[.ref a],[]⟩) (λ r s'=>r=.ok (.ret (.bool true))/\OldK s₁.heap s'.heap/\s'.os=s₁.os/\AllBare s'.gens) s₁:=by
  intro H hO hS hok hA hK
  have base_of:∀{b:Addr} {o:Obj},s₁.heap.get? b=some o->H b=none->(hidT s₁.heap H).get? b=some o:=λ e n=>rQ e n
  have noA:∀{b:Addr} {o:Obj} {es:Array DictEntry} {ep:Nat},s₁.heap.get? b=some o->o.data=.dict es ep->H b=none:=λ {b o es ep} e d=>by
   cases q:H b with
   | none=>rfl
   | some u =>
    have e':b=a:=hA b (by rw[q]; simp)
    subst e'
    rw[ha] at e; cases e
    have d':Data.seq vs.toArray _=Data.dict es ep:=d
    cases d'
  have nsK:∀{b:Addr} {m:Str->Option xK},s₁.heap.Ns b m->(hidT s₁.heap H).Ns b m:=λ {b m} ⟨o,es,ep,e,d,r⟩=>⟨o,es,ep,base_of e (noA e d),d,r⟩
  have hKb:K.In (hidT s₁.heap H):=λ b o e=>base_of (KX b o e) (by
   cases q:H b with
   | none=>rfl
   | some u =>
    have e':b=a:=hA b (by rw[q]; simp)
    subst e'
    rw[hK (by rw[q]; simp)] at e; cases e)
  have hM:Mod K mg (hidT s₁.heap H):=⟨hKb,nsK hns,⟨mb,nsK hb,hbb⟩,let ⟨mc,h1,h2⟩:=hlim; ⟨mc,nsK h1,h2⟩⟩
  have e0:Env0 P w K mg (hidT s₁.heap H) callerA [] s₁ H:=⟨rfl,hM,λ b o e=>uA e,Nat.le_of_eq (o5 _ _),trivial,λ b hb=>absurd (show b∈([]:List Addr) from hb) (by simp),hok,.of_eq hg⟩
  refine codeAny_mono ((F _ hKb (nsK hns)).run callerA [] s₁ H ⟨[.ref a],[]⟩ [.ref a] [.ref a] _ _ hr e0 (hbind s₁ (.ref a)) (.cons rfl .nil) (hsp H hO hS)) λ r s' h=>?_
  cases r with
  | error e=>exact (hCX H e s' h).elim
  | ok fl =>
   cases fl with
   | next=>exact False.elim h
   | brk=>exact False.elim h
   | cont=>exact False.elim h
   | ret u =>
    obtain⟨v,H',os,bare,un,hok',r',q⟩:=h
    have q':v=.bl true:=q
    subst q'
    obtain rfl:u=xK.bool true:=r'
    refine⟨rfl,OldK.of_keep λ b o e=>?_,os,bare⟩
    cases q:H b with
    | none=>exact un.keep b o e q (by intro z; exact absurd (show b∈([]:List Addr) from z) (by simp)) (by simp)
    | some u =>
     rcases hO b with z | ⟨ob,xs,z⟩
     ·rw[q] at z; cases z
     ·have z2:=un.frzs b ob _ z
      obtain⟨e1,_⟩:=hok b _ z
      obtain⟨e2,_⟩:=hok' b _ z2
      rw[e] at e1; cases e1
      exact e2
 cases hk:K.lookup a with
 | some o =>
  have e:=KX a o hk
  rw[ha] at e
  cases e
  refine core (λ _=>none) (λ _=>.inl rfl) (.inr ⟨_,vs.toArray,_,hk,rfl,rfl,rfl,by rw[xU,lenV]; exact hl,by simpa using rv⟩) (λ b u z=>by have z':(none:Option HO)=some u:=z; cases z') (λ b z=>absurd rfl z) λ z=>absurd rfl z
 | none =>
  refine core (λ b=>if b=a then some (.frz { cls:=.type "list",data:=.seq vs.toArray } (.lst (ns.map V.int))) else none) (λ b=>?_) (.inl (.inr ⟨{ cls:=.type "list",data:=.seq vs.toArray },if_pos rfl⟩)) (λ b u z=>?_) (λ b z=>?_) λ _=>hk
  ·by_cases hb:b=a
   ·exact .inr ⟨_,_,if_pos hb⟩
   ·exact .inl (if_neg hb)
  ·by_cases hb:b=a
   ·have z':=(if_pos hb).symm.trans z
    cases z'
    subst hb
    exact⟨ha,by rw[xQ]; exact hl,vs,_,rv,ha⟩
   ·have z':=(if_neg hb).symm.trans z
    cases z'
  ·by_cases hb:b=a
   ·exact hb
   ·exact absurd (if_neg hb) z
abbrev KOf {K:W.Frag}{h:Heap}(_:K.In h):W.Frag:=K
theorem walk_of {l:W.OpenLaw}{n k:Nat}{q:yk}{loose:List Str}{XP:(Str->Option xK)->Heap->Prop}{YP:World->Heap->Prop}{d:DefRec}{K:Params->W.Frag}{CX:World->CXT}{sp:World->Sp}{x:Str}
  (hn:l.most=some n) (hn2:n<=xV) (hdf:d.params.defaults=[]) (hr:Room k callerA)
  (hY:∀(w:World) (h:Heap),YP w h->(K w.params).In h)
  (F:∀(w:World) (mg:Str->Option xK) (fa:Addr) (h:Heap),(K w.params).In h->h.Ns yp mg->mg d.name=some (.ref fa) ->
   ∃fd:yM,(∀(s:xO) (u:xK),BindsTo s fd ⟨[u],[]⟩ [(x,u)]) /\
    ∀base:Heap,(K w.params).In base->base.Ns yp mg->FnOk l.prog w (K w.params) mg base (CX w) k fa fd [x] (sp w))
  (hsp:∀(w:World) (H:Hp) (a:Addr) (ns:List Int),ns.length<=n->Only H->SqL (K w.params) H a (ns.map V.int)->sp w [.ref a] H (λ v _=>v=.bl true) λ _ _ _=>False)
  (hCX:∀(w:World) (H:Hp) (s:xO) (e:xK) (s':xO),CX w [] H s (λ _ _ _=>False) e s'->False) :
  W.WalkO q loose XP YP l.row.toRowW d [] (λ f vs=>PySem.call f vs):=by
 refine Att.attach_call hn hdf λ w s₀ s₁ mg mb fa o pm cd doc a vs ns G Y ho hd hcd hmg hobj hints hlen hg=>?_
 have KX:=hY w _ Y
 obtain⟨fd,hb,hF⟩:=F w mg fa _ KX G.T.g hmg
 exact r9 KX G.T.g G.T.b G.T.builtins G.T.nolimit hg hobj hints (yv hlen hn2) hr hF hb (λ H hO hS=>hsp w H a ns hlen hO hS) λ H e s'=>hCX w H s₁ e s'
def cR (s:Stmt):Arguments:=match s with
 | .FunctionDef _ a _ _ _ _ _ _ _ _=>a
 | _=>{ posonlyargs:=[],args:=[],vararg:=none,kwonlyargs:=[],kw_defaults:=[],kwarg:=none,defaults:=[] }
def aB (s:Stmt):List Stmt:=match s with
 | .FunctionDef _ _ b _ _ _ _ _ _ _=>b
 | _=>[]
def ac (s:Stmt):Scope:=match s with
 | .FunctionDef _ _ _ _ _ _ sc _ _ _=>sc
 | _=>{ kind:=.function,names:=[],isGenerator:=false,isCoroutine:=false }
abbrev CX0:CXT:=λ _ _ _ _ _ _=>False
abbrev E0:XK:=λ _ _ _=>False
theorem pass0 {X:Cx}:pj CX0 X E0:=λ _ _ _ _ _ _ _ h=>h.elim
structure Fun (K:W.Frag) (x qual:Str) (st:Stmt) (f:Addr) (fd:yM):Prop where
 ex:∃(oc:xK) (od:Option Addr) (kV doc pm:xK) (an:Option Addr) (cdv ct:xK) (osl:Array (Option xK)),
  fd=W.fnOf x qual (cR st) (aB st) (ac st) .none kV doc pm an cdv ct/\K.lookup f=some ⟨oc,od,.func fd,osl⟩/\W.codeIn K cdv qual=true
 kp:W.keepIn K (.ref f)=true
section
variable {P:yk}{w:World}{K:W.Frag}{mg:Str->Option xK}{base:Heap}
theorem Fun.ok {x qual:Str}{st:Stmt}{f:Addr}{fd:yM}{N ps:List Str}{k:Nat}{sp:Sp}(F:Fun K x qual st f fd)(S:FnScope N ps (ac st))(len:∀vs H Q E,sp vs H Q E->vs.length=ps.length)
  (hbody:∀(cdv:xK) (A:Around) (outer:List Env) (s:xO) (H:Hp) (vs:List V) (Q:VK) (E:XK),Room k (A.deeper (envOfC qual (ac st) s.heap.objs.size f cdv))->sp vs H Q E ->
   ∃t,PSs (cxOf CX0 P w K mg base N qual (ac st) f cdv A outer s H E).nox (aB st) t/\t { nx:=λ _ H'=>Q .non H',rt:=Q } (start N vs) H):FnOk P w K mg base CX0 (k+1) f fd ps sp:=by
 obtain⟨oc,od,kV,doc,pm,an,cdv,ct,osl,rfl,lk,hcd⟩:=F.ex
 refine fn_of lk hcd S len λ A outer s H vs Q E hr hsp=>?_
 obtain⟨t,h,q⟩:=hbody cdv A outer s H vs Q E hr hsp
 exact⟨t,h.nox,q⟩
theorem Fun.binds {x qual:Str}{st:Stmt}{f:Addr}{fd:yM}{ps:List Str}(F:Fun K x qual st f fd)
  (h:∀(kV doc pm:xK) (an:Option Addr) (cdv ct:xK) (us:List xK),us.length=ps.length->bindArgs (W.fnOf x qual (cR st) (aB st) (ac st) .none kV doc pm an cdv ct) ⟨us,[]⟩=pure (ps.zip us)):Binds K fd ps []:=by
 obtain⟨oc,od,kV,doc,pm,an,cdv,ct,osl,rfl,lk,hcd⟩:=F.ex
 exact .all (h kV doc pm an cdv ct)
theorem pF {x qual:Str}{st:Stmt}{f:Addr}{oc:xK}{od an:Option Addr}{osl:Array (Option xK)}{kV doc pm cdv ct:xK}(l:K.lookup f=some ⟨oc,od,.func (W.fnOf x qual (cR st) (aB st) (ac st) .none kV doc pm an cdv ct),osl⟩)
  (c:W.codeIn K cdv qual=true) (k:W.keepIn K (.ref f)=true):Fun K x qual st f (W.fnOf x qual (cR st) (aB st) (ac st) .none kV doc pm an cdv ct):=⟨⟨oc,od,kV,doc,pm,an,cdv,ct,osl,rfl,l,c⟩,k⟩
end
theorem hu_of {A:Around}{k:Nat}(hr:Room k A):A.units+1<cLine:=Ab (Nat.add_le_add_left (by decide:1<=64) _) hr.units
section
variable {X:Cx}
theorem pv (i:Nat){x:Str}{pos:Pos}(hN:X.N[i]? = some x:=by rfl)(hv:Vis X.env.scope x:=by first | exact Or.inl rfl | exact Or.inr (Or.inl rfl) | exact Or.inr (Or.inr rfl))(hd:(x == ("__debug__" : Str))=false:=by decide)
  (hcd:(x == ("__classdict__" : Str))=false:=by decide):PE X (.Name x pos) (tVar i):=tG hN hv hd hcd
end
theorem iteF {A B:Prop}(h:B):if false=true then A else B:=by
 rw[if_neg yT]
 exact h
theorem iteT {A B:Prop}(h:A):if true=true then A else B:=by
 rw[if_pos rfl]
 exact h
theorem ite2 {c A B:Prop}[Decidable c](h1:c->A)(h2:¬ c->B):if c then A else B:=by
 by_cases h:c
 ·rw[if_pos h]
  exact h1 h
 ·rw[if_neg h]
  exact h2 h
def Same (H H':Hp):Prop:=∀b o,H b=some o->H' b=some o
theorem Same.refl (H:Hp):Same H H:=λ _ _ h=>h
theorem Same.trans {H H1 H2:Hp}(a:Same H H1)(b:Same H1 H2):Same H H2:=λ c o h=>b c o (a c o h)
theorem Same.free {H H':Hp}(e:Same H H'){l:Addr}(h:H' l=Option.none):H l=Option.none:=by
 cases q:H l with
 | none=>rfl
 | some o =>
  rw[e l o q] at h
  cases h
structure DefOk (P:yk) (w:World) (K:W.Frag) (mg:Str->Option xK) (base:Heap) (k:Nat) (x:Str) (ps:List Str) (sp:Sp):Prop where
 ex:∃(f:Addr) (fd:yM),FnOk P w K mg base CX0 k f fd ps sp/\mg x=some (.ref f)/\W.keepIn K (.ref f)=true/\Binds K fd ps []
def i9 (sp:Sp)(t:TA):TE:=λ σ H Q=>t σ H λ vs H1=>sp vs H1 Q E0
theorem pG (sp:Sp)(t:TA):tCall sp [] E0 t=i9 sp t:=by
 funext σ H Q
 unfold tCall i9
 congr
 funext vs H1
 rw[y0]
section
variable {X:Cx}{k:Nat}{x:Str}{ps:List Str}{sp:Sp}{e:Expr}{es:List Expr}{t:TA}{p pos:Pos}
theorem se (D:DefOk X.prog X.w X.K X.mg X.base k x ps sp)(hr:Room k X.A)(ha:PA X (e::es) t)(hg:Gl X x:=by rfl)
  (hdb:(x == ("__debug__" : Str))=false:=by decide) (he:starEach (e::es) X.env=(false,eval e X.env)::starEach es X.env:=by rfl) (hpl:(backTo pos (starEach es X.env)).any (·.1)=false:=by rfl) :
  PE X (.Call (.Name x p) (e::es) [] pos) (i9 sp t):=by
 obtain⟨f,fd,F,hm,hk,hb⟩:=D.ex
 rw[<- pG]
 exact pk F hr hg hm hk hb .nil pass0 ha hdb he hpl
end
def clOf (cells:List (Str × Addr)):List (Str × yH)->List (Str × Addr)->List (Str × Addr)
 | [],acc=>acc
 | (n,k)::r,acc=>clOf cells r (if (k == yH.free)=true then (n,(cells.lookup n).getD 0)::acc else acc)
theorem kB (cells:List (Str × Addr))(n:Str)(k:yH)(r:List (Str × yH))(acc:List (Str × Addr)):clOf cells ((n,k)::r) acc=clOf cells r (if (k == yH.free)=true then (n,(cells.lookup n).getD 0)::acc else acc):=rfl
theorem mI {cells:List (Str × Addr)}{x:Str}{c:Addr}:∀{l:List (Str × yH)} {acc:List (Str × Addr)},(x,c)∈clOf cells l acc->(x,c)∈acc\/((x,yH.free)∈l/\c=(cells.lookup x).getD 0)
 | [],acc,h=>.inl h
 | (n,k)::r,acc,h=>by
  unfold clOf at h
  rcases mI h with h | ⟨h1,h2⟩
  ·by_cases hk:(k == yH.free)=true
   ·rw[if_pos hk] at h
    rcases xR.mp h with h | h
    ·cases h
     have:k=yH.free:=by simpa using hk
     subst this
     exact .inr ⟨ya,rfl⟩
    ·exact .inl h
   ·rw[if_neg hk] at h
    exact .inl h
  ·exact .inr ⟨xT _ h1,h2⟩
theorem mJ {cells:List (Str × Addr)}{q:Str × Addr}:∀{l:List (Str × yH)} {acc:List (Str × Addr)},q∈acc->q∈clOf cells l acc
 | [],_,h=>h
 | (n,k)::r,acc,h=>by
  unfold clOf
  refine mJ ?_
  split
  ·exact xT _ h
  ·exact h
theorem pH {cells:List (Str × Addr)}{x:Str}:∀{l:List (Str × yH)} {acc:List (Str × Addr)},(x,yH.free)∈l->(x,(cells.lookup x).getD 0)∈clOf cells l acc
 | [],_,h=>by cases h
 | (n,k)::r,acc,h=>by
  unfold clOf
  rcases xR.mp h with h | h
  ·cases h
   refine mJ ?_
   simp
  ·exact pH h
theorem ja {β:Type}{x:Str}{b:β}:∀{l:List (Str × β)},(x,b)∈l->∃c,l.lookup x=some c
 | [],h=>by cases h
 | (n,k)::r,h=>by
  rw[zi]
  cases e:x == n with
  | true=>exact⟨k,rfl⟩
  | false =>
   rcases xR.mp h with h | h
   ·cases h
    simp at e
   ·exact ja h
theorem eD {env:Env}:∀(l:List (Str × yH)) (acc:List (Str × Addr)),(∀x∈l,x.2=yH.free->∃c,env.cells.lookup x.1=some c) ->
  (forIn l acc λ x r=>if (x.2 == yH.free)=true then (do let c <- cellOf env x.1; pure (ForInStep.yield ((x.1,c)::r))) else pure (ForInStep.yield r):Sem (List (Str × Addr)))=pure (clOf env.cells l acc)
 | [],acc,_=>rfl
 | (n,k)::r,acc,h=>by
  rw[List.forIn_cons]
  by_cases hk:(k == yH.free)=true
  ·obtain⟨c,hc⟩:=h (n,k) ya (by simpa using hk)
   have e:cellOf env n=pure c:=by unfold cellOf; rw[hc]
   show (if (k == yH.free)=true then _ else _) >>= _=_
   rw[if_pos hk,e]
   show (forIn r ((n,c)::acc) _:Sem _)=_
   rw[eD r _ λ x hx=>h x (xT _ hx)]
   rw[kB,if_pos hk,show env.cells.lookup n=some c from hc]
   rfl
  ·show (if (k == yH.free)=true then _ else _) >>= _=_
   rw[if_neg hk]
   show (forIn r acc _:Sem _)=_
   rw[eD r _ λ x hx=>h x (xT _ hx)]
   rw[kB,if_neg hk]
theorem jw {scope:Scope}{env:Env}(h:∀x∈scope.names,x.2=yH.free->∃c,env.cells.lookup x.1=some c):closureFor scope env=pure (clOf env.cells scope.names []):=by
 have e:=eD scope.names [] h
 unfold closureFor
 first
  | exact (congrArg (λ m=>m >>= λ r=>pure r) e).trans rfl
  | (simp only[bind_pure]; exact e)
  | (rw[<- e]; rfl)
def bR (X:Cx)(sc:Scope)(N:List Str)(cl:List (Str × Addr))(C:Addr)(s₂:xO)(H₂:Hp)(fp:List Addr):Cx where
 prog:=X.prog
 w:=X.w
 K:=X.K
 mg:=X.mg
 base:=X.base
 A:=X.A
 N:=N
 s₀:=s₂
 H₀:=H₂
 env:=compEnvC sc cl C X.env
 outer:=X.stack
 stack:=X.stack
 ex:=fp
 fn:=λ _=>false
 calm:=true
 pn:=[]
 xe:=λ _ _=>False
def eV (NX:List Str)(scX sc:Scope)(N:List Str)(mp:List (Option Nat)):Bool :=
 sc.names.all (λ p=>p.2 != yH.cell) && sc.names.all (λ p=>p.2 != yH.local || sc.names.lookup p.1 == some yH.local) &&
 sc.names.all (λ p=>p.2 != yH.free || (scX.names.lookup p.1 == some yH.cell || scX.names.lookup p.1 == some yH.free)) &&
 mp.length == N.length && (N.zip mp).all (λ q=>match q.2 with | none=>true | some i=>NX[i]? == some q.1 && sc.names.lookup q.1 == some yH.free)
def seed (mp:List (Option Nat))(σ:St):St:=mp.map λ o=>match o with | none=>none | some i=>(σ[i]?).join
structure CompOk (NX:List Str) (scX sc:Scope) (N:List Str) (mp:List (Option Nat)):Prop where
 cell:∀x∈sc.names,x.2≠yH.cell
 loc:∀x∈sc.names,x.2=yH.local->sc.names.lookup x.1=some yH.local
 free:∀x∈sc.names,x.2=yH.free->scX.names.lookup x.1=some yH.cell\/scX.names.lookup x.1=some yH.free
 len:mp.length=N.length
 map:∀(j:Nat) (x:Str) (i:Nat),N[j]? = some x->mp[j]? = some (some i)->NX[i]? = some x/\sc.names.lookup x=some yH.free
theorem pI {NX:List Str}{scX sc:Scope}{N:List Str}{mp:List (Option Nat)}(h:eV NX scX sc N mp=true):CompOk NX scX sc N mp:=by
 unfold eV at h
 simp only[yD,zX] at h
 obtain⟨⟨⟨⟨h1,h2⟩,h3⟩,h4⟩,h5⟩:=h
 have hl:mp.length=N.length:=by simpa using h4
 refine⟨λ x hx=>by simpa using h1 x hx,λ x hx e=>?_,λ x hx e=>?_,hl,λ j x i e1 e2=>?_⟩
 ·have:=h2 x hx
  rw[e] at this
  simpa using this
 ·have:=h3 x hx
  rw[e] at this
  simpa using this
 ·have hj1:j<N.length:=(ym.mp e1).1
  have hj2:j<mp.length:=(ym.mp e2).1
  have hm:(x,some i)∈N.zip mp:=by
   refine zt (i:=j) ?_
   rw[List.getElem?_zip_eq_some]
   exact⟨e1,e2⟩
  have:=h5 _ hm
  simpa using this
theorem ef {sc:Scope}{env:Env}{x:Str}{k:yH}(h:(relabel sc env).names.lookup x=some k):∃k',(x,k')∈sc.names/\(k=k'\/(k'=yH.free/\k=yH.cell)):=by
 have hm:=PySem.mem_of_lookup h
 obtain⟨⟨n,k'⟩,hm',e⟩:=yI.mp hm
 refine⟨k',?_⟩
 dsimp only at e
 split at e
 ·rename_i hc
  cases e
  rw[yD,yD] at hc
  have:k'=yH.free:=by simpa using hc.1.1
  exact⟨hm',.inr ⟨this,rfl⟩⟩
 ·cases e
  exact⟨hm',.inl rfl⟩
theorem kC {sc:Scope}{env:Env}{x:Str}(h:sc.names.lookup x=some yH.free):(relabel sc env).names.lookup x=some yH.cell\/(relabel sc env).names.lookup x=some yH.free:=by
 show (sc.names.map _).lookup x=_\/(sc.names.map _).lookup x=_
 generalize sc.names=l at h
 induction l with
 | nil=>cases h
 | cons p r ih =>
  obtain⟨n,k⟩:=p
  rw[xY]
  dsimp only
  by_cases hc:(k == yH.free && env.scope.kind == .function && env.kindOf n == some .cell)=true
  ·rw[if_pos hc,zi]
   cases e:x == n with
   | true=>exact .inl rfl
   | false =>
    rw[zi,e] at h
    exact ih h
  ·rw[if_neg hc,zi]
   cases e:x == n with
   | true =>
    rw[zi,e] at h
    exact .inr h
   | false =>
    rw[zi,e] at h
    exact ih h
section
variable {X:Cx}{sc:Scope}{N:List Str}{mp:List (Option Nat)}{pins:List (Addr × Obj)}{σ:St}{H:Hp}{s:xO}{fp:List Addr}{C:Addr}{h₁:Heap}
theorem mK (O:CompOk X.N X.env.scope sc N mp)(ok:X.Ok):∀x∈sc.names,x.2=yH.free->∃c,X.env.cells.lookup x.1=some c:=λ x hx e=>ok.has x.1 (O.free x hx e)
theorem gN (O:CompOk X.N X.env.scope sc N mp)(ok:X.Ok){x:Str}{c:Addr}(h:(clOf X.env.cells sc.names []).lookup x=some c):X.env.cells.lookup x=some c/\(x,yH.free)∈sc.names:=by
 rcases mI (PySem.mem_of_lookup h) with h | ⟨h1,h2⟩
 ·cases h
 ·obtain⟨c',hc⟩:=mK O ok _ h1 rfl
  have hc':X.env.cells.lookup x=some c':=hc
  rw[hc'] at h2
  rw[hc',h2]
  exact⟨rfl,h1⟩
theorem tK (O:CompOk X.N X.env.scope sc N mp)(ok:X.Ok){x:Str}(h:(x,yH.free)∈sc.names):∃c,(clOf X.env.cells sc.names []).lookup x=some c:=ja (pH h)
theorem sf (hc:X.calm=true)(O:CompOk X.N X.env.scope sc N mp)(hk:sc.kind=.function)(I:Inv X pins σ H s)(hC:s.heap.objs.size<=C)(kp:∀b o,s.heap.get? b=some o->h₁.get? b=some o){m:Str->Option xK}
  (hn:h₁.Ns C m) (fpo:∀b∈fp,FpOk X pins H b) (fpl:∀b∈fp,b<s.heap.objs.size) {t':Nat} :
  Inv (bR X sc N (clOf X.env.cells sc.names []) C s H fp) [] (seed mp σ) H { s with heap:=h₁,toks:=t' }:=by
 have ok:=I.ok
 have fsb:∀b∈fp,b ∉ frs X.stack:=λ b hb z=>by
  rcases xR.mp (I.stkSub b z) with e | e
  ·exact (fpo b hb).2.1 e
  ·exact (fpo b hb).2.2.1 e
 refine⟨⟨ok.mod,hk,ok.glob,ok.blt,hC,?_,?_,?_,λ _=>ok.hd hc,ok.frames,.inl rfl,?_,I.bs,yv ok.bsz I.sz,?_,fsb,I.stack,I.stkFree⟩,rfl,I.bare,Un.kept kp,?_,?_,I.hok.fresh hC,?_,?_,I.hok.kept kp,?_⟩
 ·intro x y c h1 h2
  exact ok.inj x y c (gN O ok h1).1 (gN O ok h2).1
 ·intro x hx
  have hx':(relabel sc X.env).names.lookup x=some .cell\/(relabel sc X.env).names.lookup x=some .free:=hx
  have hf:(x,yH.free)∈sc.names:=by
   rcases hx' with h | h
   ·obtain⟨k',hm,e⟩:=ef h
    rcases e with e | ⟨e,_⟩
    ·subst e
     exact absurd rfl (O.cell _ hm)
    ·subst e
     exact hm
   ·obtain⟨k',hm,e⟩:=ef h
    rcases e with e | ⟨_,e⟩
    ·subst e
     exact hm
    ·cases e
  exact tK O ok hf
 ·intro x c hf
  cases hf
 ·intro b hb
  refine⟨yu (yr (fpl b hb) hC),λ x c h=>?_⟩
  exact (fpo b hb).2.2.2.2.1 x c (gN O ok h).1
 ·intro b o e hb
  rcases (fpo b hb).2.2.2.1 with z | z
  ·exact ok.noex b o e z
  ·exact absurd (yr (yd (ok.bs b o e).1) z) (y6 _)
 ·refine⟨m,hn,λ j x v e1 e2 e3=>?_⟩
  have e1':N[j]? = some x:=e1
  have hj:j<mp.length:=by
   rw[O.len]
   exact (ym.mp e1').1
  obtain⟨i,hi,hv⟩:∃i,mp[j]? = some (some i)/\σ[i]? = some (some v):=by
   unfold seed at e2
   rw[yg] at e2
   cases e:mp[j]? with
   | none=>rw[e] at e2; cases e2
   | some o =>
    rw[e] at e2
    cases o with
    | none=>cases e2
    | some i =>
     refine⟨i,rfl,?_⟩
     have e2':(σ[i]?).join=some v:=Option.some.inj e2
     cases q:σ[i]? with
     | none=>rw[q] at e2'; cases e2'
     | some z =>
      rw[q] at e2'
      have:z=some v:=e2'
      rw[this]
  obtain⟨hx,hf⟩:=O.map j x i e1' hi
  have hfm:=PySem.mem_of_lookup hf
  obtain⟨mX,hnX,hl⟩:=I.loc
  have vis:Vis X.env.scope x:=by
   rcases O.free _ hfm rfl with z | z
   ·exact .inr (.inl z)
   ·exact .inr (.inr z)
  obtain⟨u,r,q⟩:=hl i x v hx hv vis
  refine⟨u,r,?_⟩
  rcases q with⟨z,_⟩ | ⟨_,c,ec,cellc⟩
  ·exfalso
   have z':X.env.scope.names.lookup x=some .local:=z
   rcases O.free _ hfm rfl with y | y
   ·rw[show X.env.scope.names.lookup x=some .cell from y] at z'; cases z'
   ·rw[show X.env.scope.names.lookup x=some .free from y] at z'; cases z'
  ·obtain⟨c',hc'⟩:=tK O ok hfm
   have hcc:=(gN O ok hc').1
   rw[ec] at hcc
   cases hcc
   refine .inr ⟨kC hf,c,hc',?_⟩
   obtain⟨o,ho,hd⟩:=cellc
   exact⟨o,kp _ _ ho,hd⟩
 ·intro x c h
  obtain⟨v,o,ho,hd⟩:=I.cell x c (gN O ok h).1
  exact⟨v,o,kp _ _ ho,hd⟩
 ·intro x c h
  exact I.freeC x c (gN O ok h).1
 ·intro p hp
  cases hp
 ·show (seed mp σ).length=N.length
  unfold seed
  rw[xQ,O.len]
theorem Inv.track {a:Addr}{o:HO}{ob:Obj}(I:Inv X pins σ H s)(ho:s.heap.get? a=some ob)(hn:H a=none)(hL:a≠X.env.locals)(h1:a∈X.ex\/X.s₀.heap.objs.size<=a)(h2:∀x c,X.env.cells.lookup x=some c->c≠a)
  (h3:∀p∈X.pn++pins,p.1≠a) (new:ObjOk X.prog X.w (upd H a o) s.heap a o):Inv X pins σ (upd H a o) s:=by
 have nit:∀b u,H b=some u->b≠a:=λ b u e z=>by rw[z,hn] at e; cases e
 have:=I.step (g':=s.gens) (d':=s.drawn) (t':=s.toks) (h':=s.heap) (H':=upd H a o) (ch:=[a]) (λ b hb=>?_) (λ b o _ _ _ e _=>e) (λ b o _ _ _ e _=>⟨o.slots,e⟩) (λ b o hc _ n=>?_)
  (λ b o _ e=>⟨o,e⟩) (λ b xs e=>?_) (λ b u xs e=>?_) (λ b ps e=>⟨#[],?_⟩) (λ m hm=>hm) (λ b u e=>?_) I.bare
 ·exact this
 ·have e:b=a:=by simpa using hb
  subst e
  exact⟨h1,hL,h2,h3⟩
 ·rw[ag (λ z=>hc (by simp[z]))]; exact n
 ·rw[ag (nit _ _ e)]; exact e
 ·rw[ag (nit _ _ e)]; exact e
 ·rw[ag (nit _ _ e),e]; simp
 ·by_cases hb:b=a
  ·subst hb; rw[af] at e; cases e; exact new
  ·rw[ag hb] at e
   exact (I.hok b u e).stay (λ c v _ q=>q) (λ c q=>by rw[ag (nit _ _ q)]; exact q) λ c xs q=>by rw[ag (nit _ _ q)]; exact q
end
theorem kD {prog:yk}{w:World}{A:Around}{R:Result->xO->Prop}{s:xO}{elt target iter:Expr}{ifs:List Expr}{scope:Scope}{pos:Pos}{it acc:xK}{env:Env}(I:Nat->xO->Prop)
  (turn:∀n s,I n s->yb (model prog w) A (pyNext it) (λ r s₁=>match r with
   | none=>R (.ok .next) s₁
   | some v=>yb (model prog w) A (letOwnedTupleGo target it v) (λ _ s'=>yb (model prog w) A (assign target env v) (λ _ s₂ =>
     yb (model prog w) A (forIn ifs true λ c r=>if r=true then do let ok <- isTrue c env (eval c env); pure (ForInStep.yield ok) else pure (ForInStep.yield r)) (λ ok s₃ =>
      if ok=true then yb (model prog w) A (eval elt env) (λ x s₄ =>
       yb (model prog w) A (call (.builtin "list.append") [acc,x]) (λ _ s₅=>∃m,m<n/\I m s₅) (λ _ _=>False) s₄) (λ _ _=>False) s₃
      else ∃m,m<n/\I m s₃) (λ _ _=>False) s₂) (λ _ _=>False) s') (λ _ _=>False) s₁) (λ _ _=>False) s)
  (n:Nat) (h:I n s) :
  codeAny (model prog w) A (.compLoop (.ListComp elt [⟨target,iter,ifs,0⟩] scope pos) 0 it acc env) R s:=by
 refine codeAny_loop rfl I (λ n s hI=>?_) n h
 show yb _ A ((compTurn (.ListComp elt [⟨target,iter,ifs,0⟩] scope pos) 0 it acc env).onRaise (λ x=>do noteFrame x env; theTreesLotGoes x)) _ _ s
 refine wpAny_noted ?_
 rw[compTurn_list]
 refine xI (wpAny_standAt (xI (y8 (turn n s hI) (λ r s₁ h₁=>?_) λ _ _ h'=>h'.elim)))
 cases r with
 | none=>exact xN h₁
 | some v =>
  refine xI (y8 h₁ (λ _ s' h'=>xI (y8 h' (λ _ s₂ h₂=>xI (y8 h₂ (λ ok s₃ h₃=>?_) λ _ _ h'=>h'.elim)) λ _ _ h'=>h'.elim)) λ _ _ h'=>h'.elim)
  cases ok with
  | false=>exact xN ⟨rfl,h₃⟩
  | true =>
   exact xI (xI (y8 h₃ (λ x s₄ h₄=>xI (y8 h₄ (λ _ s₅ h₅=>xN (xN ⟨rfl,h₅⟩)) λ _ _ h'=>h'.elim)) λ _ _ h'=>h'.elim))
def PCk (X:Cx)(ifs:List Expr)(t:TT):Prop :=
 ∀(pins:List (Addr × Obj)) (s:xO) (σ:St) (H:Hp) (Q:Bool->Hp->Prop),Inv X pins σ H s->t σ H Q ->
  yb (model X.prog X.w) X.A (forIn ifs true λ c r=>if r=true then do let ok <- isTrue c X.env (eval c X.env); pure (ForInStep.yield ok) else pure (ForInStep.yield r)) (TP X pins σ Q) X.xe s
def tTrue:TT:=λ _ H Q=>Q true H
theorem u6 {X:Cx}:PCk X [] tTrue:=λ _ _ _ H _ I h=>wpAny_tests_nil ⟨H,I,h⟩
theorem u7 {X:Cx}{c:Expr}{t:TT}(h:PT X c t):PCk X [c] t:=λ pins s σ H Q I hw=>wpAny_tests_one (h pins s σ H Q I hw)
abbrev TC:=St->Hp->(List V->Hp->Prop)->Prop
def tComp (wi:TI)(mp:List (Option Nat))(g:TG)(tc:TT)(te:TE):TC:=λ σ H R=>wi σ H λ J H1=>∃W:Nat->Nat->List V->St->Hp->Prop,(∃m,W 0 m [] (seed mp σ) H1)/\∀i m ys σ' H',W i m ys σ' H' ->
 (J.stop i H'/\ys.length<=xV/\R ys H') \/
 (J.go i H'/\ys.length<xV/\∀x H'',J.yld i H' x H''->g x σ' H'' λ σ2 H2=>tc σ2 H2 λ b H3 =>
  if b=true then te σ2 H3 λ y H4=>∃m',m' < m/\W (i+1) m' (ys++[y]) σ2 H4 else ∃m',m' < m/\W (i+1) m' ys σ2 H3)
section
variable {X:Cx}{elt tg iter:Expr}{ifs:List Expr}{sc:Scope}{pos pos':Pos}{N:List Str}{mp:List (Option Nat)}{wi:TI}{g:TG}{tc:TT}{te:TE}
theorem pJ {use:Option (xK->Sem Unit)}{Q:xK->xO->Prop}(hc:X.calm=true)(hi:PI X tg iter wi)(hk:sc.kind=.function)(O:CompOk X.N X.env.scope sc N mp)
  (hb:∀(cl:List (Str × Addr)) (C:Addr) (s₂:xO) (H₂:Hp) (fp:List Addr),PG (bR X sc N cl C s₂ H₂ fp) tg g/\PCk (bR X sc N cl C s₂ H₂ fp) ifs tc/\PE (bR X sc N cl C s₂ H₂ fp) elt te)
  {pins:List (Addr × Obj)} {s:xO} {σ:St} {H:Hp} {R:List V->Hp->Prop} (I:Inv X pins σ H s) (h:tComp wi mp g tc te σ H R)
  (hs:∀x,foldedSetIterable iter X.env x=pure x)
  (hend:∀(D C:Addr) (ys:List V) (H':Hp) (s':xO) (m:Str->Option xK),Inv X pins σ (upd H' D (.lst ys)) s'->s'.heap.Ns C m->FpOk X pins (upd H' D (.lst ys)) C->H' D=none->R ys H' ->
   compPost (model X.prog X.w) X.A X.xe use Q (.ref D) C (.ok .next) s') :
  yb (model X.prog X.w) X.A (comprehension (.ListComp elt [⟨tg,iter,ifs,0⟩] sc pos) sc X.env pos' (newList []) false (eval iter X.env) use) Q X.xe s:=by
 have ok:=I.ok
 refine wpAny_comprehension_free (g:=⟨tg,iter,ifs,0⟩) (gs:=[]) rfl hs (jw (mK O ok)) hk O.loc (thn (hi pins s σ H _ I h) λ v s1 h1=>thn h1 λ itv s2 h2=>?_)
 obtain⟨it,fp,tn,J,H2,e,I2,T,st2,f2,W,⟨m0,w0⟩,turn⟩:=h2
 subst e
 refine yF (wpAny_newFunctionEnv O.cell (by intro y hy; simp at hy) (λ h₁ hns₁ hsb₁=>?_) hk)
 dsimp only at hns₁ hsb₁ ⊢
 generalize hP:s2.heap.push { cls:=.type "list",dict:=none,data:=.seq ([]:List xK).toArray }=P2 at hns₁ hsb₁ ⊢
 have hCe:P2.objs.size=s2.heap.objs.size+1:=by rw[<- hP,y9]
 have hDC:s2.heap.objs.size≠P2.objs.size:=by rw[hCe]; exact yu (zN _)
 have hCle:s2.heap.objs.size<=P2.objs.size:=by rw[hCe]; exact zA _
 have old:∀b o,s2.heap.get? b=some o->h₁.get? b=some o:=λ b o e =>
  hsb₁.extBut b o (yu (yr (yd e) hCle)) (xM _ (hP ▸ xM _ e))
 have hacc:h₁.get? s2.heap.objs.size=some { cls:=.type "list",dict:=none,data:=.seq ([]:List xK).toArray } :=
  hsb₁.extBut _ _ hDC (xM _ (hP ▸ xW _ rfl))
 have fpl:∀b∈fp,b<s2.heap.objs.size:=λ b hb=>by
  obtain⟨o,e,_⟩:=T.obj _ _ st2 b hb
  exact yd e
 have hDf:s2.heap.objs.size ∉ fp:=λ z=>y6 _ (fpl _ z)
 have I3:Inv (bR X sc N (clOf X.env.cells sc.names []) P2.objs.size s2 H2 fp) [] (seed mp σ) H2 { s2 with heap:=h₁,toks:=s2.toks+([]:List (Str × xK)).length } :=
  sf hc O hk I2 hCle old hns₁ f2 fpl
 obtain⟨hg,ht,he⟩:=hb (clOf X.env.cells sc.names []) P2.objs.size s2 H2 fp
 generalize hX:bR X sc N (clOf X.env.cells sc.names []) P2.objs.size s2 H2 fp=Y at I3 hg ht he
 have yP:Y.prog=X.prog:=by rw[<- hX]; rfl
 have yw:Y.w=X.w:=by rw[<- hX]; rfl
 have yK:Y.K=X.K:=by rw[<- hX]; rfl
 have yA:Y.A=X.A:=by rw[<- hX]; rfl
 have yc:Y.calm=true:=by rw[<- hX]; rfl
 have yx:Y.xe=λ _ _=>False:=by rw[<- hX]; rfl
 have yl:Y.env.locals=P2.objs.size:=by rw[<- hX]; rfl
 have yex:Y.ex=fp:=by rw[<- hX]; rfl
 have ys0:Y.s₀=s2:=by rw[<- hX]; rfl
 have yH0:Y.H₀=H2:=by rw[<- hX]; rfl
 have ypn:Y.pn=[]:=by rw[<- hX]; rfl
 have yfs:Y.fs=frs X.stack:=by rw[<- hX]; rfl
 have yenv:Y.env=compEnvC sc (clOf X.env.cells sc.names []) P2.objs.size X.env:=by rw[<- hX]; rfl
 have ycl:∀x c,Y.env.cells.lookup x=some c->X.env.cells.lookup x=some c:=λ x c e=>by
  rw[yenv] at e
  exact (gN O ok e).1
 have dne:∀x c,Y.env.cells.lookup x=some c->c≠s2.heap.objs.size:=λ x c e z=>by
  obtain⟨v,o,ho,_⟩:=I2.cell x c (ycl x c e)
  exact absurd (yd ho) (by rw[z]; exact y6 _)
 have fsb:∀b∈fp,b ∉ frs X.stack:=λ b hb z=>by
  rcases xR.mp (I2.stkSub b z) with e | e
  ·exact (f2 b hb).2.1 e
  ·exact (f2 b hb).2.2.1 e
 have dfs:s2.heap.objs.size ∉ frs X.stack:=λ z=>by
  rcases xR.mp (I2.stkSub _ z) with e | e
  ·exact absurd I2.lt (by rw[<- e]; exact y6 _)
  ·exact I2.nofs (xL _) e
 have fpo:∀{H':Hp} {o:Obj},(∀b∈fp,H' b=none)->∀b∈fp,FpOk Y [(s2.heap.objs.size,o)] H' b:=λ {H' o} hn b hb=>by
  refine⟨hn b hb,?_,?_,?_,?_,?_⟩
  ·rw[yl]; exact yu (yr (fpl b hb) hCle)
  ·rw[yfs]; exact fsb b hb
  ·rw[yex]; exact .inl hb
  ·exact λ x c e=>(f2 b hb).2.2.2.2.1 x c (ycl x c e)
  ·intro p hp
   rw[ypn] at hp
   have:p=(s2.heap.objs.size,o):=by simpa using hp
   subst this
   exact λ z=>hDf (by have z':s2.heap.objs.size=b:=z; rw[z']; exact hb)
 have pinD:∀{σ':St} {H':Hp} {s':xO} {o:Obj},Inv Y [] σ' H' s'->s'.heap.get? s2.heap.objs.size=some o->(∀v,o.data≠.cell v)->H' s2.heap.objs.size=none->Inv Y [(s2.heap.objs.size,o)] σ' H' s' :=
  λ {σ' H' s' o} J e d hn=>J.pins_of λ p hp=>by
   have:p=(s2.heap.objs.size,o):=by simpa using hp
   subst this
   exact⟨e,hn,by rw[yl]; exact hDC,by rw[yfs]; exact dfs,d⟩
 have loop:∀s₃:xO,s₃={ s2 with heap:=h₁,toks:=s2.toks+([]:List (Str × xK)).length } ->
   codeAny (model X.prog X.w) X.A (.compLoop (.ListComp elt [⟨tg,iter,ifs,0⟩] sc pos) 0 (.ref it) (.ref s2.heap.objs.size) Y.env)
    (compPost (model X.prog X.w) X.A X.xe use Q (.ref s2.heap.objs.size) P2.objs.size) s₃:=by
  rintro s₃ rfl
  refine kD (λ n s'=>∃i ys its c σ' H',Inv Y [(s2.heap.objs.size,({ cls:=.type "list",data:=.seq its.toArray c }:Obj))] σ' H' s'/\Vals ys its/\tn i s'.heap/\(∀b∈fp,H' b=none)/\ys.length<=xV/\W i n ys σ' H') ?_ m0
   ⟨0,[],[],0,seed mp σ,H2,pinD I3 hacc (λ v z=>by cases z) (I2.hok.fresh (xL _)),.nil,T.keep _ _ _ st2 (λ b _ o e=>old b o e),λ b hb=>(f2 b hb).1,yY _,w0⟩
  rintro n s3 ⟨i,ys,its,c,σ3,H3,J3,rv,st3,fr3,hz,w3⟩
  have hpin:=J3.pin _ (yJ _ (yh.mpr rfl))
  rcases turn i n ys σ3 H3 w3 with⟨stop,hl,qn⟩ | ⟨go,hl,step⟩
  ·have:=T.done Y yP yw yK yc i _ s3 σ3 H3 (λ _ _=>False) J3 (fpo fr3) st3 stop
   rw[yA] at this
   refine thn this λ r s4 ⟨hr,J4⟩=>?_
   subst hr
   obtain⟨pe,pn,_,_,_⟩:=J4.pin _ (yJ _ (yh.mpr rfl))
   dsimp only at pe pn
   have un:=J4.base
   rw[yfs,yex,ys0,yH0] at un
   have os4:s4.os=s2.os:=by have:=J4.os; rw[ys0] at this; exact this
   have hok4:=J4.hok
   rw[yP,yw] at hok4
   have IX:Inv X pins σ H3 s4:=I2.call' os4 un hok4 J4.bare λ b hb=>⟨(f2 b hb).2.2.2.1,(f2 b hb).2.1,(f2 b hb).2.2.2.2.1,(f2 b hb).2.2.2.2.2⟩
   obtain⟨mC,hnC,_⟩:=J4.loc
   rw[yl] at hnC
   have dX:FpOk X pins H3 s2.heap.objs.size:=I2.fpOk (xL _) pn
   have IT:Inv X pins σ (upd H3 s2.heap.objs.size (.lst ys)) s4:=IX.track (o:=.lst ys) pe pn dX.2.1 dX.2.2.2.1 dX.2.2.2.2.1 dX.2.2.2.2.2 ⟨hl,its,c,rv,pe⟩
   have cn:H3 P2.objs.size=none:=by have:=J4.free; rw[yl] at this; exact this
   have cX:FpOk X pins (upd H3 s2.heap.objs.size (.lst ys)) P2.objs.size:=I2.fpOk hCle (by rw[ag hDC.symm]; exact cn)
   exact hend _ _ ys H3 s4 mC IT hnC cX pn qn
  ·have:=T.item Y yP yw yK yc i _ s3 σ3 H3 (λ _ _=>False) J3 (fpo fr3) st3 go
   rw[yA] at this
   refine thn this λ r s4 ⟨u,hr,h4⟩=>?_
   subst hr
   refine thn h4 λ _ s5 ⟨x,H5,J5,r5,y5,st5,fr5⟩=>?_
   have J5':=J5.pinned (fpo fr5) (T.obj _ _ st5)
   have ga:=hg _ s5 σ3 H5 x u _ J5' r5 (step x H5 y5)
   rw[yP,yw,yA,yx] at ga
   refine thn ga λ _ s6 ⟨σ6,H6,J6,q6⟩=>?_
   have gt:=ht _ s6 σ6 H6 _ J6 q6
   rw[yP,yw,yA,yx] at gt
   refine thn gt λ b s7 ⟨H7,J7,q7⟩=>?_
   have pins7:∀{σ':St} {H':Hp} {s':xO},Inv Y ([(s2.heap.objs.size,({ cls:=.type "list",data:=.seq its.toArray c }:Obj))]++kg fp s5.heap) σ' H' s'->tn (i+1) s'.heap/\(∀b∈fp,H' b=none):=λ {σ' H' s'} J=>by
    refine⟨T.keep _ _ _ st5 λ b hb o e=>(J.pin (b,o) (yJ _ (yJ _ (dR hb e)))).1,λ b hb=>?_⟩
    obtain⟨o,e,d⟩:=T.obj _ _ st5 b hb
    exact (J.pin (b,o) (yJ _ (yJ _ (dR hb e)))).2.1
   cases b with
   | false =>
    have q7':∃m',m' < n/\W (i+1) m' ys σ6 H7:=by simpa using q7
    obtain⟨m',hm,w7⟩:=q7'
    obtain⟨t7,f7⟩:=pins7 J7
    rw[if_neg yT]
    exact⟨m',hm,i+1,ys,its,c,σ6,H7,J7.unpinned,rv,t7,f7,hz,w7⟩
   | true =>
    rw[if_pos rfl]
    have q7':te σ6 H7 λ y H4=>∃m',m' < n/\W (i+1) m' (ys++[y]) σ6 H4:=by simpa using q7
    have ge:=he _ s7 σ6 H7 _ J7 q7'
    rw[yP,yw,yA,yx] at ge
    refine thn ge λ u8 s8 ⟨y,H8,J8,r8,m',hm,w8⟩=>?_
    obtain⟨t8,f8⟩:=pins7 J8
    have J8':=J8.unpinned
    obtain⟨pe,pn,_,_,_⟩:=J8'.pin _ (yJ _ (yh.mpr rfl))
    dsimp only at pe pn
    have hlen:=rv.length
    refine call_meets F.slot_list_append ⟨_,pe,rfl⟩ F.entry_list_append (F.args_list_append_2 _ _) (PySem.list_append s2.heap.objs.size its.toArray c u8 (by rw[xU]; omega)) ⟨pe,?_⟩
    have qe:=PySem.IsL.update pe (λ a=>a.push u8)
    have qe':(s8.heap.update s2.heap.objs.size (Obj.mapSeq λ a=>a.push u8)).get? s2.heap.objs.size=some { cls:=.type "list",data:=.seq (its++[u8]).toArray (c+1) }:=by
     simpa using qe
    have J9:Inv Y [] σ6 H8 { s8 with heap:=s8.heap.update s2.heap.objs.size (Obj.mapSeq λ a=>a.push u8),toks:=s8.toks }:=by
     have J0:Inv Y [] σ6 H8 s8:=J8'.pins_of λ p hp=>by cases hp
     refine J0.turned (it:=s2.heap.objs.size) (λ b o hb e=>(xX s8.heap _ (Ne.symm hb)).trans e) pn (by rw[yl]; exact hDC) (.inr (by rw[ys0]; exact xL _)) dne (λ p hp=>?_)
     rw[ypn] at hp
     cases hp
    refine⟨m',hm,i+1,ys++[y],its++[u8],c+1,σ6,H8,pinD J9 qe' (λ v z=>by cases z) pn,rv.append (.cons r8 .nil),?_,f8,by rw[yB,zV]; omega,w8⟩
    exact T.keep _ _ _ t8 λ b hb o e=>(xX s8.heap _ (λ (z:s2.heap.objs.size=b)=>hDf (by rw[z]; exact hb))).trans e
 have yenv':compEnvC sc (clOf X.env.cells sc.names []) P2.objs.size X.env=Y.env:=yenv.symm
 show codeAny _ _ (.compStart _ 0 (.ref it) (.ref s2.heap.objs.size) (compEnvC sc (clOf X.env.cells sc.names []) P2.objs.size X.env)) _ _
 rw[yenv']
 exact codeAny_compStart_list (loop _ rfl) (T.self _ 0 _ _ _ (T.keep _ _ _ st2 λ b _ o e=>old b o e) (loop _ rfl))
def tL (t:TC):TE:=λ σ H Q=>t σ H λ ys H'=>∀D,H' D=none->Q (.ref D) (upd H' D (.lst ys))
theorem u9 (hc:X.calm=true)(hi:PI X tg iter wi)(hk:sc.kind=.function)(hm:eV X.N X.env.scope sc N mp=true)
  (hb:∀(cl:List (Str × Addr)) (C:Addr) (s₂:xO) (H₂:Hp) (fp:List Addr),PG (bR X sc N cl C s₂ H₂ fp) tg g/\PCk (bR X sc N cl C s₂ H₂ fp) ifs tc/\PE (bR X sc N cl C s₂ H₂ fp) elt te)
  (hs:∀x,foldedSetIterable iter X.env x=pure x:=by intro _; rfl):PE X (.ListComp elt [⟨tg,iter,ifs,0⟩] sc pos) (tL (tComp wi mp g tc te)):=by
 intro pins s σ H Q I h
 rw[eval_ListComp]
 refine pJ (use:=none) hc hi hk (pI hm) hb I h hs λ D C ys H' s' m I' hn f hD q=>?_
 refine⟨m,hn,λ h' hs'=>?_⟩
 obtain⟨f0,f1,_,f3,f4,f5⟩:=f
 exact⟨.ref D,_,I'.turned (t':=s'.toks) (it:=C) (λ b o hb e=>(hs'.2 b hb).trans e) f0 f1 f3 f4 f5,rfl,q D hD⟩
end
mutual
def Rep (S:List Addr)(H:Hp):xH->V->Prop
 | .none,v=>v=.non
 | .bool b,v=>v=.bl b
 | .int i,v=>v=.int i
 | .str x,v=>v=.str x
 | .tuple ds,v=>∃a xs,v=.ref a/\H a=some (.tup xs)/\Reps S H ds xs
 | .list ds,v=>∃a xs,v=.ref a/\H a=some (.lst xs)/\a ∉ S/\Reps S H ds xs
 | .dict _,_=>False
def Reps (S:List Addr)(H:Hp):List xH->List V->Prop
 | [],xs=>xs=[]
 | d::ds,xs=>∃x r,xs=x::r/\Rep S H d x/\Reps S H ds r
end
structure Ext (S:List Addr) (H H':Hp):Prop where
 keep:∀b o,b ∉ S->H b=some o->H' b=some o
 tup:∀b xs,H b=some (.tup xs)->H' b=some (.tup xs)
theorem Ext.refl (S:List Addr)(H:Hp):Ext S H H:=⟨λ _ _ _ e=>e,λ _ _ e=>e⟩
theorem Ext.trans {S:List Addr}{H H1 H2:Hp}(a:Ext S H H1)(b:Ext S H1 H2):Ext S H H2:=⟨λ c o hc e=>b.keep c o hc (a.keep c o hc e),λ c xs e=>b.tup c xs (a.tup c xs e)⟩
theorem Ext.mono {S S':List Addr}{H H':Hp}(a:Ext S H H')(h:∀b∈S,b∈S'):Ext S' H H':=⟨λ b o hb e=>a.keep b o (λ z=>hb (h b z)) e,a.tup⟩
theorem Ext.new {S:List Addr}{H:Hp}{p:Addr}{o:HO}(h:H p=none):Ext S H (upd H p o):=⟨λ b u _ e=>by rw[ag (aj e h)]; exact e,λ b xs e=>by rw[ag (aj e h)]; exact e⟩
theorem Ext.set {S:List Addr}{H:Hp}{p:Addr}{o:HO}{xs:List V}(hp:p∈S)(h:H p=some (.lst xs)):Ext S H (upd H p o) :=
 ⟨λ b u hb e=>by rw[ag (λ (z:b=p)=>hb (by rw[z]; exact hp))]; exact e,λ b ys e=>by rw[ag (λ z=>by rw[z,h] at e; cases e)]; exact e⟩
theorem Ext.set' {S:List Addr}{H0 H:Hp}{p:Addr}{o:HO}{xs:List V}(a:Ext S H0 H)(h0:H0 p=none)(h:H p=some (.lst xs)):Ext S H0 (upd H p o) :=
 ⟨λ b u hb e=>by rw[ag (λ z=>by rw[z,h0] at e; cases e)]; exact a.keep b u hb e,λ b ys e=>by rw[ag (λ z=>by rw[z,h0] at e; cases e)]; exact a.tup b ys e⟩
theorem Ext.fresh {S:List Addr}{H0 H:Hp}{p:Addr}(a:Ext S H0 H)(hp:p ∉ S)(h:H p=none):H0 p=none:=by
 cases e:H0 p with
 | none=>rfl
 | some o=>rw[a.keep p o hp e] at h; cases h
mutual
theorem Rep.ext {S:List Addr}{H H':Hp}(x:Ext S H H'):∀{d:xH} {v:V},Rep S H d v->Rep S H' d v
 | .none,_,h=>h
 | .bool _,_,h=>h
 | .int _,_,h=>h
 | .str _,_,h=>h
 | .tuple ds,_,h=>by
  unfold Rep at h ⊢
  obtain⟨a,xs,e,ha,hr⟩:=h
  exact⟨a,xs,e,x.tup a xs ha,Reps.ext x hr⟩
 | .list ds,_,h=>by
  unfold Rep at h ⊢
  obtain⟨a,xs,e,ha,hs,hr⟩:=h
  exact⟨a,xs,e,x.keep a _ hs ha,hs,Reps.ext x hr⟩
 | .dict _,_,h=>h
theorem Reps.ext {S:List Addr}{H H':Hp}(x:Ext S H H'):∀{ds:List xH} {vs:List V},Reps S H ds vs->Reps S H' ds vs
 | [],_,h=>h
 | d::ds,_,h=>by
  unfold Reps at h ⊢
  obtain⟨y,r,e,h1,h2⟩:=h
  exact⟨y,r,e,Rep.ext x h1,Reps.ext x h2⟩
end
mutual
theorem Rep.less {S S':List Addr}{H:Hp}(x:∀b∈S',b∈S):∀{d:xH} {v:V},Rep S H d v->Rep S' H d v
 | .none,_,h=>h
 | .bool _,_,h=>h
 | .int _,_,h=>h
 | .str _,_,h=>h
 | .tuple ds,_,h=>by
  unfold Rep at h ⊢
  obtain⟨a,xs,e,ha,hr⟩:=h
  exact⟨a,xs,e,ha,Reps.less x hr⟩
 | .list ds,_,h=>by
  unfold Rep at h ⊢
  obtain⟨a,xs,e,ha,hs,hr⟩:=h
  exact⟨a,xs,e,ha,λ z=>hs (x a z),Reps.less x hr⟩
 | .dict _,_,h=>h
theorem Reps.less {S S':List Addr}{H:Hp}(x:∀b∈S',b∈S):∀{ds:List xH} {vs:List V},Reps S H ds vs->Reps S' H ds vs
 | [],_,h=>h
 | d::ds,_,h=>by
  unfold Reps at h ⊢
  obtain⟨y,r,e,h1,h2⟩:=h
  exact⟨y,r,e,Rep.less x h1,Reps.less x h2⟩
end
section
variable {S:List Addr}{H:Hp}
theorem Reps.nil:Reps S H [] []:=by unfold Reps; rfl
theorem Reps.cons {d:xH}{x:V}{ds:List xH}{xs:List V}(h:Rep S H d x)(t:Reps S H ds xs):Reps S H (d::ds) (x::xs):=by unfold Reps; exact⟨x,xs,rfl,h,t⟩
theorem Reps.of_cons {d:xH}{ds:List xH}{xs:List V}(h:Reps S H (d::ds) xs):∃x r,xs=x::r/\Rep S H d x/\Reps S H ds r:=by unfold Reps at h; exact h
theorem Reps.of_nil {xs:List V}(h:Reps S H [] xs):xs=[]:=by unfold Reps at h; exact h
theorem Reps.length:∀{ds:List xH} {xs:List V},Reps S H ds xs->xs.length=ds.length
 | [],_,h=>by rw[h.of_nil]; rfl
 | _::_,_,h=>by
  obtain⟨x,r,e,_,h2⟩:=h.of_cons
  subst e
  simp[h2.length]
theorem Reps.get:∀{ds:List xH} {xs:List V} {i:Nat} {x:V},Reps S H ds xs->xs[i]? = some x->∃d,ds[i]? = some d/\Rep S H d x
 | [],_,i,x,h,e=>by rw[h.of_nil] at e; cases e
 | d::ds,_,0,x,h,e=>by
  obtain⟨y,r,e1,h1,h2⟩:=h.of_cons
  subst e1
  cases e
  exact⟨d,rfl,h1⟩
 | d::ds,_,i+1,x,h,e=>by
  obtain⟨y,r,e1,h1,h2⟩:=h.of_cons
  subst e1
  obtain⟨d',q,h3⟩:=Reps.get (i:=i) h2 (by simpa using e)
  exact⟨d',by simpa using q,h3⟩
theorem Reps.at:∀{ds:List xH} {xs:List V} {i:Nat} {d:xH},Reps S H ds xs->ds[i]? = some d->∃x,xs[i]? = some x/\Rep S H d x
 | [],_,i,d,h,e=>by cases e
 | d::ds,_,0,d',h,e=>by
  obtain⟨y,r,e1,h1,h2⟩:=h.of_cons
  subst e1
  cases e
  exact⟨y,rfl,h1⟩
 | d::ds,_,i+1,d',h,e=>by
  obtain⟨y,r,e1,h1,h2⟩:=h.of_cons
  subst e1
  obtain⟨x,q,h3⟩:=Reps.at (i:=i) h2 (by simpa using e)
  exact⟨x,by simpa using q,h3⟩
theorem Reps.append:∀{ds es:List xH} {xs ys:List V},Reps S H ds xs->Reps S H es ys->Reps S H (ds++es) (xs++ys)
 | [],_,_,_,h,k=>by rw[h.of_nil]; exact k
 | d::ds,_,_,_,h,k=>by
  obtain⟨y,r,e1,h1,h2⟩:=h.of_cons
  subst e1
  exact .cons h1 (Reps.append h2 k)
theorem Reps.take:∀{ds:List xH} {xs:List V} (n:Nat),Reps S H ds xs->Reps S H (ds.take n) (xs.take n)
 | _,_,0,_=>.nil
 | [],_,n+1,h=>by rw[h.of_nil]; exact .nil
 | d::ds,_,n+1,h=>by
  obtain⟨y,r,e1,h1,h2⟩:=h.of_cons
  subst e1
  exact .cons h1 (Reps.take n h2)
theorem Reps.drop:∀{ds:List xH} {xs:List V} (n:Nat),Reps S H ds xs->Reps S H (ds.drop n) (xs.drop n)
 | _,_,0,h=>h
 | [],_,n+1,h=>by rw[h.of_nil]; exact .nil
 | d::ds,_,n+1,h=>by
  obtain⟨y,r,e1,h1,h2⟩:=h.of_cons
  subst e1
  exact Reps.drop n h2
theorem Reps.reverse:∀{ds:List xH} {xs:List V},Reps S H ds xs->Reps S H ds.reverse xs.reverse
 | [],_,h=>by rw[h.of_nil]; exact .nil
 | d::ds,_,h=>by
  obtain⟨y,r,e1,h1,h2⟩:=h.of_cons
  subst e1
  rw[zL,zL]
  exact (Reps.reverse h2).append (.cons h1 .nil)
theorem Reps.ints:∀(ns:List Int),Reps S H (ns.map xH.int) (ns.map V.int)
 | []=>.nil
 | n::ns=>.cons (by unfold Rep; rfl) (Reps.ints ns)
theorem Rep.tup {a:Addr}{xs:List V}{ds:List xH}(h:H a=some (.tup xs))(r:Reps S H ds xs):Rep S H (.tuple ds) (.ref a):=by unfold Rep; exact⟨a,xs,rfl,h,r⟩
theorem Rep.lst {a:Addr}{xs:List V}{ds:List xH}(h:H a=some (.lst xs))(hs:a ∉ S)(r:Reps S H ds xs):Rep S H (.list ds) (.ref a):=by unfold Rep; exact⟨a,xs,rfl,h,hs,r⟩
theorem Rep.int (i:Int):Rep S H (.int i) (.int i):=by unfold Rep; rfl
theorem Rep.bl (b:Bool):Rep S H (.bool b) (.bl b):=by unfold Rep; rfl
theorem Rep.non:Rep S H .none .non:=by unfold Rep; rfl
theorem Rep.str (x:Str):Rep S H (.str x) (.str x):=by unfold Rep; rfl
theorem Rep.of_tup {ds:List xH}{v:V}(h:Rep S H (.tuple ds) v):∃a xs,v=.ref a/\H a=some (.tup xs)/\Reps S H ds xs:=by unfold Rep at h; exact h
theorem Rep.of_lst {ds:List xH}{v:V}(h:Rep S H (.list ds) v):∃a xs,v=.ref a/\H a=some (.lst xs)/\a ∉ S/\Reps S H ds xs:=by unfold Rep at h; exact h
theorem Rep.of_int {i:Int}{v:V}(h:Rep S H (.int i) v):v=.int i:=by unfold Rep at h; exact h
theorem Rep.of_bl {b:Bool}{v:V}(h:Rep S H (.bool b) v):v=.bl b:=by unfold Rep at h; exact h
theorem Rep.of_str {x:Str}{v:V}(h:Rep S H (.str x) v):v=.str x:=by unfold Rep at h; exact h
theorem Rep.of_non {v:V}(h:Rep S H .none v):v=.non:=by unfold Rep at h; exact h
end
mutual
theorem Rep.reads {P:yk}{w:World}{S:List Addr}{H:Hp}{h:Heap}(ok:HOk P w H h):∀{d:xH} {v:V} {u:xK},Rep S H d v->RelV v u->∃as,Reads h u d as
 | .none,v,u,r,q=>by cases r.of_non; cases (show u=xK.none from q); exact⟨_,.none⟩
 | .bool b,v,u,r,q=>by cases r.of_bl; cases (show u=xK.bool b from q); exact⟨_,.bool b⟩
 | .int i,v,u,r,q=>by cases r.of_int; obtain⟨t,e⟩:=(show ∃t,u=xK.int i t from q); cases e; exact⟨_,.int i t⟩
 | .str x,v,u,r,q=>by cases r.of_str; obtain⟨t,e⟩:=(show ∃t,u=xK.str x t from q); cases e; exact⟨_,.str x t⟩
 | .tuple ds,v,u,r,q=>by
  obtain⟨a,xs,rfl,ha,hr⟩:=r.of_tup
  cases (show u=xK.ref a from q)
  obtain⟨_,its,rv,o,e,c,n,d,_⟩:=ok a _ ha
  obtain⟨as,ra⟩:=Reps.reads ok hr rv
  exact⟨_,.tuple e c d (by simpa using ra)⟩
 | .list ds,v,u,r,q=>by
  obtain⟨a,xs,rfl,ha,_,hr⟩:=r.of_lst
  cases (show u=xK.ref a from q)
  obtain⟨_,its,n,rv,e⟩:=ok a _ ha
  obtain⟨as,ra⟩:=Reps.reads ok hr rv
  exact⟨_,.list e rfl rfl (by simpa using ra)⟩
 | .dict _,v,u,r,q=>by unfold Rep at r; exact r.elim
theorem Reps.reads {P:yk}{w:World}{S:List Addr}{H:Hp}{h:Heap}(ok:HOk P w H h):∀{ds:List xH} {xs:List V} {us:List xK},Reps S H ds xs->Vals xs us->∃as,ReadsAll h us ds as
 | [],xs,us,r,q=>by
  cases r.of_nil
  cases q
  exact⟨_,.nil⟩
 | d::ds,xs,us,r,q=>by
  obtain⟨x,t,rfl,h1,h2⟩:=r.of_cons
  cases q with
  | cons q1 q2 =>
   obtain⟨as,a1⟩:=Rep.reads ok h1 q1
   obtain⟨bs,b1⟩:=Reps.reads ok h2 q2
   exact⟨_,.cons a1 b1⟩
end
structure Good (d:xH):Prop where
 lay:d.canLay0=true
 show':d.showable=true
 short:d.leavesShort 60=true
 deep:d.depth<=60
 light:d.weight<=200000
theorem Good.nodict {d:xH}(g:Good d):d.hasDict=false:=xH.hasDict_of_canLay d g.lay
theorem Good.fits {d:xH}(g:Good d):d.shown.length<=xV:=by
 have h:=xH.shown_le 60 (by decide) d g.short
 have h2:=g.light
 rw[sizeLine_eq]
 omega
section
variable {X:Cx}{k:Nat}
theorem nS (hr:Room k X.A):CallR X (.builtin "repr") (λ xs H Q=>∃S d v,xs=[v]/\Rep S H d v/\Good d/\Q (.str d.shown) H):=by
 intro pins s σ H xs us Q I r h
 obtain⟨S,d,v,rfl,rp,g,q⟩:=h
 obtain⟨u,rfl,ru⟩:=vals1 r
 have hun:=hr.units
 have fin:∀(h':Heap) (t:Tok) (tk:Nat),(∀b o,s.heap.get? b=some o->h'.get? b=some o)->EP X pins σ Q (.str d.shown t) { s with heap:=h',toks:=tk }:=λ h' t tk kp=>⟨.str d.shown,H,I.kept kp,⟨t,rfl⟩,q⟩
 have fin0:∀(t:Tok) (tk:Nat),EP X pins σ Q (.str d.shown t) { s with toks:=tk }:=λ t tk=>fin s.heap t tk λ _ _ e=>e
 cases d with
 | none=>cases rp.of_non; cases (show u=xK.none from ru); exact P.repr_of_none (fin0 _ _)
 | bool b=>cases rp.of_bl; cases (show u=xK.bool b from ru); exact P.repr_of_bool (fin0 _ _)
 | int i=>cases rp.of_int; obtain⟨t,e⟩:=(show ∃t,u=xK.int i t from ru); cases e; exact P.repr_of_int (by simpa [xH.showable] using g.show') (fin0 _ _)
 | str x=>cases rp.of_str; obtain⟨t,e⟩:=(show ∃t,u=xK.str x t from ru); cases e; exact P.repr_of_str (fin0 _ _) g.fits
 | tuple ds =>
  obtain⟨as,ra⟩:=rp.reads I.hok ru
  obtain⟨a,xs,rfl,_⟩:=rp.of_tup
  cases (show u=xK.ref a from ru)
  exact repr_of_reads' ra g.show' (xH.noDict_hsm g.nodict) hr.gd (by have:=g.deep; omega) (λ _ _ e=>e) (λ h' t tk kp=>fin h' t tk kp) g.fits
 | list ds =>
  obtain⟨as,ra⟩:=rp.reads I.hok ru
  obtain⟨a,xs,rfl,_⟩:=rp.of_lst
  cases (show u=xK.ref a from ru)
  exact repr_of_reads' ra g.show' (xH.noDict_hsm g.nodict) hr.gd (by have:=g.deep; omega) (λ _ _ e=>e) (λ h' t tk kp=>fin h' t tk kp) g.fits
 | dict _=>unfold Rep at rp; exact rp.elim
theorem sg:CallR X (.builtin "isinstance") (λ xs H Q=>∃x t c b,xs=[x,.ty c]/\TyOf X.K H x (.type t)/\W.kitOne X.K (.type t) (.type c)=some b/\Q (.bl b) H):=by
 intro pins s σ H xs us Q I r h
 obtain⟨x,t,c,b,rfl,ty,e,q⟩:=h
 obtain⟨u,u2,rfl,rx,rc⟩:=vals2 r
 cases (show u2=xK.type c from rc)
 exact ph I rx ty e λ tk=>⟨.bl b,H,I.tok tk,rfl,q⟩
end
def tyD:xH->String
 | .none => "NoneType"
 | .bool _ => "bool"
 | .int _ => "int"
 | .str _ => "str"
 | .list _ => "list"
 | .tuple _ => "tuple"
 | .dict _ => "dict"
theorem Rep.ty {K:W.Frag}{S:List Addr}{H:Hp}{d:xH}{v:V}(h:Rep S H d v):TyOf K H v (.type (tyD d)):=by
 cases d with
 | none=>cases h.of_non; exact .non
 | bool b=>cases h.of_bl; exact .bl b
 | int i=>cases h.of_int; exact .int i
 | str x=>cases h.of_str; exact .str x
 | tuple ds=>obtain⟨a,xs,rfl,ha,_⟩:=h.of_tup; exact .tup ha
 | list ds=>obtain⟨a,xs,rfl,ha,_⟩:=h.of_lst; exact .lst ha
 | dict _=>unfold Rep at h; exact h.elim
end L2
namespace PySem
open Sem (wp)
open AutoSeq1 (wpAny_loadPart')
end PySem
namespace L2
open PySem PySem.Spec PyProof.Rows
section
variable {X:Cx}
theorem pe_ty (T:String){x:Str}{pos:Pos}(hg:Gl X x)(hm:X.mg x=none)(hv:bootBuiltins x=some (.type T))(hn:x ≠ "__name__" := by decide)(hd:(x == ("__debug__" : Str))=false:=by decide):PE X (.Name x pos) (tC (.ty T)):=uE hg hm hv rfl hn hd
def tCut (t u:TS):TS:=λ D σ H=>∃M:St->Hp->Prop,t { D with nx:=M } σ H/\∀σ' H',M σ' H'->u D σ' H'
theorem vc {st:Stmt}{rest:List Stmt}{t u:TS}(h1:PS X st t)(h2:PSs X rest u):PSs X (st::rest) (tCut t u):=by
 intro pins s σ H D I h
 obtain⟨M,q,k⟩:=h
 refine wpAny_execs_cons (thn (h1 pins s σ H { D with nx:=M } I q) λ f s1 e=>?_)
 cases f with
 | next=>obtain⟨σ1,H1,I1,m1⟩:=e; exact h2 pins s1 σ1 H1 D I1 (k σ1 H1 m1)
 | brk=>exact e
 | cont=>exact e
 | ret u=>exact e
theorem wF {α:Type}{xs:List α}{i:Int}(h0:0<=i)(h1:i<xs.length):∃v,atI xs i=some v/\xs[i.toNat]? = some v:=by
 have hlt:i.toNat<xs.length:=by omega
 refine⟨xs[i.toNat],?_,by simp[hlt]⟩
 unfold atI ixN
 rw[if_pos h0,if_pos h1]
 simp[hlt]
end
def aJ:Expr->Bool
 | .Starred ..=>false
 | _=>true
theorem au {e:Expr}{es:List Expr}{env:Env}(h:aJ e=true):starEach (e::es) env=(false,eval e env)::starEach es env:=by
 cases e <;> first | rfl | cases h
theorem be {pos:Pos}{env:Env}:∀{es:List Expr},es.all aJ=true->(backTo pos (starEach es env)).any (·.1)=false
 | [],_=>rfl
 | e::es,h=>by
  rw[zr,yD] at h
  rw[au h.1]
  show (backTo pos ((false,eval e env)::starEach es env)).any (·.1)=false
  have ih:=be (pos:=pos) (env:=env) h.2
  show (false || (backTo pos (starEach es env)).any (·.1))=false
  rw[ih]
  rfl
theorem jb {pos:Pos}{env:Env}:∀{es:List Expr},es.all aJ=true->(backTo pos (starEach es env)).all (λ x=>!x.1)=true
 | [],_=>rfl
 | e::es,h=>by
  rw[zr,yD] at h
  rw[au h.1]
  have ih:=jb (pos:=pos) (env:=env) h.2
  show (true && (backTo pos (starEach es env)).all (λ x=>!x.1))=true
  rw[ih]
  rfl
theorem ns_hd {e:Expr}{es:List Expr}(h:(e::es).all aJ=true):aJ e=true/\es.all aJ=true:=by
 rw[zr,yD] at h
 exact h
structure QE (X:Cx) (e:Expr) (t:TE):Prop where run:PE X e t
structure QT (X:Cx) (e:Expr) (t:TT):Prop where run:PT X e t
structure QW (X:Cx) (e:Expr) (t:TT):Prop where run:PW X e t
structure QA (X:Cx) (es:List Expr) (t:TA):Prop where
 run:PA X es t
 ns:es.all aJ=true
structure QS (X:Cx) (st:Stmt) (t:TS):Prop where run:PS X st t
structure QSs (X:Cx) (st:List Stmt) (t:TS):Prop where run:PSs X st t
structure QG (X:Cx) (e:Expr) (t:TG):Prop where run:PG X e t
structure QGs (X:Cx) (es:List Expr) (t:TGs):Prop where run:PGs X es t
structure QI (X:Cx) (tg iter:Expr) (t:TI):Prop where run:PI X tg iter t
structure QO (X:Cx) (e:Option Expr) (t:TO):Prop where run:PO X e t
structure QK (X:Cx) (ifs:List Expr) (t:TT):Prop where run:PCk X ifs t
section
variable {X:Cx}{a b c e o i' tg iter elt:Expr}{es:List Expr}{ta tb tc te to ti:TE}{tA tB':TT}{t:TA}{pos p apos cpos p2:Pos}{k:Nat}{x name:Str}{ps:List Str}{sp:Sp}{id T:String}{rest:List Expr}
theorem qv (i:Nat){x:Str}{pos:Pos}(hN:X.N[i]? = some x:=by rfl)(hv:Vis X.env.scope x:=by first | exact Or.inl rfl | exact Or.inr (Or.inl rfl) | exact Or.inr (Or.inr rfl))(hd:(x == ("__debug__" : Str))=false:=by decide)
  (hcd:(x == ("__classdict__" : Str))=false:=by decide):QE X (.Name x pos) (tVar i):=⟨tG hN hv hd hcd⟩
theorem aw {i j pos}:QE X (.Constant (.int i) j pos) (tC (.int i)):=⟨tH⟩
theorem qe_bl {b j pos}:QE X (.Constant (.bool b) j pos) (tC (.bl b)):=⟨pe_bl⟩
theorem wG {j pos}:QE X (.Constant .none j pos) (tC .non):=⟨v5⟩
theorem wH {x j pos}:QE X (.Constant (.str x) j pos) (tC (.str x)):=⟨v6⟩
theorem qe_ty (T:String){x:Str}{pos:Pos}(hg:Gl X x)(hm:X.mg x=none)(hv:bootBuiltins x=some (.type T))(hn:x ≠ "__name__" := by decide)(hd:(x == ("__debug__" : Str))=false:=by decide):QE X (.Name x pos) (tC (.ty T)):=⟨pe_ty T hg hm hv hn hd⟩
theorem pK {x:Str}{v:V}{u:xK}{pos:Pos}(hg:Gl X x)(hm:X.mg x=some u)(r:RelV v u)(hd:(x == ("__debug__" : Str))=false:=by decide):QE X (.Name x pos) (tC v):=⟨uD hg hm r hd⟩
theorem qe_op {op:Operator}{r:R2}(ho:OpR X (binaryOp op) r)(ha:QE X a ta)(hb:QE X b tb):QE X (.BinOp a op b pos) (tOp r ta tb):=⟨pe_op ho ha.run hb.run⟩
theorem qe_un {op:UnaryOp}{r:V->Hp->VK->Prop}(ho:UnR X (unaryOp op) r)(ha:QE X a ta):QE X (.UnaryOp op a pos) (tUn r ta):=⟨pe_un ho ha.run⟩
theorem pL {op:CmpOp}{r:R2}(ho:OpR X (compareOp op) r)(ha:QE X a ta)(hb:QE X b tb)(hm:behindInMarks op b=false):QE X (.Compare a [op] [b] pos) (tOp r ta tb):=⟨uS ho ha.run hb.run hm⟩
theorem jy {op:CmpOp}{r:R2}(ho:OpR X (compareOp op) r)(ha:QE X a ta)(hb:QE X b tb)(hm:behindInMarks op b=false):QT X (.Compare a [op] [b] pos) (tTest (tOp r ta tb)):=⟨uT ho ha.run hb.run hm⟩
theorem pM (h:QE X e te)(he:∀whole,isTrue e X.env whole=(do let v <- whole; standAt e.pos; holding [v] (truthy v)):=by intro _; rfl):QT X e (tB te):=⟨v7 h.run he⟩
theorem pN (ha:QT X a tA):QW X (.BoolOp .And [a] pos) tA:=⟨uF ha.run⟩
theorem wI (ha:QT X a tA):QW X (.BoolOp .Or [a] pos) tA:=⟨v8 ha.run⟩
theorem tM (ha:QT X a tA)(hb:QW X (.BoolOp .And (b::rest) pos) tB'):QW X (.BoolOp .And (a::b::rest) pos) (tAnd tA tB'):=⟨v9 ha.run hb.run⟩
theorem qw_or (ha:QT X a tA)(hb:QW X (.BoolOp .Or (b::rest) pos) tB'):QW X (.BoolOp .Or (a::b::rest) pos) (tOr tA tB'):=⟨pw_or ha.run hb.run⟩
theorem QW.pt (h:QW X e tA):QT X e tA:=⟨h.run.pt⟩
theorem wJ (ha:QT X a tA):QT X (.UnaryOp .Not a pos) (tNot tA):=⟨wa ha.run⟩
theorem wK {op}(h:QE X a ta):QE X (.BoolOp op [a] pos) ta:=⟨wb h.run⟩
theorem wL (ha:QE X a ta)(hb:QE X (.BoolOp .And (b::rest) pos) tb):QE X (.BoolOp .And (a::b::rest) pos) (tAndV ta tb):=⟨wc ha.run hb.run⟩
theorem qe_or (ha:QE X a ta)(hb:QE X (.BoolOp .Or (b::rest) pos) tb):QE X (.BoolOp .Or (a::b::rest) pos) (tOrV ta tb):=⟨pe_or ha.run hb.run⟩
theorem pO (ha:QE X a ta):QE X (.UnaryOp .Not a pos) (tNotV ta):=⟨wd ha.run⟩
theorem si (hc:QT X c tA)(ha:QE X a ta)(hb:QE X b tb):QE X (.IfExp c a b pos) (tIf tA ta tb):=⟨rR hc.run ha.run hb.run⟩
theorem aC:QA X [] tNil:=⟨wx,rfl⟩
theorem qa_c (ha:QE X e te)(hr:QA X es t)(hs:aJ e=true:=by rfl):QA X (e::es) (tCons te t):=⟨uW ha.run hr.run (au hs),by rw[zr,hs,hr.ns]; rfl⟩
theorem mL (h:QA X es t):QE X (.List es pos) (tLst t):=⟨wz h.run⟩
theorem tN {x1}(h:QA X es t):QE X (.Tuple es x1 pos) (tTup t):=⟨wy h.run⟩
theorem qe_ix {r:R2}(hr:IxR X r)(ha:QE X a ta)(hb:QE X b tb)(hs:lR b):QE X (.Subscript a b pos) (tOp r ta tb):=⟨pe_ix hr ha.run hb.run hs⟩
theorem pP:QO X none pw:=⟨uX⟩
theorem pQ (h:QE X e te):QO X (some e) (tPart te):=⟨uY h.run⟩
theorem mM {r:V->Option Int->Option Int->Hp->VK->Prop}{lo hi:Option Expr}{tl th:TO}(hr:SlR X r)(he:QE X e te)(hl:QO X lo tl)(hu:QO X hi th):QE X (.Subscript e (.Slice lo hi none p2) pos) (tSl r te tl th):=⟨r6 hr he.run hl.run hu.run⟩
theorem gA (D:DefOk X.prog X.w X.K X.mg X.base k x ps sp)(hr:Room k X.A)(ha:QA X (e::es) t)(hg:Gl X x:=by rfl)(hdb:(x == ("__debug__" : Str))=false:=by decide) :
  QE X (.Call (.Name x p) (e::es) [] pos) (i9 sp t):=⟨se D hr ha.run hg hdb (au (ns_hd ha.ns).1) (be (ns_hd ha.ns).2)⟩
theorem a8 {r:List V->Hp->VK->Prop}(hc:CallR X (.builtin id) r)(hg:Gl X x)(hm:X.mg x=none)(hv:bootBuiltins x=some (.builtin id))(ha:QA X (e::es) t)(hn:x ≠ "__name__" := by decide)(hdb:(x == ("__debug__" : Str))=false:=by decide) :
  QE X (.Call (.Name x p) (e::es) [] pos) (tCB r t):=⟨rY hc hg hm hv ha.run hn hdb (au (ns_hd ha.ns).1) (be (ns_hd ha.ns).2)⟩
theorem cI {r:List V->Hp->VK->Prop}(hc:CallR X (.type T) r)(hg:Gl X x)(hm:X.mg x=none)(hv:bootBuiltins x=some (.type T))(ha:QA X (e::es) t)(hn:x ≠ "__name__" := by decide)(hdb:(x == ("__debug__" : Str))=false:=by decide) :
  QE X (.Call (.Name x p) (e::es) [] pos) (tCB r t):=⟨pq hc hg hm hv ha.run hn hdb (au (ns_hd ha.ns).1) (be (ns_hd ha.ns).2)⟩
theorem qe_bm {r:V->List V->Hp->VK->Prop}(pa:PlainAttrs T)(slot:Slot T name id)(hty:typeOf (.builtin id)=pure (.type "method_descriptor"))(hm:MtR X id r)(ho:QE X o to)(ha:QA X (e::es) t)
  (hbase:attributeBase o name X.env (eval o X.env)=eval o X.env:=by rfl) (hl:decide ((e::es).length+0+0<30)=true:=by rfl)
  (hline:(apos.endLine == cpos.line)=true:=by rfl):QE X (.Call (.Attribute o name apos) (e::es) [] cpos) (tBM X.K T r to t):=by
 refine⟨pe_bm pa slot hty hm ho.run ha.run hbase ?_ hline (au (ns_hd ha.ns).1) (be (ns_hd ha.ns).2)⟩
 rw[jb ha.ns]
 exact hl
theorem gO {i:Nat}{x:Str}(hN:X.N.Nodup)(hi:X.N[i]? = some x)(hx:Loc X.env.scope x)(hf:X.fn x=true\/X.env.scope.names.lookup x=some .local:=by first | exact .inl rfl | exact .inr rfl | assumption):QG X (.Name x pos) (gName i):=⟨uJ hN hi hx hf⟩
theorem qgs_nil:QGs X [] gNil:=⟨uK⟩
theorem sj {tt:TG}{u:TGs}(h1:QG X e tt)(h2:QGs X es u)(hs:(assignEach (e::es) X.env).map (·.2)=assign e X.env::(assignEach es X.env).map (·.2):=by rfl):QGs X (e::es) (gCons tt u):=⟨rT h1.run h2.run hs⟩
theorem wM {k n:Nat}{tt:TGs}(hc:X.calm=true)(h:QGs X es tt)(hn:(assignEach es X.env).length=n:=by rfl)(hst:(assignEach es X.env).findIdx? (·.1)=none:=by rfl):QG X (.Tuple es k pos) (gTup X.K n tt):=⟨wf hc h.run hn hst⟩
theorem pR {tt:TSet}(ho:QE X o to)(hi:QE X i' ti)(hs:PSet X tt)
  (ha:∀v,assign (.Subscript o i' pos) X.env v=(do
   let ov <- holding [v] (eval o X.env)
   let iv <- holding [v,ov] (eval i' X.env)
   standAt pos
   holding [v,ov,iv] (setItem ov iv v)
   release [v,ov,iv] []):=by intro _; rfl):QG X (.Subscript o i' pos) (gSub to ti tt):=⟨wg ho.run hi.run hs ha⟩
theorem vd (hl:QE X a ta):QI X tg a (iList X.K ta):=⟨uN hl.run⟩
theorem wN (hl:QE X a ta):QI X tg a (iTup X.K ta):=⟨wn hl.run⟩
theorem kE (hg:Gl X "range")(hm:X.mg "range" = none)(ha:QA X [a] t):QI X tg (.Call (.Name "range" p) [a] [] pos) (iRng1 t):=⟨o7 hg hm ha.run (au (ns_hd ha.ns).1)⟩
theorem qk_nil:QK X [] tTrue:=⟨u6⟩
theorem pS (h:QT X c tA):QK X [c] tA:=⟨u7 h.run⟩
variable {st:Stmt}{sts body els:List Stmt}{ts us:TS}{ifs:List Expr}{sc:Scope}{N:List Str}{mp:List (Option Nat)}{wi:TI}{g:TG}
theorem qss_nil:QSs X [] tNext:=⟨uG⟩
theorem az (h1:QS X st ts)(h2:QSs X sts us):QSs X (st::sts) (tSeq ts us):=⟨rS h1.run h2.run⟩
theorem vf (h1:QS X st ts)(h2:QSs X sts us):QSs X (st::sts) (tCut ts us):=⟨vc h1.run h2.run⟩
theorem cy (h1:QS X st ts):QSs X [st] ts:=⟨uH h1.run⟩
theorem pT (he:QE X e te)(hs:swapsWith e none pos.line X.env=pure false:=by rfl):QS X (.Expr e pos) (tDrop te):=⟨uI he.run hs⟩
theorem gP (he:QE X e te):QS X (.Return (some e) pos) (tRet te):=⟨we he.run⟩
theorem qs_if (hc:QT X c tA)(ha:QSs X body ts)(hb:QSs X els us):QS X (.If c body els pos) (tIfS tA ts us):=⟨ps_if hc.run ha.run hb.run⟩
theorem ek {i:Nat}{x:Str}{pos':Pos}(hN:X.N.Nodup)(hi:X.N[i]? = some x)(hx:Loc X.env.scope x)(he:QE X e te)(hs:swapsWith e (some (.Name x pos')) pos.line X.env=pure false:=by rfl)
  (hf:X.fn x=true\/X.env.scope.names.lookup x=some .local:=by first | exact .inl rfl | exact .inr rfl | assumption):QS X (.Assign [.Name x pos'] e pos) (tAsg te (gName i)):=⟨wk hN hi hx he.run hs hf⟩
theorem pU (he:QE X e te)(hg:QG X tg g)(hs:swapsWithSole [tg] e pos.line X.env=pure false:=by rfl)(hw:swappedStores [tg] e X.env=pure none:=by rfl)
  (h1:(assignEach [tg] X.env).map (·.2)=[assign tg X.env]:=by rfl):QS X (.Assign [tg] e pos) (tAsg te g):=⟨wj he.run hg.run hs hw h1⟩
theorem pV (hp:PassesOwn (model X.prog X.w) X.A X.env X.xe)(hc:X.calm=true)(hi:QI X tg iter wi)(hg:QG X tg g)(hb:QSs X body ts)(hs:∀x,foldedSetIterable iter X.env x=pure x:=by intro _; rfl) :
  QS X (.For tg iter body [] pos) (tFor wi g ts):=⟨wo hp hc hi.run hg.run hb.run hs⟩
theorem lT (hc:X.calm=true)(hi:QI X tg iter wi)(hk:sc.kind=.function)(hm:eV X.N X.env.scope sc N mp=true)
  (hb:∀(cl:List (Str × Addr)) (C:Addr) (s₂:xO) (H₂:Hp) (fp:List Addr),QG (bR X sc N cl C s₂ H₂ fp) tg g/\QK (bR X sc N cl C s₂ H₂ fp) ifs tA/\QE (bR X sc N cl C s₂ H₂ fp) elt te)
  (hs:∀x,foldedSetIterable iter X.env x=pure x:=by intro _; rfl):QE X (.ListComp elt [⟨tg,iter,ifs,0⟩] sc pos) (tL (tComp wi mp g tA te)) :=
 ⟨u9 hc hi.run hk hm (λ cl C s₂ H₂ fp=>⟨(hb cl C s₂ H₂ fp).1.run,(hb cl C s₂ H₂ fp).2.1.run,(hb cl C s₂ H₂ fp).2.2.run⟩) hs⟩
end
theorem Fun.okQ {P:yk}{w:World}{K:W.Frag}{mg:Str->Option xK}{base:Heap}{x qual:Str}{st:Stmt}{f:Addr}{fd:yM}{N ps:List Str}{k:Nat}{sp:Sp}(F:Fun K x qual st f fd)(S:FnScope N ps (ac st))(len:∀vs H Q E,sp vs H Q E->vs.length=ps.length)
  (hbody:∀(cdv:xK) (A:Around) (outer:List Env) (s:xO) (H:Hp) (vs:List V) (Q:VK) (E:XK),Room k (A.deeper (envOfC qual (ac st) s.heap.objs.size f cdv))->sp vs H Q E ->
   ∃t,QSs (cxOf CX0 P w K mg base N qual (ac st) f cdv A outer s H E).nox (aB st) t/\t { nx:=λ _ H'=>Q .non H',rt:=Q } (start N vs) H):FnOk P w K mg base CX0 (k+1) f fd ps sp :=
 F.ok S len λ cdv A outer s H vs Q E hr h=>let ⟨t,q,r⟩:=hbody cdv A outer s H vs Q E hr h; ⟨t,q.run,r⟩
section
variable {X:Cx}(K:W.Frag)
theorem ixT (h:X.K=K:=by rfl):IxR X (rIxT K):=by subst h; exact wD
theorem ixL (h:X.K=K:=by rfl):IxR X (rIxL K):=by subst h; exact u0
theorem slL (h:X.K=K:=by rfl):SlR X (rSlL K):=by subst h; exact u3
theorem lenK (h:X.K=K:=by rfl):CallR X (.builtin "len") (λ xs H Q=>∃p ys,xs=[.ref p]/\(SqL K H p ys\/SqT K H p ys)/\Q (.int ys.length) H):=by subst h; exact ky
theorem isiK (h:X.K=K:=by rfl):CallR X (.builtin "isinstance") (λ xs H Q=>∃x t c b,xs=[x,.ty c]/\TyOf K H x (.type t)/\W.kitOne K (.type t) (.type c)=some b/\Q (.bl b) H):=by subst h; exact sg
theorem listK (h:X.K=K:=by rfl):CallR X (.type "list") (λ xs H Q=>∃p ys,xs=[.ref p]/\(SqL K H p ys\/SqT K H p ys)/\∀l,H l=none->Q (.ref l) (upd H l (.lst ys))):=by subst h; exact kz
theorem pW (h:X.K=K:=by rfl):CallR X (.type "tuple") (λ xs H Q=>∃p ys,xs=[.ref p]/\((SqL K H p ys/\∀l,H l=none->Q (.ref l) (upd H l (.tup ys)))\/(SqT K H p ys/\Q (.ref p) H))):=by subst h; exact ju
variable {a o e tg:Expr}{es:List Expr}{ta to:TE}{t:TA}{apos cpos:Pos}{name:Str}{id T:String}
theorem sk (hl:QE X a ta)(h:X.K=K:=by rfl):QI X tg a (iList K ta):=by subst h; exact vd hl
theorem vg (hl:QE X a ta)(h:X.K=K:=by rfl):QI X tg a (iTup K ta):=by subst h; exact wN hl
theorem wO {r:V->List V->Hp->VK->Prop}(pa:PlainAttrs T)(slot:Slot T name id)(hty:typeOf (.builtin id)=pure (.type "method_descriptor"))(hm:MtR X id r)(ho:QE X o to)(ha:QA X (e::es) t)(h:X.K=K:=by rfl)
  (hbase:attributeBase o name X.env (eval o X.env)=eval o X.env:=by rfl) (hl:decide ((e::es).length+0+0<30)=true:=by rfl)
  (hline:(apos.endLine == cpos.line)=true:=by rfl):QE X (.Call (.Attribute o name apos) (e::es) [] cpos) (tBM K T r to t):=by subst h; exact qe_bm pa slot hty hm ho ha hbase hl hline
end
end L2
namespace HT
open PySem PyProof.Rows
section
variable {prog:yk}{w:World}{A:Around}{E:xK->xO->Prop}{s:xO}
theorem getItem_tuple_whole {t sl:Addr}{items:Array xK}{vl vu:xK}{lo hi:Option Int}{Q:xK->xO->Prop}(ht:IsTup s.heap t items)(hs:s.heap.IsSliceOf sl vl vu .none)(pl:IsPart vl lo)(pu:IsPart vu hi)
  (hw:sIx items.size 0 lo=0/\sIx items.size items.size hi=items.size) (h:Q (.ref t) s):yb (model prog w) A (getItem (.ref t) (.ref sl)) Q E s:=by
 obtain⟨os,hos,hcs,hds⟩:=id hs
 have hTs:s.TypeIs (.ref sl) "slice" := ⟨os,hos,hcs⟩
 unfold getItem
 try with_reducible refine wpAny_holding ?_
 first | refine xI (xN ?_) | skip
 refine xI (wpAny_sequenceKey ht.typeIs (by decide) ?_)
 refine xI (wpAny_callSpecial?_slot (name:=Str.ofString "__getitem__") ht.typeIs PyProof.Rows.slot_tuple_getitem
  (wpAny_call_entry PyProof.Rows.slot_tuple_getitem ht.typeIs entry_tuple_getitem ?_ (args_tuple_getitem _ _)))
 show yb _ _ (Builtin.Tuple.tupleItemsOf (.ref t) >>= _) _ _ s
 refine xI (tupleItemsOf_ ht ?_)
 refine xI (wpAny_typeOf hTs ?_)
 rw[if_pos (by decide)]
 refine xI (dl hs pl pu ?_)
 have hyes:((((sIx items.size 0 lo:Nat):Int) == 0 && (1:Int) == 1 && (sIx items.size items.size hi - sIx items.size 0 lo) == items.size)=true):=by
  rw[hw.1,hw.2]; simp
 show yb _ _ (if (((sIx items.size 0 lo:Nat):Int) == 0 && (1:Int) == 1 && (sIx items.size items.size hi - sIx items.size 0 lo) == items.size)=true then _ else _) _ _ s
 rw[if_pos hyes]
 refine xI ?_
 unfold Builtin.Tuple.tupleIsExact
 refine xI (wpAny_typeOf ht.typeIs (xN ?_))
 show yb _ _ (if (xK.type "tuple" == xK.type "tuple")=true then _ else _) _ _ s
 rw[if_pos (by decide)]
 exact xI (wpAny_rule (xN ⟨_,rfl,xN h⟩))
theorem gn {sl:Addr}{tk:Tok}{n:Nat}{Q:Int × Int × Nat->xO->Prop}(hs:s.heap.IsSliceOf sl .none .none (.int (-1) tk))
  (h:Q ((n:Int) - 1,-1,n) s):yb (model prog w) A (Builtin.Slice.sliceApplied (.ref sl) (pure (n:Int))) Q E s:=by
 obtain⟨os,hos,hcs,hds⟩:=id hs
 unfold Builtin.Slice.sliceApplied Builtin.Slice.sliceFields
 refine xI (xI (wpAny_field hos hds (x:=.none) rfl (xI (wpAny_field hos hds (x:=.none) rfl (xI (wpAny_field hos hds (x:=.int (-1) tk) rfl (xN ?_)))))))
 refine xI (slicePart_int ?_)
 show yb _ _ (if ((-1:Int) == 0)=true then _ else _) _ _ s
 rw[if_neg (by decide)]
 refine xI (slicePart_none (xI (slicePart_none (xI (xN ?_)))))
 have e1:Builtin.Slice.sliceAdjust none none (-1) (n:Int)=((n:Int) - 1,-1):=rfl
 have e2:Builtin.Slice.slicePlaces ((n:Int) - 1) (-1) (-1)=n:=by
  unfold Builtin.Slice.slicePlaces
  rw[if_neg (by decide)]
  by_cases hn:(n:Int) - 1 > -1
  ·rw[if_pos hn]
   have:((n:Int) - 1 - -1 - 1) / (- -1)+1=n:=by
    rw[show (- -1:Int)=1 from rfl,Int.ediv_one]
    omega
   rw[this]
   simp
  ·rw[if_neg hn]
   omega
 show yb _ _ (match Builtin.Slice.sliceAdjust none none (-1) (n:Int) with | (lo,hi)=>pure (lo,(-1:Int),Builtin.Slice.slicePlaces lo hi (-1))) _ _ s
 rw[e1]
 show yb _ _ (pure ((n:Int) - 1,(-1:Int),Builtin.Slice.slicePlaces ((n:Int) - 1) (-1) (-1))) _ _ s
 rw[e2]
 exact xN h
theorem tO {α β:Type}{f:α->Option β}{g:α->β}:∀{l:List α},(∀m∈l,f m=some (g m))->l.filterMap f=l.map g
 | [],_=>rfl
 | a::l,h=>by
  rw[zc,h a ya,xY,tO λ m hm=>h m (xT _ hm)]
theorem pick_rev (xs:Array xK):((List.range xs.size).filterMap λ (m:Nat)=>xs[(((xs.size:Nat):Int) - 1+(m:Int) * -1).toNat]?).toArray=xs.toList.reverse.toArray:=by
 congr 1
 apply zS
 intro i
 have key:∀m∈List.range xs.size,(λ (m:Nat)=>xs[(((xs.size:Nat):Int) - 1+(m:Int) * -1).toNat]?) m=some (xs.getD (xs.size - 1 - m) .none):=by
  intro m hm
  have hm':=zR.mp hm
  have e:(((xs.size:Nat):Int) - 1+(m:Int) * -1).toNat=xs.size - 1 - m:=by omega
  show xs[_]? = _
  rw[e]
  simp[Array.getD,show xs.size - 1 - m<xs.size by omega]
 have e3:(List.range xs.size).filterMap (λ (m:Nat)=>xs[(((xs.size:Nat):Int) - 1+(m:Int) * -1).toNat]?)=(List.range xs.size).map λ m=>xs.getD (xs.size - 1 - m) .none:=by
  exact tO key
 rw[e3,yg]
 by_cases hi:i<xs.size
 ·rw[z8 hi,List.getElem?_reverse (by simpa using hi)]
  simp[Array.getD,show xs.size - 1 - i<xs.size by omega]
 ·rw[yG (by simp; omega),yG (by simp; omega)]
  rfl
theorem getItem_tuple_rev {t sl:Addr}{items:Array xK}{tk:Tok}{Q:xK->xO->Prop}(ht:IsTup s.heap t items)(hs:s.heap.IsSliceOf sl .none .none (.int (-1) tk))
  (h:Q (.ref s.heap.objs.size) { s with heap:=s.heap.push { cls:=.type "tuple",data:=.seq items.toList.reverse.toArray } }) (hsz:items.size<=xV):yb (model prog w) A (getItem (.ref t) (.ref sl)) Q E s:=by
 obtain⟨os,hos,hcs,hds⟩:=id hs
 have hTs:s.TypeIs (.ref sl) "slice" := ⟨os,hos,hcs⟩
 have hz:sizeOk (.seq items.toList.reverse.toArray):=by
  show items.toList.reverse.toArray.size<=xV
  simpa using hsz
 unfold getItem
 try with_reducible refine wpAny_holding ?_
 first | refine xI (xN ?_) | skip
 refine xI (wpAny_sequenceKey ht.typeIs (by decide) ?_)
 refine xI (wpAny_callSpecial?_slot (name:=Str.ofString "__getitem__") ht.typeIs PyProof.Rows.slot_tuple_getitem
  (wpAny_call_entry PyProof.Rows.slot_tuple_getitem ht.typeIs entry_tuple_getitem ?_ (args_tuple_getitem _ _)))
 show yb _ _ (Builtin.Tuple.tupleItemsOf (.ref t) >>= _) _ _ s
 refine xI (tupleItemsOf_ ht ?_)
 refine xI (wpAny_typeOf hTs ?_)
 rw[if_pos (by decide)]
 refine xI (gn (n:=items.size) hs ?_)
 have hno:¬ ((((items.size:Nat):Int) - 1 == 0 && (-1:Int) == 1 && items.size == items.size)=true):=by
  intro q
  rw[yD,yD] at q
  exact absurd q.1.2 (by decide)
 show yb _ _ (if (((items.size:Nat):Int) - 1 == 0 && (-1:Int) == 1 && items.size == items.size)=true then _ else _) _ _ s
 rw[if_neg hno,pick_rev]
 first
  | exact xI (m:=Builtin.Tuple.tupleExact _) (yF (xN ⟨_,rfl,xN h⟩) hz)
  | exact xI (m:=Builtin.Tuple.tupleExact _) (yF (xI (xN (xN ⟨_,rfl,xN h⟩))) hz)
  | exact xI (xI (m:=Builtin.Tuple.tupleExact _) (yF (xN (xN ⟨_,rfl,xN h⟩)) hz))
  | exact xI (xI (m:=Builtin.Tuple.tupleExact _) (yF (xN ⟨_,rfl,xN h⟩) hz))
end
end HT
namespace L2
open PySem PySem.Spec PyProof.Rows
def rSlTA (K:W.Frag):V->Option Int->Option Int->Hp->VK->Prop:=λ x lo hi H Q=>∃a xs,x=.ref a/\SqT K H a xs/\(cutV xs lo hi=xs->Q (.ref a) H)/\∀p,H p=none->Q (.ref p) (upd H p (.tup (cutV xs lo hi)))
section
variable {X:Cx}(K:W.Frag)
theorem slT (h:X.K=K:=by rfl):SlR X (rSlTA K):=by
 subst h
 intro pins s σ H x v vl vu lo hi sl Q I rx hs pl pu h
 obtain⟨a,xs,rfl,hx,hw,q⟩:=h
 by_cases hc:HT.sIx xs.length 0 lo=0/\HT.sIx xs.length xs.length hi=xs.length
 ·cases rx
  obtain⟨its,r,ht,hz⟩:=I.tuple hx
  have hlen:its.toArray.size=xs.length:=by rw[xU]; exact r.length.symm
  refine⟨"tuple",_,PyProof.Rows.slot_tuple_getitem.lookup,ht.typeIs,?_⟩
  refine HT.getItem_tuple_whole ht hs pl pu (by rw[hlen]; exact hc) ⟨.ref a,H,I,rfl,hw ?_⟩
  unfold cutV
  rw[hc.1,hc.2]
  simp
 ·exact wC pins s σ H (.ref a) v vl vu lo hi sl Q I rx hs pl pu ⟨a,xs,rfl,hx,hc,q⟩
end
def rCatA (K:W.Frag):R2:=λ x y H Q=>∃a b xs ys,x=.ref a/\y=.ref b/\SqT K H a xs/\SqT K H b ys/\xs.length+ys.length<=xV/\(xs=[]->Q (.ref b) H)/\(ys=[]->Q (.ref a) H)/\∀p,H p=none->Q (.ref p) (upd H p (.tup (xs++ys)))
theorem catT {X:Cx}(K:W.Frag)(h:X.K=K:=by rfl):OpR X (binaryOp .Add) (rCatA K):=by
 subst h
 intro pins s σ H x y v u Q I rx ry h
 obtain⟨a,b,xs,ys,rfl,rfl,ha,hb,hz,q0,q1,q2⟩:=h
 by_cases hx:xs=[]
 ·cases rx
  cases ry
  obtain⟨its,r1,p1,_⟩:=I.tuple ha
  obtain⟨its2,r2,p2,_⟩:=I.tuple hb
  have hi:its=[]:=r1.nil_iff.mpr hx
  obtain⟨⟨cls,dd,data,sl⟩,ho,hc,n,hd⟩:=id p1
  obtain⟨⟨cls2,dd2,data2,sl2⟩,ho2,hc2,n2,hd2⟩:=id p2
  simp only at hc hd hc2 hd2
  subst hc hd hc2 hd2
  exact concat_meets ⟨_,ho,rfl⟩ ⟨_,ho2,rfl⟩ noFill_tuple_add seq_tuple_add PySem.F.slot_tuple_add PySem.F.entry_tuple_add (PySem.F.args_tuple_add_2 _ _)
   (tuple_addW0 a b its.toArray its2.toArray n n2 dd dd2 sl sl2 (by simp[hi])) ⟨ho,ho2,⟨.ref b,H,I,rfl,q0 hx⟩⟩
 ·exact uZ pins s σ H _ _ v u Q I rx ry ⟨a,b,xs,ys,rfl,rfl,ha,hb,hx,hz,q1,λ _=>q2⟩
end L2
namespace PySem
open Sem (wp)
theorem dm:fillsNumberSlot (.type "tuple") "mul" = pure false :=
 fillsNumberSlot_seq (id := "tuple.__mul__") (r:=some (.builtin "tuple.__rmul__")) F.slot_tuple_mul.lookup (by decide +kernel) F.slot_tuple_rmul.lookup (by decide +kernel)
theorem gc:seqRepeat? (.type "tuple")=pure (some (.builtin "tuple.__mul__")):=by
 unfold seqRepeat?
 rw[seqSlot_of (T := "tuple") (name := "__mul__") (id := "tuple.__mul__") F.slot_tuple_mul.lookup (by decide +kernel),seqSlot_of (T := "tuple") (name := "__rmul__") (id := "tuple.__rmul__") F.slot_tuple_rmul.lookup (by decide +kernel)]
 rfl
theorem eA (a:Int)(t:Tok)(l:Addr)(items:Array xK)(n:Nat)(dd:Option Addr)(sl:Array (Option xK)) :
  Meets (Builtin.«int.__rmul__» ⟨[.int a t,.ref l],[]⟩) (λ _ R s=>s.heap.get? l=some { cls:=.type "tuple",dict:=dd,data:=.seq items n,slots:=sl }/\R (.ok (.ret xK.notImplemented)) s) :=
 .of_wp λ prog w A R s h=>by obtain⟨hp,g,d,tk,os⟩:=s; obtain⟨hl,h⟩:=h; wp_walk; exact⟨_,rfl,h⟩
theorem jz (l:Addr)(items:Array xK)(n:Nat)(dd:Option Addr)(sl:Array (Option xK))(k:Int)(t:Tok)(hne:items.isEmpty=false)(h2:2<=k)(hk:k<2 ^ 40)(hz:items.size * k.toNat<=16000000) :
  Meets (Builtin.«tuple.__mul__» ⟨[.ref l,.int k t],[]⟩) (λ _ R s=>s.heap.get? l=some { cls:=.type "tuple",dict:=dd,data:=.seq items n,slots:=sl }/\R (.ok (.ret (xK.ref s.heap.objs.size))) { s with heap:=s.heap.push { cls:=xK.type "tuple",data:=Data.seq (Ak (λ x1 x2=>x1++x2) #[] (List.replicate k.toNat items)) },toks:=s.toks }) :=
 .of_wp λ prog w A R s h=>by
  obtain⟨hp,g,d,tk,os⟩:=s
  obtain⟨hl,h⟩:=h
  have f1:=AutoSeq1.idx_int
  have c0:¬ (decide (k < -(2 ^ 63)) || decide (k ≥ 2 ^ 63))=true:=by simp; omega
  have c1:¬ (items.isEmpty || k == 1)=true:=by rw[hne]; simp; omega
  have c2:¬ (decide (k<=0) || items.isEmpty)=true:=by rw[hne]; simp; omega
  wp_walk
  have hk2:k=((k.toNat:Nat):Int):=by omega
  have hm:(items.size:Int) * k=((items.size * k.toNat:Nat):Int):=by rw[Int.natCast_mul,<- hk2]
  have c3:¬ (items.size:Int) * k > (2 ^ 63 - 1) / 8:=by rw[hm]; omega
  have c4:¬ Builtin.Tuple.tupleTooMany ((items.size:Int) * k)=true:=by
   rw[hm]
   unfold Builtin.Tuple.tupleTooMany
   rw[decide_eq_true_eq,show xV=16777216 by decide]
   omega
  have hit:PyProof.Rows.IsTup hp l items:=⟨_,hl,rfl,n,rfl⟩
  have hsz:(Ak (λ x1 x2=>x1++x2) #[] (List.replicate k.toNat items)).size<=xV:=by
   have e:=AutoListH.size_joined items k.toNat #[]
   have e0:(#[]:Array xK).size=0:=rfl
   rw[e0,Nat.zero_add,Nat.mul_comm] at e
   rw[e]
   exact yv hz (by decide)
  rw[if_neg c0]
  show yb _ _ (Builtin.Tuple.tupleItemsOf (.ref l) >>= _) _ _ _
  refine xI (PyProof.Rows.tupleItemsOf_ hit ?_)
  dsimp only
  rw[if_neg c1,if_neg c2,if_neg c3,if_neg c4]
  first
   | exact xI (m:=Builtin.Tuple.tupleExact _) (yF (xN ⟨_,rfl,h⟩) hsz)
   | exact xI (m:=Builtin.Tuple.tupleExact _) (yF (xI (xN (xN ⟨_,rfl,h⟩))) hsz)
   | exact xI (xI (m:=Builtin.Tuple.tupleExact _) (yF (xN (xN ⟨_,rfl,h⟩)) hsz))
   | exact xI (xI (m:=Builtin.Tuple.tupleExact _) (yF (xN ⟨_,rfl,h⟩) hsz))
end PySem
namespace L2
open PySem PySem.Spec PyProof.Rows
section
variable {X:Cx}
theorem QE.weaken {e:Expr}{t t':TE}(h:QE X e t)(w:∀σ H Q,t' σ H Q->t σ H Q):QE X e t':=⟨λ pins s σ H Q I q=>h.run pins s σ H Q I (w σ H Q q)⟩
theorem QA.weaken {es:List Expr}{t t':TA}(h:QA X es t)(w:∀σ H Q,t' σ H Q->t σ H Q):QA X es t':=⟨λ pos pins s σ H Q I q=>h.run pos pins s σ H Q I (w σ H Q q),h.ns⟩
end
def Has (us ui:List Nat)(S:List Addr)(ρ:Nat->xH)(ι:Nat->Int)(σ:St)(H:Hp):Prop :=
 (∀b∈S,H b≠none)/\(∀i∈us,∃v,σ[i]? = some (some v)/\Rep S H (ρ i) v)/\(∀i∈ui,σ[i]? = some (some (.int (ι i))))
theorem Has.ext {us ui:List Nat}{S:List Addr}{ρ:Nat->xH}{ι:Nat->Int}{σ:St}{H H':Hp}(h:Has us ui S ρ ι σ H)(x:Ext [] H H'):Has us ui S ρ ι σ H':=by
 refine⟨λ b hb=>?_,λ i hi=>?_,h.2.2⟩
 ·have:=h.1 b hb
  cases e:H b with
  | none=>exact absurd e this
  | some o=>rw[x.keep b o (by simp) e]; simp
 ·obtain⟨v,e,r⟩:=h.2.1 i hi
  exact⟨v,e,r.ext (x.mono (by simp))⟩
section
variable {X:Cx}{us ui:List Nat}{a b e:Expr}{es:List Expr}{pos:Pos}
def rRepT (K:W.Frag):R2:=λ x y H Q=>∃a k xs,x=.ref a/\y=.int k/\SqT K H a xs/\xs≠[]/\2<=k/\k<2 ^ 40/\xs.length * k.toNat<=16000000/\∀p,H p=none->Q (.ref p) (upd H p (.tup (List.replicate k.toNat xs).flatten))
theorem vh (K:W.Frag)(h:X.K=K:=by rfl):OpR X (binaryOp .Mult) (rRepT K):=by
 subst h
 intro pins s σ H x y v u Q I rx ry h
 obtain⟨a,k,xs,rfl,rfl,hx,hne,h2,hk,hz,q⟩:=h
 cases rx
 obtain⟨t,rfl⟩:=ry
 obtain⟨its,r,ht,hl⟩:=I.tuple hx
 obtain⟨⟨cls,dd,data,sl⟩,ho,hc,n,hd⟩:=id ht
 simp only at hc hd
 subst hc hd
 have hne':its.toArray.isEmpty=false:=by
  cases its with
  | nil=>exact absurd (r.nil_iff.mp rfl) hne
  | cons _ _=>rfl
 have hsz:its.toArray.size * k.toNat<=16000000:=by rw[xU,<- r.length]; exact hz
 refine wpAny_binaryOp_repeat_ref (T := "tuple") (U := "int") (by decide) ⟨_,ho,rfl⟩ (λ s'=>typeIs_int s' k t) dm F.fills_int_mul F.slot_int_rmul gc F.slot_int_index.lookup
  (call_meets F.slot_int_rmul (typeIs_int s k t) F.entry_int_rmul (F.args_int_rmul_2 _ _) (eA k t a its.toArray n dd sl)
   ⟨ho,rfl,⟨_,ho,rfl⟩,call_meets F.slot_tuple_mul ⟨_,ho,rfl⟩ F.entry_tuple_mul (F.args_tuple_mul_2 _ _) (jz a its.toArray n dd sl k t hne' h2 hk hsz) ⟨ho,?_⟩⟩)
 have hnew:Ak (λ x1 x2=>x1++x2) #[] (List.replicate k.toNat its.toArray)=(List.replicate k.toNat its).flatten.toArray:=by
  have:=gL its k.toNat []
  rw[yf] at this
  exact this
 rw[hnew]
 have hlen:(List.replicate k.toNat xs).flatten.length<=xV:=by
  rw[lS,Nat.mul_comm,show xV=16777216 by decide]
  omega
 exact⟨.ref _,_,I.laid (t':=s.toks) (o:=.tup (List.replicate k.toNat xs).flatten) (λ b o e=>xM _ e) (xL _) ⟨hlen,_,r.rep k.toNat,TupN.new _ _⟩,rfl,q _ (I.hok.fresh (xL _))⟩
theorem Vals.at' {xs:List V}{us:List xK}{i:Nat}{u:xK}(r:Vals xs us)(h:us[i]? = some u):∃x,xs[i]? = some x/\RelV x u:=by
 have hi:i<us.length:=(ym.mp h).1
 have hi':i<xs.length:=by rw[r.length]; exact hi
 have e:xs[i]? = some xs[i]:=by simp[hi']
 obtain⟨w,hw,rw'⟩:=r.get e
 rw[h] at hw
 cases hw
 exact⟨_,e,rw'⟩
theorem pX (K:W.Frag)(hc:X.calm=true)(hk:X.K=K:=by rfl):CallR X (.builtin "all") (λ xs H Q=>∃(p:Addr) (bs:List Bool),xs=[.ref p]/\SqL K H p (bs.map V.bl)/\Q (.bl (bs.all id)) H):=by
 subst hk
 intro pins s σ H xs us Q I r h
 obtain⟨p,bs,rfl,hp,q⟩:=h
 obtain⟨u,rfl,ru⟩:=vals1 r
 cases ru
 obtain⟨its,rv,ht,hz⟩:=I.list hp
 have hh:=I.ok.hd hc
 have hpl:p<s.heap.objs.size:=ht.lt
 have hlen:its.toArray.size=bs.length:=by rw[xU,<- rv.length,xQ]
 have key:∀(a:Nat) (v:xK),its.toArray[a]? = some v->v=.bool (bs.getD a true):=by
  intro a v e
  have e':its[a]? = some v:=by simpa using e
  obtain⟨x,hx,rx⟩:=rv.at' e'
  rw[yg] at hx
  cases hb:bs[a]? with
  | none=>rw[hb] at hx; cases hx
  | some b =>
   rw[hb] at hx
   cases hx
   rw[yi,hb]
   exact rx
 refine call_all_walk (wpAny_pyIter_list ht.isList ⟨s.heap.objs.size,_,_,its.toArray.size,_,_,λ a=>bs.getD a true,rfl,Walks.list (A:=X.A.in1) hh _ p (yu hpl) its.toArray,⟨⟨_,xW _ rfl,rfl,rfl⟩,ht.isList.at λ o e=>xM _ e⟩,?_,?_⟩)
 ·intro i v s' Q' E' hP hq
  rw[key i v hP]
  exact wpAny_truthy_bool hq
 ·intro h' tk kp
  have I1:Inv X pins σ H { s with heap:=h',toks:=tk }:=I.kept λ b o e=>kp b o (λ z=>by
   have e2:b=s.heap.objs.size:=by simpa using z
   rw[e2] at e
   exact absurd (yd e) (y6 _)) (xM _ e)
  have e:(List.range its.toArray.size).all (λ a=>bs.getD a true)=bs.all id:=by
   rw[hlen]
   clear q hp rv hlen key hz
   induction bs with
   | nil=>rfl
   | cons b bs ih =>
    rw[xP,Al,zr,List.all_map,zr]
    have:((λ a=>(b::bs).getD a true) ∘ Nat.succ)=λ a=>bs.getD a true:=rfl
    rw[this,ih]
    rfl
  rw[e]
  exact⟨.bl _,H,I1,rfl,q⟩
end
section
variable {κ:Type}[DecidableEq κ]
def valV (kvs:List (κ × V))(k:κ):Option V:=(kvs.find? λ kv=>decide (kv.1=k)).map (·.2)
def putK (kvs:List (κ × V))(k:κ)(v:V):List (κ × V) :=
 if (kvs.any λ kv=>decide (kv.1=k))=true then kvs.map (λ kv=>if kv.1=k then (kv.1,v) else kv) else kvs++[(k,v)]
def dropK (kvs:List (κ × V))(k:κ):List (κ × V):=kvs.filter λ kv=>decide (kv.1≠k)
theorem ba {p:κ × V}{r:List (κ × V)}{k:κ}(e:p.1=k):valV (p::r) k=some p.2:=by simp[valV,zv,e]
theorem bb {p:κ × V}{r:List (κ × V)}{k:κ}(e:¬ p.1=k):valV (p::r) k=valV r k:=by simp[valV,zv,e]
theorem gB (k:κ):∀kvs:List (κ × V),(kvs.any λ kv=>decide (kv.1=k))=(valV kvs k).isSome
 | []=>rfl
 | p::r=>by
  rw[zK]
  by_cases e:p.1=k
  ·simp only[ba e,decide_eq_true e,Bool.true_or,Option.isSome_some]
  ·rw[bb e,decide_eq_false e,Bool.false_or]; exact gB k r
theorem mN (k j:κ)(y:V):∀kvs:List (κ × V),valV (kvs.map λ kv=>if kv.1=k then (kv.1,y) else kv) j=(valV kvs j).map λ x=>if j=k then y else x
 | []=>rfl
 | p::r=>by
  have ih:=mN k j y r
  rw[xY]
  by_cases h:p.1=k
  ·rw[if_pos h]
   by_cases e:p.1=j
   ·rw[ba (p:=(p.1,y)) e,ba e,zD,if_pos (e.symm.trans h)]
   ·rw[bb (p:=(p.1,y)) e,bb e,ih]
  ·rw[if_neg h]
   by_cases e:p.1=j
   ·rw[ba (p:=p) e,ba e,zD,if_neg (λ z=>h (e.trans z))]
   ·rw[bb (p:=p) e,bb e,ih]
theorem kF (k j:κ)(y:V):∀kvs:List (κ × V),valV kvs k=none->valV (kvs++[(k,y)]) j=if j=k then some y else valV kvs j
 | [],_=>by
  by_cases e:k=j
  ·rw[if_pos e.symm]; exact ba (p:=(k,y)) e
  ·rw[if_neg (λ z=>e z.symm)]; exact bb (p:=(k,y)) e
 | p::r,hn=>by
  rw[yy]
  have hk:¬ p.1=k:=λ z=>by rw[ba z] at hn; cases hn
  rw[bb hk] at hn
  have ih:=kF k j y r hn
  by_cases e:p.1=j
  ·rw[ba e,ba e,if_neg (λ z=>hk (e.trans z))]
  ·rw[bb e,bb e,ih]
theorem sm (kvs:List (κ × V))(k j:κ)(y:V):valV (putK kvs k y) j=if j=k then some y else valV kvs j:=by
 unfold putK
 by_cases a:(kvs.any λ kv=>decide (kv.1=k))=true
 ·rw[if_pos a,mN]
  rw[gB] at a
  by_cases e:j=k
  ·obtain⟨x,hx⟩:=Ah.mp a
   rw[if_pos e,e,hx,zD,if_pos rfl]
  ·rw[if_neg e]
   cases valV kvs j with
   | none=>rfl
   | some x=>rw[zD,if_neg e]
 ·rw[if_neg a]
  refine kF k j y kvs ?_
  rw[gB] at a
  cases q:valV kvs k with
  | none=>rfl
  | some x=>rw[q] at a; exact (a rfl).elim
theorem gQ (kvs:List (κ × V))(k:κ)(v:V):(putK kvs k v).length<=kvs.length+1:=by
 unfold putK
 split
 ·rw[xQ]; omega
 ·rw[yB,xP,yn]; omega
theorem RelO.isSome_eq {o:Option V}{u:Option xK}(r:RelO o u):o.isSome=u.isSome:=by
 cases o with
 | none=>cases u with
  | none=>rfl
  | some _=>exact (show False from r).elim
 | some _=>cases u with
  | none=>exact (show False from r).elim
  | some _=>rfl
theorem RelO.getD {o:Option V}{u:Option xK}{d:V}{d':xK}(r:RelO o u)(rd:RelV d d'):RelV (o.getD d) (u.getD d'):=by
 cases o with
 | none=>cases u with
  | none=>exact rd
  | some _=>exact (show False from r).elim
 | some _=>cases u with
  | none=>exact (show False from r).elim
  | some _=>exact r
theorem KV.val {kvs:List (κ × V)}{vs:List (κ × xK)}(r:KV kvs vs)(k:κ):RelO (valV kvs k) (valueAt vs k):=by
 unfold KV at r
 induction r with
 | nil=>exact True.intro
 | @cons p q ps qs h t ih =>
  obtain⟨h1,h2⟩:=h
  by_cases e:p.1=k
  ·have e':q.1=k:=h1.symm.trans e
   have b:valueAt (q::qs) k=some q.2:=by simp[valueAt,zv,e']
   rw[ba e,b]; exact h2
  ·have e':¬ q.1=k:=λ z=>e (h1.trans z)
   have b:valueAt (q::qs) k=valueAt qs k:=by simp[valueAt,zv,e']
   rw[bb e,b]; exact ih
theorem KV.any {kvs:List (κ × V)}{vs:List (κ × xK)}(r:KV kvs vs)(k:κ):(kvs.any λ kv=>decide (kv.1=k))=vs.any λ kv=>decide (kv.1=k):=by
 unfold KV at r
 induction r with
 | nil=>rfl
 | cons h t ih=>rw[zK,zK,ih,h.1]
theorem KV.repl {kvs:List (κ × V)}{vs:List (κ × xK)}(r:KV kvs vs)(k:κ){y:V}{u:xK}(ry:RelV y u) :
  KV (kvs.map λ kv=>if kv.1=k then (kv.1,y) else kv) (vs.map λ kv=>if kv.1=k then (kv.1,u) else kv):=by
 unfold KV at r ⊢
 induction r with
 | nil=>exact .nil
 | @cons p q ps qs h t ih =>
  rw[xY,xY]
  refine .cons ?_ ih
  obtain⟨h1,h2⟩:=h
  by_cases e:p.1=k
  ·rw[if_pos e,if_pos (h1.symm.trans e)]; exact⟨h1,ry⟩
  ·rw[if_neg e,if_neg (λ z=>e (h1.trans z))]; exact⟨h1,h2⟩
theorem KV.put {kvs:List (κ × V)}{vs:List (κ × xK)}(r:KV kvs vs)(k:κ){y:V}{u:xK}(ry:RelV y u):KV (putK kvs k y) (stored vs k u):=by
 unfold putK stored
 rw[r.any k]
 by_cases e:(vs.any λ kv=>decide (kv.1=k))=true
 ·rw[if_pos e,if_pos e]; exact r.repl k ry
 ·rw[if_neg e,if_neg e]; exact Paired.snoc r ⟨rfl,ry⟩
theorem KV.drop {kvs:List (κ × V)}{vs:List (κ × xK)}(r:KV kvs vs)(k:κ):KV (dropK kvs k) (without vs k):=by
 unfold KV at r ⊢
 unfold dropK without
 induction r with
 | nil=>exact .nil
 | @cons p q ps qs h t ih =>
  obtain⟨h1,h2⟩:=h
  rw[zO,zO]
  by_cases e:p.1=k
  ·have a:¬ decide (p.1≠k)=true:=by simp[e]
   have b:¬ decide (q.1≠k)=true:=by simp[h1.symm.trans e]
   rw[if_neg a,if_neg b]; exact ih
  ·have e':¬ q.1=k:=λ z=>e (h1.trans z)
   have a:decide (p.1≠k)=true:=by simp[e]
   have b:decide (q.1≠k)=true:=by simp[e']
   rw[if_pos a,if_pos b]; exact .cons ⟨h1,h2⟩ ih
theorem KV.keys {kvs:List (κ × V)}{vs:List (κ × xK)}(r:KV kvs vs):kvs.map (·.1)=vs.map (·.1):=by
 unfold KV at r
 induction r with
 | nil=>rfl
 | cons h t ih=>rw[xY,xY,ih,h.1]
theorem KV.length {kvs:List (κ × V)}{vs:List (κ × xK)}(r:KV kvs vs):kvs.length=vs.length:=Paired.length r
end
theorem kV_is {P:yk}{w:World}{k:Key}{u:xK}(r:RelV (kV k) u):(aP P w).is k u=true:=by
 cases k with
 | inl i=>obtain⟨t,e⟩:=(show ∃t,u=xK.int i t from r); subst e; exact lP P w i t
 | inr x=>obtain⟨t,e⟩:=(show ∃t,u=xK.str x t from r); subst e; exact lQ P w x t
theorem kG {P:yk}{w:World}:∀{ks:List Key} {us:List xK},Vals (ks.map kV) us->ItemsAre (aP P w) ks us
 | [],_,r=>by rw[yN] at r; cases r; exact .nil
 | k::ks,_,r=>by
  rw[xY] at r
  cases r with
  | cons h t=>exact .cons (kV_is h) (kG t)
abbrev KT (H:Hp):List (List Key × V)->List (List Key × Addr × xK)->Prop:=Paired λ p q=>p.1=q.1/\H q.2.1=some (.tup (p.1.map kV))/\RelV p.2 q.2.2
theorem KT.val {H:Hp}{kvs:List (List Key × V)}{xs:List (List Key × Addr × xK)}(r:KT H kvs xs)(k:List Key):RelO (valV kvs k) ((atKey xs k).map (·.2)):=by
 induction r with
 | nil=>exact True.intro
 | @cons p q ps qs h t ih =>
  obtain⟨h1,_,h2⟩:=h
  by_cases e:p.1=k
  ·have e':q.1=k:=h1.symm.trans e
   have b:atKey (q::qs) k=some q.2:=by simp[atKey,zv,e']
   rw[ba e,b]; exact h2
  ·have e':¬ q.1=k:=λ z=>e (h1.trans z)
   have b:atKey (q::qs) k=atKey qs k:=by simp[atKey,zv,e']
   rw[bb e,b]; exact ih
theorem KT.repl {H:Hp}{kvs:List (List Key × V)}{xs:List (List Key × Addr × xK)}(r:KT H kvs xs)(k:List Key){y:V}{u:xK}(ry:RelV y u) :
  KT H (kvs.map λ kv=>if kv.1=k then (kv.1,y) else kv) (xs.map (putAt k u)):=by
 induction r with
 | nil=>exact .nil
 | @cons p q ps qs h t ih =>
  rw[xY,xY]
  refine .cons ?_ ih
  obtain⟨h1,h2,h3⟩:=h
  unfold putAt
  by_cases e:p.1=k
  ·rw[if_pos e,if_pos (h1.symm.trans e)]; exact⟨h1,h2,ry⟩
  ·rw[if_neg e,if_neg (λ z=>e (h1.trans z))]; exact⟨h1,h2,h3⟩
theorem KT.put {H:Hp}{kvs:List (List Key × V)}{xs:List (List Key × Addr × xK)}(r:KT H kvs xs)(k:List Key){b:Addr}{y:V}{u:xK}(hb:H b=some (.tup (k.map kV)))(ry:RelV y u) :
  KT H (putK kvs k y) (storedH xs k b u):=by
 have e:(kvs.any λ kv=>decide (kv.1=k))=(atKey xs k).isSome:=by
  rw[gB,(r.val k).isSome_eq,Option.isSome_map]
 unfold putK storedH
 rw[e]
 by_cases q:(atKey xs k).isSome=true
 ·rw[if_pos q,if_pos q]; exact r.repl k ry
 ·rw[if_neg q,if_neg q]; exact Paired.snoc r ⟨rfl,hb,ry⟩
theorem KT.keeps {H H':Hp}{kvs:List (List Key × V)}{xs:List (List Key × Addr × xK)}(r:KT H kvs xs)(ht:∀b ys,H b=some (.tup ys)->H' b=some (.tup ys)):KT H' kvs xs :=
 Paired.mapP r λ _ _ z=>⟨z.1,ht _ _ z.2.1,z.2.2⟩
section
variable {P:yk}{w:World}{H:Hp}{h:Heap}{a:Addr}
theorem rd_of {u:HO}(ok:HOk P w H h)(e:Rd H a u):ObjOk P w H h a u:=e.ok ok
theorem dk_rd {kvs:List (Key × V)}(ok:HOk P w H h)(e:Rd H a (.dK kvs)):kvs.length<=xV/\(a == sysModules)=false/\∃vs,KV kvs vs/\h.DictOf (aP P w) a vs :=
 show ObjOk P w H h a (.dK kvs) from rd_of ok e
theorem dk_of {kvs:List (Key × V)}(ok:HOk P w H h)(e:H a=some (.dK kvs)):kvs.length<=xV/\(a == sysModules)=false/\∃vs,KV kvs vs/\h.DictOf (aP P w) a vs:=dk_rd ok (.inl e)
theorem mO {ks:List Key}(ok:HOk P w H h)(e:H a=some (.tup (ks.map kV))):(tupleKind (aP P w)).is h ks a:=by
 obtain⟨_,its,r,o,h1,h2,n,h3,_⟩:=(show ObjOk P w H h a (.tup (ks.map kV)) from ok a _ e)
 exact⟨o,its.toArray,n,h1,h2,h3,by simpa using kG r⟩
theorem dt_rd {kvs:List (List Key × V)}(ok:HOk P w H h)(e:Rd H a (.dT kvs)):kvs.length<=xV/\(a == sysModules)=false /\
  ∃xs,KT H kvs xs/\h.DictOfH (tupleKind (aP P w)) a xs:=by
 obtain⟨z,y,xs,r,o,es,ep,h1,h2,h3,h4,h5⟩:=(show ObjOk P w H h a (.dT kvs) from rd_of ok e)
 refine⟨z,y,xs,r,o,es,ep,h1,h2,h3,h4,λ x hx=>?_,h5⟩
 have all:∀{l:List (List Key × V)} {m:List (List Key × Addr × xK)},KT H l m->∀x∈m,(tupleKind (aP P w)).is h x.1 x.2.1:=by
  intro l m q
  induction q with
  | nil=>intro x hx; exact nomatch hx
  | @cons p q ps qs hq t ih =>
   intro x hx
   rcases xR.mp hx with e | hx
   ·subst e
    exact mO ok (by rw[<- hq.1]; exact hq.2.1)
   ·exact ih x hx
 exact all r x hx
theorem dt_of {kvs:List (List Key × V)}(ok:HOk P w H h)(e:H a=some (.dT kvs)):kvs.length<=xV/\(a == sysModules)=false /\
  ∃xs,KT H kvs xs/\h.DictOfH (tupleKind (aP P w)) a xs:=dt_rd ok (.inl e)
end
def DGet (H:Hp)(a:Addr)(y:V)(r:Option V):Prop :=
 (∃kvs k,Rd H a (.dK kvs)/\y=kV k/\r=valV kvs k)\/∃kvs k b,Rd H a (.dT kvs)/\y=.ref b/\H b=some (.tup (k.map kV))/\r=valV kvs k
def DPut (H:Hp)(a:Addr)(y v:V)(H':Hp):Prop :=
 (∃kvs k,H a=some (.dK kvs)/\y=kV k/\kvs.length<xV/\H'=upd H a (.dK (putK kvs k v))) \/
 ∃kvs k b,H a=some (.dT kvs)/\y=.ref b/\H b=some (.tup (k.map kV))/\kvs.length<xV/\H'=upd H a (.dT (putK kvs k v))
theorem DGet.k {H:Hp}{a:Addr}{kvs:List (Key × V)}{k:Key}(e:H a=some (.dK kvs)):DGet H a (kV k) (valV kvs k):=.inl ⟨kvs,k,.inl e,rfl,rfl⟩
theorem DGet.t {H:Hp}{a b:Addr}{kvs:List (List Key × V)}{k:List Key}(e:H a=some (.dT kvs))(eb:H b=some (.tup (k.map kV))):DGet H a (.ref b) (valV kvs k):=.inr ⟨kvs,k,b,.inl e,rfl,eb,rfl⟩
theorem DPut.k {H:Hp}{a:Addr}{kvs:List (Key × V)}{k:Key}{v:V}(e:H a=some (.dK kvs))(hl:kvs.length<xV):DPut H a (kV k) v (upd H a (.dK (putK kvs k v))):=.inl ⟨kvs,k,e,rfl,hl,rfl⟩
theorem DPut.t {H:Hp}{a b:Addr}{kvs:List (List Key × V)}{k:List Key}{v:V}(e:H a=some (.dT kvs))(eb:H b=some (.tup (k.map kV)))(hl:kvs.length<xV) :
  DPut H a (.ref b) v (upd H a (.dT (putK kvs k v))):=.inr ⟨kvs,k,b,e,rfl,eb,hl,rfl⟩
section
variable {X:Cx}{pins:List (Addr × Obj)}{σ:St}{H:Hp}{s:xO}{a:Addr}{y v:V}{u r:xK}{o:Option V}{A:Around}{E:xK->xO->Prop}
theorem Inv.big (I:Inv X pins σ H s):sysModules<s.heap.objs.size:=by
 have h:yp<s.heap.objs.size:=(I.mod.glob.keeps I.bk).lt
 exact Nat.lt_trans (by decide) h
theorem pY {Q:xK->xO->Prop}(hu:A.units+1<cLine)(I:Inv X pins σ H s)(g:DGet H a y (some v))(ry:RelV y u)(h:∀w' s',Inv X pins σ H s'->RelV v w'->Q w' s') :
  yb (model X.prog X.w) A (getItem (.ref a) u) Q E s:=by
 rcases g with⟨kvs,k,e,ey,l⟩ | ⟨kvs,k,b,e,ey,eb,l⟩
 ·subst ey
  obtain⟨z,hd,vs,rel,dd⟩:=dk_rd I.hok e
  obtain⟨w',hw,rw'⟩:=RelO.some_of (v:=v) (o:=valueAt vs k) (by rw[l]; exact rel.val k)
  exact wpAny_getItem_of (kV_is ry) dd.mapOf hw (h w' _ (I.tok _) rw')
 ·subst ey
  cases (show u=xK.ref b from ry)
  obtain⟨z,hd,xs,rel,dd⟩:=dt_rd I.hok e
  obtain⟨w',hw,rw'⟩:=RelO.some_of (v:=v) (o:=(atKey xs k).map (·.2)) (by rw[l]; exact rel.val k)
  obtain⟨p,hp,hp2⟩:=zH.mp hw
  refine wpAny_getItem_heap (tupleKind_room_in1 hu) (mO I.hok eb) dd hp ?_
  rw[hp2]
  exact h w' _ (I.tok _) rw'
theorem pZ {h':Heap}{t':Nat}{ob:HO}(I:Inv X pins σ H s)(mu:Mut (H a))(hs:Heap.SameBut a s.heap h')(he:∃q,h'.get? a=some q)(new:ObjOk X.prog X.w (upd H a ob) h' a ob) :
  Inv X pins σ (upd H a ob) { s with heap:=h',toks:=t' } :=
 I.write (x:=a) (e:=a) mu (.inl rfl) (λ b q hb z=>(hs.2 b hb).trans z) he new
theorem wP {P:yk}{w:World}{H':Hp}{h':Heap}{kvs:List (Key × V)}{vs:List (Key × xK)}(z:kvs.length<=xV)(hd:(a == sysModules)=false)(rel:KV kvs vs)(dd:h'.DictOf (aP P w) a vs) :
  ObjOk P w H' h' a (.dK kvs):=⟨z,hd,vs,rel,dd⟩
theorem p6 {H':Hp}{Q:Unit->xO->Prop}(hu:A.units+1<cLine)(I:Inv X pins σ H s)(g:DPut H a y v H')(ry:RelV y u)(rv:RelV v r)(h:∀s',Inv X pins σ H' s'->Q () s') :
  yb (model X.prog X.w) A (setItem (.ref a) u r) Q E s:=by
 rcases g with⟨kvs,k,e,ey,l,eH⟩ | ⟨kvs,k,b,e,ey,eb,l,eH⟩
 ·subst ey eH
  obtain⟨z,hd,vs,rel,dd⟩:=dk_of I.hok e
  have hz:vs.length<=xV:=by rw[<- rel.length]; exact z
  have hl:(putK kvs k v).length<=xV:=by have:=gQ kvs k v; omega
  refine wpAny_setItem_pairs (hsz:=hz) (kV_is ry) dd λ h' dd' hs=>h _ ?_
  have he:∃q,h'.get? a=some q:=let ⟨q,_,_,hq,_⟩:=dd'; ⟨q,hq⟩
  exact pZ I (by rw[e]; exact True.intro) hs he (wP hl hd (rel.put k rv) dd')
 ·subst ey eH
  cases (show u=xK.ref b from ry)
  obtain⟨z,hd,xs,rel,dd⟩:=dt_of I.hok e
  have hz:xs.length<=xV:=by rw[<- Paired.length rel]; exact z
  have hl:(putK kvs k v).length<=xV:=by have:=gQ kvs k v; omega
  refine wpAny_setItem_heap (hsz:=hz) (tupleKind_room_in1 hu) (mO I.hok eb) dd λ h' dd' hs=>h _ ?_
  obtain⟨q,es,ep,hq,h2,h3,h4,_,h5⟩:=dd'
  refine pZ I (by rw[e]; exact True.intro) hs ⟨q,hq⟩ ⟨hl,hd,_,(rel.put k eb rv).keeps λ c ys ec=>?_,q,es,ep,hq,h2,h3,h4,h5⟩
  rw[ag (ne_of ec e (λ z=>nomatch z))]
  exact ec
end
def NoSl (i:Expr):Prop:=∀ov iv,subscripted i false ov iv=operate [ov,iv] (getItem ov iv)
theorem vi {prog:yk}{w:World}{A:Around}{E:xK->xO->Prop}{s:xO}{env:Env}{value slice:Expr}{pos:Pos}{T id:String}{Q:xK->xO->Prop}
  (hl:typeLookup (.type T) "__getitem__" = pure (some (.builtin id))) (hs:NoSl slice)
  (h:yb (model prog w) A (eval value env) (λ o s₁=>yb (model prog w) A (eval slice env) (λ i s₂=>s₂.TypeIs o T/\yb (model prog w) A (getItem o i) Q E s₂) E s₁) E s) :
  yb (model prog w) A (eval (.Subscript value slice pos) env) Q E s:=by
 refine Subscript_ (y8 h (λ o s₁ h₁=>y8 h₁ (λ i s₂ h₂=>?_) λ _ _ x=>x) λ _ _ x=>x)
 obtain⟨hT,h₂⟩:=h₂
 unfold subscriptTail
 refine xI ?_
 rw[getitemInPython_of_ne hT.not_modules]
 refine xI (wpAny_specialOf hT hl ?_)
 have fin:yb (model prog w) A (subscripted slice false o i) (λ r s₃=>yb (model prog w) A (letTemporaryGo value o r >>= λ _=>pure r) Q E s₃) E s₂:=by
  rw[hs o i]
  exact wpAny_operating (y8 h₂ (λ r s₃ h₃=>xI (wpAny_letTemporaryGo (xN h₃))) λ _ _ x=>x)
 first
  | exact xN (xI fin)
  | exact xI (xN (xI fin))
  | exact xI fin
theorem lU {X:Cx}{pins:List (Addr × Obj)}{σ:St}{H:Hp}{s:xO}{a:Addr}{y:V}{o:Option V}(I:Inv X pins σ H s)(g:DGet H a y o):s.TypeIs (.ref a) "dict" := by
 rcases g with⟨kvs,k,e,_,_⟩ | ⟨kvs,k,b,e,_,_,_⟩
 ·obtain⟨_,_,vs,_,dd⟩:=dk_rd I.hok e
  exact dd.typeIs
 ·obtain⟨_,_,xs,_,dd⟩:=dt_rd I.hok e
  exact dd.typeIs
def tDGet (td ty:TE):TE:=λ σ H Q=>td σ H λ x H1=>ty σ H1 λ y H2=>∃a v,x=.ref a/\DGet H2 a y (some v)/\Q v H2
def sDPut (td ty tv:TE):TS:=λ D σ H=>tv σ H λ v H1=>td σ H1 λ x H2=>ty σ H2 λ y H3=>∃a H4,x=.ref a/\DPut H3 a y v H4/\D.nx σ H4
section
variable {X:Cx}{o i e value:Expr}{pos pos' tpos:Pos}{td ty tv:TE}
theorem vj (hu:X.A.units+1<cLine)(ho:PE X o td)(hi:PE X i ty)(hs:NoSl i):PE X (.Subscript o i pos) (tDGet td ty):=by
 intro pins s σ H Q I h
 refine vi PySem.F.slot_dict_getitem.lookup hs (thn (ho pins s σ H _ I h) λ u s1 ⟨x,H1,I1,rx,q1⟩=>thn (hi pins s1 σ H1 _ I1 q1) λ iv s2 ⟨y,H2,I2,ry,a,v,ex,g,q2⟩=>?_)
 subst ex
 obtain rfl:u=xK.ref a:=rx
 exact⟨lU I2 g,pY hu I2 g ry λ w' s3 I3 rw'=>⟨v,H2,I3,rw',q2⟩⟩
theorem vk (hu:X.A.units+1<cLine)(ho:PE X o td)(hi:PE X i ty)(hv:PE X value tv)(hs:swapsWith value (some (.Subscript o i pos')) pos.line X.env=pure false) :
  PS X (.Assign [.Subscript o i pos'] value pos) (sDPut td ty tv):=by
 intro pins s σ H D I h
 refine wpAny_Assign_Subscript (thn (hv pins s σ H _ I h) λ r s1 ⟨v,H1,I1,rv,q1⟩=>thn (ho pins s1 σ H1 _ I1 q1) λ u s2 ⟨x,H2,I2,rx,q2⟩=>thn (hi pins s2 σ H2 _ I2 q2) λ iv s3 ⟨y,H3,I3,ry,a,H4,ex,g,q3⟩=>?_) hs
 subst ex
 obtain rfl:u=xK.ref a:=rx
 exact p6 hu I3 g ry rv λ s4 I4=>⟨σ,H4,I4,q3⟩
end
theorem so {P:yk}{w:World}{H:Hp}(h:Heap)(hb:sysModules<h.objs.size):ObjOk P w H (h.push { cls:=.type "dict",data:=.dict #[] }) h.objs.size (.dK []) :=
 ⟨yY _,beq_eq_false_iff_ne.mpr (Ne.symm (yu hb)),[],.nil,Heap.DictOf.new h⟩
def tP:TE:=λ _ H Q=>∀p,H p=none->Q (.ref p) (upd H p (.dK []))
section
variable {X:Cx}{pos:Pos}
theorem sr:PE X (.Dict [] [] pos) tP:=λ pins s σ H Q I h =>
 wpAny_Dict_empty ⟨.ref s.heap.objs.size,_,I.laid (a:=s.heap.objs.size) (o:=.dK []) (t':=s.toks) (λ _ _ q=>xM _ q) (xL _) (so s.heap I.big),rfl,h _ (I.hok.fresh (xL _))⟩
end
def tQ:List (TE × TE)->St->Hp->(List (V × V)->Hp->Prop)->Prop
 | [],_,H,Q=>Q [] H
 | (tk,tv)::r,σ,H,Q=>tk σ H λ x H1=>tv σ H1 λ y H2=>tQ r σ H2 λ ps H3=>Q ((x,y)::ps) H3
abbrev VV:List (V × V)->List (xK × xK)->Prop:=Paired λ p q=>RelV p.1 q.1/\RelV p.2 q.2
def PPs (X:Cx)(pos:Pos)(keys:List (Option Expr))(values:List Expr)(trs:List (TE × TE)):Prop :=
 ∀(pins:List (Addr × Obj)) (s:xO) (σ:St) (H:Hp) (Q:List (V × V)->Hp->Prop),Inv X pins σ H s->tQ trs σ H Q ->
  yb (model X.prog X.w) X.A (evalPairs (pairTrees keys values X.env pos)) (λ vs s'=>∃ps H',Inv X pins σ H' s'/\VV ps vs/\Q ps H') X.xe s
structure M2 (X:Cx) (o:Expr) (m:Str) (apos:Pos) (e f:Expr) (cpos:Pos):Prop where
 base:attributeBase o m X.env (eval o X.env)=eval o X.env
 few:((backTo cpos (starEach [e,f] X.env)).all (λ x=>!x.1) && (backToKw cpos (keywordEach [] X.env)).all (λ x=>x.1.isSome)
  && decide (([e,f]:List Expr).length+([]:List Keyword).length+(if ([]:List Keyword).isEmpty then 0 else 1)<30))=true
 line:(apos.endLine == cpos.line)=true
 trees:backTo cpos (starEach [e,f] X.env)=[(false,eval e X.env),(false,eval f X.env)]
def IsD (H:Hp)(a:Addr):Prop:=(∃kvs,Rd H a (.dK kvs))\/∃kvs,Rd H a (.dT kvs)
theorem wQ {X:Cx}{pins:List (Addr × Obj)}{σ:St}{H:Hp}{s:xO}{a:Addr}(I:Inv X pins σ H s)(d:IsD H a) :
  s.TypeIs (.ref a) "dict" /\ (∀b,xK.ref a=.ref b->∃ob,s.heap.get? b=some ob/\ob.dict=none)/\(a == sysModules)=false:=by
 rcases d with⟨kvs,e⟩ | ⟨kvs,e⟩
 ·obtain⟨_,hd,vs,_,dd⟩:=dk_rd I.hok e
  refine⟨dd.typeIs,λ b q=>?_,hd⟩
  cases q
  obtain⟨ob,_,_,h1,h2,_⟩:=dd
  exact⟨ob,h1,h2.2.1⟩
 ·obtain⟨_,hd,xs,_,dd⟩:=dt_rd I.hok e
  refine⟨dd.typeIs,λ b q=>?_,hd⟩
  cases q
  obtain⟨ob,_,_,h1,h2,_⟩:=dd
  exact⟨ob,h1,h2.2.1⟩
section
variable {X:Cx}{pins:List (Addr × Obj)}{σ:St}{H:Hp}{s:xO}{a:Addr}{y d:V}{u r:xK}{o:Option V}{A:Around}{E:xK->xO->Prop}
theorem wR {Q:xK->xO->Prop}(hu:A.units+1<cLine)(I:Inv X pins σ H s)(g:DGet H a y o)(ry:RelV y u)(rd:RelV d r)(h:∀w' s',Inv X pins σ H s'->RelV (o.getD d) w'->Q w' s') :
  yb (model X.prog X.w) A (call (.builtin "dict.get") [.ref a,u,r]) Q E s:=by
 rcases g with⟨kvs,k,e,ey,l⟩ | ⟨kvs,k,b,e,ey,eb,l⟩
 ·subst ey
  obtain⟨z,hd,vs,rel,dd⟩:=dk_rd I.hok e
  refine call_meetsIn PySem.F.slot_dict_get dd.typeIs PySem.F.entry_dict_get (PySem.F.args_dict_get_3 _ _ _) (meets_dict_get_default (aP X.prog X.w) a (kV_is ry) hd r) ⟨_,dd.mapOf,h _ _ (I.tok _) ?_⟩
  rw[l]
  exact (rel.val k).getD rd
 ·subst ey
  cases (show u=xK.ref b from ry)
  obtain⟨z,hd,xs,rel,dd⟩:=dt_rd I.hok e
  refine call_meetsIn PySem.F.slot_dict_get dd.typeIs PySem.F.entry_dict_get (PySem.F.args_dict_get_3 _ _ _) (meetsH_dict_get_default (tupleKind (aP X.prog X.w)) a b hd r) ⟨tupleKind_room_in1 hu,k,xs,mO I.hok eb,dd,h _ _ (I.tok _) ?_⟩
  rw[l]
  exact (rel.val k).getD rd
end
def tR (td ty tx:TE):TE:=λ σ H Q=>td σ H λ x H1=>∃a,x=.ref a/\IsD H1 a/\ty σ H1 λ y H2=>tx σ H2 λ z H3=>∃o,DGet H3 a y o/\Q (o.getD z) H3
section
variable {X:Cx}{o e f:Expr}{apos cpos:Pos}{td ty tx:TE}
theorem su (hu:X.A.units+1<cLine)(ho:PE X o td)(he:PE X e ty)(hf:PE X f tx)(m:M2 X o "get" apos e f cpos):PE X (.Call (.Attribute o "get" apos) [e,f] [] cpos) (tR td ty tx):=by
 intro pins s σ H Q I h
 refine wpAny_Call_method m.base m.few m.line PySem.F.plainAttrs_dict PySem.F.slot_dict_get PySem.F.type_dict_get (thn (ho pins s σ H _ I h) λ u s1 ⟨x,H1,I1,rx,a,ex,d,q1⟩=>?_)
 subst ex
 obtain rfl:u=xK.ref a:=rx
 obtain⟨t1,t2,_⟩:=wQ I1 d
 refine⟨t1,t2,?_⟩
 rw[m.trees]
 refine Calls.callWith_builtin rfl (Calls.evalArgs_plain (Calls.spliced_cons (thn (he pins s1 σ H1 _ I1 q1) λ iv s2 ⟨y,H2,I2,ry,q2⟩ =>
  Calls.spliced_cons (thn (hf pins s2 σ H2 _ I2 q2) λ fv s3 ⟨z,H3,I3,rz,ov,g,q3⟩=>Calls.spliced_nil ?_))))
 exact wR hu I3 g ry rz λ w' s4 I4 rw'=>⟨_,H3,I4,rw',q3⟩
end
end L2
namespace PySem
open Sem (wp)
open AutoSeq1 (wpAny_loadPart')
theorem gR (l b:Addr)(xs ys:Array xK)(n n2:Nat)(dd:Option Addr)(sl:Array (Option xK))(h0:¬ (!xs.isEmpty && Builtin.List.listTooLong (xs.size+ys.size))=true)(h1:xs.size<=xV)(h2:(xs++ys).size<=xV+1) :
  Meets (Builtin.«list.extend» ⟨[.ref l,.ref b],[]⟩) (λ _ R s=>s.heap.get? l=some { cls:=.type "list",dict:=none,data:=.seq xs n,slots:=#[] }/\s.heap.get? b=some { cls:=.type "tuple",dict:=dd,data:=.seq ys n2,slots:=sl } /\
   R (.ok (.ret xK.none)) { s with heap:=s.heap.update l (Obj.mapSeq λ x=>x++ys),toks:=s.toks }) :=
 .of_wp λ prog w A R s h=>by
  obtain⟨hp,g,d,tk,os⟩:=s
  obtain⟨hl,hb,h⟩:=h
  have f1:=AutoSeq1.idx_int
  wp_walk using (wpAny_updateSeq hl rfl (hz:=h1) (_hz':=h2)),wpAny_loadPart' hl,wpAny_loadPart' hb
  exact⟨_,rfl,h⟩
end PySem
namespace L2
open PySem PySem.Spec PyProof.Rows
section
variable {X:Cx}{o i e f value:Expr}{td ty tv tx to ti te:TE}{pos pos' apos cpos:Pos}
theorem mP:QE X (.Dict [] [] pos) tP:=⟨sr⟩
theorem p7 (hu:X.A.units+1<cLine)(ho:QE X o td)(hi:QE X i ty)(hs:NoSl i):QE X (.Subscript o i pos) (tDGet td ty):=⟨vj hu ho.run hi.run hs⟩
theorem mQ (hu:X.A.units+1<cLine)(ho:QE X o td)(he:QE X e ty)(hf:QE X f tx)(m:M2 X o "get" apos e f cpos):QE X (.Call (.Attribute o "get" apos) [e,f] [] cpos) (tR td ty tx):=⟨su hu ho.run he.run hf.run m⟩
theorem p8 (hu:X.A.units+1<cLine)(ho:QE X o td)(hi:QE X i ty)(hv:QE X value tv)(hs:swapsWith value (some (.Subscript o i pos')) pos.line X.env=pure false:=by rfl):QS X (.Assign [.Subscript o i pos'] value pos) (sDPut td ty tv):=⟨vk hu ho.run hi.run hv.run hs⟩
theorem vm {tget:V->V->Hp->VK->Prop}{tip:TIp}{tset:TSet}{op:Operator}(ho:QE X o to)(hi:QE X i ti)(hg:PGet X tget)(he:QE X e te)(hp:PIp X op tip)(hs:PSet X tset)
  (ha:∀ov iv new,augStore i ov iv new=(do holding [new,ov,iv] (setItem ov iv new); release [new,ov,iv] []; pure .next):=by intros; rfl):QS X (.AugAssign (.Subscript o i pos') op e pos) (tAugS to ti te tget tip tset):=⟨uM ho.run hi.run hg he.run hp hs ha⟩
def rGetL:R2:=λ x y H Q=>∃p xs i v,x=.ref p/\y=.int i/\H p=some (.lst xs)/\0<=i/\xs[i.toNat]? = some v/\Q v H
theorem p9:PGet X rGetL:=by
 intro pins s σ H x y v u Q I rx ry h
 obtain⟨p,xs,i,z,rfl,rfl,hp,h0,hx,q⟩:=h
 cases rx
 obtain⟨t,rfl⟩:=ry
 obtain⟨its,r,pl,hz⟩:=I.list (SqL.of hp)
 obtain⟨w,ew,rw'⟩:=r.get hx
 have hi:i.toNat<xs.length:=(ym.mp hx).1
 have hn:=kh
 exact wpAny_getItem_list pl.isList h0 (by omega) (by simpa using ew) ⟨z,H,I,rw',q⟩
def sv (K:W.Frag):V->List V->Hp->VK->Prop:=λ x vs H Q=>∃l b xs zs,x=.ref l/\vs=[.ref b]/\H l=some (.lst xs)/\SqT K H b zs/\xs.length+zs.length<=xV/\Q .non (upd H l (.lst (xs++zs)))
theorem nU (K:W.Frag)(h:X.K=K:=by rfl):MtM X "list.extend" (sv K):=by
 subst h
 intro pins s σ H x vs v us Q I rx rv h
 obtain⟨l,b,xs,zs,rfl,rfl,hH,hB,hz,q⟩:=h
 cases rx
 obtain⟨u,rfl,ru⟩:=rv.one
 cases ru
 obtain⟨z,its,n,r,hl,e⟩:=I.lstM hH
 obtain⟨its2,r2,ht,hl2⟩:=I.tuple hB
 obtain⟨⟨cls,dd,data,sl⟩,ho,hc,n2,hd⟩:=id ht
 simp only at hc hd
 subst hc hd
 have e1:=r2.length
 have hsz:its.toArray.size+its2.toArray.size<=xV:=by rw[xU,xU]; omega
 have hlong:¬ (!its.toArray.isEmpty && Builtin.List.listTooLong (its.toArray.size+its2.toArray.size))=true:=λ z=>by
  rw[jv hsz,Bool.and_false] at z
  cases z
 have hs2:(its.toArray++its2.toArray).size<=xV+1:=by rw[Array.size_append]; omega
 refine call_meets F.slot_list_extend ⟨_,e,rfl⟩ F.entry_list_extend (F.args_list_extend_2 _ _) (gR l b its.toArray its2.toArray n n2 dd sl hlong (by omega) hs2) ⟨e,ho,?_⟩
 exact⟨.non,_,I.lset (its':=its++its2) hH e (by simp) (r.append r2) (by rw[yB]; exact hz),rfl,q⟩
theorem IntsAre.of_vals:∀{ns:List Int} {us:List xK},Vals (ns.map V.int) us->IntsAre us ns
 | [],us,h=>by cases h; exact .nil
 | n::ns,us,h=>by
  cases h with
  | cons r t =>
   obtain⟨tk,rfl⟩:=r
   exact .cons n tk (IntsAre.of_vals t)
theorem Vals.of_ints:∀{ns:List Int} {us:List xK},IntsAre us ns->Vals (ns.map V.int) us
 | _,_,.nil=>.nil
 | _,_,.cons n t r=>.cons ⟨t,rfl⟩ (Vals.of_ints r)
theorem bS (ns:List Int):∀j,j<=ns.length->preSum (λ a=>ns.getD a 0) j=(ns.take j).sum
 | 0,_=>by simp[preSum]
 | j+1,h=>by
  rw[preSum,bS ns j (by omega),zT,List.sum_append]
  have:ns[j]? = some ns[j]:=by simp
  rw[yi,this]
  simp
theorem dz (K:W.Frag)(hk:X.K=K:=by rfl):CallR X (.builtin "sorted") (λ xs H Q=>∃(p:Addr) (ns:List Int),xs=[.ref p]/\SqL K H p (ns.map V.int)/\ns.length<64/\∀(l:Addr) (ms:List Int),ms.Perm ns->ms.Pairwise (·<=·)->H l=none->Q (.ref l) (upd H l (.lst (ms.map V.int)))):=by
 subst hk
 intro pins s σ H xs us Q I r h
 obtain⟨p,ns,rfl,hp,h64,q⟩:=h
 obtain⟨u,rfl,ru⟩:=vals1 r
 cases ru
 obtain⟨its,rv,ht,hz⟩:=I.list hp
 have hl:=rv.length
 rw[xQ] at hl
 refine sorted_ints ht.isList (IntsAre.of_vals rv) (by omega) λ out ms h1 h2 h3=>?_
 have hm:=h2.length_eq
 have hv:Vals (ms.map V.int) out.toList:=Vals.of_ints h1
 have hsz:(ms.map V.int).length<=xV:=by rw[xQ,show xV=16777216 by decide]; omega
 have kp:∀b o,s.heap.get? b=some o->(sortedAll s.heap its out).get? b=some o:=λ b o e=>sortedAll_old e
 have nw:=sortedAll_at s.heap its out
 obtain⟨n,nw⟩:=nw
 refine⟨.ref (s.heap.objs.size+1),_,I.laid (t':=s.toks) (o:=.lst (ms.map V.int)) kp (zA _) ⟨hsz,out.toList,n,hv,by simpa using nw⟩,rfl,q _ ms h2 h3 (I.hok.fresh (zA _))⟩
end
def Itd (o:Obj)(a:Addr)(kvs:List (Key × V)):It :=
 ⟨λ i H=>H a=some (.frz o (.dK kvs))/\i<kvs.length,λ i H x H'=>H'=H/\∃k v,kvs[i]? = some (k,v)/\x=kV k,λ i H=>H a=some (.frz o (.dK kvs))/\kvs.length<=i⟩
theorem vn {P:yk}{w:World}{k:Key}{u:xK}(h:(aP P w).is k u=true):RelV (kV k) u:=by
 rcases aA (show keyIs k u=true from h) with⟨i,t,rfl,rfl⟩ | ⟨x,t,rfl,rfl⟩
 ·exact⟨t,rfl⟩
 ·exact⟨t,rfl⟩
theorem tS {X:Cx}{pins:List (Addr × Obj)}{s:xO}{σ:St}{H:Hp}{a:Addr}{o:Obj}{kvs:List (Key × V)}{es:Array DictEntry}{ep:Nat}(I:Inv X pins σ H s)(h:H a=some (.frz o (.dK kvs)))(hd:o.data=.dict es ep) :
  (a == sysModules)=false/\∃vs,KV kvs vs/\s.heap.DictAt (aP X.prog X.w) a vs ep:=by
 obtain⟨e,z,y,vs,r,ob,es',ep',e',c,d,k,p,n⟩:=I.hok a _ h
 rw[e] at e'
 cases e'
 rw[hd] at d
 cases d
 exact⟨y,vs,r,o,es,e,c,hd,k,p,n⟩
theorem kv_at {kvs:List (Key × V)}{vs:List (Key × xK)}(r:KV kvs vs){i:Nat}{k:Key}{v:V}(h:kvs[i]? = some (k,v)):∃u,vs[i]? = some (k,u):=by
 have hk:=r.keys
 have hl:=r.length
 have hi:i<kvs.length:=(ym.mp h).1
 have hi':i<vs.length:=by omega
 have e1:(kvs.map (·.1))[i]? = some k:=by rw[yg,h]; rfl
 have e2:vs[i]? = some vs[i]:=by simp[hi']
 rw[hk,yg,e2] at e1
 have e3:vs[i].1=k:=Option.some.inj e1
 refine⟨vs[i].2,?_⟩
 rw[e2,<- e3]
theorem qa {P:yk}{w:World}{K:W.Frag}{tg:Expr}(a it:Addr){o:Obj}{kvs:List (Key × V)}{es:Array DictEntry}{ep:Nat}(hd:o.data=.dict es ep):Turn P w K tg (Itd o a kvs) [it] it (λ i h=>h.IsKeyIter it a i kvs.length ep) where
 mem:=by simp
 obj:=λ i h st b hb=>by
  have e:b=it:=by simpa using hb
  subst e
  obtain⟨o,e,c,d⟩:=st
  exact⟨o,e,λ v z=>by rw[d] at z; cases z⟩
 keep:=λ i h h' st k=>st.at λ o e=>k it (by simp) o e
 item:=by
  intro X hP hw hK hc i pins s σ H E I hf st hg
  subst hP hw hK
  obtain⟨hg,hi⟩:=hg
  obtain⟨_,vs,r,da⟩:=tS I hg hd
  have hx:kvs[i]? = some kvs[i]:=by simp[hi]
  obtain⟨u,hu⟩:=kv_at r (k:=kvs[i].1) (v:=kvs[i].2) hx
  obtain⟨f0,f1,f2,f3,f4,f5⟩:=hf it (by simp)
  have hl:=r.length
  rw[hl] at st
  refine wpAny_pyNext_dict_item st da hu λ key h' hkey st' sb=>?_
  have I1:Inv X pins σ H { s with heap:=h' }:=I.turned (t':=s.toks) (λ b o hb e=>(sb.2 b hb).trans e) f0 f1 f3 f4 f5
  obtain⟨o',e,c,d⟩:=id st'
  exact⟨key,rfl,go_of (s:={ s with heap:=h' }) e c d (by decide) ⟨kV kvs[i].1,H,I1,vn hkey,⟨rfl,_,_,hx,rfl⟩,by rw[hl]; exact st',λ b hb=>(hf b hb).1⟩⟩
 done:=by
  intro X hP hw hK hc i pins s σ H E I hf st hg
  subst hP hw hK
  obtain⟨hg,hi⟩:=hg
  obtain⟨_,vs,r,da⟩:=tS I hg hd
  obtain⟨f0,f1,f2,f3,f4,f5⟩:=hf it (by simp)
  have hl:=r.length
  rw[hl] at st
  exact wpAny_pyNext_dict_end (I.ok.hd hc) st da (by simp; omega) λ h' eb=>⟨rfl,I.turned (t':=s.toks) (λ b o hb e=>eb b o hb e) f0 f1 f3 f4 f5⟩
 self:=λ _ _ _ _ _ st h=>wpAny_pyIter_keyiter st h
section
variable {X:Cx}{tg:Expr}
theorem Inv.freeze {pins:List (Addr × Obj)}{s:xO}{σ:St}{H:Hp}{a:Addr}{kvs:List (Key × V)}(I:Inv X pins σ H s)(h:H a=some (.dK kvs)) :
  ∃o es ep,o.data=.dict es ep/\Inv X pins σ (upd H a (.frz o (.dK kvs))) s/\(a == sysModules)=false/\∃vs,KV kvs vs/\s.heap.DictAt (aP X.prog X.w) a vs ep:=by
 obtain⟨z,y,vs,r,o,es,ep,e,c,d,k,p,n⟩:=I.hok a _ h
 refine⟨o,es,ep,d,?_,y,vs,r,o,es,e,c,d,k,p,n⟩
 have:=I.write (x:=a) (e:=a) (h':=s.heap) (t':=s.toks) (o:=.frz o (.dK kvs)) (by rw[h]; exact trivial) (.inl rfl) (λ b u _ q=>q) ⟨o,e⟩ ⟨e,z,y,vs,r,o,es,ep,e,c,d,k,p,n⟩
 exact this
def iDict (tl:TE):TI:=λ σ H R=>tl σ H λ x H1=>∃a kvs,x=.ref a/\H1 a=some (.dK kvs)/\∀o,R (Itd o a kvs) (upd H1 a (.frz o (.dK kvs)))
theorem qb {l:Expr}{tl:TE}(hl:QE X l tl):QI X tg l (iDict tl):=by
 refine⟨λ pins s σ H R I h=>?_⟩
 refine thn (hl.run pins s σ H _ I h) λ v s1 ⟨x,H1,I1,r1,q1⟩=>?_
 obtain⟨a,kvs,e,ha,q⟩:=q1
 subst e
 cases r1
 obtain⟨o,es,ep,hd,I2,hy,vs,rel,da⟩:=I1.freeze ha
 refine wpAny_pyIter_dict hy da ?_
 have hlen:=rel.length
 refine⟨s1.heap.objs.size,[s1.heap.objs.size],_,_,_,rfl,I2.kept (t':=s1.toks) λ b o e=>xM _ e,qa a _ hd,⟨_,xW _ rfl,rfl,by rw[hlen]; rfl⟩,λ b hb=>?_,q o⟩
 have e:b=s1.heap.objs.size:=by simpa using hb
 subst e
 exact I2.fpOk (xL _) (I2.hok.fresh (xL _))
theorem kH {mp:List (Option Nat)}{g:TG}{tc:TT}{te:TE}{σ:St}{H:Hp}{R:List V->Hp->Prop}{o:Obj}{a:Addr}{kvs:List (Key × V)}(Pv:Nat->List V->St->Hp->Prop)(h0:Pv 0 [] (seed mp σ) H)
  (hl:∀i ys σ' H',Pv i ys σ' H'->H' a=some (.frz o (.dK kvs)))
  (hs:∀i k v ys σ' H',kvs[i]? = some (k,v)->Pv i ys σ' H'->ys.length<xV/\g (kV k) σ' H' λ σ2 H2=>tc σ2 H2 λ b H3=>if b=true then te σ2 H3 λ y H4=>Pv (i+1) (ys++[y]) σ2 H4 else Pv (i+1) ys σ2 H3)
  (hd:∀ys σ' H',Pv kvs.length ys σ' H'->ys.length<=xV/\R ys H') :
  ∃W:Nat->Nat->List V->St->Hp->Prop,(∃m,W 0 m [] (seed mp σ) H)/\∀i m ys σ' H',W i m ys σ' H' ->
   ((Itd o a kvs).stop i H'/\ys.length<=xV/\R ys H') \/
   ((Itd o a kvs).go i H'/\ys.length<xV/\∀x H'',(Itd o a kvs).yld i H' x H''->g x σ' H'' λ σ2 H2=>tc σ2 H2 λ b H3 =>
    if b=true then te σ2 H3 λ y H4=>∃m',m' < m/\W (i+1) m' (ys++[y]) σ2 H4 else ∃m',m' < m/\W (i+1) m' ys σ2 H3):=by
 refine⟨λ i m ys σ H=>m=kvs.length - i/\i<=kvs.length/\Pv i ys σ H,⟨kvs.length,by simp,yY _,h0⟩,?_⟩
 rintro i m ys σ' H' ⟨rfl,hi,p⟩
 have q0:=hl i ys σ' H' p
 by_cases hlt:i<kvs.length
 ·have e:∀ys σ H,(∃m',m' < kvs.length - i/\m'=kvs.length - (i+1)/\i+1<=kvs.length/\Pv (i+1) ys σ H)=Pv (i+1) ys σ H:=λ ys σ H=>propext ⟨λ ⟨_,_,_,_,z⟩=>z,λ z=>⟨_,by omega,rfl,hlt,z⟩⟩
  have hx:kvs[i]? = some kvs[i]:=by simp[hlt]
  refine .inr ⟨⟨q0,hlt⟩,(hs i kvs[i].1 kvs[i].2 ys σ' H' hx p).1,λ x H'' y=>?_⟩
  obtain⟨e1,k,v,hk,ex⟩:=y
  subst e1 ex
  simp only[e]
  exact (hs i k v ys σ' _ hk p).2
 ·have e:i=kvs.length:=by omega
  subst e
  obtain⟨hl',q⟩:=hd ys σ' H' p
  exact .inl ⟨⟨q0,xL _⟩,hl',q⟩
end
end L2
namespace PySem
open Sem (wp)
end PySem
namespace L2
open PySem PySem.Spec PyProof.Rows
end L2
namespace PySem
open Sem (wp)
open AutoSeq1 (wpAny_loadPart')
section
variable {prog:yk}{w:World}{A:Around}{E:xK->xO->Prop}{s:xO}
theorem nV {it t:Addr}{i:Nat}{xs:Array xK}{x:xK}{Q:xK->xO->Prop}(hi:s.heap.IsTupleIter it t i)(ht:s.heap.IsTuple t xs)(hx:xs[i]? = some x)
  (q:∀h',h'.IsTupleIter it t (i+1)->Heap.SameBut it s.heap h'->Q x { s with heap:=h' }):yb (model prog w) A (Builtin.SmallTypes.nextOf (.ref it)) Q E s:=by
 obtain⟨ob,e1,c1,d1⟩:=id hi
 obtain⟨ot,e2,_,n2,d2⟩:=ht
 have nn:¬ ((xK.ref t == xK.none)=true):=yT
 unfold Builtin.SmallTypes.nextOf
 refine xI (wpAny_callSpecial?_slot (name:=Str.ofString "__next__") hi.typeIs F.slot_tuple_iterator_next (wpAny_call_entry F.slot_tuple_iterator_next hi.typeIs F.entry_tuple_iterator_next ?_ (F.args_tuple_iterator_next_1 _)))
 show yb _ _ (field (.ref it) 0 >>= _) _ _ _
 refine xI (wpAny_field e1 d1 (x:=.ref t) rfl ?_)
 show yb _ _ (if (xK.ref t == xK.none)=true then _ else _) _ _ _
 rw[if_neg nn]
 show yb _ _ (field (.ref it) 1 >>= _) _ _ _
 refine xI (wpAny_field e1 d1 (x:=.int i 0) rfl (xI (wpAny_seqItems e2 d2 ?_)))
 simp only[yR,hx]
 refine xI (wpAny_setField e1 d1 (by simp) (xN ⟨x,rfl,xN (q _ ?_ (Heap.SameBut.update ..))⟩))
 refine⟨_,yo _ e1 (Obj.isFreed_of_fields (Obj.data_mapFields d1 _)),(Obj.cls_mapFields ..).trans c1,?_⟩
 rw[Obj.data_mapFields d1]
 simp[rawInt]
theorem qc {it t:Addr}{i:Nat}{xs:Array xK}{Q:xK->xO->Prop}(hh:A.handled=none)(hi:s.heap.IsTupleIter it t i)(ht:s.heap.IsTuple t xs)(hx:xs[i]? = none)
  (q:∀h' e,Heap.ExtBut it s.heap h'->(∃o,h'.get? e=some o/\o.cls=.type "StopIteration")->E (.ref e) { s with heap:=h' }):yb (model prog w) A (Builtin.SmallTypes.nextOf (.ref it)) Q E s:=by
 obtain⟨ob,e1,c1,d1⟩:=id hi
 obtain⟨ot,e2,_,n2,d2⟩:=ht
 have nn:¬ ((xK.ref t == xK.none)=true):=yT
 unfold Builtin.SmallTypes.nextOf
 refine xI (wpAny_callSpecial?_slot (name:=Str.ofString "__next__") hi.typeIs F.slot_tuple_iterator_next (wpAny_call_entry F.slot_tuple_iterator_next hi.typeIs F.entry_tuple_iterator_next ?_ (F.args_tuple_iterator_next_1 _)))
 show yb _ _ (field (.ref it) 0 >>= _) _ _ _
 refine xI (wpAny_field e1 d1 (x:=.ref t) rfl ?_)
 show yb _ _ (if (xK.ref t == xK.none)=true then _ else _) _ _ _
 rw[if_neg nn]
 show yb _ _ (field (.ref it) 1 >>= _) _ _ _
 refine xI (wpAny_field e1 d1 (x:=.int i 0) rfl (xI (wpAny_seqItems e2 d2 ?_)))
 simp only[yR,hx]
 refine xI (wpAny_rule (xI (wpAny_setField e1 d1 (by simp) (xI ?_))))
 simp only[newExc,newTuple]
 refine xI (yF (xI (m:=firstArgMember _ _) (wpAny_of_eq (a:=xK.none) (by first | rfl | (simp only[firstArgMember]; rfl)) (yF ?_ (by size_fits)))) (by size_fits))
 simp only[raiseNew]
 refine xI (wpAny_handled ?_)
 first | rw[show A.in1.handled=none from hh] | rw[hh]
 exact xI (xN (wpAny_throw (q _ _ (((Heap.SameBut.update ..).extBut.push _).push _) ⟨_,xW _ rfl,rfl⟩)))
theorem nW {e it t:Addr}{i:Nat}{xs:Array xK}{x old:xK}{Q:xK->xO->Prop}(he:IsEnum s.heap e it i old)(hi:s.heap.IsTupleIter it t i)(ht:s.heap.IsTuple t xs)(hx:xs[i]? = some x)(hne:e≠it)
  (q:∀h',IsEnumOut h' e it ((i:Int)+1) x s.heap.objs.size->h'.IsTupleIter it t (i+1)->h'.get? s.heap.objs.size=some { cls:=.type "tuple",data:=.seq #[.int i s.toks,x] } ->
   (∀b o,b≠e->b≠it->s.heap.get? b=some o->h'.get? b=some o)->Q (.ref s.heap.objs.size) { s with heap:=h',toks:=s.toks+1 }) :
  yb (model prog w) A (Builtin.«enumerate.__next__» ⟨[.ref e],[]⟩) (λ fin s'=>∃v,fin=.done (.ret v)/\Q v s') E s:=by
 obtain⟨hp,g,d,tk,os⟩:=s
 show yb _ _ (field (.ref e) 2 >>= _) _ _ _
 refine xI (wpAny_field he rfl (x:=.ref it) rfl (xI (nV hi ht hx λ k1 i1 (b1:Heap.SameBut it hp k1)=>?_)))
 have e1:IsEnum k1 e it i old:=(b1.2 e hne).trans he
 refine xI (wpAny_field e1 rfl (x:=rawInt i) rfl (xI (wpAny_field e1 rfl (x:=.none) rfl ?_)))
 show yb _ _ (mkInt i >>= _) _ _ ⟨k1,g,d,tk,os⟩
 refine xI (wpAny_mkInt (xI (wpAny_setField_rec (x:=rawInt ((i:Int)+1)) e1 (by simp) λ k2 e2 b2=>?_)))
 replace b2:Heap.SameBut e k1 k2:=b2
 replace e2:IsEnum k2 e it ((i:Int)+1) old:=e2
 refine xI (wpAny_setField_rec (x:=.none) e2 (by simp) λ k3 e3 b3=>?_)
 replace b3:Heap.SameBut e k2 k3:=b3
 replace e3:IsEnum k3 e it ((i:Int)+1) old:=e3
 show yb _ _ (newTuple [.int i tk,x] >>= _) _ _ ⟨k3,g,d,tk+1,os⟩
 refine xI (wpAny_newTuple ?_)
 have sz:k3.objs.size=hp.objs.size:=by rw[b3.1,b2.1,b1.1]
 have el:hp.objs.size≠e:=ze (yd he)
 have e4:IsEnum (k3.push { cls:=.type "tuple",data:=.seq #[.int i tk,x] }) e it ((i:Int)+1) old:=xM _ e3
 have t4:(k3.push { cls:=.type "tuple",data:=.seq #[.int i tk,x] }).get? hp.objs.size=some { cls:=.type "tuple",data:=.seq #[.int i tk,x] }:=by rw[<- sz]; exact xW _ rfl
 have old4:∀b o,b≠e->b≠it->hp.get? b=some o->(k3.push { cls:=.type "tuple",data:=.seq #[.int i tk,x] }).get? b=some o:=λ b o h1 h2 h3=>xM _ (b3.extBut b o h1 (b2.extBut b o h1 (b1.extBut b o h2 h3)))
 have i4:(k3.push { cls:=.type "tuple",data:=.seq #[.int i tk,x] }).IsTupleIter it t (i+1):=by
  obtain⟨o,ho,r⟩:=i1
  exact⟨o,xM _ (b3.extBut it o (Ne.symm hne) (b2.extBut it o (Ne.symm hne) ho)),r⟩
 rw[sz]
 generalize k3.push { cls:=.type "tuple",data:=.seq #[.int i tk,x] }=k4 at e4 t4 old4 i4 ⊢
 show yb _ _ (Builtin.SmallTypes.ownedTupleIsFree (.ref e) >>= _) _ _ ⟨k4,g,d,tk+1,os⟩
 refine xI ?_
 unfold Builtin.SmallTypes.ownedTupleIsFree
 refine xI (wpAny_field e4 rfl (x:=.none) rfl (xN ?_))
 simp only[if_true]
 refine xI (wpAny_rule (xI (wpAny_field e4 rfl (x:=old) rfl (xI (wpAny_setField_rec (x:=x) e4 (by simp) λ k5 e5 b5=>?_)))))
 replace b5:Heap.SameBut e k4 k5:=b5
 replace e5:IsEnum k5 e it ((i:Int)+1) x:=e5
 show yb _ _ (Builtin.SmallTypes.ownedTupleHandOut (.ref e) (.ref hp.objs.size) >>= _) _ _ ⟨k5,g,d,tk+1,os⟩
 refine xI ?_
 unfold Builtin.SmallTypes.ownedTupleHandOut
 refine xI (wpAny_setField_rec (x:=rawInt (hp.objs.size:Nat)) e5 (by simp) λ k6 e6 b6=>?_)
 replace b6:Heap.SameBut e k5 k6:=b6
 replace e6:IsEnumOut k6 e it ((i:Int)+1) x hp.objs.size:=e6
 refine wpAny_setField_rec e6 (by simp) λ k7 e7 b7=>?_
 replace b7:Heap.SameBut e k6 k7:=b7
 have all7:∀b o,b≠e->k4.get? b=some o->k7.get? b=some o:=λ b o h1 h2=>b7.extBut b o h1 (b6.extBut b o h1 (b5.extBut b o h1 h2))
 refine xI (wpAny_letGo (xN ⟨_,rfl,q k7 e7 ?_ (all7 _ _ el t4) λ b o h1 h2 h3=>all7 b o h1 (old4 b o h1 h2 h3)⟩))
 obtain⟨o,ho,r⟩:=i4
 exact⟨o,all7 it o (Ne.symm hne) ho,r⟩
theorem kI {e it t:Addr}{i:Nat}{xs:Array xK}{x old:xK}{Q:Option xK->xO->Prop}(he:IsEnum s.heap e it i old)(hi:s.heap.IsTupleIter it t i)(ht:s.heap.IsTuple t xs)(hx:xs[i]? = some x)(hne:e≠it)
  (q:∀h',IsEnumOut h' e it ((i:Int)+1) x s.heap.objs.size->h'.IsTupleIter it t (i+1)->h'.get? s.heap.objs.size=some { cls:=.type "tuple",data:=.seq #[.int i s.toks,x] } ->
   (∀b o,b≠e->b≠it->s.heap.get? b=some o->h'.get? b=some o)->Q (some (.ref s.heap.objs.size)) { s with heap:=h',toks:=s.toks+1 }) :
  yb (model prog w) A (pyNext (.ref e)) Q E s:=by
 have ty:s.TypeIs (.ref e) "enumerate" := ⟨_,he,rfl⟩
 unfold pyNext
 refine xI (wpAny_attempt (wpAny_callSpecial?_slot (name:=Str.ofString "__next__") ty F.slot_enumerate_next (wpAny_call_entry F.slot_enumerate_next ty F.entry_enumerate_next ?_ (F.args_enumerate_next_1 _))))
 exact nW he hi ht hx hne λ h' a b c k=>xN (q h' a b c k)
theorem gp {e it t:Addr}{i:Nat}{xs:Array xK}{old:xK}{Q:Option xK->xO->Prop}(hh:A.handled=none)(he:IsEnum s.heap e it i old)(hi:s.heap.IsTupleIter it t i)(ht:s.heap.IsTuple t xs)(hx:xs[i]? = none)
  (q:∀h',Heap.ExtBut it s.heap h'->Q none { s with heap:=h' }):yb (model prog w) A (pyNext (.ref e)) Q E s:=by
 have ty:s.TypeIs (.ref e) "enumerate" := ⟨_,he,rfl⟩
 unfold pyNext
 refine xI (wpAny_attempt (wpAny_callSpecial?_slot (name:=Str.ofString "__next__") ty F.slot_enumerate_next (wpAny_call_entry F.slot_enumerate_next ty F.entry_enumerate_next ?_ (F.args_enumerate_next_1 _))))
 show yb _ _ (field (.ref e) 2 >>= _) _ _ _
 refine xI (wpAny_field he rfl (x:=.ref it) rfl (xI (qc hh hi ht hx λ h' x ex ⟨o,ho,hc⟩=>?_)))
 exact xI (wpAny_isInstance (T := "StopIteration") (b:=true) ⟨o,ho,hc⟩ isSubtype_stop (xN (q _ ex)))
theorem qd (l:Addr)(items:Array xK)(n:Nat)(dct:Option Addr)(sl:Array (Option xK)) :
  Meets (Builtin.«enumerate.__new__» ⟨[.type "enumerate",.ref l],[]⟩) (λ _ R s=>s.heap.get? l=some { cls:=.type "tuple",dict:=dct,data:=.seq items n,slots:=sl } /\
   R (.ok (.ret (.ref (s.heap.push { cls:=.type "tuple_iterator",data:=.fields #[.ref l,.int 0 0] }).objs.size)))
    { s with heap:=(s.heap.push { cls:=.type "tuple_iterator",data:=.fields #[.ref l,.int 0 0] }).push { cls:=.type "enumerate",data:=.fields #[.none,.bool false,.ref s.heap.objs.size,rawInt 0,.none,.none] } }) :=
 .of_wp λ prog w A R s h=>by
  obtain⟨hp,g,d,tk,os⟩:=s
  obtain⟨hl,h⟩:=h
  have hsub:=sub_enumerate
  have isT:Heap.IsTuple (xO.heap ⟨hp,g,d,tk,os⟩) l items:=⟨_,hl,rfl,n,rfl⟩
  wp_walk using wpAny_loadPart' hl
  refine wpAny_stack_any λ _=>xN ?_
  split
  ·rename_i c _ _ _ _ _
   cases (c == xK.type "enumerate") <;> (wp_walk using wpAny_loadPart' hl,wpAny_pyIter_tuple isT; exact⟨_,rfl,h⟩)
  ·wp_walk using wpAny_loadPart' hl,wpAny_pyIter_tuple isT
   exact⟨_,rfl,h⟩
theorem nX {l:Addr}{items:Array xK}{Q:xK->xO->Prop}(ht:s.heap.IsTuple l items)
  (q:∀h',IsEnum h' (s.heap.objs.size+1) s.heap.objs.size 0 .none->h'.IsTupleIter s.heap.objs.size l 0->h'.objs.size=s.heap.objs.size+2->(∀b o,s.heap.get? b=some o->h'.get? b=some o)->Q (.ref (s.heap.objs.size+1)) { s with heap:=h' }) :
  yb (model prog w) A (call (.type "enumerate") [.ref l]) Q E s:=by
 obtain⟨⟨c,dct,dt,sl⟩,hl,hc,n,hd⟩:=ht
 replace hc:c=.type "tuple" := hc
 replace hd:dt=.seq items n:=hd
 subst hc hd
 refine callType_new F.called_enumerate (by decide) (F.typeCall_enumerate_1 _) (F.newCall_enumerate_1 _) (λ obj=>F.args_object_init_2 obj _) F.entry_enumerate_new (qd l items n dct sl) ⟨hl,?_⟩
 have z1:(s.heap.push { cls:=.type "tuple_iterator",data:=.fields #[.ref l,.int 0 0] }).objs.size=s.heap.objs.size+1:=y9 ..
 have g1:=xW (s.heap.push { cls:=.type "tuple_iterator",data:=.fields #[.ref l,.int 0 0] }) (o:={ cls:=.type "enumerate",data:=.fields #[.none,.bool false,.ref s.heap.objs.size,rawInt 0,.none,.none] }) rfl
 rw[z1] at g1
 show _/\_
 rw[z1]
 exact⟨⟨_,g1,rfl⟩,q _ g1 ⟨_,xM _ (xW _ rfl),rfl,rfl⟩ (by rw[y9,z1]) λ b o x=>xM _ (xM _ x)⟩
end
end PySem
namespace L2
open PySem PySem.Spec PyProof.Rows
def Ite (K:W.Frag)(a:Addr):It :=
 ⟨λ i H=>∃xs x,SqT K H a xs/\xs[i]? = some x,λ i H x H'=>∃T xi,x=.ref T/\H T=none/\H'=upd H T (.tup [.int (i:Nat),xi])/\∀xs,SqT K H a xs->xs[i]? = some xi,λ i H=>∃xs,SqT K H a xs/\xs.length<=i⟩
theorem nY {P:yk}{w:World}{K:W.Frag}{elts:List Expr}{k:Nat}{pos:Pos}(a e it:Addr)(hne:e≠it):Turn P w K (.Tuple elts k pos) (Ite K a) [e,it] e (λ i h=>(∃old,IsEnum h e it (i:Nat) old)/\h.IsTupleIter it a i) where
 mem:=by simp
 obj:=λ i h st b hb=>by
  obtain⟨⟨old,he⟩,o,ho,hc,hd⟩:=st
  rcases xR.mp hb with z | z
  ·subst z
   exact⟨_,he,λ v z=>by cases z⟩
  ·have z':b=it:=by simpa using z
   subst z'
   exact⟨o,ho,λ v z=>by rw[hd] at z; cases z⟩
 keep:=λ i h h' st kp=>by
  obtain⟨⟨old,he⟩,hi⟩:=st
  exact⟨⟨old,kp e (by simp) _ he⟩,hi.at λ o q=>kp it (by simp) o q⟩
 item:=by
  intro X hP hw hK hc i pins s σ H E I hf st hg
  subst hP hw hK
  obtain⟨⟨old,he⟩,hi⟩:=st
  obtain⟨xs,x,hq,hx⟩:=hg
  obtain⟨its,rv,p,hz⟩:=I.tuple hq
  obtain⟨u,hu,ru⟩:=rv.get hx
  refine kI he hi (show s.heap.IsTuple a its.toArray from p) (x:=u) (by simpa using hu) hne λ h1 eo i1 t1 kp=>⟨_,rfl,wpAny_letOwnedTupleGo_enum eo λ h2 en sb=>?_⟩
  have elt:e<s.heap.objs.size:=yd he
  have ilt:it<s.heap.objs.size:=by obtain⟨_,q,_⟩:=hi; exact yd q
  have kp2:∀b o,b≠e->b≠it->s.heap.get? b=some o->h2.get? b=some o:=λ b o n1 n2 q=>(sb.2 b n1).trans (kp b o n1 n2 q)
  have i2:h2.IsTupleIter it a (i+1):=i1.at λ o q=>(sb.2 it (Ne.symm hne)).trans q
  have t2:h2.get? s.heap.objs.size=some { cls:=.type "tuple",data:=.seq #[.int i s.toks,u] }:=(sb.2 _ (ze elt)).trans t1
  obtain⟨f0,f1,f2,f3,f4,f5⟩:=hf it (by simp)
  obtain⟨g0,g1,g2,g3,g4,g5⟩:=hf e (by simp)
  obtain⟨oi,hoi,hci,hdi⟩:=id i2
  obtain⟨o0,ho0,_⟩:=id hi
  have m1:(s.heap.update it λ _=>oi).get? it=some oi:=yo (λ _=>oi) ho0 (Obj.isFreed_of_fields hdi)
  have I1:Inv X pins σ H { s with heap:=s.heap.update it λ _=>oi,toks:=s.toks+1 }:=I.turned (λ b o hb q=>(xX _ _ (Ne.symm hb)).trans q) f0 f1 f3 f4 f5
  have aux:∀b o,b≠e->(s.heap.update it λ _=>oi).get? b=some o->h2.get? b=some o:=λ b o hb q=>by
   by_cases hbi:b=it
   ·subst hbi
    rw[m1] at q
    cases q
    exact hoi
   ·exact kp2 b o hb hbi ((xX _ _ (Ne.symm hbi)).symm.trans q)
  have I2:Inv X pins σ H { s with heap:=h2,toks:=s.toks+1 }:=Inv.turned (s:={ s with heap:=s.heap.update it λ _=>oi,toks:=s.toks+1 }) (h':=h2) (t':=s.toks+1) I1 aux g0 g1 g3 g4 g5
  obtain⟨p0,p1,p2,p3,p4,p5⟩:=I.fpOk (xL s.heap.objs.size) (I.hok.fresh (xL _))
  have I3:Inv X pins σ (upd H s.heap.objs.size (.tup [.int (i:Nat),x])) { s with heap:=h2,toks:=s.toks+1 } :=
   I2.track (o:=.tup [.int (i:Nat),x]) t2 p0 p1 p3 p4 p5 ⟨by show 2<=xV; decide,[.int i s.toks,u],.cons ⟨_,rfl⟩ (.cons ru .nil),⟨_,t2,rfl,_,rfl,rfl⟩⟩
  refine⟨.ref s.heap.objs.size,_,I3,rfl,⟨_,x,rfl,p0,rfl,λ ys hy=>by rw[I.tuple_inj hy hq]; exact hx⟩,⟨⟨u,by simpa using en⟩,i2⟩,λ b hb=>?_⟩
  have hbn:b≠s.heap.objs.size:=by
   rcases xR.mp hb with z | z
   ·rw[z]; exact yu elt
   ·have z':b=it:=by simpa using z
    rw[z']; exact yu ilt
  rw[ag hbn]
  exact (hf b hb).1
 done:=by
  intro X hP hw hK hc i pins s σ H E I hf st hg
  subst hP hw hK
  obtain⟨⟨old,he⟩,hi⟩:=st
  obtain⟨xs,hq,hx⟩:=hg
  obtain⟨its,rv,p,hz⟩:=I.tuple hq
  obtain⟨f0,f1,f2,f3,f4,f5⟩:=hf it (by simp)
  have hl:=rv.length
  exact gp (I.ok.hd hc) he hi (show s.heap.IsTuple a its.toArray from p) (by simp; omega) λ h' eb=>⟨rfl,I.turned (t':=s.toks) (λ b o hb q=>eb b o hb q) f0 f1 f3 f4 f5⟩
 self:=λ _ _ _ _ _ st h=>by
  obtain⟨⟨old,he⟩,_⟩:=st
  exact wpAny_pyIter_enum he h
end L2
namespace PySem
namespace SetTable
theorem jA (xs:Array Nat)(j:Nat):∀(f lo hi:Nat),hi - lo<=f->lo<=hi->hi<=xs.size->xs.toList.Pairwise (· < ·)->(∀(k:Nat) (v:Nat),k<lo->xs[k]? = some v->v<j) ->
  (∀(k:Nat) (v:Nat),hi<=k->xs[k]? = some v->j<=v)->below.go xs j f lo hi<=xs.size/\(∀(k:Nat) (v:Nat),k<below.go xs j f lo hi->xs[k]? = some v->v<j)/\(∀(k:Nat) (v:Nat),below.go xs j f lo hi<=k->xs[k]? = some v->j<=v)
 | 0,lo,hi,hf,h1,h2,_,hl,hh=>by
  unfold below.go
  have e:lo=hi:=by omega
  subst e
  exact⟨h2,hl,hh⟩
 | f+1,lo,hi,hf,h1,h2,hs,hl,hh=>by
  unfold below.go
  by_cases c:lo<hi
  ·rw[if_pos c]
   dsimp only
   have hm:(lo+hi) / 2<xs.size:=by omega
   have eg:xs.getD ((lo+hi) / 2) j=xs[(lo+hi) / 2]:=by simp[Array.getD,hm]
   rw[eg]
   have hr:∀(a b:Nat) (va vb:Nat),a<b->xs[a]? = some va->xs[b]? = some vb->va<vb:=by
    intro a b va vb hab ea eb
    have la:a<xs.toList.length:=by
     rcases zF a xs.toList.length with q | q
     ·exact q
     ·rw[yZ] at q; rw[zI q] at ea; cases ea
    have lb:b<xs.toList.length:=by
     rcases zF b xs.toList.length with q | q
     ·exact q
     ·rw[yZ] at q; rw[zI q] at eb; cases eb
    have:=Af.mp hs a b la lb hab
    rw[<- yW,yC la] at ea
    rw[<- yW,yC lb] at eb
    cases ea
    cases eb
    exact this
   have em:xs[(lo+hi) / 2]? = some xs[(lo+hi) / 2]:=by simp[hm]
   by_cases d:xs[(lo+hi) / 2] < j
   ·rw[if_pos d]
    refine jA xs j f _ hi (by omega) (by omega) h2 hs (λ k v hk e=>?_) hh
    by_cases q:k=(lo+hi) / 2
    ·subst q; rw[em] at e; cases e; exact d
    ·exact Nat.lt_trans (hr k _ v _ (by omega) e em) d
   ·rw[if_neg d]
    refine jA xs j f lo _ (by omega) (by omega) (by omega) hs hl λ k v hk e=>?_
    by_cases q:k=(lo+hi) / 2
    ·subst q; rw[em] at e; cases e; omega
    ·have:=hr _ k _ v (by omega) em e
     omega
  ·rw[if_neg c]
   have e:lo=hi:=by omega
   subst e
   exact⟨h2,hl,hh⟩
theorem fq {xs:Array Nat}(j:Nat)(hs:xs.toList.Pairwise (· < ·)):below xs j<=xs.size/\(∀(k:Nat) (v:Nat),k<below xs j->xs[k]? = some v->v<j)/\(∀(k:Nat) (v:Nat),below xs j<=k->xs[k]? = some v->j<=v) :=
 jA xs j xs.size 0 xs.size (by omega) (by omega) (xL _) hs (λ k v h=>absurd h (by omega)) (λ k v h e=>by rw[zI h] at e; cases e)
theorem below_zero {xs:Array Nat}(hs:xs.toList.Pairwise (· < ·)):below xs 0=0:=by
 obtain⟨a,b,c⟩:=fq 0 hs
 rcases Nat.eq_zero_or_pos (below xs 0) with h | h
 ·exact h
 ·have:0<xs.size:=by omega
  exact absurd (b 0 xs[0] h (by simp[this])) (by omega)
theorem below_next {xs:Array Nat}(hs:xs.toList.Pairwise (· < ·)){i j:Nat}(e:xs[i]? = some j):below xs (j+1)=i+1:=by
 obtain⟨a,b,c⟩:=fq (j+1) hs
 have hi:i<xs.size:=by
  rcases zF i xs.size with q | q
  ·exact q
  ·rw[zI q] at e; cases e
 have h1:i<below xs (j+1):=by
  rcases zF i (below xs (j+1)) with q | q
  ·exact q
  ·exact absurd (c i j q e) (by omega)
 rcases zF (i+1) (below xs (j+1)) with q | q
 ·exfalso
  have l2:i+1<xs.size:=by omega
  have e2:xs[i+1]? = some xs[i+1]:=by simp[l2]
  have:=b (i+1) _ q e2
  have la:i<xs.toList.length:=by simpa using hi
  have lb:i+1<xs.toList.length:=by simpa using l2
  have hr:=Af.mp hs i (i+1) la lb (by omega)
  rw[<- yW,yC la] at e
  cases e
  have:xs.toList[i+1]=xs[i+1]:=by simp
  omega
 ·omega
theorem jB {xs:Array Nat}{j:Nat}(hs:xs.toList.Pairwise (· < ·))(hn:xs[below xs j]? ≠ some j):(insertAt xs (below xs j) j).toList.Pairwise (· < ·):=by
 obtain⟨a,b,c⟩:=fq j hs
 rw[toList_insertAt]
 have ht:∀v∈xs.toList.take (below xs j),v<j:=by
  intro v hv
  obtain⟨k,hk,e⟩:=List.getElem_of_mem hv
  rw[yO] at hk
  rw[List.getElem_take] at e
  exact b k v (by omega) (by rw[<- yW,yC (by omega)]; rw[e])
 have hd:∀v∈xs.toList.drop (below xs j),j<v:=by
  intro v hv
  obtain⟨k,hk,e⟩:=List.getElem_of_mem hv
  rw[zh] at hk
  rw[List.getElem_drop] at e
  have e':xs[below xs j+k]? = some v:=by rw[<- yW,yC (by omega)]; rw[e]
  have h1:=c (below xs j+k) v (by omega) e'
  rcases Nat.lt_or_eq_of_le h1 with q | q
  ·exact q
  ·subst q
   exfalso
   rcases Nat.eq_zero_or_pos k with z | z
   ·subst z; exact hn e'
   ·have l0:below xs j<xs.toList.length:=by omega
    have:=Af.mp hs (below xs j) (below xs j+k) l0 (by omega) (by omega)
    rw[e] at this
    have h2:=c (below xs j) _ (xL _) (by rw[<- yW,yC l0])
    omega
 rw[List.pairwise_append]
 refine⟨hs.sublist (List.take_sublist _ _),zo.mpr ⟨hd,hs.sublist (List.drop_sublist _ _)⟩,λ x hx y hy=>?_⟩
 rcases xR.mp hy with rfl | hy
 ·exact ht x hx
 ·exact Nat.lt_trans (ht x hx) (hd y hy)
theorem fr (t:SetTable)(f:Nat->Int)(h:Int):∀(n:Nat) (p:Probe) (j:Nat) (d:Option Nat),(∀k,p.dummy=some k->t.place[below t.place k]? ≠ some k) ->
  probe.go t f h n p=some (.empty j d)->t.place[below t.place (d.getD j)]? ≠ some (d.getD j)
 | 0,p,j,d,_,e=>by unfold probe.go at e; cases e
 | n+1,p,j,d,hp,e=>by
  unfold probe.go at e
  have adv:∀p:Probe,(t.advance p).dummy=p.dummy:=λ p=>by unfold advance; split <;> rfl
  have nl:∀k,(∀i,t.slot k≠.live i)->t.place[below t.place k]? ≠ some k:=λ k q z=>q (below t.place k) (by unfold slot; dsimp only; rw[z]; simp)
  cases hs:t.slot p.j with
  | empty =>
   rw[hs] at e
   cases e
   cases hd:p.dummy with
   | none=>exact nl p.j λ i z=>by rw[hs] at z; cases z
   | some k=>exact hp k hd
  | dummy =>
   rw[hs] at e
   refine fr t f h n _ j d (λ k hk=>?_) e
   rw[adv] at hk
   cases hk
   exact nl _ λ i z=>by rw[hs] at z; cases z
  | live i =>
   rw[hs] at e
   dsimp only at e
   split at e
   ·cases e
   ·exact fr t f h n _ j d (λ k hk=>hp k (by rw[adv] at hk; exact hk)) e
def Good (b:Bool)(t:SetTable):Prop:=t.led=b/\(t.plain=true->t.place.toList.Pairwise (· < ·))
variable {b:Bool}{t:SetTable}
theorem Good.stand (g:Good b t)(n:Nat):Good b (t.standIn n):=⟨g.1,λ z=>by cases z⟩
theorem Good.or (g:Good b t)(n:Nat):Good b (t.orStandIn n):=by
 unfold orStandIn
 split
 ·exact g
 ·exact g.stand n
theorem Good.off (g:Good b t):Good b { t with plain:=false }:=⟨g.1,λ z=>by cases z⟩
end SetTable
open SetTable in
theorem lV {b:Bool}{t:SetTable}(g:Good b t)(es:Array (Int × xK))(h:Int)(x:xK):Good b (layNew t es h x).2.1:=by
 unfold layNew
 cases e:t.freeSlot h with
 | none=>exact g.stand _
 | some q =>
  obtain⟨slot,was⟩:=q
  dsimp only
  refine Good.or (t:=(t.put slot).1) ⟨g.1,λ z=>?_⟩ _
  have hs:=g.2 z
  refine jB hs ?_
  unfold freeSlot at e
  unfold probe at e
  split at e
  ·rename_i j d hp
   cases e
   exact fr t _ h _ _ j d (λ k hk=>by cases hk) hp
  ·cases e
open SetTable in
theorem jC {b:Bool}{t:SetTable}(g:Good b t)(es:Array (Int × xK))(n:Nat):Good b (relayAll t es n).2.1:=by
 unfold relayAll
 cases e:t.relaid (es.map (·.1)) n with
 | none=>exact g.stand _
 | some q =>
  obtain⟨t',o⟩:=q
  dsimp only
  split
  ·unfold relaid laid at e
   cases hl:layClean (sizeAbove n - 1) (es.map (·.1)) with
   | none=>rw[hl] at e; cases e
   | some ow =>
    rw[hl] at e
    simp only[Option.bind_eq_bind,zY,Option.pure_def,Option.some.injEq,Prod.mk.injEq] at e
    obtain⟨rfl,_⟩:=e
    refine⟨g.1,λ _=>?_⟩
    simp only[List.pairwise_map]
    refine List.Pairwise.filterMap (R:=(· < ·)) _ (λ a a' h c hc c' hc'=>?_) List.pairwise_lt_range
    cases h1:ow.getD a none with
    | none=>rw[h1] at hc; cases hc
    | some u =>
     rw[h1] at hc
     cases h2:ow.getD a' none with
     | none=>rw[h2] at hc'; cases hc'
     | some u'=>rw[h2] at hc'; cases hc; cases hc'; exact h
  ·exact g.stand _
theorem gS {α:Type}{l:List α}{i:Nat}(h:i<l.length):([l[i]]++l.eraseIdx i).Perm l:=by
 rw[List.eraseIdx_eq_take_drop_succ]
 have e:l=l.take i++l[i]::l.drop (i+1):=by simp
 conv=>rhs; rw[e]
 rw[List.singleton_append]
 exact List.perm_middle.symm
theorem cJ {α:Type}(next:Nat->Nat):∀(f k:Nat) (l:List α) (out:Array α),f=l.length->(pickOrder.go next f k l out).toList.Perm (out.toList++l)
 | 0,k,l,out,e=>by
  have:l=[]:=List.length_eq_zero_iff.mp e.symm
  subst this
  unfold pickOrder.go
  simp
 | f+1,k,l,out,e=>by
  unfold pickOrder.go
  have hl:next k % l.length<l.length:=Nat.mod_lt _ (by omega)
  rw[yC hl]
  dsimp only
  refine (cJ next f (k+1) _ _ (by rw[List.length_eraseIdx_of_lt hl]; omega)).trans ?_
  rw[Array.toList_push,zM]
  refine List.Perm.append_left _ ?_
  exact gS hl
theorem iS {α:Type}(next:Nat->Nat)(xs:Array α):(pickOrder next xs).toList.Perm xs.toList:=by
 unfold pickOrder
 have:=cJ next xs.size 0 xs.toList #[] (by simp)
 simpa using this
end PySem
namespace PySem
open Sem (wp)
open PyProof.Rows
def byTx (w:World):Bool:=w.params.followText "set-order"
def iOf (e:Int × xK):Option Int:=match e.2 with | .int k _=>some k | _=>none
def IEl (es:List (Int × xK)):Prop:=∀e∈es,∃k t,e=(hashInt k,xK.int k t)
def SetI (w:World)(a:Addr)(ns:List Int)(h:Heap):Prop :=
 ∃o es ep t,h.get? a=some o/\o.ExactSet/\o.data=.set es ep t/\IEl es.toList/\(es.toList.filterMap iOf).Perm ns/\es.size<scanBound/\t.fits es.size=true/\SetTable.Good (!byTx w) t
section
variable {prog:yk}{w:World}{A:Around}{E:xK->xO->Prop}{s:xO}
theorem IEl.elems {es:List (Int × xK)}(h:IEl es):ElemsOf (intKind prog w) es:=λ e he=>by
 obtain⟨k,t,rfl⟩:=h e he
 exact⟨⟨k,intKind_is _ _ _ _,rfl⟩,rfl⟩
theorem IEl.perm {l l':List (Int × xK)}(h:IEl l)(p:l'.Perm l):IEl l':=λ e he=>h e (p.mem_iff.mp he)
theorem IEl.len {l:List (Int × xK)}:IEl l->(l.filterMap iOf).length=l.length:=by
 induction l with
 | nil=>intro _; rfl
 | cons e l ih =>
  intro h
  obtain⟨k,t,rfl⟩:=h e (by simp)
  have:=ih λ e he=>h e (by simp[he])
  simp[iOf] at this ⊢
  exact this
theorem IEl.has {l:List (Int × xK)}(h:IEl l){k:Int}:k∈l.filterMap iOf↔∃e∈l,(intKind prog w).is k e.2=true:=by
 rw[z9]
 constructor
 ·rintro⟨e,he,q⟩
  obtain⟨j,t,rfl⟩:=h e he
  cases q
  exact⟨_,he,intKind_is _ _ _ _⟩
 ·rintro⟨e,he,q⟩
  obtain⟨j,t,rfl⟩:=h e he
  have:k=j:=(intKind prog w).inj _ _ _ q (intKind_is _ _ j t)
  subst this
  exact⟨_,he,rfl⟩
theorem SetI.keep {a:Addr}{ns:List Int}{h h':Heap}(x:SetI w a ns h)(k:∀o,h.get? a=some o->h'.get? a=some o):SetI w a ns h':=by
 obtain⟨o,es,ep,t,e,r⟩:=x
 exact⟨o,es,ep,t,k o e,r⟩
theorem SetI.type {a:Addr}{ns:List Int}(x:SetI w a ns s.heap):s.TypeIs (.ref a) "set" := by
 obtain⟨o,es,ep,t,e,c,_⟩:=x
 exact⟨o,e,c.1⟩
theorem SetI.put {h:Heap}{a:Addr}{o:Obj}{es es':Array (Int × xK)}{ep:Nat}{t t':SetTable}{ns:List Int}(ho:h.get? a=some o)(x:o.ExactSet)(hd:o.data=.set es ep t)(h1:IEl es'.toList)
  (h2:(es'.toList.filterMap iOf).Perm ns) (h3:es'.size<scanBound) (h4:t'.fits es'.size=true) (h5:SetTable.Good (!byTx w) t') :
  (h.update a (Obj.putSet es' t')).get? a=some { o with data:=.set es' (ep+1) t' }/\SetI w a ns (h.update a (Obj.putSet es' t')):=by
 have g:=yo (Obj.putSet es' t') ho (by rw[putSet_of es' t' hd]; rfl)
 rw[putSet_of es' t' hd] at g
 exact⟨g,_,es',ep+1,t',g,x,rfl,h1,h2,h3,h4,h5⟩
theorem kJ {g:Bool->Sem Unit}(hg:∀(b:Bool) (z:xO) (R:Unit->xO->Prop),R () z->yb (model prog w) A (g b) R E z){a:Addr}{o:Obj}{es:Array (Int × xK)}{ep:Nat}{t:SetTable}(ho:s.heap.get? a=some o)
  (x:o.ExactSet) (hd:o.data=.set es ep t) {es':Array (Int × xK)} {t':SetTable} {ns:List Int} (h1:IEl es'.toList) (h2:(es'.toList.filterMap iOf).Perm ns) (h3:es'.size<scanBound) (h4:t'.fits es'.size=true) (h5:SetTable.Good (!byTx w) t')
  {was:Bool} {R:Option Bool->xO->Prop} (h:∀h',Heap.SameBut a s.heap h'->SetI w a ns h'->R (some true) { s with heap:=h' }) :
  yb (model prog w) A (storeSet a es' t' >>= λ _=>if (!was && t'.tooFull)=true then (g (relayAll t' es' (SetTable.grown es'.size)).2.2 >>= λ _=>storeSet a (relayAll t' es' (SetTable.grown es'.size)).1 (relayAll t' es' (SetTable.grown es'.size)).2.1 >>= λ _=>pure (some true)) else pure (some true)) R E s:=by
 refine xI (wpAny_storeSet_of ho hd ?_ (fits_of_scanBound h3))
 obtain⟨p1,p2⟩:=SetI.put (w:=w) ho x hd h1 h2 h3 h4 h5
 have b1:=Heap.SameBut.update s.heap a (Obj.putSet es' t')
 split
 ·have q1:=relayAll_perm t' es' (SetTable.grown es'.size)
  have q2:=relayAll_fits t' es' (SetTable.grown es'.size)
  have q3:=jC h5 es' (SetTable.grown es'.size)
  generalize relayAll t' es' (SetTable.grown es'.size)=z at q1 q2 q3 ⊢
  obtain⟨ez,tz,bz⟩:=z
  dsimp only at q1 q2 q3 ⊢
  have q4:ez.size=es'.size:=by have:=q1.length_eq; simpa using this
  refine xI (hg _ _ _ ?_)
  refine xI (wpAny_storeSet_of p1 rfl ?_ (fits_of_scanBound (by rw[q4]; exact h3)))
  obtain⟨_,p4⟩:=SetI.put (w:=w) p1 x rfl (h1.perm q1) ((q1.filterMap iOf).trans h2) (by rw[q4]; exact h3) q2 q3
  exact xN (h _ (b1.trans (Heap.SameBut.update _ a _)) p4)
 ·exact xN (h _ b1 p2)
def addN (ns:List Int)(k:Int):List Int:=if k∈ns then ns else ns++[k]
theorem sy {a:Addr}{ns:List Int}{k:Int}{tk:Tok}{Q:Bool->xO->Prop}(hS:SetI w a ns s.heap)(hr:ns.length+1<scanBound)
  (h:∀r h',Heap.SameBut a s.heap h'->SetI w a (addN ns k) h'->Q r { s with heap:=h' }):yb (model prog w) A (setAddHashed a (.int k tk) (hashInt k)) Q E s:=by
 obtain⟨o,es,ep,t,ho,x,hd,h1,h2,h3,h4,h5⟩:=hS
 have e1:ElemsOf (intKind prog w) es.toList:=h1.elems
 have hki:(intKind prog w).is k (.int k tk)=true:=intKind_is _ _ _ _
 unfold setAddHashed setAddHashedIn
 refine wpAny_holding (xI (wpAny_setState_of ho hd h4 ?_))
 dsimp only
 rw[byScan_of (knd:=intKind prog w) (x:=.int k tk) rfl h3 e1]
 simp only[↓reduceIte]
 unfold setAddByScan
 refine xI (xI (wpAny_rule (xI (wpAny_setScan_of (knd:=intKind prog w) hki ho hd h4 e1 ?_))))
 have hlen:es.size=ns.length:=by
  have a1:=h2.length_eq
  rw[h1.len,yZ] at a1
  exact a1
 cases hf:List.findIdx? (λ e=>(intKind prog w).is k e.2) es.toList with
 | some j =>
  dsimp only
  obtain⟨hj,hpj,_⟩:=List.findIdx?_eq_some_iff_getElem.mp hf
  have hk:k∈ns:=h2.mem_iff.mp (h1.has.mpr ⟨_,zp hj,hpj⟩)
  refine xN (xN ?_)
  have:=h false s.heap (Heap.SameBut.refl a s.heap) (by unfold addN; rw[if_pos hk]; exact⟨o,es,ep,t,ho,x,hd,h1,h2,h3,h4,h5⟩)
  exact this
 | none =>
  dsimp only
  have hk:¬ k∈ns:=λ z=>by
   obtain⟨e,he,q⟩:=(h1.has (prog:=prog) (w:=w)).mp (h2.mem_iff.mpr z)
   have:=List.findIdx?_eq_none_iff.mp hf e he
   rw[q] at this
   cases this
  have q1:=layNew_perm t es (hashInt k) (.int k tk)
  have q2:=layNew_fits t es (hashInt k) (.int k tk)
  have q3:=lV h5 es (hashInt k) (.int k tk)
  have hgw:∀(b:Bool) (z:xO) (R:Unit->xO->Prop),R () z->yb (model prog w) A (match b with | true=>rule "set.scan.the-table-gave-way" | false=>pure ()) R E z :=
   λ b z R hq=>by cases b <;> first | exact xN hq | exact wpAny_rule hq
  show yb _ _ ((match (layNew t es (hashInt k) (.int k tk)).2.2.2 with | true=>rule "set.scan.the-table-gave-way" | false=>pure ()) >>= _) _ _ _
  generalize hz:layNew t es (hashInt k) (.int k tk)=z at q1 q2 q3 ⊢
  obtain⟨ez,tz,was,gave⟩:=z
  dsimp only at q1 q2 q3 ⊢
  have p0:ez.toList.Perm (es.toList++[(hashInt k,xK.int k tk)]):=by rw[Array.toList_push] at q1; exact q1
  have p1:IEl ez.toList:=IEl.perm (λ e he=>by
   rcases yQ.mp he with he | he
   ·exact h1 e he
   ·have:e=(hashInt k,xK.int k tk):=by simpa using he
    exact⟨k,tk,this⟩) p0
  have p2:(ez.toList.filterMap iOf).Perm (addN ns k):=by
   refine (p0.filterMap iOf).trans ?_
   unfold addN
   rw[if_neg hk,List.filterMap_append]
   exact List.Perm.append_right _ h2
  have p3:ez.size<scanBound:=by
   have:=p0.length_eq
   rw[yZ,yB,yZ] at this
   simp at this
   omega
  refine xI (hgw _ _ _ ?_)
  have fin:∀h',Heap.SameBut a s.heap h'->SetI w a (addN ns k) h'->Q true { s with heap:=h' }:=λ h'=>h true h'
  split
  ·refine xI ?_
   rw[hashByValue_scannable 8 (x:=.int k tk) rfl]
   refine xN ?_
   refine kJ (g:=λ b=>match b with | true=>rule "set.scan.the-table-gave-way" | false=>pure ()) hgw ho x hd p1 p2 p3 ?_ ?_ ?_
   ·split
    ·exact q2
    ·exact SetTable.fits_plain_off q2
   ·split
    ·exact q3
    ·exact q3.off
   ·intro h' a1 a2; dsimp only; exact xN (fin h' a1 a2)
  ·refine xI (xN ?_)
   simp only[↓reduceIte]
   refine kJ (g:=λ b=>match b with | true=>rule "set.scan.the-table-gave-way" | false=>pure ()) hgw ho x hd p1 p2 p3 q2 q3 ?_
   intro h' a1 a2; dsimp only; exact xN (fin h' a1 a2)
end
open PyProof.Rows
section
variable {prog:yk}{w:World}{A:Around}{E:xK->xO->Prop}{s:xO}{R:Result->xO->Prop}
def onceN (val:Nat->Int):Nat->List Int
 | 0=>[]
 | i+1=>addN (onceN val i) (val i)
theorem gT (val:Nat->Int):∀i,(onceN val i).length<=i
 | 0=>xL _
 | i+1=>by
  have:=gT val i
  unfold onceN addN
  split
  ·omega
  ·simp; omega
theorem mR (val:Nat->Int):∀i,(onceN val i).Nodup
 | 0=>List.nodup_nil
 | i+1=>by
  have ih:=mR val i
  unfold onceN addN
  split
  ·exact ih
  ·rename_i h
   rw[Ag]
   refine⟨ih,by simp,λ a ha b hb=>?_⟩
   have e:b=val i:=by simpa using hb
   subst e
   exact λ z=>h (z ▸ ha)
theorem kK (val:Nat->Int)(k:Int):∀i,k∈onceN val i↔∃j,j<i/\val j=k
 | 0=>⟨λ h=>absurd h (by simp[onceN]),λ ⟨j,h,_⟩=>absurd h (by omega)⟩
 | i+1=>by
  have ih:=kK val k i
  have key:k∈onceN val (i+1)↔k∈onceN val i\/k=val i:=by
   show k∈addN (onceN val i) (val i)↔_
   unfold addN
   split
   ·rename_i h
    exact⟨.inl,λ z=>z.elim id λ e=>e ▸ h⟩
   ·simp
  rw[key,ih]
  constructor
  ·rintro (⟨j,h,e⟩ | rfl)
   ·exact⟨j,by omega,e⟩
   ·exact⟨i,by omega,rfl⟩
  ·rintro⟨j,h,e⟩
   by_cases q:j=i
   ·subst q; exact .inr e.symm
   ·exact .inl ⟨j,by omega,e⟩
theorem qf {I:Addr}{fp wr:List Addr}{G:Array GenState->Array GenState->Prop}{n:Nat}{P:Nat->xK->Prop}{St:Nat->xO->Prop}(W:WalksS prog w A.in1 I fp wr G n P St)(S:Addr)(hSf:S ∉ fp)
  (val:Nat->Int) (hval:∀i v,P i v->∃t,v=.int (val i) t) (hb:n+1<scanBound):∀(m i:Nat) (z:xO),n - i=m->i<=n->St i z->SetI w S (onceN val i) z.heap ->
   (∀z',Moved (S::wr) G z z'->SetI w S (onceN val n) z'.heap->R (.ok (.ret .none)) z')->codeAny (model prog w) A (.builtin "set.update.loop" ⟨[.ref S,.ref I],[]⟩) R z:=by
 have sw:S ∉ wr:=λ q=>hSf (W.sub _ q)
 have sb:∀b∈wr,b∈S::wr:=λ b q=>xT _ q
 intro m
 induction m with
 | zero =>
  intro i z e1 e2 st x q
  have:i=n:=by omega
  subst this
  refine codeAny_builtin PyProof.Rows.F.entry_set_update_loop ?_
  rw[Around.under_plainId PyProof.Rows.F.plain_set_update_loop _]
  show yb _ A.in1 (pyNext (.ref I) >>= _) _ _ z
  refine xI (W.done z _ _ st λ z' mv=>?_)
  exact xN (q z' (mv.mono sb) (x.keep λ o e=>mv.heap S _ sw e))
 | succ m ih =>
  intro i z e1 e2 st x q
  refine codeAny_builtin PyProof.Rows.F.entry_set_update_loop ?_
  rw[Around.under_plainId PyProof.Rows.F.plain_set_update_loop _]
  show yb _ A.in1 (pyNext (.ref I) >>= _) _ _ z
  refine xI (W.item i z _ _ (by omega) st λ v z' hv st' mv=>?_)
  obtain⟨t,rfl⟩:=hval i v hv
  have x':=x.keep (h':=z'.heap) λ o e=>mv.heap S _ sw e
  show yb _ A.in1 (holding [xK.int (val i) t] (setAdd S (.int (val i) t)) >>= _) _ _ z'
  refine xI (wpAny_holding ?_)
  unfold setAdd
  refine wpAny_holding (xI ((intKind prog w).pyHash (k:=val i) (intKind_is _ _ _ _) ?_))
  refine sy (s:={ z' with toks:=z'.toks+1 }) x' (by have:=gT val i; omega) λ r h' a1 a2=>?_
  refine xN ⟨plainId_quiet PyProof.Rows.F.plain_set_update_loop _,ih (i+1) _ (by omega) (by omega) (W.frame _ z' _ _ st' (zA _) λ b hb o e=>?_) a2 λ z'' mv' x''=>?_⟩
  ·rw[a1.2 b λ h:b=S=>hSf (h ▸ hb)]; exact e
  ·refine q z'' (Moved.trans W.gtrans ((mv.mono sb).then_heap (zA _) λ b o hb e=>?_) mv') x''
   rw[a1.2 b λ h:b=S=>hb (by rw[h]; exact ya)]; exact e
theorem qg (a:xK){Q:xK->xO->Prop}(h:Q (.ref s.heap.objs.size) { s with heap:=s.heap.push { cls:=.type "set",dict:=none,data:=.set #[] 0 (.fresh 0 0 (!byTx w)) } }) :
  codeAny (model prog w) A (.call (.builtin "set.__new__") ⟨[.type "set",a],[]⟩) (wants Q E) s:=by
 refine codeAny_of_tree ?_
 show yb _ A.in1 (checkBuiltinCall "set.__new__" ⟨[.type "set",a],[]⟩ >>= λ _=>again (.builtin "set.__new__" ⟨[.type "set",a],[]⟩)) _ _ s
 refine xI (wpAny_of_eq (F.newCall_set_1 a) (xN ⟨plainId_quiet F.plain_set_new _,codeAny_builtin F.entry_set_new ?_⟩))
 rw[Around.under_plainId F.plain_set_new _]
 unfold Builtin.«set.__new__» Builtin.Frozenset.newClass
 have q:=sub_set_self
 obtain⟨hp,g,d,tk,os⟩:=s
 dsimp only
 wp_walk
 refine wpAny_askSetting (xN ?_)
 dsimp only
 simp only[newObj]
 exact xI (wpAny_alloc (xN (xN h)))
set_option maxHeartbeats 3200000 in
theorem kL {l:Addr}{T:String}{items:Array xK}{od:Option Addr}{nl:Nat}{os:Array (Option xK)}{ns:List Int}{ob:Obj}{Q:xK->xO->Prop}(hol:s.heap.get? l=some { cls:=.type T,dict:=od,data:=.seq items nl,slots:=os })
  (hsls:isSubtype (.type T) (.type "set")=pure false) (hslf:isSubtype (.type T) (.type "frozenset")=pure false) (hne:(xK.type T == xK.type "dict")=false) (hi:IntsAre items.toList ns) (hb:items.size+1<scanBound) {St:Nat->Heap->Prop}
  (iter:∀{A':Around} {E':xK->xO->Prop} {Q':xK->xO->Prop} {z:xO},z.heap.get? l=some { cls:=.type T,dict:=od,data:=.seq items nl,slots:=os }->Q' (.ref z.heap.objs.size) { z with heap:=z.heap.push ob }->yb (model prog w) A' (pyIter (.ref l)) Q' E' z)
  (W:Walks prog w A.in1.in1.in1 (s.heap.objs.size+1) [s.heap.objs.size+1,l] [s.heap.objs.size+1] items.size (λ i v=>items[i]? = some v) St)
  (hst:∀z:Heap,z.objs.size=s.heap.objs.size+1->z.get? l=some { cls:=.type T,dict:=od,data:=.seq items nl,slots:=os }->St 0 (z.push ob))
  (h:∀(h':Heap) (tk:Nat),SetI w s.heap.objs.size (onceN (λ i=>ns.getD i 0) items.size) h'->(∀b o,s.heap.get? b=some o->h'.get? b=some o)->Q (.ref s.heap.objs.size) { s with heap:=h',toks:=tk }) :
  yb (model prog w) A (call (.type "set") [.ref l]) Q E s:=by
 obtain⟨c,tl,hmro⟩:=F.called_set.mro
 have hmade:=F.called_set.made
 have hsub:=F.called_set.sub
 refine wpAny_call (codeAny_of_tree ?_)
 show yb _ _ (callAny (.type "set") _) _ _ _
 refine xN ⟨Code.quiet_builtin _ (by decide +kernel),codeAny_builtin F.entry_type_call ?_⟩
 rw[Around.under_plain (weight_type_call_type "set" [.ref l] []) rfl]
 have g1:=F.called_set.notType
 have g2:=F.called_set.canCreate
 have g3:=F.typeCall_set_1 (.ref l)
 repeat (any_goals (first | assumption | wp_step))
 refine codeAny_mono (qg (.ref l) (E:=E) (Q:=λ x z=>x=.ref s.heap.objs.size/\z={ s with heap:=s.heap.push { cls:=.type "set",dict:=none,data:=.set #[] 0 (.fresh 0 0 (!byTx w)) } }) ⟨rfl,rfl⟩) λ r z hr=>?_
 cases r with
 | error e=>exact hr
 | ok fl =>
  cases fl with
  | ret x =>
   obtain⟨rfl,rfl⟩:=hr
   have kp:∀b o,s.heap.get? b=some o->(s.heap.push { cls:=.type "set",dict:=none,data:=.set #[] 0 (.fresh 0 0 (!byTx w)) }).get? b=some o:=λ b o e=>xM _ e
   have hS:(s.heap.push { cls:=.type "set",dict:=none,data:=.set #[] 0 (.fresh 0 0 (!byTx w)) }).get? s.heap.objs.size=some { cls:=.type "set",dict:=none,data:=.set #[] 0 (.fresh 0 0 (!byTx w)) }:=xW _ rfl
   have hz:(s.heap.push { cls:=.type "set",dict:=none,data:=.set #[] 0 (.fresh 0 0 (!byTx w)) }).objs.size=s.heap.objs.size+1:=by rw[y9]
   have hol':=kp l _ hol
   have hlS:l<s.heap.objs.size:=yd hol
   generalize s.heap.push { cls:=.type "set",dict:=none,data:=.set #[] 0 (.fresh 0 0 (!byTx w)) }=h1 at hS kp hz hol' ⊢
   have hT:xO.TypeIs { s with heap:=h1 } (.ref s.heap.objs.size) "set" := ⟨_,hS,rfl⟩
   have hli:=F.called_set.init.lookup
   have hbi:=F.called_set.init.bind (.ref s.heap.objs.size)
   repeat (any_goals (first | assumption | wp_step))
   refine codeAny_mono (codeAny_call_builtin (R:=wants (λ r z=>r=.none/\∃h' tk,z={ s with heap:=h',toks:=tk }/\SetI w s.heap.objs.size (onceN (λ i=>ns.getD i 0) items.size) h'/\(∀b o,s.heap.get? b=some o->h'.get? b=some o)) E)
    F.called_set.init.plain F.entry_set_init (check_set_init_1 hT ?_)) λ r₂ s₂ hr₂=>?_
   ·unfold Builtin.«set.__init__» noKeywords Builtin.Frozenset.updateFrom
    generalize hPI:pyIter=PI
    wp_walk
    subst hPI
    refine iter hol' ?_
    refine xI (wpAny_runValue ?_)
    have hval:∀(i:Nat) (v:xK),items[i]? = some v->∃t,v=.int ((λ i=>ns.getD i 0) i) t:=λ i v hv=>IntsAre.int_at hi i v (by rw[yW]; exact hv)
    have hS1:s.heap.objs.size ∉ [s.heap.objs.size+1,l]:=λ q=>by
     rcases xR.mp q with q | q
     ·exact absurd q (yu (zN _))
     ·exact absurd (yh.mp q) (ze hlS)
    show codeAny _ _ (.builtin "set.update.loop" ⟨[.ref s.heap.objs.size,.ref h1.objs.size],[]⟩) _ _
    rw[hz]
    refine qf (A:=A.in1.in1) W.toS s.heap.objs.size hS1 (λ i=>ns.getD i 0) hval hb (items.size - 0) 0 _ (by omega) (yY _) (hst h1 hz hol') ?hS0 ?hR
    case hS0=>exact⟨_,#[],0,_,xM _ hS,⟨rfl,rfl,rfl⟩,rfl,λ e he=>by simp at he,by simp[onceN],by decide,by rfl,rfl,λ _=>by simp[SetTable.fresh]⟩
    case hR =>
     intro z' mv x
     obtain⟨h',g',d',tk',os'⟩:=z'
     have eg:g'=s.gens:=mv.gens
     have ed:d'=s.drawn:=mv.drawn
     have eo:os'=s.os:=mv.os
     subst eg ed eo
     show yb _ _ _ _ _ _
     refine xN ?_
     show yb _ _ (ret xK.none) _ _ _
     refine xN ⟨rfl,h',tk',rfl,x,λ b o e=>?_⟩
     have hb0:=yd e
     have hb1:b ∉ s.heap.objs.size::[s.heap.objs.size+1]:=λ q=>by
      rcases xR.mp q with q | q
      ·exact absurd q (yu hb0)
      ·exact absurd (yh.mp q) (yu (zG hb0))
     exact mv.heap b o hb1 (xM _ (kp b o e))
   ·cases r₂ with
    | error e=>exact hr₂
    | ok fl₂ =>
     cases fl₂ with
     | ret r =>
      obtain⟨rfl,h',tk,rfl,x,kq⟩:=hr₂
      repeat (any_goals (first | assumption | wp_step))
      exact h _ _ x kq
     | _=>exact hr₂.elim
  | _=>exact hr.elim
end
open PyProof.Rows
theorem slot_sit:Slot "set_iterator" "__next__" "set_iterator.__next__" :=
 Slot.of (owner := "set_iterator") (n := "__next__") (by rw[typeLookup_type,builtinLookup_eq_fast]; kernel_rfl) (by decide +kernel) (by decide +kernel)
  (by decide +kernel) (by first | exact .inl (by decide +kernel) | exact .inr (by decide +kernel)) (by rw[isSubtype_type]; kernel_rfl)
theorem kM:entryFor table "set_iterator.__next__" = some Builtin.«set_iterator.__next__»:=entryFor_of_tree (by kernel_rfl)
theorem mS (a:xK):argsOk "set_iterator.__next__" ⟨[a],[]⟩:=by unfold argsOk; kernel_rfl
theorem lW:entryFor table "set.__iter__" = some Builtin.«frozenset.__iter__»:=entryFor_alias (id' := "frozenset.__iter__") (by kernel_rfl) rfl (by decide +kernel) (by kernel_rfl)
section
variable {prog:yk}{w:World}{A:Around}{E:xK->xO->Prop}{s:xO}
theorem jD {M:Model}{src:Source}{n:Nat}{Q:Nat->xO->Prop}(hn:0<n)(h:∀i d,i<n->Q i { s with drawn:=d }):yb M A (choose src n) Q E s:=λ Γ p hΓ=>by
 unfold choose
 rw[Sem.wp_choose]
 refine⟨ze hn,?_⟩
 rw[Sem.wp_pure]
 exact h _ _ (Nat.mod_lt _ hn)
theorem dA {M:Model}{α:Type}:∀(n:Nat) (xs:List α) {s:xO} {Q:List α->xO->Prop},n=xs.length->(∀ys d,ys.Perm xs->Q ys { s with drawn:=d })->yb M A (drawOrder n xs) Q E s
 | 0,[],s,Q,_,h=>by unfold drawOrder; exact xN (h [] s.drawn .nil)
 | 0,_::_,s,Q,e,_=>by cases e
 | n+1,[],s,Q,e,_=>by cases e
 | n+1,x::xs,s,Q,e,h=>by
  unfold drawOrder
  refine xI (jD (by simp) λ i d hi=>?_)
  rw[yC hi]
  dsimp only
  refine xI (dA n ((x::xs).eraseIdx i) (by rw[List.length_eraseIdx_of_lt hi]; omega) λ ys d' p=>xN ?_)
  exact h _ _ ((List.Perm.cons _ p).trans (by have:=gS hi; rwa [List.singleton_append] at this))
def stSl (t:SetTable):Nat->Nat
 | 0=>0
 | i+1=>t.place.getD i 0+1
def SMode (w:World)(a it pl:Addr)(es:Array (Int × xK))(ep:Nat)(t:SetTable)(out:List xK)(i:Nat)(first:xK)(h:Heap):Prop :=
 (byTx w=true/\first=.int 0 0/\out=(pickOrder (w.params.setOrder a ep) es).toList.map (·.2)) \/
 (byTx w=false/\(!t.plain && decide (es.size > 1))=false/\t.place.toList.Pairwise (· < ·)/\first=.int (stSl t i:Nat) 0/\out=es.toList.map (·.2)) \/
 (byTx w=false/\first=.ref pl/\pl≠it/\∃ord:List Nat,h.IsTuple pl (ord.map λ i:Nat=>rawInt i).toArray/\ord.Perm (List.range es.size)/\out=ord.map λ i=>((es[i]?).map (·.2)).getD .none)
def SSt (w:World)(a it pl:Addr)(o:Obj)(es:Array (Int × xK))(ep:Nat)(t:SetTable)(out:List xK)(i:Nat)(h:Heap):Prop :=
 h.get? a=some o/\out.length=es.size/\∃first,h.get? it=some { cls:=.type "set_iterator",data:=.fields #[first,.int i 0,.ref a,.int es.size 0,.int ep 0] }/\SMode w a it pl es ep t out i first h
structure SFix (w:World) (o:Obj) (es:Array (Int × xK)) (ep:Nat) (t:SetTable):Prop where
 ex:o.ExactSet
 dat:o.data=.set es ep t
 fit:t.fits es.size=true
 led:t.led=!byTx w
theorem SSt.frame {a it pl:Addr}{o:Obj}{es:Array (Int × xK)}{ep:Nat}{t:SetTable}{out:List xK}{i:Nat}{h h':Heap}(x:SSt w a it pl o es ep t out i h)(k:∀b∈[it,a,pl],∀o,h.get? b=some o->h'.get? b=some o):SSt w a it pl o es ep t out i h':=by
 obtain⟨x1,x2,f,x3,m⟩:=x
 refine⟨k a (by simp) _ x1,x2,f,k it (by simp) _ x3,?_⟩
 rcases m with m | m | ⟨m1,m2,m3,ord,m4,m5⟩
 ·exact .inl m
 ·exact .inr (.inl m)
 ·exact .inr (.inr ⟨m1,m2,m3,ord,m4.at λ o e=>k pl (by simp) o e,m5⟩)
theorem SSt.type {a it pl:Addr}{o:Obj}{es:Array (Int × xK)}{ep:Nat}{t:SetTable}{out:List xK}{i:Nat}(x:SSt w a it pl o es ep t out i s.heap):s.TypeIs (.ref it) "set_iterator" := by
 obtain⟨_,_,f,e,_⟩:=x
 exact⟨_,e,rfl⟩
theorem kN {t:SetTable}{n:Nat}(h:t.fits n=true):t.place.size=n:=by
 simp only[SetTable.fits,yD,beq_iff_eq] at h
 exact h.1
theorem jc {a:Addr}{o:Obj}{es:Array (Int × xK)}{ep i sl:Nat}{t:SetTable}{Q:Option (xK × Nat)->xO->Prop}(F:SFix w o es ep t)(x:s.heap.get? a=some o)(m:byTx w=true)
  (q:Q ((((pickOrder (w.params.setOrder a ep) es).toList.map (·.2))[i]?).map λ v=>(v,sl)) s):yb (model prog w) A (setNext a sl i ep) Q E s:=by
 unfold setNext
 refine xI (wpAny_setState_of x F.dat F.fit ?_)
 dsimp only
 unfold setsByText
 refine xI (xI (wpAny_askSetting (xN ?_)))
 refine wpAny_ite_split (λ _=>?_) (λ z=>absurd m z)
 rw[if_neg (by simp)]
 unfold setWalk
 refine xI (xI (wpAny_setState_of x F.dat F.fit ?_))
 dsimp only
 unfold setsByText
 refine xI (xI (wpAny_askSetting (xN ?_)))
 refine wpAny_ite_split (λ _=>?_) (λ z=>absurd m z)
 refine xI (wpAny_askSetting (xN ?_))
 refine xN ?_
 have e:((pickOrder (w.params.setOrder a ep) es)[i]?).map (λ e:Int × xK=>(e.2,sl))=(((pickOrder (w.params.setOrder a ep) es).toList.map (·.2))[i]?).map λ v=>(v,sl):=by
  rw[yg,yW,Option.map_map]
  rfl
 rw[<- e] at q
 exact q
theorem jd {a:Addr}{o:Obj}{es:Array (Int × xK)}{ep i:Nat}{t:SetTable}{Q:Option (xK × Nat)->xO->Prop}(F:SFix w o es ep t)(x:s.heap.get? a=some o)(m:byTx w=false)(m2:(!t.plain && decide (es.size > 1))=false)
  (m3:t.place.toList.Pairwise (· < ·)) (hi:i<=es.size) (q:Q (((es.toList.map (·.2))[i]?).map λ v=>(v,stSl t (i+1))) s):yb (model prog w) A (setNext a (stSl t i) i ep) Q E s:=by
 have hz:=kN F.fit
 unfold setNext
 refine xI (wpAny_setState_of x F.dat F.fit ?_)
 dsimp only
 unfold setsByText
 refine xI (xI (wpAny_askSetting (xN ?_)))
 refine wpAny_ite_split (λ z=>absurd ((show byTx w=true from z).symm.trans m) (by decide)) (λ _=>?_)
 refine wpAny_ite_split (λ z=>absurd ((show (!t.plain && decide (es.size > 1))=true from z).symm.trans m2) (by decide)) (λ _=>?_)
 show yb _ _ ((if (!t.led && !es.isEmpty)=true then unsupported "set:maker-not-led" else pure ()) >>= _) _ _ _
 rw[F.led,m]
 rw[if_neg (by simp)]
 refine xI (xN (xN ?_))
 have e:SetTable.below t.place (stSl t i)=i:=by
  cases i with
  | zero=>exact SetTable.below_zero m3
  | succ j =>
   have hj:j<t.place.size:=by omega
   have:stSl t (j+1)=t.place[j] + 1:=by unfold stSl; simp[hj]
   rw[this]
   exact SetTable.below_next m3 (by simp[hj])
 rw[e]
 rcases zF i es.size with hl | hl
 ·have e1:es[i]? = some (es[i].1,es[i].2):=by simp[hl]
  have e2:t.place[i]? = some t.place[i]:=by simp[hz,hl]
  rw[e1,e2]
  have e3:(es.toList.map (·.2))[i]? = some es[i].2:=by rw[yg,yW,e1]; rfl
  rw[e3] at q
  have e4:stSl t (i+1)=t.place[i] + 1:=by unfold stSl; simp[hz,hl]
  rw[e4] at q
  exact q
 ·have e1:es[i]? = none:=by simp[hl]
  have e3:(es.toList.map (·.2))[i]? = none:=by rw[yg,yW,e1]; rfl
  rw[e3] at q
  rw[e1]
  exact q
theorem mT {h:Heap}{it:Addr}{vs:Array xK}(f:Array xK->Array xK)(ho:h.get? it=some { cls:=.type "set_iterator",data:=.fields vs }):(h.update it (Obj.mapFields f)).get? it=some { cls:=.type "set_iterator",data:=.fields (f vs) }:=by
 have:=yo (Obj.mapFields f) ho (Obj.isFreed_of_fields (Obj.data_mapFields rfl _))
 exact this
theorem nZ {a it pl:Addr}{o:Obj}{es:Array (Int × xK)}{ep:Nat}{t:SetTable}{out:List xK}{i:Nat}{v:xK}{Q:Option xK->xO->Prop}(F:SFix w o es ep t)(x:SSt w a it pl o es ep t out i s.heap)(hne:a≠it)
  (hv:out[i]? = some v) (q:∀h',SSt w a it pl o es ep t out (i+1) h'->Heap.SameBut it s.heap h'->Q (some v) { s with heap:=h' }):yb (model prog w) A (pyNext (.ref it)) Q E s:=by
 have ty:=x.type
 obtain⟨x1,x2,first,x3,m⟩:=x
 have hi:i<out.length:=by
  rcases zF i out.length with z | z
  ·exact z
  ·rw[yG z] at hv; cases hv
 unfold pyNext
 refine xI (wpAny_attempt (wpAny_callSpecial?_slot (name:=Str.ofString "__next__") ty slot_sit (wpAny_call_entry slot_sit ty kM ?_ (mS _))))
 show yb _ _ (fieldsOf (.ref it) >>= _) _ _ s
 refine xI (wpAny_fieldsOf x3 rfl ?_)
 show yb _ _ (setEntries a >>= _) _ _ s
 refine xI (wpAny_setEntries_of x1 F.dat F.fit ?_)
 rw[if_neg (by simp)]
 have ot:∀(f:Obj->Obj) (h:Heap) (b:Addr) (ob:Obj),b≠it->h.get? b=some ob->(h.update it f).get? b=some ob:=λ f h b ob hb e=>(xX _ _ (Ne.symm hb)).trans e
 have go:∀(sl nx:Nat),s.heap.get? it=some { cls:=.type "set_iterator",data:=.fields #[.int sl 0,.int i 0,.ref a,.int es.size 0,.int ep 0] }->(∀h',SMode w a it pl es ep t out (i+1) (.int nx 0) h') ->
   (∀Q':Option (xK × Nat)->xO->Prop,∀E',Q' ((out[i]?).map λ v=>(v,nx)) s->yb (model prog w) A.in1 (setNext a sl i ep) Q' E' s) ->
   ∀{E':xK->xO->Prop},yb (model prog w) A.in1 (setNext a ((sl:Int).toNat) ((i:Int).toNat) ((ep:Int).toNat) >>= λ r=>match r with
    | some (y,next)=>setField (.ref it) 0 (rawInt next) >>= λ _=>setField (.ref it) 1 (rawInt ((i:Int)+1)) >>= λ _=>ret y
    | none=>setField (.ref it) 2 xK.none >>= λ _=>newExc (xK.type "StopIteration") [] >>= λ e=>raiseNew e) (λ fin s'=>∃v,fin=.done (.ret v)/\Q (some v) s') E' s:=by
  intro sl nx x3 md nxt E'
  simp only[yR]
  refine xI (nxt _ _ ?_)
  rw[hv]
  dsimp only [Option.map]
  refine xI (wpAny_setField x3 rfl (by simp) (xI ?_))
  have y1:=mT (·.setIfInBounds 0 (rawInt nx)) x3
  refine wpAny_setField (s:={ s with heap:=s.heap.update it (Obj.mapFields (·.setIfInBounds 0 (rawInt nx))) }) y1 rfl (by simp) (xN ⟨v,rfl,?_⟩)
  have y2:=mT (·.setIfInBounds 1 (rawInt ((i:Int)+1))) y1
  exact q _ ⟨ot _ _ a o hne (ot _ _ a o hne x1),x2,.int nx 0,by rw[y2]; simp[rawInt],md _⟩ ((Heap.SameBut.update ..).trans (Heap.SameBut.update ..))
 rcases m with⟨m1,rfl,m2⟩ | ⟨m1,m2,m3,rfl,m4⟩ | ⟨m1,rfl,m2,ord,⟨ot',t1,t2,nt,t3⟩,m4,m5⟩
 ·exact y8 (go 0 0 x3 (λ h'=>.inl ⟨m1,rfl,m2⟩) λ Q' E' q'=>jc F x1 m1 (by rw[<- m2]; exact q')) (λ fin s' ⟨v,e,h⟩=>⟨v,e,xN h⟩) λ e s' h=>h
 ·exact y8 (go (stSl t i) (stSl t (i+1)) x3 (λ h'=>.inr (.inl ⟨m1,m2,m3,rfl,m4⟩)) λ Q' E' q'=>jd F x1 m1 m2 m3 (by omega) (by rw[<- m4]; exact q')) (λ fin s' ⟨v,e,h⟩=>⟨v,e,xN h⟩) λ e s' h=>h
 ·show yb _ _ (seqItems? (.ref pl) >>= _) _ _ s
  refine xI (wpAny_seqItems t1 t3 ?_)
  rw[m5,yg] at hv
  cases ho:ord[i]? with
  | none=>rw[ho] at hv; cases hv
  | some j =>
   rw[ho] at hv
   have hj:j<es.size:=by
    have:j∈List.range es.size:=m4.mem_iff.mp (zt ho)
    exact zR.mp this
   have ej:es[j]? = some (es[j].1,es[j].2):=by simp[hj]
   have ev:v=es[j].2:=by simp only[zD,ej] at hv; cases hv; rfl
   have ep1:((ord.map λ i:Nat=>rawInt i).toArray)[(i:Int).toNat]? = some (.int j 0):=by
    rw[zW,yR,yg,ho]
    rfl
   dsimp only
   rw[ep1]
   dsimp only
   refine xI ?_
   unfold setNextDrawn
   refine xI (wpAny_setState_of x1 F.dat F.fit ?_)
   dsimp only
   rw[if_neg (by simp),yR,ej]
   dsimp only
   refine xN ?_
   refine xI (wpAny_setField x3 rfl (by simp) (xN ⟨_,rfl,xN ?_⟩))
   have y2:=mT (·.setIfInBounds 1 (rawInt ((i:Int)+1))) x3
   rw[<- ev]
   exact q _ ⟨ot _ _ a o hne x1,x2,.ref pl,by rw[y2]; simp[rawInt],.inr (.inr ⟨m1,rfl,m2,ord,⟨ot',ot _ _ pl ot' m2 t1,t2,nt,t3⟩,m4,m5⟩)⟩ (Heap.SameBut.update ..)
theorem iT {a it pl:Addr}{o:Obj}{es:Array (Int × xK)}{ep:Nat}{t:SetTable}{out:List xK}{Q:Option xK->xO->Prop}(hh:A.handled=none)(F:SFix w o es ep t)(x:SSt w a it pl o es ep t out out.length s.heap)
  (q:∀h',Heap.ExtBut it s.heap h'->Q none { s with heap:=h' }):yb (model prog w) A (pyNext (.ref it)) Q E s:=by
 have ty:=x.type
 obtain⟨x1,x2,first,x3,m⟩:=x
 unfold pyNext
 refine xI (wpAny_attempt (wpAny_callSpecial?_slot (name:=Str.ofString "__next__") ty slot_sit (wpAny_call_entry slot_sit ty kM ?_ (mS _))))
 show yb _ _ (fieldsOf (.ref it) >>= _) _ _ s
 refine xI (wpAny_fieldsOf x3 rfl ?_)
 show yb _ _ (setEntries a >>= _) _ _ s
 refine xI (wpAny_setEntries_of x1 F.dat F.fit ?_)
 rw[if_neg (by simp)]
 have fin:∀{α:Type} (h1:Heap) (B:Around) (Q':α->xO->Prop),B.handled=none->Heap.ExtBut it s.heap h1->yb (model prog w) B (newExc (xK.type "StopIteration") [] >>= λ e=>raiseNew e)
   Q' (λ e s'=>yb (model prog w) A (isInstance e (xK.type "StopIteration") >>= λ b=>if b=true then pure none else throw e) Q E s') { s with heap:=h1 }:=by
  intro α h1 B Q' hB k1
  refine xI ?_
  simp only[newExc,newTuple]
  refine xI (yF (xI (m:=firstArgMember _ _) (wpAny_of_eq (a:=xK.none) (by first | rfl | (simp only[firstArgMember]; rfl)) (yF ?_ (by size_fits)))) (by size_fits))
  simp only[raiseNew]
  refine xI (wpAny_handled ?_)
  rw[hB]
  refine xI (xN (wpAny_throw ?_))
  refine xI (wpAny_isInstance (T := "StopIteration") (b:=true) ⟨_,xW _ rfl,rfl⟩ isSubtype_stop (xN ?_))
  exact q _ ((k1.push _).push _)
 have no:out[out.length]? = none:=by simp
 rcases m with⟨m1,rfl,m2⟩ | ⟨m1,m2,m3,rfl,m4⟩ | ⟨m1,rfl,m2,ord,⟨ot',t1,t2,nt,t3⟩,m4,m5⟩
 ·show yb _ _ (setNext a _ _ _ >>= _) _ _ s
  simp only[yR]
  refine xI (jc F x1 m1 ?_)
  rw[<- m2,no]
  dsimp only [Option.map]
  exact xI (wpAny_setField x3 rfl (by simp) (fin _ _ _ hh (Heap.SameBut.update ..).extBut))
 ·show yb _ _ (setNext a _ _ _ >>= _) _ _ s
  simp only[yR]
  refine xI (jd F x1 m1 m2 m3 (by omega) ?_)
  rw[<- m4,no]
  dsimp only [Option.map]
  exact xI (wpAny_setField x3 rfl (by simp) (fin _ _ _ hh (Heap.SameBut.update ..).extBut))
 ·show yb _ _ (seqItems? (.ref pl) >>= _) _ _ s
  refine xI (wpAny_seqItems t1 t3 ?_)
  have ol:ord.length=out.length:=by rw[m5,xQ]
  have ep1:((ord.map λ i:Nat=>rawInt i).toArray)[((out.length:Nat):Int).toNat]? = none:=by
   rw[zW,yR,yg,yG (by omega)]
   rfl
  dsimp only
  rw[ep1]
  dsimp only
  refine xI (wpAny_setField x3 rfl (by simp) (xI ?_))
  have y1:=mT (·.setIfInBounds 0 (rawInt 0)) x3
  exact wpAny_setField (s:={ s with heap:=s.heap.update it (Obj.mapFields (·.setIfInBounds 0 (rawInt 0))) }) y1 rfl (by simp) (fin _ _ _ hh ((Heap.SameBut.update ..).trans (Heap.SameBut.update ..)).extBut)
end
open PyProof.Rows
theorem kO:Slot "set_iterator" "__iter__" "set_iterator.__iter__" :=
 Slot.of (owner := "set_iterator") (n := "__iter__") (by rw[typeLookup_type,builtinLookup_eq_fast]; kernel_rfl) (by decide +kernel) (by decide +kernel)
  (by decide +kernel) (by first | exact .inl (by decide +kernel) | exact .inr (by decide +kernel)) (by rw[isSubtype_type]; kernel_rfl)
theorem n8:entryFor table "set_iterator.__iter__" = some Builtin.«dict_keyiterator.__iter__»:=entryFor_alias (id' := "dict_keyiterator.__iter__") (by kernel_rfl) rfl (by decide +kernel) (by kernel_rfl)
theorem qh (a:xK):argsOk "set_iterator.__iter__" ⟨[a],[]⟩:=by unfold argsOk; kernel_rfl
section
variable {prog:yk}{w:World}{A:Around}{E:xK->xO->Prop}{s:xO}
theorem IEl.ints {l:List (Int × xK)}:IEl l->IntsAre (l.map (·.2)) (l.filterMap iOf):=by
 induction l with
 | nil=>intro _; exact .nil
 | cons e l ih =>
  intro h
  obtain⟨k,t,rfl⟩:=h e (by simp)
  exact .cons k t (ih λ e he=>h e (by simp[he]))
theorem mU (es:Array (Int × xK)):∀(l:List Nat),(∀j∈l,j<es.size)->(l.map λ i=>((es[i]?).map (·.2)).getD xK.none)=(l.filterMap λ i=>es[i]?).map (·.2)
 | [],_=>rfl
 | j::l,h=>by
  have hj:=h j (by simp)
  have e:es[j]? = some es[j]:=by simp[hj]
  rw[xY,zc,e,mU es l λ i hi=>h i (by simp[hi])]
  rfl
theorem lX {a:Addr} {ns:List Int} {Q:xK->xO->Prop} (x:SetI w a ns s.heap) (q:∀h' d' it pl o es ep t out ms,SFix w o es ep t->SSt w a it pl o es ep t out 0 h'->(∀b ob,s.heap.get? b=some ob->h'.get? b=some ob) ->
   s.heap.objs.size<=it->s.heap.objs.size<=pl->IntsAre out ms->ms.Perm ns->Q (.ref it) { s with heap:=h',drawn:=d' }):yb (model prog w) A (pyIter (.ref a)) Q E s:=by
 have ty:=x.type
 obtain⟨o,es,ep,t,ho,ex,hd,h1,h2,h3,h4,h5,h6⟩:=x
 have F:SFix w o es ep t:=⟨ex,hd,h4,h5⟩
 have hz:=kN h4
 refine wpAny_pyIter_slot ty PySem.F.slot_set_iter (wpAny_call_entry PySem.F.slot_set_iter ty lW ?_ (PySem.F.args_set_iter_1 _))
 unfold Builtin.«frozenset.__iter__» Builtin.Frozenset.slot0 slotArgs
 simp only[List.isEmpty_nil,za,yt,↓reduceIte,bind_assoc,yn,bne_self_eq_false]
 unfold Builtin.Frozenset.addrOf Builtin.Frozenset.sizeOf
 refine xI (xN ?_)
 try dsimp only
 refine xI (xN ?_)
 refine xI (xI (wpAny_setEntries_of ho hd h4 (xN ?_)))
 unfold setDrawn
 refine xI (xI (wpAny_setState_of ho hd h4 ?_))
 dsimp only
 unfold setsByText
 refine xI (xI (wpAny_askSetting (xN (xN ?_))))
 have fin:∀(h':Heap) (d':_) (pl:Addr) (first:xK) (out:List xK) (ms:List Int),(∀b ob,s.heap.get? b=some ob->h'.get? b=some ob)->s.heap.objs.size<=h'.objs.size->s.heap.objs.size<=pl ->
   SMode w a h'.objs.size pl es ep t out 0 first (h'.push { cls:=.type "set_iterator",data:=.fields #[first,.int 0 0,.ref a,.int es.size 0,.int ep 0] })->out.length=es.size->IntsAre out ms->ms.Perm ns ->
   yb (model prog w) A.in1 (setEpoch a >>= λ e=>newFields "set_iterator" [first,rawInt 0,.ref a,rawInt es.size,rawInt e] >>= λ v=>ret v)
    (λ fin s'=>∃v,fin=.done (.ret v)/\∃T' r,s'.TypeIs v T'/\typeLookup (.type T') "__next__" = pure (some r)/\Q v s') E { s with heap:=h',drawn:=d' }:=by
  intro h' d' pl first out ms kp z1 z2 md ol ia pm
  refine xI (wpAny_setEpoch_of (s:={ s with heap:=h',drawn:=d' }) (kp a o ho) hd h4 ?_)
  unfold newFields
  refine xI (yF (xN ⟨_,rfl, "set_iterator",_,⟨_,xW _ rfl,rfl⟩,slot_sit.lookup,?_⟩))
  have g:(h'.push { cls:=.type "set_iterator",data:=.fields #[first,.int 0 0,.ref a,.int es.size 0,.int ep 0] }).get? h'.objs.size=some { cls:=.type "set_iterator",data:=.fields #[first,.int 0 0,.ref a,.int es.size 0,.int ep 0] }:=xW _ rfl
  exact q _ d' h'.objs.size pl o es ep t out ms F ⟨xM _ (kp a o ho),ol,first,g,md⟩ (λ b ob e=>xM _ (kp b ob e)) z1 z2 ia pm
 cases hb:byTx w with
 | true =>
  refine wpAny_ite_split (λ z=>?_) (λ _=>?_)
  ·exfalso
   have:(!byTx w && (!t.plain && decide (es.size > 1)))=true:=z
   rw[hb] at this
   cases this
  ·refine xI (xN ?_)
   have p1:=iS (w.params.setOrder a ep) es
   refine fin s.heap s.drawn s.heap.objs.size (.int 0 0) _ _ (λ _ _ e=>e) (xL _) (xL _) (.inl ⟨hb,rfl,rfl⟩) ?_ (IEl.ints (h1.perm p1)) ((p1.filterMap iOf).trans h2)
   rw[xQ,p1.length_eq,yZ]
 | false =>
  refine wpAny_ite_split (λ z=>?_) (λ z=>?_)
  ·refine xI (dA es.size (List.range es.size) (by simp) λ ord d' p=>?_)
   refine xI (wpAny_newTuple ?_ ?_)
   ·have lt:∀j∈ord,j<es.size:=λ j hj=>zR.mp (p.mem_iff.mp hj)
    have p1:(ord.filterMap λ i=>es[i]?).Perm es.toList:=(p.filterMap _).trans (by rw[filterMap_getElem?_range])
    have g:(s.heap.push { cls:=.type "tuple",data:=.seq (ord.map λ i:Nat=>rawInt i).toArray }).get? s.heap.objs.size=some { cls:=.type "tuple",data:=.seq (ord.map λ i:Nat=>rawInt i).toArray }:=xW _ rfl
    refine fin _ d' s.heap.objs.size (.ref s.heap.objs.size) (ord.map λ i=>((es[i]?).map (·.2)).getD .none) ((ord.filterMap λ i=>es[i]?).filterMap iOf) (λ b ob e=>xM _ e) (by rw[y9]; exact zA _) (xL _) ?_ ?_ ?_ ((p1.filterMap iOf).trans h2)
    ·refine .inr (.inr ⟨hb,rfl,by rw[y9]; exact yu (zN _),ord,⟨_,xM _ g,rfl,0,rfl⟩,p,rfl⟩)
    ·rw[xQ,p.length_eq,List.length_range]
    ·rw[mU es ord lt]
     exact IEl.ints (h1.perm p1)
   ·have:ord.length=es.size:=by rw[p.length_eq,List.length_range]
    have hb:scanBound=4096:=rfl
    simp only[xQ,this]
    rw[sizeLine_eq]
    omega
  ·refine xI (xN ?_)
   have z':(!t.plain && decide (es.size > 1))=false:=by
    have:¬ (!byTx w && (!t.plain && decide (es.size > 1)))=true:=z
    rw[hb] at this
    simpa using this
   refine fin s.heap s.drawn s.heap.objs.size (.int 0 0) _ _ (λ _ _ e=>e) (xL _) (xL _) (.inr (.inl ⟨hb,z',?_,rfl,rfl⟩)) ?_ (IEl.ints h1) h2
   ·cases hp:t.plain with
    | true=>exact h6 hp
    | false =>
     rw[hp] at z'
     have:t.place.toList.length<=1:=by rw[yZ,hz]; simpa using z'
     match t.place.toList,this with
     | [],_=>exact .nil
     | [a],_=>exact List.pairwise_singleton _ _
     | _::_::_,h=>exact absurd h (by simp)
   ·rw[xQ,yZ]
theorem n9 {a it pl:Addr}{o:Obj}{es:Array (Int × xK)}{ep:Nat}{t:SetTable}{out:List xK}{i:Nat}{Q:xK->xO->Prop}(x:SSt w a it pl o es ep t out i s.heap)(q:Q (.ref it) s):yb (model prog w) A (pyIter (.ref it)) Q E s:=by
 have ty:=x.type
 refine wpAny_pyIter_slot ty kO (wpAny_call_entry kO ty n8 ?_ (qh _))
 show yb _ _ (ret (.ref it)) _ _ s
 exact xN ⟨_,rfl, "set_iterator",_,ty,slot_sit.lookup,q⟩
theorem qj {a it pl:Addr}{o:Obj}{es:Array (Int × xK)}{ep:Nat}{t:SetTable}(out:List xK)(hh:A.handled=none)(F:SFix w o es ep t)(hne:a≠it) :
  Walks prog w A it [it,a,pl] [it] out.length (λ i v=>out[i]? = some v) (SSt w a it pl o es ep t out) where
 sub:=λ b hb=>by simp at hb; simp[hb]
 frame:=λ _ _ _ st k=>st.frame k
 item:=λ i s Q E hi st hQ=>by
  have e:out[i]? = some out[i]:=by simp[hi]
  exact nZ F st hne e λ h' st' sb=>hQ _ h' s.toks e st' λ b ob hb e=>sb.extBut b ob (λ h=>hb (by simp[h])) e
 done:=λ s Q E st hQ=>iT hh F st λ h' ex=>hQ h' s.toks λ b ob hb e=>ex b ob (λ h=>hb (by simp[h])) e
 self:=λ _ _ _ _ st hQ=>n9 st hQ
end
open PyProof.Rows
section
variable {prog:yk}{w:World}{A:Around}{E:xK->xO->Prop}{s:xO}
theorem sA {d:Addr}{ns:List Int}{Q:Bool->xO->Prop}(x:SetI w d ns s.heap)(h:∀b,Q b s):yb (model prog w) A (Builtin.List.listLengthHint (.ref d)) Q E s:=by
 have ty:=x.type
 unfold Builtin.List.listLengthHint
 refine xI (wpAny_specialOf ty F.slot_set_len.lookup ?_)
 generalize hj:("set.__len__" : String)=j0
 wp_delta
 rw[show splitId j0=some ("set", "__len__") from by subst hj; decide +kernel]
 subst hj
 refine xI (wpAny_isInstance (T := "set") (b:=true) ty (by rw[isSubtype_type]; kernel_rfl) ?_)
 refine wpAny_ite_split (λ z=>absurd z (by decide)) (λ _=>?_)
 refine wpAny_ite_split (λ _=>?_) (λ z=>absurd (by decide +kernel) z)
 exact xI (wpAny_typeOf ty (xN (h _)))
theorem oa {R:Result->xO->Prop}{d:Addr}{ns:List Int}(hh:A.handled=none)(x:SetI w d ns s.heap)(hlen:ns.length<=xV)(S:Addr)(res:xK)(c₀:Nat)(hS:s.heap.get? S=some { cls:=.type "list",data:=.seq #[] c₀ })
  (hR:∀h' tk d' acc' c' ms,(∀b o,b≠S->s.heap.get? b=some o->h'.get? b=some o)->h'.get? S=some { cls:=.type "list",dict:=none,data:=.seq acc' c',slots:=#[] }->IntsAre acc'.toList ms->ms.Perm ns ->
   R (.ok (.ret res)) { s with heap:=h',toks:=tk,drawn:=d' }) :
  yb (model prog w) A.in1 (Builtin.List.listExtendWith (.ref S) (.ref d) res)
   (λ fin s'=>match fin with | .done f=>R (.ok f) s' | .again c'=>c'.quiet=true/\codeAny (model prog w) A c' R s') (λ e s'=>R (.error e) s') s:=by
 have ty:=x.type
 have hdl:d<s.heap.objs.size:=by obtain⟨o,es,ep,t,e,_⟩:=id x; exact yd e
 have hSl:S<s.heap.objs.size:=yd hS
 have hSd:S≠d:=λ z=>by
  obtain⟨o,e,c⟩:=ty
  rw[<- z,hS] at e
  cases e
  exact absurd (show xK.type "list" = xK.type "set" from c) (by decide)
 unfold Builtin.List.listExtendWith
 refine xI (wpAny_typeOf ty ?_)
 have n1:Builtin.List.listSameRef (.ref S) (.ref d)=false:=by simp[Builtin.List.listSameRef,hSd]
 have n2:(xK.type "set" == xK.type "list")=false:=by decide
 have n3:(xK.type "set" == xK.type "tuple")=false:=by decide
 simp only[n1,n2,n3,Bool.or_false,yt,if_false]
 refine xI (lX x λ h1 d1 it pl o es ep t out ms Fx st kp₁ hit hpl ia pm=>?_)
 have hne:d≠it:=yu (yr hdl hit)
 have hSI:S≠it:=yu (yr hSl hit)
 have hSp:S≠pl:=yu (yr hSl hpl)
 have hSf:S ∉ [it,d,pl]:=λ z=>by
  rcases xR.mp z with z | z
  ·exact hSI z
  ·rcases xR.mp z with z | z
   ·exact hSd z
   ·exact hSp (yh.mp z)
 have W:=(qj (prog:=prog) (w:=w) (A:=A.in1) (a:=d) (it:=it) (pl:=pl) out hh Fx hne).toS
 have ol:out.length=ns.length:=by rw[<- pm.length_eq]; exact IntsAre.length ia
 have run:∀(h:Heap) (c₁ tk:Nat),SSt w d it pl o es ep t out 0 h->(∀b o,b≠S->s.heap.get? b=some o->h.get? b=some o) ->
   h.get? S=some { cls:=.type "list",data:=.seq #[] c₁ }->codeAny (model prog w) A (.builtin "list.extend.loop" ⟨[.ref S,.ref it,res],[]⟩) R { s with heap:=h,toks:=tk,drawn:=d1 }:=by
  intro h c₁ tk st1 hk hS₁
  refine codeAny_extend_loopS W (by omega) S hSf res out.length 0 _ #[] c₁ rfl (yY _) st1 hS₁ (ItemsOf.nil _) λ s' acc' c' mv hS' hacc=>?_
  have es':=Moved.eq_with mv
  have hal:acc'.toList=out:=by
   refine zS λ j=>?_
   rw[yW]
   rcases zF j acc'.size with hj | hj
   ·have e:acc'[j]? = some acc'[j]:=by simp[hj]
    rw[e,hacc.2 j _ e]
   ·rw[zI hj,yG (by have:=hacc.1; omega)]
  rw[es']
  refine hR s'.heap s'.toks d1 acc' c' ms (λ b o hb e=>mv.heap b o (λ z=>?_) (hk b o hb e)) hS' (by rw[hal]; exact ia) pm
  rcases xR.mp z with z | z
  ·exact hb z
  ·have:b=it:=by simpa using z
   exact absurd (yr (yd e) hit) (by rw[this]; exact y6 _)
 have hS₁:=kp₁ S _ hS
 refine xI (wpAny_holding (sA (s:={ s with heap:=h1,drawn:=d1 }) (x.keep λ o e=>kp₁ _ o e) λ b=>?_))
 refine wpAny_ite_split (λ _=>?_) (λ _=>xN ⟨plainId_quiet F.plain_extend_loop _,run h1 c₀ s.toks st (λ b o _ e=>kp₁ b o e) hS₁⟩)
 refine xI (wpAny_rule (xI ?_))
 show yb _ _ (updateSeq S (·.push .none) >>= λ _=>updateSeq S (·.pop)) _ _ { s with heap:=h1,drawn:=d1 }
 refine xI (wpAny_updateSeq hS₁ rfl ?_)
 have hS₂:=yo (Obj.mapSeq (·.push xK.none)) hS₁ rfl
 refine wpAny_updateSeq (hz:=by seq_fits) hS₂ rfl ?_
 have hS₃:=yo (Obj.mapSeq (·.pop)) hS₂ rfl
 have kp₃:∀b o,b≠S->h1.get? b=some o->((h1.update S (Obj.mapSeq (·.push xK.none))).update S (Obj.mapSeq (·.pop))).get? b=some o:=λ b o hb e =>
  (xX _ _ (Ne.symm hb)).trans ((xX _ _ (Ne.symm hb)).trans e)
 refine xN ⟨plainId_quiet F.plain_extend_loop _,run _ _ s.toks (st.frame λ b hb o e=>kp₃ _ o (λ z=>hSf (z ▸ hb)) e) (λ b o hb e=>kp₃ b o hb (kp₁ b o e)) hS₃⟩
theorem lY {Q:List xK->xO->Prop}{d:Addr}{ns:List Int}(hh:A.handled=none)(x:SetI w d ns s.heap)(hlen:ns.length<=xV)
  (hQ:∀h' tk d' acc ms,(∀b o,s.heap.get? b=some o->h'.get? b=some o)->IntsAre acc ms->ms.Perm ns->Q acc { s with heap:=h',toks:=tk,drawn:=d' }):yb (model prog w) A (collect (.ref d)) Q E s:=by
 unfold collect
 refine xI (wpAny_runValue (codeAny_builtin F.entry_proto_collect ?_))
 rw[Around.under_plainId F.plain_proto_collect _]
 show yb _ A.in1 (newList [] >>= λ l=>again (.builtin "list.__iadd__" ⟨[l,.ref d],[]⟩)) _ _ s
 refine xI (yF (xN ⟨plainId_quiet F.plain_list_iadd _,codeAny_builtin F.entry_list_iadd ?_⟩))
 rw[Around.under_plainId F.plain_list_iadd _]
 show yb _ A.in1 (Builtin.List.listExtendWith (.ref s.heap.objs.size) (.ref d) (.ref s.heap.objs.size)) _ _ _
 have hS:(s.heap.push { cls:=.type "list",data:=.seq ([]:List xK).toArray }).get? s.heap.objs.size=some { cls:=.type "list",data:=.seq #[] 0 }:=xW _ rfl
 have k0:∀b o,s.heap.get? b=some o->(s.heap.push { cls:=.type "list",data:=.seq ([]:List xK).toArray }).get? b=some o:=λ b o e=>xM _ e
 generalize s.heap.push { cls:=.type "list",data:=.seq ([]:List xK).toArray }=h0 at hS k0 ⊢
 have fin':∀(h':Heap) (tk:Nat) (d':Drawn) (acc:Array xK) (c':Nat) (ms:List Int),(∀b o,b≠s.heap.objs.size->h0.get? b=some o->h'.get? b=some o) ->
   h'.get? s.heap.objs.size=some { cls:=.type "list",dict:=none,data:=.seq acc c',slots:=#[] }->IntsAre acc.toList ms->ms.Perm ns ->
   yb (model prog w) A (match xK.ref s.heap.objs.size with
   | xK.ref a=>do
    match (<- load a).data with
     | Data.seq xs _=>pure xs.toList
     | _=>unsupported "internal:collect"
   | _=>unsupported "internal:collect") Q E { s with heap:=h',toks:=tk,drawn:=d' }:=λ h' tk d' acc c' ms kp e hi pm=>by
  show yb _ A (load s.heap.objs.size >>= _) _ _ _
  refine xI (wpAny_load e ?_)
  exact xN (hQ h' tk d' acc.toList ms (λ b o hb=>kp b o (yu (yd hb)) (k0 b o hb)) hi pm)
 refine y8 (oa (A:=A) (R:=λ r' s'=>r'=.ok (.ret (.ref s.heap.objs.size))/\∃h' tk d' acc c' ms,s'={ s with heap:=h',toks:=tk,drawn:=d' }/\(∀b o,b≠s.heap.objs.size->h0.get? b=some o->h'.get? b=some o) /\
   h'.get? s.heap.objs.size=some { cls:=.type "list",dict:=none,data:=.seq acc c',slots:=#[] }/\IntsAre acc.toList ms/\ms.Perm ns)
  (s:={ s with heap:=h0 }) hh (x.keep λ o e=>k0 _ o e) hlen s.heap.objs.size (.ref s.heap.objs.size) 0 hS λ h' tk d' acc c' ms kp e hi pm=>⟨rfl,h',tk,d',acc,c',ms,rfl,kp,e,hi,pm⟩) (λ fin s' h=>?_) (λ e s' h=>?_)
 ·cases fin with
  | done f =>
   obtain⟨e,h',tk,d',acc,c',ms,rfl,kp,q,hi,pm⟩:=h
   cases e
   exact fin' h' tk d' acc c' ms kp q hi pm
  | again c'=>exact⟨h.1,codeAny_mono h.2 λ r s'' hr=>by obtain⟨rfl,h',tk,d',acc,c',ms,rfl,kp,q,hi,pm⟩:=hr; exact fin' h' tk d' acc c' ms kp q hi pm⟩
 ·exact absurd h.1 (by simp)
end
end PySem
namespace L2
open PySem PySem.Spec PyProof.Rows
section
variable {X:Cx}
theorem qk {z:Heap}{n:Nat}{ob:Obj}(h:z.objs.size=n)(hf:ob.isFreed=false):(z.push ob).get? n=some ob:=h ▸ xW _ hf
theorem Inv.drawn {pins:List (Addr × Obj)}{s:xO}{σ:St}{H:Hp}(I:Inv X pins σ H s)(d:Drawn):Inv X pins σ H { s with drawn:=d } :=
 { ok:=I.ok,os:=I.os,bare:=I.bare,base:=I.base,loc:=I.loc,cell:=I.cell,free:=I.free,freeC:=I.freeC,pin:=I.pin,hok:=I.hok,len:=I.len }
theorem kP (w:World)(hc:X.calm=true)(hw:X.w=w:=by rfl):CallR X (.builtin "sorted") (λ xs H Q=>∃(p:Addr) (ns:List Int),xs=[.ref p]/\H p=some (.ext (SetI w p ns))/\ns.length<64 /\
  ∀(l:Addr) (ms:List Int),ms.Perm ns->ms.Pairwise (·<=·)->H l=none->Q (.ref l) (upd H l (.lst (ms.map V.int)))):=by
 subst hw
 intro pins s σ H xs us Q I r h
 obtain⟨p,ns,rfl,hp,h64,q⟩:=h
 obtain⟨u,rfl,ru⟩:=vals1 r
 cases ru
 obtain⟨x,_,_⟩:=I.hok p _ hp
 refine Calls.call_function_entry kind_sorted plain_sorted entry_sorted (args_sorted1 _) ?_
 unfold Builtin.«sorted»
 refine xI (m:=checkCount "sorted" 1 1 _) (xN ?_)
 refine xI (lY (A:=X.A.in1) (I.ok.hd hc) x (by rw[show xV=16777216 by decide]; omega) λ h1 tk d1 acc ms hkp hI hpm=>?_)
 have hal:acc.length<64:=by
  rw[IntsAre.length hI,hpm.length_eq]
  exact h64
 refine xI (wpAny_newList ?_)
 have hoL:(h1.push (seqObj "list" acc.toArray 0)).get? h1.objs.size=some (seqObj "list" acc.toArray 0):=xW _ rfl
 show yb _ _ _ _ _ { s with heap:=h1.push (seqObj "list" acc.toArray 0),toks:=tk,drawn:=d1 }
 refine xI (wpAny_holding (wpAny_call_entry slot_list_sort ⟨_,hoL,rfl⟩ entry_list_sort (list_sort_tree hoL hI hal λ out ns' a1 a2 a3=>⟨_,rfl,?_⟩) (args_list_sort _)))
 refine xN ⟨_,rfl,?_⟩
 have hm:=a2.length_eq
 have hm2:=hpm.length_eq
 have hv:Vals (ns'.map V.int) out.toList:=Vals.of_ints a1
 have hsz:(ns'.map V.int).length<=xV:=by rw[xQ,show xV=16777216 by decide]; omega
 have I1:Inv X pins σ H { s with heap:=h1,toks:=tk,drawn:=d1 }:=(I.kept (t':=tk) hkp).drawn d1
 have kp2:∀b ob,h1.get? b=some ob->(sortedHeap (h1.push (seqObj "list" acc.toArray 0)) h1.objs.size acc out).get? b=some ob:=by
  intro b ob e
  have hb:h1.objs.size≠b:=ze (yd e)
  unfold sortedHeap
  rw[xX _ _ hb]
  refine xM _ (xM _ ?_)
  rw[xX _ _ hb]
  exact xM _ e
 have nw:∃n,(sortedHeap (h1.push (seqObj "list" acc.toArray 0)) h1.objs.size acc out).get? h1.objs.size=some { cls:=.type "list",data:=.seq out n }:=by
  have g2:=yo (Obj.mapSeq λ _=>(#[]:Array xK)) hoL rfl
  have g3:=xM (seqObj "list" #[] 0) (xM (seqObj "tuple" acc.toArray 0) g2)
  have g4:=yo (Obj.mapSeq λ _=>out) g3 rfl
  exact⟨_,g4⟩
 obtain⟨n,nw⟩:=nw
 exact⟨.ref h1.objs.size,_,I1.laid (t':=tk) (o:=.lst (ns'.map V.int)) kp2 (xL _) ⟨hsz,out.toList,n,hv,by simpa using nw⟩,rfl,q _ ns' (a2.trans hpm) a3 (I1.hok.fresh (xL _))⟩
theorem ql (K:W.Frag)(w:World)(hc:X.calm=true)(hk:X.K=K:=by rfl)(hw:X.w=w:=by rfl):CallR X (.type "set") (λ xs H Q=>∃(p:Addr) (ns:List Int),xs=[.ref p]/\(SqL K H p (ns.map V.int)\/SqT K H p (ns.map V.int))/\ns.length<4000 /\
  ∀(l:Addr) (ms:List Int),ms.Nodup->(∀k,k∈ms↔k∈ns)->ms.length<=ns.length->H l=none->Q (.ref l) (upd H l (.ext (SetI w l ms)))):=by
 subst hk hw
 intro pins s σ H xs us Q I r h
 obtain⟨p,ns,rfl,hp,hlt,q⟩:=h
 obtain⟨u,rfl,ru⟩:=vals1 r
 cases ru
 have mem:∀(n:Nat) (k:Int),n=ns.length->(k∈onceN (λ i=>ns.getD i 0) n↔k∈ns):=by
  intro n k e
  subst e
  rw[kK,List.mem_iff_getElem]
  constructor
  ·rintro⟨j,hj,e⟩
   exact⟨j,hj,by rw[<- e]; simp[hj]⟩
  ·rintro⟨j,hj,e⟩
   exact⟨j,hj,by rw[<- e]; simp[hj]⟩
 have fin:∀(n:Nat) (h':Heap) (tk:Nat),n=ns.length->SetI X.w s.heap.objs.size (onceN (λ i=>ns.getD i 0) n) h'->(∀b o,s.heap.get? b=some o->h'.get? b=some o)->EP X pins σ Q (.ref s.heap.objs.size) { s with heap:=h',toks:=tk }:=by
  intro n h' tk e x kp
  have ol:=gT (λ i=>ns.getD i 0) n
  refine⟨.ref s.heap.objs.size,_,I.laid (t':=tk) (o:=.ext (SetI X.w s.heap.objs.size (onceN (λ i=>ns.getD i 0) n))) kp (xL _) ⟨x,?_,λ h1 h2 x k=>x.keep k⟩,rfl,q _ _ (mR _ _) (λ k=>mem n k e) (by omega) (I.hok.fresh (xL _))⟩
  obtain⟨o,_,_,_,e,_⟩:=x
  exact⟨o,e⟩
 have hd3:∀B:Around,B.handled=none->B.in1.in1.in1.handled=none:=λ B h=>by simp[h]
 rcases hp with hp | hp
 ·obtain⟨its,rv,pl,hz⟩:=I.list hp
  obtain⟨o,ho,hcl,n,hd⟩:=pl.isList
  obtain⟨oc,odi,oda,osl⟩:=o
  simp only at hcl hd
  subst hcl hd
  have hl:=rv.length
  rw[xQ] at hl
  have hpl:p<s.heap.objs.size:=yd ho
  exact kL (s:=s) (ns:=ns) ho PySem.F.sub_list_set PySem.F.sub_list_frozenset (by decide) (by simpa using IntsAre.of_vals rv) (by rw[show scanBound=4096 from rfl,xU]; omega)
   (λ {A' E' Q' z} e h=>wpAny_pyIter_list ⟨_,e,rfl,_,rfl⟩ h) (Walks.list (hd3 _ (I.ok.hd hc)) _ p (yu (zG hpl)) its.toArray)
   (λ z hz e=>⟨⟨_,qk hz rfl,rfl,rfl⟩,⟨_,xM _ e,rfl,_,rfl⟩⟩) λ h' tk x kp=>fin _ h' tk (by rw[xU]; omega) x kp
 ·obtain⟨its,rv,pl,hz⟩:=I.tuple hp
  obtain⟨o,ho,hcl,n,hd⟩:=pl
  obtain⟨oc,odi,oda,osl⟩:=o
  simp only at hcl hd
  subst hcl hd
  have hl:=rv.length
  rw[xQ] at hl
  have hpl:p<s.heap.objs.size:=yd ho
  exact kL (s:=s) (ns:=ns) ho PySem.F.sub_tuple_set PySem.F.sub_tuple_frozenset (by decide) (by simpa using IntsAre.of_vals rv) (by rw[show scanBound=4096 from rfl,xU]; omega)
   (λ {A' E' Q' z} e h=>wpAny_pyIter_tuple ⟨_,e,rfl,_,rfl⟩ h) (Walks.tuple (hd3 _ (I.ok.hd hc)) _ p (yu (zG hpl)) its.toArray)
   (λ z hz e=>⟨⟨_,qk hz rfl,rfl,rfl⟩,⟨_,xM _ e,rfl,_,rfl⟩⟩) λ h' tk x kp=>fin _ h' tk (by rw[xU]; omega) x kp
end
def Iel (K:W.Frag)(a:Addr):It :=
 ⟨λ i H=>∃xs x,SqL K H a xs/\xs[i]? = some x,λ i H x H'=>∃T xi,x=.ref T/\H T=none/\H'=upd H T (.tup [.int (i:Nat),xi])/\∀xs,SqL K H a xs->xs[i]? = some xi,λ i H=>∃xs,SqL K H a xs/\xs.length<=i⟩
theorem og {P:yk}{w:World}{K:W.Frag}{elts:List Expr}{k:Nat}{pos:Pos}(a e it:Addr)(hne:e≠it):Turn P w K (.Tuple elts k pos) (Iel K a) [e,it] e (λ i h=>(∃old,IsEnum h e it (i:Nat) old)/\h.IsListIter it a i) where
 mem:=by simp
 obj:=λ i h st b hb=>by
  obtain⟨⟨old,he⟩,o,ho,hc,hd⟩:=st
  rcases xR.mp hb with z | z
  ·subst z
   exact⟨_,he,λ v z=>by cases z⟩
  ·have z':b=it:=by simpa using z
   subst z'
   exact⟨o,ho,λ v z=>by rw[hd] at z; cases z⟩
 keep:=λ i h h' st kp=>by
  obtain⟨⟨old,he⟩,hi⟩:=st
  exact⟨⟨old,kp e (by simp) _ he⟩,hi.at λ o q=>kp it (by simp) o q⟩
 item:=by
  intro X hP hw hK hc i pins s σ H E I hf st hg
  subst hP hw hK
  obtain⟨⟨old,he⟩,hi⟩:=st
  obtain⟨xs,x,hq,hx⟩:=hg
  obtain⟨its,rv,p,hz⟩:=I.list hq
  obtain⟨u,hu,ru⟩:=rv.get hx
  refine wpAny_pyNext_enum_item he hi p.isList (x:=u) (by simpa using hu) hne λ h1 eo i1 t1 _ kp=>⟨_,rfl,wpAny_letOwnedTupleGo_enum eo λ h2 en sb=>?_⟩
  have elt:e<s.heap.objs.size:=yd he
  have ilt:it<s.heap.objs.size:=by obtain⟨_,q,_⟩:=hi; exact yd q
  have kp2:∀b o,b≠e->b≠it->s.heap.get? b=some o->h2.get? b=some o:=λ b o n1 n2 q=>(sb.2 b n1).trans (kp b o n1 n2 q)
  have i2:h2.IsListIter it a (i+1):=i1.at λ o q=>(sb.2 it (Ne.symm hne)).trans q
  have t2:h2.get? s.heap.objs.size=some { cls:=.type "tuple",data:=.seq #[.int i s.toks,u] }:=(sb.2 _ (ze elt)).trans t1
  obtain⟨f0,f1,f2,f3,f4,f5⟩:=hf it (by simp)
  obtain⟨g0,g1,g2,g3,g4,g5⟩:=hf e (by simp)
  obtain⟨oi,hoi,hci,hdi⟩:=id i2
  obtain⟨o0,ho0,_⟩:=id hi
  have m1:(s.heap.update it λ _=>oi).get? it=some oi:=yo (λ _=>oi) ho0 (Obj.isFreed_of_fields hdi)
  have I1:Inv X pins σ H { s with heap:=s.heap.update it λ _=>oi,toks:=s.toks+1 }:=I.turned (λ b o hb q=>(xX _ _ (Ne.symm hb)).trans q) f0 f1 f3 f4 f5
  have aux:∀b o,b≠e->(s.heap.update it λ _=>oi).get? b=some o->h2.get? b=some o:=λ b o hb q=>by
   by_cases hbi:b=it
   ·subst hbi
    rw[m1] at q
    cases q
    exact hoi
   ·exact kp2 b o hb hbi ((xX _ _ (Ne.symm hbi)).symm.trans q)
  have I2:Inv X pins σ H { s with heap:=h2,toks:=s.toks+1 }:=Inv.turned (s:={ s with heap:=s.heap.update it λ _=>oi,toks:=s.toks+1 }) (h':=h2) (t':=s.toks+1) I1 aux g0 g1 g3 g4 g5
  obtain⟨p0,p1,p2,p3,p4,p5⟩:=I.fpOk (xL s.heap.objs.size) (I.hok.fresh (xL _))
  have I3:Inv X pins σ (upd H s.heap.objs.size (.tup [.int (i:Nat),x])) { s with heap:=h2,toks:=s.toks+1 } :=
   I2.track (o:=.tup [.int (i:Nat),x]) t2 p0 p1 p3 p4 p5 ⟨by show 2<=xV; decide,[.int i s.toks,u],.cons ⟨_,rfl⟩ (.cons ru .nil),⟨_,t2,rfl,_,rfl,rfl⟩⟩
  refine⟨.ref s.heap.objs.size,_,I3,rfl,⟨_,x,rfl,p0,rfl,λ ys hy=>by rw[I.list_inj hy hq]; exact hx⟩,⟨⟨u,by simpa using en⟩,i2⟩,λ b hb=>?_⟩
  have hbn:b≠s.heap.objs.size:=by
   rcases xR.mp hb with z | z
   ·rw[z]; exact yu elt
   ·have z':b=it:=by simpa using z
    rw[z']; exact yu ilt
  rw[ag hbn]
  exact (hf b hb).1
 done:=by
  intro X hP hw hK hc i pins s σ H E I hf st hg
  subst hP hw hK
  obtain⟨⟨old,he⟩,hi⟩:=st
  obtain⟨xs,hq,hx⟩:=hg
  obtain⟨its,rv,p,hz⟩:=I.list hq
  obtain⟨f0,f1,f2,f3,f4,f5⟩:=hf it (by simp)
  have hl:=rv.length
  exact wpAny_pyNext_enum_end (I.ok.hd hc) he hi p.isList (by simp; omega) λ h' eb=>⟨rfl,I.turned (t':=s.toks) (λ b o hb q=>eb b o hb q) f0 f1 f3 f4 f5⟩
 self:=λ _ _ _ _ _ st h=>by
  obtain⟨⟨old,he⟩,_⟩:=st
  exact wpAny_pyIter_enum he h
section
variable {X:Cx}{elts:List Expr}{k:Nat}{tpos:Pos}
def sB (K:W.Frag)(te:TE):TE:=λ σ H Q=>te σ H λ x H1=>∃(p:Addr) (ns:List Int),x=.ref p/\(SqL K H1 p (ns.map V.int)\/SqT K H1 p (ns.map V.int))/\ns.length<64 /\
 ∀(l:Addr) (ms:List Int) (H2:Hp),Ext [] H1 H2->H1 l=none->H2 l=some (.lst (ms.map V.int))->ms.Pairwise (· < ·)->(∀k,k∈ms↔k∈ns)->ms.length<=ns.length->Q (.ref l) H2
def tMono (te:TE):TE:=λ σ H Q=>∃D:VK,te σ H D/\∀x H1,D x H1->Q x H1
theorem QE.mono {e:Expr}{te:TE}(he:QE X e te):QE X e (tMono te):=⟨λ pins s σ H Q I ⟨D,h,k⟩=>thn (he.run pins s σ H D I h) λ v s1 ⟨x,H1,I1,r1,q1⟩=>⟨x,H1,I1,r1,k x H1 q1⟩⟩
theorem gU {l:List Int}(h:l.Pairwise (·<=·))(d:l.Nodup):l.Pairwise (· < ·):=by
 have:=h.and d
 exact this.imp λ {a b} ⟨h1,h2⟩=>by omega
theorem kQ (K:W.Frag){e:Expr}{te:TE}{p1 p2 q1 q2:Pos}(hc:X.calm=true)(g1:Gl X "sorted")(m1:X.mg "sorted" = none)(g2:Gl X "set")(m2:X.mg "set" = none)(he:QE X e te)(hk:X.K=K:=by rfl)(hs:aJ e=true:=by rfl) :
  QE X (.Call (.Name "sorted" p1) [.Call (.Name "set" p2) [e] [] q2] [] q1) (sB K te):=by
 have inner:=cI (p:=p2) (pos:=q2) (ql K X.w hc hk rfl) g2 m2 (by decide +kernel) (qa_c he.mono aC hs)
 have outer:=a8 (p:=p1) (pos:=q1) (kP X.w hc rfl) g1 m1 (by decide +kernel) (qa_c inner aC)
 refine outer.weaken λ σ H Q h=>?_
 refine⟨_,h,λ x H1 ⟨p,ns,e1,e2,e3,q⟩=>⟨p,ns,by rw[e1],e2,by omega,λ l ms nd mm ml hl=>⟨l,ms,rfl,af,by omega,λ l2 ms2 pm ps h2=>?_⟩⟩⟩
 refine q l2 ms2 _ (Ext.trans (.new hl) (.new h2)) ?_ af (gU ps (pm.nodup_iff.mpr nd)) (λ k=>(pm.mem_iff).trans (mm k)) (by rw[pm.length_eq]; exact ml)
 cases z:H1 l2 with
 | none=>rfl
 | some o=>exact absurd h2 (by rw[(Ext.new (S:=[]) hl).keep l2 o (by simp) z]; simp)
end
theorem cK:∀{ms ns:List Int},ms.Nodup->(∀k∈ms,k∈ns)->ms.length<=ns.length
 | [],_,_,_=>yY _
 | m::ms,ns,nd,h=>by
  have hm:=h m (ya ..)
  obtain⟨n1,n2⟩:=zu.mp nd
  have ih:=cK (ms:=ms) (ns:=ns.erase m) n2 λ k hk=>(List.mem_erase_of_ne (λ (z:k=m)=>n1 (z ▸ hk))).mpr (h k (xT _ hk))
  rw[List.length_erase_of_mem hm] at ih
  have:=List.length_pos_of_mem hm
  simp only[xP]
  omega
end L2
namespace L2
open PySem
mutual
theorem Rep.more {S:List Addr}{H:Hp}{p:Addr}(hp:H p=none):∀{d:xH} {v:V},Rep S H d v->Rep (p::S) H d v
 | .none,_,h=>h
 | .bool _,_,h=>h
 | .int _,_,h=>h
 | .str _,_,h=>h
 | .tuple ds,_,h=>by
  unfold Rep at h ⊢
  obtain⟨a,xs,e,ha,hr⟩:=h
  exact⟨a,xs,e,ha,Reps.more hp hr⟩
 | .list ds,_,h=>by
  unfold Rep at h ⊢
  obtain⟨a,xs,e,ha,hs,hr⟩:=h
  refine⟨a,xs,e,ha,λ z=>?_,Reps.more hp hr⟩
  rcases xR.mp z with z | z
  ·rw[z,hp] at ha; cases ha
  ·exact hs z
 | .dict _,_,h=>h
theorem Reps.more {S:List Addr}{H:Hp}{p:Addr}(hp:H p=none):∀{ds:List xH} {vs:List V},Reps S H ds vs->Reps (p::S) H ds vs
 | [],_,h=>h
 | d::ds,_,h=>by
  unfold Reps at h ⊢
  obtain⟨y,r,e,h1,h2⟩:=h
  exact⟨y,r,e,Rep.more hp h1,Reps.more hp h2⟩
end
end L2
namespace L2
open PySem PySem.Spec PyProof.Rows
section
variable {X:Cx}
def wS (t:TT):TT:=λ σ H Q=>∃D:Bool->Hp->Prop,t σ H D/\∀b H1,D b H1->Q b H1
theorem QT.mono {e:Expr}{t:TT}(he:QT X e t):QT X e (wS t):=⟨λ pins s σ H Q I ⟨D,h,k⟩=>thn (he.run pins s σ H D I h) λ b s1 ⟨H1,I1,q1⟩=>⟨H1,I1,k b H1 q1⟩⟩
end
structure ExcAt (h:Heap) (x:Addr) (cls:xK) (od tb:Option Addr):Prop where
 obj:∃oe vs,h.get? x=some oe/\oe.cls=cls/\oe.dict=od/\oe.data=.fields vs/\vs[1]? = some (tb.elim xK.none xK.ref)
 hd:∀T,tb=some T->T≠x/\∃oT ts,h.get? T=some oT/\oT.data=.fields ts/\ts[3]? = some .none
structure Noted (fs:List Addr) (x:Addr) (tb:Option Addr) (h h':Heap):Prop where
 keep:∀b o,h.get? b=some o->b≠x->tb≠some b->b ∉ fs->h'.get? b=some o
 slot:∀b o,h.get? b=some o->b∈fs->∃sl,h'.get? b=some { o with slots:=sl }
 there:∀b o,h.get? b=some o->∃o',h'.get? b=some o'
section
variable {M:Model}{A:Around}{E:xK->xO->Prop}{s:xO}
theorem gW {h base:Heap}{l:List Env}(hl:h.FunFrames base l){b:Addr}{o:Obj}{vs:Array xK}(ho:h.get? b=some o)(hd:o.data=.fields vs):b ∉ frs l:=λ hm=>by
 obtain⟨_,o',ho',hn⟩:=hl.mem hm
 rw[ho] at ho'
 cases ho'
 exact hn vs hd
theorem gf {base:Heap}{env:Env}{outer:List Env}{L x:Addr}{oe:Obj}{vs:Array xK}{head:xK}{had:Bool}{Q:Unit->xO->Prop}
  (hfr:A.frames=some (env::outer)) (hl:s.heap.FunFrames base (env::outer)) (hf:env.frame=some L) (he:s.heap.get? x=some oe) (hd:oe.data=.fields vs) (hsz:1<vs.size)
  (h:∀h' T,s.heap.objs.size<=T->Noted (frs (env::outer)) x none s.heap h'->ExcAt h' x oe.cls oe.dict (some T)->Q () { s with heap:=h' }) :
  yb M A (do setField (.ref x) 1 (<- EntryCells.newEntry head (<- frameOf env) .none (rawInt L) .none (<- entryPlaceOf L had))) (λ _ s'=>yb M A (setFlight (.ref x) none) Q E s') E s:=by
 have hxf:x ∉ frs (env::outer):=gW hl he hd
 refine xI (wpAny_frameOf_fun hfr hl hf λ g hg=>xI (wpAny_entryPlaceOf λ pl hpl=>?_))
 unfold EntryCells.newEntry newFields
 refine xI (yF ?_ (hpl.sizeOk5 _ _ _ _ _))
 have hx1:g.get? x=some oe:=(hg.2.1 x hxf).trans he
 generalize hnew:([head,xK.ref L,.none,rawInt L,.none]++(if pl.isEmpty then List.replicate 6 xK.none else pl)).toArray=fs5
 have h3:3<fs5.size:=by
  rw[<- hnew]
  simp only[xU,yB,xP]
  omega
 have hx2:=xM (h:=g) { cls:=.type "traceback",dict:=none,data:=.fields fs5 } hx1
 have hT2:(g.push { cls:=.type "traceback",dict:=none,data:=.fields fs5 }).get? g.objs.size=some { cls:=.type "traceback",dict:=none,data:=.fields fs5 }:=xW g rfl
 have hTx:g.objs.size≠x:=ze (yd hx1)
 refine wpAny_setField hx2 hd hsz ?_
 have hd3:=Obj.data_mapFields hd (·.setIfInBounds 1 (xK.ref g.objs.size))
 have hx3:=yo (Obj.mapFields (·.setIfInBounds 1 (xK.ref g.objs.size))) hx2 (Obj.isFreed_of_fields hd3)
 have hT3:=(xX (g.push { cls:=.type "traceback",dict:=none,data:=.fields fs5 }) (Obj.mapFields (·.setIfInBounds 1 (xK.ref g.objs.size))) hTx.symm).trans hT2
 have ot3:∀b,b≠x->((g.push { cls:=.type "traceback",dict:=none,data:=.fields fs5 }).update x (Obj.mapFields (·.setIfInBounds 1 (xK.ref g.objs.size)))).get? b=(g.push { cls:=.type "traceback",dict:=none,data:=.fields fs5 }).get? b:=λ b hb=>xX _ _ (Ne.symm hb)
 have v1:(vs.setIfInBounds 1 (xK.ref g.objs.size))[1]? = some (xK.ref g.objs.size):=by simp[hsz]
 have dsame:(Obj.mapFields (·.setIfInBounds 1 (xK.ref g.objs.size)) oe).dict=oe.dict:=by
  unfold Obj.mapFields
  split <;> rfl
 generalize (g.push { cls:=.type "traceback",dict:=none,data:=.fields fs5 }).update x (Obj.mapFields (·.setIfInBounds 1 (xK.ref g.objs.size)))=g3 at hx3 hT3 ot3 ⊢
 unfold setFlight
 refine xI (wpAny_field hx3 hd3 (x:=.ref g.objs.size) v1 ?_)
 rw[if_pos (show (xK.ref g.objs.size != xK.none)=true by simp)]
 refine wpAny_setField hT3 rfl h3 ?_
 have hnone:s.heap.get? g.objs.size=none:=by
  rw[hg.1]
  exact Heap.get?_none_of_le (xL _)
 refine h _ g.objs.size (Nat.le_of_eq hg.1.symm) ⟨λ b o hb hbx _ hbf=>?_,λ b o hb hbf=>?_,λ b o hb=>?_⟩ ⟨⟨_,_,(xX _ _ hTx).trans hx3,Obj.cls_mapFields _ _,dsame,hd3,v1⟩,λ T eT=>?_⟩
 ·have hbT:g.objs.size≠b:=λ z=>by rw[<- z,hnone] at hb; cases hb
  have:g.get? b=some o:=(hg.2.1 b hbf).trans hb
  exact (xX _ _ hbT).trans ((ot3 b hbx).trans (xM _ this))
 ·have hbT:g.objs.size≠b:=λ z=>by rw[<- z,hnone] at hb; cases hb
  have hbx:b≠x:=λ z=>hxf (z ▸ hbf)
  obtain⟨sl,e⟩:=hg.2.2 b o hb
  exact⟨sl,(xX _ _ hbT).trans ((ot3 b hbx).trans (xM _ e))⟩
 ·have hbT:g.objs.size≠b:=λ z=>by rw[<- z,hnone] at hb; cases hb
  obtain⟨sl,e⟩:=hg.2.2 b o hb
  by_cases hbx:b=x
  ·exact⟨_,(xX _ _ hbT).trans (hbx ▸ hx3)⟩
  ·exact⟨_,(xX _ _ hbT).trans ((ot3 b hbx).trans (xM _ e))⟩
 ·cases eT
  exact⟨hTx,_,_,yo _ hT3 (Obj.isFreed_of_fields (Obj.data_mapFields rfl _)),Obj.data_mapFields rfl _,by simp[h3]⟩
theorem gX {base:Heap}{env:Env}{outer:List Env}{L x:Addr}{cls:xK}{od tb:Option Addr}{Q:Unit->xO->Prop}
  (hfr:A.frames=some (env::outer)) (hl:s.heap.FunFrames base (env::outer)) (hf:env.frame=some L) (e:ExcAt s.heap x cls od tb)
  (h:∀h' T,s.heap.objs.size<=T->Noted (frs (env::outer)) x tb s.heap h'->ExcAt h' x cls od (some T)->Q () { s with heap:=h' }) :
  yb M A (noteFrame (.ref x) env) (λ _ s'=>yb M A (setFlight (.ref x) none) Q E s') E s:=by
 obtain⟨⟨oe,vs,he,rfl,rfl,hd,h1⟩,ht⟩:=e
 have hsz:1<vs.size:=(Ac.mp h1).1
 unfold noteFrame
 simp only[hf]
 refine xI (wpAny_field he hd h1 ?_)
 cases tb with
 | none =>
  rw[if_neg (show ¬ ((none:Option Addr).elim xK.none xK.ref != xK.none)=true by decide)]
  exact gf hfr hl hf he hd hsz h
 | some T =>
  obtain⟨hTx,oT,ts,hT,hdT,h3⟩:=ht T rfl
  have h3s:3<ts.size:=(Ac.mp h3).1
  rw[if_pos (show ((some T:Option Addr).elim xK.none xK.ref != xK.none)=true by simp)]
  refine xI (wpAny_field hT hdT h3 ?_)
  rw[if_neg (show ¬ (xK.none == rawInt L)=true by simp[rawInt])]
  refine xI (wpAny_setField hT hdT h3s ?_)
  have ot:∀b,b≠T->(s.heap.update T (Obj.mapFields (·.setIfInBounds 3 xK.none))).get? b=s.heap.get? b:=λ b hb=>xX _ _ (Ne.symm hb)
  have hT':=yo (Obj.mapFields (·.setIfInBounds 3 xK.none)) hT (Obj.isFreed_of_fields (Obj.data_mapFields hdT _))
  have hTf:T ∉ frs (env::outer):=gW hl hT hdT
  have hgs:(s.heap.update T (Obj.mapFields (·.setIfInBounds 3 xK.none))).objs.size=s.heap.objs.size:=Heap.size_after_update ..
  generalize hg:s.heap.update T (Obj.mapFields (·.setIfInBounds 3 xK.none))=g at ot hT' hgs ⊢
  have hl':g.FunFrames base (env::outer):=hl.of_keeps λ b o hb hn=>⟨o,(ot b λ z=>by rw[z,hT] at hb; cases hb; exact hn ts hdT).trans hb,rfl⟩
  refine gf (s:={ s with heap:=g }) hfr hl' hf ((ot x hTx.symm).trans he) hd hsz λ h' T' hn nt ea=>h h' T' (hgs ▸ hn) ⟨λ b o hb hbx hbT hbf=>?_,λ b o hb hbf=>?_,λ b o hb=>?_⟩ ea
  ·have:b≠T:=λ z=>hbT (by rw[z])
   exact nt.keep b o ((ot b this).trans hb) hbx (by simp) hbf
  ·have:b≠T:=λ z=>hTf (z ▸ hbf)
   exact nt.slot b o ((ot b this).trans hb) hbf
  ·by_cases z:b=T
   ·subst z
    exact nt.there b _ hT'
   ·exact nt.there b o ((ot b z).trans hb)
end
def xfly (x:Addr)(cls:xK)(od:Option Addr):Heap->Prop:=λ h=>∃oe vs,h.get? x=some oe/\oe.cls=cls/\oe.dict=od/\oe.data=.fields vs
theorem ExcAt.fly {h:Heap}{x:Addr}{cls:xK}{od tb:Option Addr}(e:ExcAt h x cls od tb):xfly x cls od h:=let ⟨oe,vs,a,b,c,d,_⟩:=e.obj; ⟨oe,vs,a,b,c,d⟩
theorem qm {P:yk}{w:World}{H:Hp}{h:Heap}{x:Addr}{cls:xK}{od:Option Addr}(r:xfly x cls od h):ObjOk P w H h x (.ext (xfly x cls od)):=by
 refine⟨r,let ⟨oe,_,e,_⟩:=r; ⟨oe,e⟩,λ h1 h2 ⟨oe,vs,e,r⟩ k=>⟨oe,vs,k _ e,r⟩⟩
def CX1 (P:yk)(w:World):CXT:=λ outer H s E e s'=>∃(x:Addr) (cls:xK) (od:Option Addr) (T:Addr) (H':Hp),e=.ref x/\s'.os=s.os/\AllBare s'.gens/\Un (frs outer) [] H H' s.heap s'.heap/\HOk P w H' s'.heap /\
 H' x=some (.ext (xfly x cls od))/\H' T=none/\s.heap.objs.size<=x/\s.heap.objs.size<=T/\ExcAt s'.heap x cls od (some T)/\E cls od H'
def XP (X:Cx)(pins:List (Addr × Obj))(σ:St)(E:XK)(e:xK)(s':xO):Prop:=∃(x:Addr) (cls:xK) (od tb:Option Addr) (H':Hp),e=.ref x/\Inv X pins σ H' s'/\H' x=some (.ext (xfly x cls od))/\X.s₀.heap.objs.size<=x/\(∀p∈X.pn++pins,p.1≠x) /\
 (∀T,tb=some T->H' T=none/\X.s₀.heap.objs.size<=T/\∀p∈X.pn++pins,p.1≠T)/\ExcAt s'.heap x cls od tb/\E cls od H'
def gY (X:Cx)(E:XK):Prop:=∀(pins:List (Addr × Obj)) (σ:St) (e:xK) (s':xO),XP X pins σ E e s'->X.xe e s'
section
variable {X:Cx}{pins:List (Addr × Obj)}{σ:St}{H:Hp}{s s':xO}{E:XK}{e:xK}
theorem xp_of (I:Inv X pins σ H s)(h:CX1 X.prog X.w X.stack H s E e s'):XP X pins σ E e s':=by
 obtain⟨x,cls,od,T,H',rfl,os,bare,un,hok,nx,nT,sx,sT,ea,q⟩:=h
 have sz:=I.sz
 have lt:∀p∈X.pn++pins,p.1<s.heap.objs.size:=λ p hp=>yd (I.pin p hp).1
 refine⟨x,cls,od,some T,H',rfl,I.call' os un hok bare (λ b z=>absurd z (by simp)),nx,yv sz sx,λ p hp z=>absurd (z ▸ lt p hp) (Am.mpr sx),λ T' eT=>?_,ea,q⟩
 cases eT
 exact⟨nT,yv sz sT,λ p hp z=>absurd (z ▸ lt p hp) (Am.mpr sT)⟩
theorem vo {env:Env}{outer:List Env}{L b:Addr}(hf:env.frame=some L)(h:b∈frs (env::outer)):b=L\/b∈frs outer:=by
 unfold frs at *
 rw[zc,hf] at h
 exact xR.mp h
theorem vp {env:Env}{outer:List Env}{b:Addr}(h:b∈frs outer):b∈frs (env::outer):=by
 unfold frs at *
 rw[zc]
 split
 ·exact h
 ·exact xT _ h
theorem HOk.noted {P:yk}{w:World}{h h':Heap}{fs:List Addr}{x:Addr}{cls:xK}{od tb:Option Addr}(ok:HOk P w H h)(nt:Noted fs x tb h h')(nx:H x=some (.ext (xfly x cls od)))(fl:xfly x cls od h')(nT:∀T,tb=some T->H T=none)(nf:∀b∈fs,H b=none):HOk P w H h':=λ a o e=>by
 have key:∀b (u:HO),b≠x->H b=some u->∀v,h.get? b=some v->h'.get? b=some v:=λ b u hbx hb v hv =>
  nt.keep b v hv hbx (λ z=>by rw[nT b z] at hb; cases hb) λ z=>by rw[nf b z] at hb; cases hb
 by_cases hax:a=x
 ·subst hax
  rw[nx] at e
  cases e
  exact qm fl
 ·refine (ok a o e).stay (λ b v hb q=>?_) (λ b q=>q) λ b xs q=>q
  rcases hb with rfl | hb
  ·exact key b o hax e v q
  ·exact key b _ (λ z=>by rw[z,nx] at hb; cases hb) hb v q
end
theorem qo {P:yk}{w:World}{K:W.Frag}{mg:Str->Option xK}{base:Heap}{N:List Str}{qual:Str}{scope:Scope}{f:Addr}{cd:xK}{A:Around}{outer:List Env}{s:xO}{H:Hp}{E:XK} :
  gY (cxOf (CX1 P w) P w K mg base N qual scope f cd A outer s H E) E:=by
 rintro pins σ e s' ⟨x,cls,od,tb,H',rfl,I,nx,sx,px,hT,ea,q⟩
 have frames:=I.ok.frames
 have stack:=I.stack
 have free:=I.stkFree
 show yb _ _ (leaving _ _) _ _ _
 unfold leaving
 have bs:Un (frs outer) [] H H' s.heap s'.heap:=I.base
 have above:s.heap.objs.size<=s.heap.objs.size:=xL _
 refine xI (gX frames stack rfl ea λ h' T' hn nt ea'=>⟨x,cls,od,T',H',rfl,I.os,I.bare,?_,I.hok.noted nt nx ea'.fly (λ T e=>(hT T e).1) free,nx,?_,sx,?_,ea',q⟩)
 ·have out:∀b (o:Obj),s.heap.get? b=some o->b≠x/\tb≠some b/\b≠s.heap.objs.size:=λ b o hb=>by
   have lt:=yd hb
   exact⟨λ z=>absurd (z ▸ lt) (Am.mpr sx),λ z=>absurd lt (Am.mpr (hT b z).2.1),λ z=>absurd (z ▸ lt) (y6 _)⟩
  refine⟨λ b o hb n hf hx=>?_,λ b o hb n hf hx=>?_,bs.free,λ b o hb hx=>?_,bs.tups,bs.frzs,bs.tbls⟩
  ·obtain⟨o1,o2,o3⟩:=out b o hb
   exact nt.keep b o (bs.keep b o hb n hf hx) o1 o2 λ z=>(vo rfl z).elim o3 hf
  ·obtain⟨sl,e1⟩:=bs.slot b o hb n hf hx
   obtain⟨sl',e2⟩:=nt.slot b _ e1 (vp hf)
   exact⟨sl',e2⟩
  ·obtain⟨o',e1⟩:=bs.there b o hb hx
   exact nt.there b o' e1
 ·exact I.hok.fresh hn
 ·exact yv I.sz hn
section
variable {P:yk}{w:World}{K:W.Frag}{mg:Str->Option xK}{base:Heap}
theorem Fun.okX {x qual:Str}{st:Stmt}{f:Addr}{fd:yM}{N ps:List Str}{k:Nat}{sp:Sp}(F:Fun K x qual st f fd)(S:FnScope N ps (ac st))(len:∀vs H Q E,sp vs H Q E->vs.length=ps.length)
  (hbody:∀(cdv:xK) (A:Around) (outer:List Env) (s:xO) (H:Hp) (vs:List V) (Q:VK) (E:XK),Room k (A.deeper (envOfC qual (ac st) s.heap.objs.size f cdv))->sp vs H Q E ->
   ∃t,QSs (cxOf (CX1 P w) P w K mg base N qual (ac st) f cdv A outer s H E) (aB st) t/\t { nx:=λ _ H'=>Q .non H',rt:=Q } (start N vs) H):FnOk P w K mg base (CX1 P w) (k+1) f fd ps sp:=by
 obtain⟨oc,od,kV,doc,pm,an,cdv,ct,osl,rfl,lk,hcd⟩:=F.ex
 refine fn_of lk hcd S len λ A outer s H vs Q E hr hsp=>?_
 obtain⟨t,h,q⟩:=hbody cdv A outer s H vs Q E hr hsp
 exact⟨t,h.run,q⟩
structure DefX (P:yk) (w:World) (K:W.Frag) (mg:Str->Option xK) (base:Heap) (k:Nat) (x:Str) (ps:List Str) (sp:Sp):Prop where
 ex:∃(f:Addr) (fd:yM),FnOk P w K mg base (CX1 P w) k f fd ps sp/\mg x=some (.ref f)/\W.keepIn K (.ref f)=true/\Binds K fd ps []
theorem FnOk.lift {k:Nat}{f:Addr}{fd:yM}{ps:List Str}{sp:Sp}(F:FnOk P w K mg base CX0 k f fd ps sp):FnOk P w K mg base (CX1 P w) k f fd ps sp :=
 ⟨F.len,λ A outer s H args us vs Q E hr he hb hv hs=>codeAny_mono (F.run A outer s H args us vs Q E hr he hb hv hs) λ r s' h=>by
  cases r with
  | error e=>exact False.elim h
  | ok fl=>cases fl <;> exact h⟩
theorem DefOk.lift {k:Nat}{x:Str}{ps:List Str}{sp:Sp}(D:DefOk P w K mg base k x ps sp):DefX P w K mg base k x ps sp :=
 let ⟨f,fd,F,r⟩:=D.ex
 ⟨f,fd,F.lift,r⟩
end
def mV (sp:Sp)(E:XK)(t:TA):TE:=λ σ H Q=>t σ H λ vs H1=>sp vs H1 Q E
theorem qp (sp:Sp)(E:XK)(t:TA):tCall sp [] E t=mV sp E t:=by
 funext σ H Q
 unfold tCall mV
 simp only[y0]
section
variable {X:Cx}{k:Nat}{x:Str}{ps:List Str}{sp:Sp}{E:XK}{e:Expr}{es:List Expr}{t:TA}{p pos:Pos}
theorem sC (E:XK)(D:DefX X.prog X.w X.K X.mg X.base k x ps sp)(hr:Room k X.A)(hl:gY X E)(ha:QA X (e::es) t)(hg:Gl X x:=by rfl)(hdb:(x == ("__debug__" : Str))=false:=by decide) :
  QE X (.Call (.Name x p) (e::es) [] pos) (mV sp E t):=by
 obtain⟨f,fd,F,hm,hk,hb⟩:=D.ex
 rw[<- qp]
 exact⟨pk F hr hg hm hk hb .nil (λ pins σ H s e s' I h=>hl pins σ e s' (xp_of I h)) ha.run hdb (au (ns_hd ha.ns).1) (be (ns_hd ha.ns).2)⟩
end
structure ClsX (K:W.Frag) (C:Addr):Prop where
 ga:W.findIn K (.ref C) "__getattribute__" = some (some (.builtin "BaseException.__getattribute__"))
 gh:W.findIn K (.ref C) "__getattr__" = some none
 sa:W.findIn K (.ref C) "__setattr__" = some (some (.builtin "object.__setattr__"))
 hd:W.hasDictIn K C=true
 isx:W.mroIn K C (.type "BaseException")=some true
 iso:W.mroIn K C (.type "object")=some true
section
variable {prog:yk}{w:World}{A:Around}{E:xK->xO->Prop}{K:W.Frag}{x C dx:Addr}{o:Obj}{mA:Str->Option xK}{name:Str}{v:xK}
theorem tU:builtinKind "BaseException.__getattribute__" = some .slot:=by decide +kernel
theorem qu:splitId "BaseException.__getattribute__" = some ("BaseException", "__getattribute__"):=by decide +kernel
theorem lZ {s:xO}{tk:Tok}{R:Result->xO->Prop}{od:Obj}(X:K.In s.heap)(c:ClsX K C)(I:W.InstAt s.heap x o C (some od))(na:W.findIn K (.ref C) name=some none)(hv:W.lookIn name od=some (some v))
  (q:R (.ok (.ret v)) s):codeAny (model prog w) A (.call (.builtin "BaseException.__getattribute__") ⟨[.ref x,.str name tk],[]⟩) R s:=by
 have L4:=W.looks_mroIn (M:=model prog w) X c.isx
 have L5:=W.looks_find (M:=model prog w) X I (W.findObj_own (attr:=none) c.hd na rfl hv)
 have L0:=I.type (M:=model prog w)
 refine codeAny_call_builtin PySem.F.excAttr_ValueError.ga.plain PySem.F.entry_bexc_ga ?_
 refine @W.check_slot (model prog w) _ _ s "BaseException.__getattribute__" "BaseException" "__getattribute__" (.ref x) [.str name tk] [] _ tU qu (L0.andThen L4) (PySem.F.args_bexc_ga _ _) ?_
 show yb _ _ (Builtin.«object.__getattribute__» ⟨[.ref x,.str name tk],[]⟩) _ _ _
 unfold Builtin.«object.__getattribute__»
 refine xI (xN ?_)
 exact xI (xN (xI (L0.here (xI (L5.here (xN q))))))
theorem wT {s:xO}{expr:Bool}{od:Obj}{Q:xK->xO->Prop}(X:K.In s.heap)(c:ClsX K C)(I:W.InstAt s.heap x o C (some od))(na:W.findIn K (.ref C) name=some none)(hv:W.lookIn name od=some (some v))(hh:handedOut v=pure v)
  (q:Q v { s with toks:=s.toks+1 }):yb (model prog w) A (getAttr (.ref x) name expr) Q E s:=by
 obtain⟨h,g,d,t,os⟩:=s
 have L0:=I.type (M:=model prog w)
 have L1:=W.looks_findIn (M:=model prog w) X c.ga
 have L2:=W.looks_findIn (M:=model prog w) X c.gh
 have f3:=PySem.F.excAttr_ValueError.ga.bind (.ref x)
 have hx0:(expr && onTheHeap (xK.builtin "BaseException.__getattribute__"))=false:=by cases expr <;> rfl
 have hx2:(xK.builtin "BaseException.__getattribute__" == xK.builtin "object.__getattribute__")=false:=by decide +kernel
 have hx1:(onTheHeap (xK.ref C) && xK.builtin "BaseException.__getattribute__" == xK.builtin "object.__getattribute__")=false:=by rw[hx2]; rfl
 unfold getAttr getAttrBy
 repeat (first | assumption | with_reducible refine L0.at ?_ | with_reducible refine L1.at ?_ | with_reducible refine L2.at ?_ | wp_step)
 refine lZ (s:=⟨h,g,d,t+1,os⟩) X c I na hv ?_
 show yb _ _ (handedOut v) _ _ _
 rw[hh]
 exact xN q
def gg:List xK->Bool
 | [.type a,.type b,.type c,.type d]=>a == "ValueError" && b == "Exception" && c == "BaseException" && d == "object"
 | .ref _::r=>gg r
 | _=>false
theorem kR (self:xK):∀{l:List xK},gg l=true->refuseLoop self "__setattr__" l=pure ()
 | [.type a,.type b,.type c,.type d],e=>by
  simp only[gg,yD,beq_iff_eq] at e
  obtain⟨⟨⟨rfl,rfl⟩,rfl⟩,rfl⟩:=e
  exact PySem.F.store_ValueError.passes self
 | .ref c::r,e=>by
  rw[refuseLoop_ref]
  exact kR self (by cases r <;> first | exact e | cases e)
theorem gZ {s:xO}{tk:Tok}{R:Result->xO->Prop}{od:Option Obj}{cd:ClassData}(X:K.In s.heap)(c:ClsX K C)(hcd:W.clsIn K C=some cd)(hve:gg cd.mro=true)(I:W.InstAt s.heap x o C od)(na:W.findIn K (.ref C) name=some none)
  (q:yb (model prog w) A.in1 (Builtin.ObjectAttr.storeInOwnDict (.ref x) (.ref C) (.str name tk) name v false) (λ fin s'=>match fin with | .done f=>R (.ok f) s' | .again c'=>c'.quiet=true/\codeAny (model prog w) A c' R s') (λ e s'=>R (.error e) s') s) :
  codeAny (model prog w) A (.call (.builtin "object.__setattr__") ⟨[.ref x,.str name tk,v],[]⟩) R s:=by
 have SF:=PySem.F.store_object
 have L0:=I.type (M:=model prog w)
 have L3:=W.looks_findIn (M:=model prog w) X na
 have L4:=W.looks_mroIn (M:=model prog w) X c.iso
 have L6:W.Looks (model prog w) s.heap (mroOf (.ref C)) cd.mro:=(W.looks_clsIn X hcd).andThen .now
 refine codeAny_call_builtin SF.slot.plain SF.entry ?_
 refine @W.check_slot (model prog w) _ _ s "object.__setattr__" "object" "__setattr__" (.ref x) [.str name tk,v] [] _ SF.kind SF.split (L0.andThen L4) (SF.args (.ref x) (.str name tk) v) ?_
 show yb _ _ (Builtin.«object.__setattr__» ⟨[.ref x,.str name tk,v],[]⟩) _ _ _
 rw[W.osa_eq,refuse_eq]
 refine xI (xI (L0.here (xI (L6.here ?_))))
 rw[kR _ hve]
 refine xN (xI (L0.here (xI (L3.here ?_))))
 exact xI (xN q)
theorem oh {s:xO}{Q:Unit->xO->Prop}{cd:ClassData}{vs:Array xK}(X:K.In s.heap)(c:ClsX K C)(hcd:W.clsIn K C=some cd)(hve:gg cd.mro=true)(hx:s.heap.get? x=some o)(hc:o.cls=.ref C)(hd:o.dict=none)(hf:o.data=.fields vs)(na:W.findIn K (.ref C) name=some none)
  (q:∀h' tk,h'.get? x=some { o with dict:=some s.heap.objs.size }->h'.Ns1 s.heap.objs.size (λ y=>if y=name then some v else none)->(∀b u,b≠x->s.heap.get? b=some u->h'.get? b=some u)->Q () { s with heap:=h',toks:=tk }) :
  yb (model prog w) A (setAttr (.ref x) name v) Q E s:=by
 have I:W.InstAt s.heap x o C none:=⟨hx,hc,by unfold W.notCls; rw[hf],by rw[hd]; trivial⟩
 have hhd:cd.hasDict=true:=by
  obtain⟨cd',e1,e2⟩:=W.any_some c.hd
  rw[hcd] at e1
  cases e1
  exact e2
 have hxs:x≠s.heap.objs.size:=yu (yd hx)
 refine W.set_plain X I c.sa (gZ (s:={ s with toks:=s.toks+1 }) X c hcd hve I na ?_)
 unfold Builtin.ObjectAttr.storeInOwnDict
 refine xI (xN ?_)
 show yb _ _ (Builtin.ObjectAttr.ownDictForStores (.ref x) >>= _) _ _ _
 refine xI ?_
 show yb _ _ (instanceDict x true) _ _ _
 unfold instanceDict
 refine xI (wpAny_loadPart hx ?_)
 rw[hc,hd,hf]
 refine xI (W.Looks.here (s:={ s with toks:=s.toks+1 }) (W.looks_clsIn X hcd) ?_)
 rw[hhd]
 show yb _ _ (alloc { cls:=.type "dict",data:=.dict #[] } >>= _) _ _ _
 have hx1:(s.heap.push { cls:=.type "dict",data:=.dict #[] }).get? x=some o:=xM _ hx
 have hfree:({ o with dict:=some s.heap.objs.size }:Obj).isFreed=false:=Obj.isFreed_of_fields (vs:=vs) hf
 refine xI (wpAny_alloc' ?_)
 refine xI (wpAny_update' hx1 ?_)
 refine xN ?_
 have hg1:((s.heap.push { cls:=.type "dict",data:=.dict #[] }).update x (λ o=>{ o with dict:=some s.heap.objs.size })).get? s.heap.objs.size=some { cls:=.type "dict",data:=.dict #[] }:=(Heap.get?_update_ne _ _ _ _ hxs.symm).trans (Heap.get?_push_at rfl rfl)
 have hx2:=yo (λ o=>{ o with dict:=some s.heap.objs.size }) hx1 hfree
 have ot:∀b u,b≠x->s.heap.get? b=some u->((s.heap.push { cls:=.type "dict",data:=.dict #[] }).update x (λ o=>{ o with dict:=some s.heap.objs.size })).get? b=some u:=λ b u hb hu=>(Heap.get?_update_ne _ _ _ _ hb).trans (xM _ hu)
 generalize (s.heap.push { cls:=.type "dict",data:=.dict #[] }).update x (λ o=>{ o with dict:=some s.heap.objs.size })=g at hg1 hx2 ot ⊢
 have hn0:g.Ns s.heap.objs.size (λ _=>none):=⟨_,#[],_,hg1,rfl,λ e he=>absurd he (by simp),λ _=>rfl⟩
 show yb _ _ (Builtin.ObjectAttr.storeInDict s.heap.objs.size (.str name s.toks) name v) _ _ _
 unfold Builtin.ObjectAttr.storeInDict Builtin.ObjectAttr.newKeyGuard
 refine xI (xN (xI (wpAny_nsSet1 (Heap.Ns1.of_empty hn0) λ h' hn' hs=>?_)))
 obtain⟨oD,esD,epD,hoD,hdD,hcD⟩:=hn'.count (PySem.Within.cons name v PySem.Within.nil)
 refine xI (wpAny_lookBehind hoD (by rw[hdD]; exact pastItsLine_dict (yv hcD (by rw[xP,yn,sizeLine_eq]; omega))) ?_)
 refine xN ?_
 exact q h' _ ((hs.2 x hxs).trans hx2) hn' λ b u hb hu=>(hs.2 b (yu (yd hu))).trans (ot b u hb hu)
theorem l3 {s:xO}{Q:Unit->xO->Prop}{cd:ClassData}{vs:Array xK}{ns:List Str}(X:K.In s.heap)(c:ClsX K C)(hcd:W.clsIn K C=some cd)(hve:gg cd.mro=true)(hx:s.heap.get? x=some o)(hc:o.cls=.ref C)(hd:o.dict=some dx)(hf:o.data=.fields vs)(hn:s.heap.Ns1 dx mA)(na:W.findIn K (.ref C) name=some none)
  (hw:PySem.Within mA ns) (hz:ns.length<=1000) (q:∀h' tk,h'.Ns1 dx (λ y=>if y=name then some v else mA y)->Heap.SameBut dx s.heap h'->Q () { s with heap:=h',toks:=tk }) :
  yb (model prog w) A (setAttr (.ref x) name v) Q E s:=by
 obtain⟨od,hod,_⟩:=gI hn
 have I:W.InstAt s.heap x o C (some od):=⟨hx,hc,by unfold W.notCls; rw[hf],by rw[hd]; exact hod⟩
 have hhd:cd.hasDict=true:=by
  obtain⟨cd',e1,e2⟩:=W.any_some c.hd
  rw[hcd] at e1
  cases e1
  exact e2
 refine W.set_plain X I c.sa (gZ (s:={ s with toks:=s.toks+1 }) X c hcd hve I na ?_)
 unfold Builtin.ObjectAttr.storeInOwnDict
 refine xI (xN ?_)
 show yb _ _ (Builtin.ObjectAttr.ownDictForStores (.ref x) >>= _) _ _ _
 refine xI ?_
 show yb _ _ (instanceDict x true) _ _ _
 unfold instanceDict
 refine xI (wpAny_loadPart hx ?_)
 rw[hc,hd,hf]
 refine xI (W.Looks.here (s:={ s with toks:=s.toks+1 }) (W.looks_clsIn X hcd) ?_)
 rw[hhd]
 refine xN (a:=some dx) ?_
 show yb _ _ (Builtin.ObjectAttr.storeInDict dx (.str name s.toks) name v) _ _ _
 unfold Builtin.ObjectAttr.storeInDict Builtin.ObjectAttr.newKeyGuard
 refine xI (xN (xI (wpAny_nsSet1 (s:={ s with toks:=s.toks+1 }) hn λ h' hn' hs=>?_)))
 obtain⟨oD,esD,epD,hoD,hdD,hcD⟩:=hn'.count (PySem.Within.cons name v hw)
 refine xI (wpAny_lookBehind hoD (by rw[hdD]; exact pastItsLine_dict (yv hcD (by rw[xP,sizeLine_eq]; omega))) ?_)
 exact xN (q h' _ hn' hs)
end
abbrev veMro:List xK:=[.type "ValueError",.type "Exception",.type "BaseException",.type "object"]
section
variable {prog:yk}{w:World}{A:Around}{E:xK->xO->Prop}{u:Heap}{gs:Array GenState}{dr:Drawn}{tk:Nat}{ost:OsState}
variable {nm qn:Str}{C N fI:Addr}{bs bm:List xK}{hdct:Bool}{sn:List Str}{sub:List xK}{ab:Bool}{col:Option Bool}{dd:Option Addr}{k0 k1 k2 k3 k5:Option xK}{us:List xK}
abbrev made2 (u:Heap)(C:Addr)(us:List xK):Heap:=(u.push { cls:=.type "tuple",data:=.seq us.toArray }).push { cls:=.ref C,data:=.fields #[.ref u.objs.size,.none,.none,.none,.bool false,.none] }
theorem dS {b:Addr}{o:Obj}(h:u.get? b=some o):(made2 u C us).get? b=some o:=xM _ (xM _ h)
theorem mW:(made2 u C us).get? (u.objs.size+1)=some { cls:=.ref C,data:=.fields #[.ref u.objs.size,.none,.none,.none,.bool false,.none] }:=by heap_get
theorem oj {Q:Fin->xO->Prop}(hK:u.get? C=some (excClassObj nm qn C N bs bm hdct sn sub ab col dd k0 k1 k2 k3 k5 "ValueError.__new__"))(tl:OwnTail u veMro bm)(LI:W.Looks (model prog w) u (typeLookup (.ref C) "__init__") (some (.ref fI)))(LF:W.Looks (model prog w) u (typeOf (.ref fI)) (.type "function"))(hl:us.length<=xV)
  (q:yb (model prog w) A (call (.ref fI) (.ref (u.objs.size+1)::us)) (λ r s'=>r=.none/\Q (.done (.ret (.ref (u.objs.size+1)))) s') E ⟨made2 u C us,gs,dr,tk,ost⟩) :
  yb (model prog w) A (Builtin.«type.__call__» ⟨.ref C::us,[]⟩) Q E ⟨u,gs,dr,tk,ost⟩:=by
 have F:=PySem.F.excBase_ValueError
 have hK1:(made2 u C us).get? C=some (excClassObj nm qn C N bs bm hdct sn sub ab col dd k0 k1 k2 k3 k5 "ValueError.__new__"):=dS hK
 have LI1:=LI.keeps (h':=made2 u C us) λ b o hb=>dS hb
 have LF1:=LF.keeps (h':=made2 u C us) λ b o hb=>dS hb
 have hCC:(xK.ref C::bm).contains (.ref C)=true:=by simp
 have hX:=mW (u:=u) (C:=C) (us:=us)
 repeat (first | (with_reducible refine wpAny_loadPart_at hK ?_) | (with_reducible refine wpAny_madeBy_exc hK ?_) | wp_step)
 refine codeAny_call_builtin_code (Code.quiet_builtin _ F.quiet) ?_
 refine wpAny_check_new_subT F tl hK (codeAny_exc_new_subT F tl hK ?_ hl)
 show yb _ _ _ _ _ ⟨made2 u C us,gs,dr,tk,ost⟩
 unfold isInstance
 repeat (first | (with_reducible refine wpAny_loadPart_at hX ?_) | ((with_reducible refine wpAny_isSubtype_exc hK1 ?_); rw[hCC]) | wp_step)
 show yb _ _ (typeLookup (.ref C) "__init__") _ _ _
 refine LI1.at (wpAny_holding (xI ?_))
 unfold bindSpecial
 refine xI (LF1.at ?_)
 rw[if_pos (by decide)]
 refine xN (xI (y8 q (λ r s' hr=>?_) λ _ _ z=>z))
 obtain⟨rfl,hQ⟩:=hr
 wp_walk
 exact hQ
theorem om {Q:xK->xO->Prop}(hK:u.get? C=some (excClassObj nm qn C N bs bm hdct sn sub ab col dd k0 k1 k2 k3 k5 "ValueError.__new__"))(tl:OwnTail u veMro bm)(LI:W.Looks (model prog w) u (typeLookup (.ref C) "__init__") (some (.ref fI)))(LF:W.Looks (model prog w) u (typeOf (.ref fI)) (.type "function"))(hl:us.length<=xV)
  (q:yb (model prog w) (A.under (.builtin "type.__call__" ⟨.ref C::us,[]⟩)) (call (.ref fI) (.ref (u.objs.size+1)::us)) (λ r s'=>r=.none/\Q (.ref (u.objs.size+1)) s') E ⟨made2 u C us,gs,dr,tk,ost⟩) :
  yb (model prog w) A (call (.ref C) us) Q E ⟨u,gs,dr,tk,ost⟩:=by
 have g1:=tc_lookup
 have g2:=tc_bind (.ref C)
 have hTy:(⟨u,gs,dr,tk,ost⟩:xO).TypeIs (.ref C) "type" := ⟨_,hK,rfl⟩
 refine wpAny_call (codeAny_of_tree ?_)
 show yb _ _ (callAny (.ref C) _) _ _ _
 repeat (any_goals (first | assumption | (with_reducible refine wpAny_loadPart_at hK ?_) | wp_step))
 refine⟨rfl,codeAny_call_builtin_at (Code.quiet_builtin _ (by decide +kernel)) entry_typeCall ?_⟩
 exact wpAny_check_type_call_sub hK (oj hK tl LI LF hl q)
end
def xraw (x C:Addr)(od:Option Addr):Heap->Prop:=λ h=>∃(oe:Obj) (t:Addr),h.get? x=some oe/\oe.cls=.ref C/\oe.dict=od/\oe.data=.fields #[.ref t,.none,.none,.none,.bool false,.none]
def xdict (d:Addr)(fs:List (Str × V)):Heap->Prop:=λ h=>∃mA,h.Ns1 d mA/\∀g,RelO (fs.lookup g) (mA g)
theorem qw {P:yk}{w:World}{H:Hp}{h:Heap}{x C:Addr}{od:Option Addr}(r:xraw x C od h):ObjOk P w H h x (.ext (xraw x C od)):=by
 refine⟨r,let ⟨oe,_,e,_⟩:=r; ⟨oe,e⟩,λ h1 h2 ⟨oe,vs,e,r⟩ k=>⟨oe,vs,k _ e,r⟩⟩
theorem mY {P:yk}{w:World}{H:Hp}{h:Heap}{d:Addr}{fs:List (Str × V)}(r:xdict d fs h):ObjOk P w H h d (.ext (xdict d fs)):=by
 refine⟨r,let ⟨_,⟨o,_,_,e,_⟩,_⟩:=r; ⟨o,e⟩,λ h1 h2 ⟨mA,⟨o,es,ep,e,c⟩,r⟩ k=>⟨mA,⟨o,es,ep,k _ e,c⟩,r⟩⟩
theorem g6 {P:yk}{w:World}{H:Hp}{h:Heap}{a:Addr}{φ:Heap->Prop}(ok:HOk P w H h)(e:H a=some (.ext φ)):φ h:=(show ObjOk P w H h a (.ext φ) from ok a _ e).1
structure ExcCls (K:W.Frag) (C:Addr):Prop where
 cls:ClsX K C
 ve:∃cd,W.clsIn K C=some cd/\gg cd.mro=true
 ty:∃o,K.lookup C=some o/\o.cls=.type "type"
section
variable {X:Cx}{pins:List (Addr × Obj)}{σ:St}{H:Hp}{s:xO}{x C dx:Addr}{f:Str}{y:V}{v:xK}{fs:List (Str × V)}
theorem sD {Q:Unit->xO->Prop}(I:Inv X pins σ H s)(c:ExcCls X.K C)(na:W.findIn X.K (.ref C) f=some none)(e:H x=some (.ext (xraw x C none)))(r:RelV y v)
  (q:∀d s',H d=none->d≠x->Inv X pins σ (upd (upd H x (.ext (xraw x C (some d)))) d (.ext (xdict d [(f,y)]))) s'->Q () s'):yb (model X.prog X.w) X.A (setAttr (.ref x) f v) Q X.xe s:=by
 obtain⟨oe,t,hx,hc,hd,hf⟩:=g6 I.hok e
 obtain⟨cd,hcd,hve⟩:=c.ve
 have hxs:s.heap.objs.size≠x:=ze (yd hx)
 have hfr:H s.heap.objs.size=none:=I.hok.fresh (xL _)
 refine oh I.kIn c.cls hcd hve hx hc hd hf na λ h' tk hx' hn' kp=>q s.heap.objs.size _ hfr hxs ?_
 have raw:xraw x C (some s.heap.objs.size) h':=⟨_,t,hx',hc,rfl,hf⟩
 have I1:Inv X pins σ (upd H x (.ext (xraw x C (some s.heap.objs.size)))) { s with heap:=h',toks:=tk } :=
  I.write (x:=x) (e:=x) (by rw[e]; trivial) (.inl rfl) (λ b u hb hu=>kp b u hb hu) ⟨_,hx'⟩ (qw raw)
 obtain⟨od,es,ep,hod,rest⟩:=id hn'
 have sz:=I.sz
 refine I1.track (a:=s.heap.objs.size) hod ?_ (ze I.lt) (.inr sz) (λ z cl hz e'=>?_) (λ p hp e'=>?_) (mY ⟨_,hn',λ g=>?_⟩)
 ·rw[ag hxs]
  exact hfr
 ·obtain⟨vv,ob,hb,_⟩:=I.cell z cl hz
  exact absurd (e' ▸ yd hb) (y6 _)
 ·exact absurd (e' ▸ yd (I.pin p hp).1) (y6 _)
 ·by_cases hg:g=f
  ·subst hg
   simp only[zi,beq_self_eq_true,if_true]
   exact r
  ·have hb:(g == f)=false:=by simpa using hg
   simp only[zi,hb,if_neg hg,List.lookup_nil]
   trivial
theorem qx {Q:Unit->xO->Prop}(I:Inv X pins σ H s)(c:ExcCls X.K C)(na:W.findIn X.K (.ref C) f=some none)(e:H x=some (.ext (xraw x C (some dx))))(ed:H dx=some (.ext (xdict dx fs)))(hl:fs.length<=900)(r:RelV y v)
  (q:∀s',Inv X pins σ (upd H dx (.ext (xdict dx (putF f y fs)))) s'->Q () s'):yb (model X.prog X.w) X.A (setAttr (.ref x) f v) Q X.xe s:=by
 obtain⟨oe,t,hx,hc,hd,hf⟩:=g6 I.hok e
 obtain⟨mA,hn,rm⟩:=g6 I.hok ed
 obtain⟨cd,hcd,hve⟩:=c.ve
 have hw:PySem.Within mA (fs.map (·.1)):=λ g hg=>by
  cases hk:fs.lookup g with
  | none =>
   have:=rm g
   rw[hk] at this
   cases hm:mA g with
   | none=>exact absurd hm hg
   | some u=>rw[hm] at this; exact this.elim
  | some z=>exact yI.mpr ⟨(g,z),PySem.mem_of_lookup hk,rfl⟩
 refine l3 I.kIn c.cls hcd hve hx hc hd hf hn na hw (by rw[xQ]; omega) λ h' tk hn' sb=>q _ ?_
 obtain⟨od,es,ep,hod,rest⟩:=id hn'
 refine I.write (x:=dx) (e:=dx) (by rw[ed]; trivial) (.inl rfl) (λ b u hb hu=>(sb.2 b hb).trans hu) ⟨_,hod⟩ (mY ⟨_,hn',λ g=>?_⟩)
 rw[gJ]
 by_cases hg:g=f
 ·rw[if_pos hg,if_pos hg]; exact r
 ·rw[if_neg hg,if_neg hg]; exact rm g
def sFldX (K:W.Frag)(C:Addr)(ta tv:TE)(f:Str):TS:=λ D σ H=>tv σ H λ y H1=>ta σ H1 λ u H2=>∃x,u=.ref x/\ExcCls K C/\W.findIn K (.ref C) f=some none /\
 ((H2 x=some (.ext (xraw x C none))/\∀d,H2 d=none->d≠x->D.nx σ (upd (upd H2 x (.ext (xraw x C (some d)))) d (.ext (xdict d [(f,y)])))) \/
 ∃dx fs,H2 x=some (.ext (xraw x C (some dx)))/\H2 dx=some (.ext (xdict dx fs))/\fs.length<=900/\D.nx σ (upd H2 dx (.ext (xdict dx (putF f y fs)))))
theorem qy {oe value:Expr}{pos pos':Pos}{ta tv:TE}(K:W.Frag)(C:Addr)(ha:QE X oe ta)(hv:QE X value tv)(hs:swapsWith value (some (.Attribute oe f pos')) pos.line X.env=pure false:=by rfl)(hk:X.K=K:=by rfl):QS X (.Assign [.Attribute oe f pos'] value pos) (sFldX K C ta tv f):=by
 subst hk
 refine⟨λ pins s σ H D I h=>?_⟩
 refine plainObj_wpAny_Assign_Attribute (thn (hv.run pins s σ H _ I h) λ u s1 ⟨y,H1,I1,ry,q⟩=>thn (ha.run pins s1 σ H1 _ I1 q) λ ov s2 ⟨z,H2,I2,rz,x,ez,c,na,way⟩=>?_) hs
 subst ez
 obtain rfl:ov=xK.ref x:=rz
 rcases way with⟨e,q2⟩ | ⟨dx,fs,e,ed,hl,q2⟩
 ·exact sD I2 c na e ry λ d s3 hd hdx I3=>⟨σ,_,I3,q2 d hd hdx⟩
 ·exact qx I2 c na e ed hl ry λ s3 I3=>⟨σ,_,I3,q2⟩
end
def spX2 (C:Addr)(f g:Str):Sp:=λ vs H Q _=>∃(x:Addr) (a b:V),vs=[.ref x,a,b]/\H x=some (.ext (xraw x C none))/\∀d,H d=none->d≠x->Q .non (upd (upd (upd H x (.ext (xraw x C (some d)))) d (.ext (xdict d [(f,a)]))) d (.ext (xdict d (putF g b [(f,a)]))))
structure JOk (K:W.Frag) (J:Addr):Prop where
 ex:∃c0 dd cd sl c1 d1 es n sl1,K.lookup J=some ⟨c0,dd,.cls cd,sl⟩/\K.lookup cd.ns=some ⟨c1,d1,.dict es n,sl1⟩/\StrKeys es/\nsFind es "__init__" = none
theorem JOk.tail {K:W.Frag}{J:Addr}{h:Heap}(j:JOk K J)(X:K.In h):OwnTail h veMro (.ref J::veMro):=by
 obtain⟨c0,dd,cd,sl,c1,d1,es,n,sl1,e1,e2,e3,e4⟩:=j.ex
 exact .own (X _ _ e1) ⟨_,es,n,X _ _ e2,rfl,e3,λ _=>rfl⟩ e4 .base
structure XMk (K:W.Frag) (C fI:Addr):Prop where
 obj:∃J nm qn N bs hdct sn sub ab col dd k0 k1 k2 k3 k5,K.lookup C=some (excClassObj nm qn C N bs (.ref J::veMro) hdct sn sub ab col dd k0 k1 k2 k3 k5 "ValueError.__new__")/\JOk K J
 init:W.findIn K (.ref C) "__init__" = some (some (.ref fI))
 fn:W.isFn K (.ref fI)=true
 kp:W.keepIn K (.ref C)=true
 cls:ClsX K C
theorem XMk.ec {K:W.Frag}{C fI:Addr}(m:XMk K C fI):ExcCls K C:=by
 obtain⟨J,nm,qn,N,bs,hdct,sn,sub,ab,col,dd,k0,k1,k2,k3,k5,e,_⟩:=m.obj
 refine⟨m.cls,⟨{ name:=nm,bases:=bs,mro:=.ref C::.ref J::veMro,ns:=N,qualname:=qn,hasDict:=hdct,slotNames:=sn,subclasses:=sub,abstract:=ab,collection:=col,hasDel:=false },?_,by simp[gg]⟩,_,e,rfl⟩
 unfold W.clsIn
 rw[e]
section
variable {X:Cx}{pins:List (Addr × Obj)}{σ:St}{H:Hp}{s:xO}{C fI:Addr}{k:Nat}{fd:yM}{ps:List Str}{sp:Sp}{E:XK}
theorem Inv.madeX {us:List xK}(I:Inv X pins σ H s):Inv X pins σ (upd H (s.heap.objs.size+1) (.ext (xraw (s.heap.objs.size+1) C none))) { s with heap:=made2 s.heap C us }:=by
 have sz:(s.heap.push { cls:=.type "tuple",data:=.seq us.toArray }).objs.size=s.heap.objs.size+1:=y9 _ _
 exact I.laid (a:=s.heap.objs.size+1) (t':=s.toks) (λ b u q=>dS q) (zA _) (qw ⟨_,_,mW,rfl,rfl,rfl⟩)
theorem qz {R:Hp->Prop}{us:List xK}{vs:List V}(M:XMk X.K C fI)(F:FnOk X.prog X.w X.K X.mg X.base CX0 k fI fd ps sp)(hr:Room (k+1) X.A)(hb:Binds X.K fd ps [])(I:Inv X pins σ H s)(r:Vals vs us)(hl:vs.length<=100)
  (hq:sp (.ref (s.heap.objs.size+1)::vs) (upd H (s.heap.objs.size+1) (.ext (xraw (s.heap.objs.size+1) C none))) (λ v H2=>v=.non/\R H2) E0) :
  yb (model X.prog X.w) X.A (call (.ref C) us) (λ u s'=>u=.ref (s.heap.objs.size+1)/\∃H',Inv X pins σ H' s'/\R H') X.xe s:=by
 have I2:=Inv.madeX (C:=C) (us:=us) I
 have r2:Vals (V.ref (s.heap.objs.size+1)::vs) (xK.ref (s.heap.objs.size+1)::us):=.cons rfl r
 have hps:((xK.ref (s.heap.objs.size+1)::us)++[]).length=ps.length:=by
  rw[y0,<- r2.length]
  exact F.len _ _ _ _ hq
 obtain⟨J,nm,qn,N,bs,hdct,sn,sub,ab,col,dd,k0,k1,k2,k3,k5,e,hj⟩:=M.obj
 have X0:=I.kIn
 have hul:us.length<=xV:=by rw[<- r.length]; exact yv hl (by decide)
 have hbt:=hb _ (xK.ref (s.heap.objs.size+1)::us) I2.kIn hps
 rw[y0] at hbt
 refine om (X0 _ _ e) (hj.tail X0) (W.looks_findIn X0 M.init) (W.looks_typeIn X0 (beq_iff_eq.mp M.fn)) hul ?_
 refine wpAny_call (codeAny_mono (F.run _ X.stack _ _ ⟨xK.ref (s.heap.objs.size+1)::us,[]⟩ (xK.ref (s.heap.objs.size+1)::us) _ (λ v H2=>v=.non/\R H2) E0 (hr.make C us []) (I2.env0.make C us []) hbt r2 hq) λ rr s' hq'=>?_)
 cases rr with
 | error e=>exact False.elim hq'
 | ok fl =>
  cases fl with
  | ret u =>
   obtain⟨v,H',I3,rv,ev,q3⟩:=I2.after hq'
   subst ev
   exact⟨rv,rfl,_,I3,q3⟩
  | next=>exact False.elim hq'
  | brk=>exact False.elim hq'
  | cont=>exact False.elim hq'
def tV (C:Addr)(sp:Sp)(E:XK)(t:TA):TS:=λ _ σ H=>t σ H λ vs H1=>vs.length<=100/\∀x,H1 x=none->sp (.ref x::vs) (upd H1 x (.ext (xraw x C none))) (λ v H2=>v=.non/\∃od,H2 x=some (.ext (xraw x C od))/\E (.ref C) od (upd H2 x (.ext (xfly x (.ref C) od)))) E0
theorem sE {x:Str}{e:Expr}{es:List Expr}{t:TA}{p cpos pos:Pos}(E:XK)(M:XMk X.K C fI)(F:FnOk X.prog X.w X.K X.mg X.base CX0 k fI fd ps sp)(hr:Room (k+1) X.A)(hm:X.mg x=some (.ref C))(hb:Binds X.K fd ps [])(hlv:gY X E)(hc:X.calm=true)(ha:QA X (e::es) t)(hg:Gl X x:=by rfl)(hdb:(x == ("__debug__" : Str))=false:=by decide) :
  QS X (.Raise (some (.Call (.Name x p) (e::es) [] cpos)) none pos) (tV C sp E t):=by
 refine⟨λ pins s σ H D I h=>?_⟩
 rw[arm_exec_Raise]
 show yb _ _ (standAt pos >>= λ _=>raiseStmt X.env (some (eval (.Call (.Name x p) (e::es) [] cpos) X.env >>= λ v=>standAt pos >>= λ _=>pure v)) none) _ _ _
 refine xI (wpAny_standAt ?_)
 unfold raiseStmt
 have ev:yb (model X.prog X.w) X.A (eval (.Call (.Name x p) (e::es) [] cpos) X.env) (λ u s2=>∃(a:Addr) (H2:Hp) (od:Option Addr),u=.ref a/\X.s₀.heap.objs.size<=a/\(∀p∈X.pn++pins,p.1≠a)/\Inv X pins σ H2 s2/\H2 a=some (.ext (xraw a C od))/\E (.ref C) od (upd H2 a (.ext (xfly a (.ref C) od)))) X.xe s:=by
  refine wpAny_Call_Name_kw (fo I hg hm ?_ hdb)
  refine W.callWith_K (h₀:=X.base) I.ok.mod.kin M.kp (thn (ha.run cpos pins s σ H _ I h) λ us s1 ⟨vs,H1,I1,r,hl,q⟩=>⟨I1.kIn,?_⟩) (au (ns_hd ha.ns).1) (be (ns_hd ha.ns).2)
  refine thn (qz M F hr hb I1 r hl (q (s1.heap.objs.size+1) (I1.hok.fresh (zA _)))) λ u s2 ⟨eu,H2,I2,od,e2,q2⟩=>⟨_,H2,od,eu,yv I1.sz (zA _),λ p hp z=>?_,I2,e2,q2⟩
  exact absurd (z ▸ yd (I1.pin p hp).1) (Am.mpr (zA _))
 refine xI (xI (thn ev λ u s1 ⟨a,H1,od,eu,sa,pa,I1,ex,q⟩=>xI (wpAny_standAt (xN ?_))))
 subst eu
 obtain⟨oe,t,hx,hcl,hod,hdt⟩:=g6 I1.hok ex
 have L:=W.looks_mroIn (M:=model X.prog X.w) I1.kIn M.cls.isx
 obtain⟨oC,hoC,hoT⟩:=M.ec.ty
 have hC:=I1.kIn _ _ hoC
 obtain⟨oc,od',odt,osl⟩:=oe
 dsimp only at hcl hod hdt
 subst hcl hod hdt
 have fin:X.xe (.ref a) s1:=by
  have I2:Inv X pins σ (upd H1 a (.ext (xfly a (.ref C) od'))) s1 :=
   I1.write (x:=a) (e:=a) (h':=s1.heap) (t':=s1.toks) (o:=.ext (xfly a (.ref C) od')) (by rw[ex]; trivial) (.inl rfl) (λ b u _ hu=>hu) ⟨_,hx⟩ (qm ⟨_,_,hx,rfl,rfl,rfl⟩)
  exact hlv pins σ _ s1 ⟨a,.ref C,od',none,_,rfl,I2,af,sa,pa,(λ T e=>nomatch e),⟨⟨_,_,hx,rfl,rfl,rfl,rfl⟩,λ T e=>nomatch e⟩,q⟩
 have hh:=I1.ok.hd hc
 obtain⟨hp,g,d,tk,os⟩:=s1
 repeat (first | (with_reducible refine wpAny_loadPart_at hx ?_) | ((with_reducible refine wpAny_loadPart_at hC ?_); rw[hoT]) | (with_reducible refine L.at ?_) | wp_step)
 exact wpAny_raiseNew_none hh fin
end
structure ClsI (K:W.Frag) (C:Addr):Prop where
 cx:ClsX K C
 ha:W.findIn K (.ref C) "__class__" = some (some (.builtin "object.__class__"))
 hn:W.specialIn K (.builtin "object.__class__") "__get__" = some (some (.builtin "getset_descriptor.__get__"))
 tk:W.takesIn K (.builtin "object.__class__")=some true
section
variable {prog:yk}{w:World}{A:Around}{E:xK->xO->Prop}{K:W.Frag}{x C:Addr}{o od:Obj}{s:xO}
theorem jE {tk:Tok}{R:Result->xO->Prop}(X:K.In s.heap)(c:ClsI K C)(I:W.InstAt s.heap x o C (some od))(q:R (.ok (.ret (.ref C))) s) :
  codeAny (model prog w) A (.call (.builtin "BaseException.__getattribute__") ⟨[.ref x,.str "__class__" tk],[]⟩) R s:=by
 have L4:=W.looks_mroIn (M:=model prog w) X c.cx.isx
 have hf:W.findObj K C (some od) "__class__" = some (.bind (.builtin "getset_descriptor.__get__") (.builtin "object.__class__")):=W.findObj_data (by obtain⟨cd,hc,_⟩:=W.any_some c.cx.hd; rw[hc]; rfl) c.ha c.hn c.tk
 have L5:=W.looks_find (M:=model prog w) X I hf
 have L0:=I.type (M:=model prog w)
 refine codeAny_call_builtin PySem.F.excAttr_ValueError.ga.plain PySem.F.entry_bexc_ga ?_
 refine @W.check_slot (model prog w) _ _ s "BaseException.__getattribute__" "BaseException" "__getattribute__" (.ref x) [.str "__class__" tk] [] _ tU qu (L0.andThen L4) (PySem.F.args_bexc_ga _ _) ?_
 show yb _ _ (Builtin.«object.__getattribute__» ⟨[.ref x,.str "__class__" tk],[]⟩) _ _ _
 unfold Builtin.«object.__getattribute__»
 refine xI (xN (xI (xN (xI (L0.here (xI (L5.here ?_)))))))
 show yb _ _ (holding [.builtin "object.__class__"] (call (.builtin "getset_descriptor.__get__") [.builtin "object.__class__",.ref x,.ref C]) >>= ret) _ _ _
 exact xI (wpAny_holding (wpAny_call (W.class_get (ox:=o) (od:=some od) X I c.cx.iso (xN q))))
theorem sF {Q:Option xK->xO->Prop}(X:K.In s.heap)(c:ClsI K C)(I:W.InstAt s.heap x o C (some od))(q:Q (some (.ref C)) { s with toks:=s.toks+1 }):yb (model prog w) A (getAttr? (.ref x) "__class__") Q E s:=by
 obtain⟨h,g,d,t,os⟩:=s
 have L0:=I.type (M:=model prog w)
 have L1:=W.looks_findIn (M:=model prog w) X c.cx.ga
 have L2:=W.looks_findIn (M:=model prog w) X c.cx.gh
 have f3:=PySem.F.excAttr_ValueError.ga.bind (.ref x)
 have hx0:(false && onTheHeap (xK.builtin "BaseException.__getattribute__"))=false:=rfl
 have hx2:(xK.builtin "BaseException.__getattribute__" == xK.builtin "object.__getattribute__")=false:=by decide +kernel
 have hx1:(onTheHeap (xK.ref C) && xK.builtin "BaseException.__getattribute__" == xK.builtin "object.__getattribute__")=false:=by rw[hx2]; rfl
 unfold getAttr? getAttrBy? getAttrBy
 repeat (first | assumption | with_reducible refine L0.at ?_ | with_reducible refine L1.at ?_ | with_reducible refine L2.at ?_ | wp_step)
 refine jE (s:=⟨h,g,d,t+1,os⟩) X c I ?_
 exact W.handed_on (v:=.ref C) rfl (xN q)
theorem jF (c:ClsI K C):W.KitX K (.ref x) (.ref C) (λ h=>∃o od,W.InstAt h x o C (some od)) where
 ty:=λ _ _ _ ⟨_,_,I⟩=>I.type
 it:=λ _ _ X _=>by
  obtain⟨cd,e,_⟩:=W.any_some c.cx.hd
  unfold W.clsIn at e
  split at e
  ·rename_i c1 d1 cd1 sl1 e1
   exact λ A' Q' E' s' k q=>by
    unfold isType loadHead
    exact xI (wpAny_loadPart (k _ _ (X _ _ e1)) (xN q))
  ·cases e
 ne:=λ h tp dd its n sl X htp=>by
  obtain⟨cd,e,_⟩:=W.any_some c.cx.hd
  refine Bool.eq_false_iff.mpr λ q=>?_
  have e1:C=tp:=xK.ref.inj (beq_iff_eq.mp q)
  subst e1
  unfold W.clsIn at e
  split at e
  ·rename_i c1 d1 cd1 sl1 e2
   have z:=(X _ _ e2).symm.trans htp
   cases z
  ·cases e
 ca:=λ X ⟨_,_,I⟩ k=>sF X c I k
end
inductive Asked (K:W.Frag) (H:Hp) (C:Addr):V->Bool->Prop where
 | own {D:Addr} {b:Bool} (e:W.kitOne K (.ref C) (.ref D)=some b):Asked K H C (.ref D) b
 | ty {T:String} {b:Bool} (e:W.kitOne K (.ref C) (.type T)=some b):Asked K H C (.ty T) b
 | tup {t:Addr} {ds:List Addr} {b:Bool} (h:H t=some (.tup (ds.map V.ref))) (e:W.kitAny K (.ref C) (ds.map xK.ref)=some b):Asked K H C (.ref t) b
theorem kS:∀{ds:List Addr} {us:List xK},Vals (ds.map V.ref) us->us=ds.map xK.ref
 | [],_,.nil=>rfl
 | d::ds,_,.cons r t=>by
  have e:=kS t
  subst e
  have:_=xK.ref d:=r
  subst this
  rfl
section
variable {X:Cx}
def rIsiX (K:W.Frag):List V->Hp->VK->Prop:=λ xs H Q=>∃(x C dx:Addr) (fs:List (Str × V)) (y:V) (b:Bool),xs=[.ref x,y]/\H x=some (.ext (xfly x (.ref C) (some dx)))/\H dx=some (.ext (xdict dx fs))/\ClsI K C/\Asked K H C y b/\Q (.bl b) H
theorem mZ {P:yk}{w:World}{H:Hp}{h:Heap}{x C dx:Addr}{fs:List (Str × V)}(ok:HOk P w H h)(e1:H x=some (.ext (xfly x (.ref C) (some dx))))(e2:H dx=some (.ext (xdict dx fs))):∃(o od:Obj) (mA:Str->Option xK),W.InstAt h x o C (some od)/\(∀name,W.lookIn name od=some (mA name))/\∀g,RelO (fs.lookup g) (mA g):=by
 obtain⟨oe,vs,hx,hc,hd,hf⟩:=g6 ok e1
 obtain⟨mA,hn,rm⟩:=g6 ok e2
 obtain⟨od,hod,hl⟩:=gI hn
 exact⟨oe,od,mA,⟨hx,hc,by unfold W.notCls; rw[hf],by rw[hd]; exact hod⟩,hl,rm⟩
theorem g7 (K:W.Frag)(hk:X.K=K:=by rfl):CallR X (.builtin "isinstance") (rIsiX K):=by
 subst hk
 intro pins s σ H xs us Q I r h
 obtain⟨x,C,dx,fs,y,b,rfl,e1,e2,c,a,q⟩:=h
 obtain⟨o,od,mA,In,_,_⟩:=mZ I.hok e1 e2
 obtain⟨u1,u2,rfl,r1,r2⟩:=r.two
 obtain rfl:u1=xK.ref x:=r1
 have fin:∀tk,EP X pins σ Q (.bool b) { s with toks:=tk }:=λ tk=>⟨.bl b,H,I.tok tk,rfl,q⟩
 cases a with
 | own e =>
  obtain rfl:=(show u2=xK.ref _ from r2)
  exact W.kia_one (jF c) I.kIn ⟨_,_,In⟩ e (λ z=>nomatch z) fin
 | ty e =>
  obtain rfl:=(show u2=xK.type _ from r2)
  exact W.kia_one (jF c) I.kIn ⟨_,_,In⟩ e (λ z=>nomatch z) fin
 | tup h e =>
  obtain rfl:=(show u2=xK.ref _ from r2)
  obtain⟨_,its,rv,ob,ho,hcl,n,hdt,_⟩:=(show ObjOk X.prog X.w H s.heap _ (.tup _) from I.hok _ _ h)
  have:=kS rv
  subst this
  obtain⟨oc,od1,odt,osl⟩:=ob
  dsimp only at hcl hdt
  subst hcl hdt
  exact W.kia_tup (jF c) I.kIn ⟨_,_,In⟩ ho e (λ z=>nomatch z) fin
def tFldX (K:W.Frag)(ta:TE)(f:Str):TE:=λ σ H Q=>ta σ H λ u H1=>∃(x C dx:Addr) (fs:List (Str × V)) (v:V),u=.ref x/\H1 x=some (.ext (xfly x (.ref C) (some dx)))/\H1 dx=some (.ext (xdict dx fs))/\ClsX K C/\W.findIn K (.ref C) f=some none/\fs.lookup f=some v/\Q v H1
theorem vq {e:Expr}{ta:TE}{f:Str}{pos:Pos}(K:W.Frag)(he:QE X e ta)(hb:attributeBase e f X.env (eval e X.env)=eval e X.env:=by rfl)(hk:X.K=K:=by rfl):QE X (.Attribute e f pos) (tFldX K ta f):=by
 subst hk
 refine⟨λ pins s σ H Q I h=>uV hb (thn (he.run pins s σ H _ I h) λ u s1 ⟨z,H1,I1,rz,x,C,dx,fs,v,ez,e1,e2,c,na,l,q⟩=>?_)⟩
 subst ez
 obtain rfl:u=xK.ref x:=rz
 obtain⟨o,od,mA,In,hl,rm⟩:=mZ I1.hok e1 e2
 obtain⟨u',hu,ru⟩:=RelO.some_of (v:=v) (o:=mA f) (by rw[<- l]; exact rm f)
 exact wT I1.kIn c In na (by rw[hl,hu]) (W.handedOut_of (pf ru)) ⟨v,H1,I1.tok _,ru,q⟩
end
structure QEx (X:Cx) (e:Expr) (t:XK->TE):Prop where
 run:∀(E:XK) (pins:List (Addr × Obj)) (s:xO) (σ:St) (H:Hp) (Q:VK),Inv X pins σ H s->t E σ H Q->yb (model X.prog X.w) X.A (eval e X.env) (EP X pins σ Q) (XP X pins σ E) s
section
variable {X:Cx}{pins:List (Addr × Obj)}{σ:St}{H:Hp}{s:xO}{E:XK}
theorem vt {k:Nat}{f:Addr}{fd:yM}{ps:List Str}{sp:Sp}{Q:VK}{us:List xK}{vs:List V}(F:FnOk X.prog X.w X.K X.mg X.base (CX1 X.prog X.w) k f fd ps sp)(hr:Room k X.A)(hb:Binds X.K fd ps [])(I:Inv X pins σ H s)(r:Vals vs us)(h:sp vs H Q E) :
  yb (model X.prog X.w) X.A (call (.ref f) us) (EP X pins σ Q) (XP X pins σ E) s:=by
 have hl:(us++[]).length=ps.length:=by rw[y0,<- r.length]; exact F.len _ _ _ _ h
 have hbt:=hb s us I.kIn hl
 rw[y0] at hbt
 refine wpAny_call (codeAny_mono (F.run X.A X.stack s H ⟨us,[]⟩ us vs Q E hr I.env0 hbt r h) λ rr s' hq=>?_)
 cases rr with
 | error e=>exact xp_of I hq
 | ok fl =>
  cases fl with
  | ret u=>exact I.after hq
  | next=>exact False.elim hq
  | brk=>exact False.elim hq
  | cont=>exact False.elim hq
theorem vw {k:Nat}{x:Str}{ps:List Str}{sp:Sp}{e:Expr}{es:List Expr}{t:TA}{p pos:Pos}(D:DefX X.prog X.w X.K X.mg X.base k x ps sp)(hr:Room k X.A)(ha:∀Ex,QA (X.wish Ex) (e::es) t)(hg:Gl X x:=by rfl)(hdb:(x == ("__debug__" : Str))=false:=by decide) :
  QEx X (.Call (.Name x p) (e::es) [] pos) (λ E=>mV sp E t):=by
 obtain⟨f,fd,F,hm,hk,hb⟩:=D.ex
 refine⟨λ E pins s σ H Q I h=>wpAny_Call_Name_kw (fo I hg hm ?_ hdb)⟩
 have hA:=ha (XP X pins σ E)
 refine W.callWith_K (h₀:=X.base) I.ok.mod.kin hk (thn (hA.run pos pins s σ H _ (I.wish _) h) λ us s1 ⟨vs,H1,I1,r,q⟩=>⟨I1.unwish.kIn,?_⟩) (au (ns_hd hA.ns).1) (be (ns_hd hA.ns).2)
 exact vt F hr hb I1.unwish r q
theorem qA {x:Addr}{cls:xK}{od:Option Addr}(I:Inv X pins σ H s)(f:xfly x cls od s.heap):x≠X.env.locals/\∀y c,X.env.cells.lookup y=some c->c≠x:=by
 obtain⟨oe,vs,hx,_,_,hd⟩:=f
 refine⟨λ z=>?_,λ y c hc z=>?_⟩
 ·obtain⟨m,⟨o,es,ep,ho,hd',_⟩,_⟩:=I.loc
  rw[<- z,hx] at ho
  cases ho
  rw[hd] at hd'
  cases hd'
 ·obtain⟨v,o,ho,hd'⟩:=I.cell y c hc
  rw[z,hx] at ho
  cases ho
  rw[hd] at hd'
  cases hd'
theorem Inv.noted {h':Heap}{x:Addr}{cls:xK}{od tb:Option Addr}(I:Inv X pins σ H s)(nt:Noted (frs X.stack) x tb s.heap h')(ex:H x=some (.ext (xfly x cls od)))(fl:xfly x cls od h')(sx:X.s₀.heap.objs.size<=x)(px:∀p∈X.pn++pins,p.1≠x)
  (hT:∀T,tb=some T->H T=none/\X.s₀.heap.objs.size<=T/\∀p∈X.pn++pins,p.1≠T) (tT:∀T,tb=some T->∃oT ts,s.heap.get? T=some oT/\oT.data=.fields ts):Inv X pins σ H { s with heap:=h' }:=by
 have fx:=qA I (g6 I.hok ex)
 refine I.call (g':=s.gens) (t':=s.toks) (d':=s.drawn) (ch:=x::tb.toList) ⟨λ b o hb n hf hc=>?_,λ b o hb n hf hc=>nt.slot b o hb hf,λ b o hb n _=>n,λ b o hb _=>nt.there b o hb,λ _ _ e=>e,λ _ _ _ e=>e,λ b ps e=>⟨#[],by rw[e]; simp⟩⟩ (I.hok.noted nt ex fl (λ T e=>(hT T e).1) I.stkFree) I.bare λ b hb=>?_
 ·refine nt.keep b o hb (λ z=>hc (by rw[z]; exact ya ..)) (λ z=>hc (xT _ (by rw[z]; simp))) hf
 ·rcases xR.mp hb with rfl | hb
  ·exact⟨.inr sx,fx.1,fx.2,px⟩
  ·have e:tb=some b:=by
    cases tb with
    | none=>cases hb
    | some T=>simp at hb; rw[hb]
   obtain⟨oT,ts,h1,h2⟩:=tT b e
   have fT:=qA (x:=b) (cls:=oT.cls) (od:=oT.dict) I ⟨oT,ts,h1,rfl,rfl,h2⟩
   exact⟨.inr (hT b e).2.1,fT.1,fT.2,(hT b e).2.2⟩
theorem Inv.gone {h':Heap}{tk:Nat}{j:Nat}{n:Str}{m:Str->Option xK}{v:Option xK}(I:Inv X pins σ H s)(hN:X.N.Nodup)(hj:X.N[j]? = some n)(hl:∀(i:Nat) (x:Str) (w:V),X.N[i]? = some x->σ[i]? = some (some w)->Vis X.env.scope x->∃u,RelV w u/\Look X.env s.heap m x u)
  (hn':h'.Ns X.env.locals (λ y=>if y=n then v else m y)) (hs:Heap.SameBut X.env.locals s.heap h'):Inv X pins (σ.set j none) H { s with heap:=h',toks:=tk }:=by
 have cne:=I.cne
 have up:=I.ok.above
 have old:∀b (o:Obj),X.s₀.heap.get? b=some o->b≠X.env.locals:=λ b o e=>yu (yr (yd e) up)
 refine⟨I.ok,I.os,I.bare,⟨λ b o e n' hb hx=>?_,λ b o e n' hb hx=>?_,I.base.free,λ b o e hx=>?_,I.base.tups,I.base.frzs,I.base.tbls⟩,⟨_,hn',λ i y w e1 e2 e3=>?_⟩,λ y c e=>?_,I.free,I.freeC,λ p hp=>?_,λ b ob e=>?_,by simpa using I.len⟩
 ·exact (hs.2 b (old b o e)).trans (I.base.keep b o e n' hb hx)
 ·obtain⟨sl,e1⟩:=I.base.slot b o e n' hb hx
  exact⟨sl,(hs.2 b (old b o e)).trans e1⟩
 ·obtain⟨o',e1⟩:=I.base.there b o e hx
  exact⟨o',(hs.2 b (old b o e)).trans e1⟩
 ·have hij:i≠j:=λ z=>by
   subst z
   by_cases hlt:i<σ.length
   ·rw[zx hlt] at e2
    cases e2
   ·rw[yG (by rw[yL]; omega)] at e2
    cases e2
  rw[yq (Ne.symm hij)] at e2
  obtain⟨u,r,q⟩:=hl i y w e1 e2 e3
  refine⟨u,r,?_⟩
  rcases q with⟨k,e⟩ | ⟨k,c,e,ob,hob,hdc⟩
  ·have hyn:y≠n:=λ z=>hij (js hN e1 (z ▸ hj))
   exact .inl ⟨k,by simp[hyn,e]⟩
  ·exact .inr ⟨k,c,e,ob,(hs.2 c (cne y c e)).trans hob,hdc⟩
 ·obtain⟨w,ob,hob,hdc⟩:=I.cell y c e
  exact⟨w,ob,(hs.2 c (cne y c e)).trans hob,hdc⟩
 ·obtain⟨p1,p2,p3,p4,p5⟩:=I.pin p hp
  exact⟨(hs.2 p.1 p3).trans p1,p2,p3,p4,p5⟩
 ·have free:=I.free
  refine (I.hok b ob e).stay (λ c w' hc q=>(hs.2 c λ z=>?_).trans q) (λ _ q=>q) λ _ _ q=>q
  rcases hc with rfl | hc
  ·rw[z,free] at e; cases e
  ·rw[z,free] at hc; cases hc
end
def hctx (X:Cx)(x:Addr):Cx:={ X with A:=X.A.mark (some (.ref x)),calm:=false,xe:=λ _ _=>False }
theorem Inv.hctx {X:Cx}{pins:List (Addr × Obj)}{σ:St}{H:Hp}{s:xO}(I:Inv X pins σ H s)(x:Addr):Inv (hctx X x) pins σ H s :=
 ⟨⟨I.ok.mod,I.ok.kind,I.ok.glob,I.ok.blt,I.ok.above,I.ok.inj,I.ok.has,I.ok.cab,λ z=>(by cases z),I.ok.frames,I.ok.stk,I.ok.exf,I.ok.bs,I.ok.bsz,I.ok.noex,I.ok.exfs,I.ok.funs,I.ok.frf⟩,I.os,I.bare,I.base,I.loc,I.cell,I.free,I.freeC,I.pin,I.hok,I.len⟩
theorem Inv.unhctx {X:Cx}{pins:List (Addr × Obj)}{σ:St}{H:Hp}{s:xO}{x:Addr}(ok:X.Ok)(I:Inv (L2.hctx X x) pins σ H s):Inv X pins σ H s :=
 ⟨ok,I.os,I.bare,I.base,I.loc,I.cell,I.free,I.freeC,I.pin,I.hok,I.len⟩
theorem kT {M:Model}{A:Around}{Ex:xK->xO->Prop}{s:xO}{base:Heap}{l:List Env}{x T:Addr}{cls:xK}{od:Option Addr}{Q:Unit->xO->Prop}(hl:s.heap.FunFrames base l)(ea:ExcAt s.heap x cls od (some T))
  (h:∀h',Noted (frs l) x (some T) s.heap h'->ExcAt h' x cls od (some T)->Q () { s with heap:=h' }):yb M A (setFlight (.ref x) none) Q Ex s:=by
 obtain⟨⟨oe,vs,he,hc,hod,hd,h1⟩,ht⟩:=ea
 obtain⟨hTx,oT,ts,hT,hdT,h3⟩:=ht T rfl
 have h3s:3<ts.size:=(Ac.mp h3).1
 unfold setFlight
 refine xI (wpAny_field he hd h1 ?_)
 rw[if_pos (show ((some T:Option Addr).elim xK.none xK.ref != xK.none)=true by simp)]
 refine wpAny_setField hT hdT h3s ?_
 have ot:∀b,b≠T->(s.heap.update T (Obj.mapFields (·.setIfInBounds 3 ((none:Option Addr).elim xK.none λ f=>rawInt f)))).get? b=s.heap.get? b:=λ b hb=>xX _ _ (Ne.symm hb)
 have hT':=yo (Obj.mapFields (·.setIfInBounds 3 ((none:Option Addr).elim xK.none λ f=>rawInt f))) hT (Obj.isFreed_of_fields (Obj.data_mapFields hdT _))
 have hTf:T ∉ frs l:=gW hl hT hdT
 refine h _ ⟨λ b o hb _ hbT _=>?_,λ b o hb hbf=>?_,λ b o hb=>?_⟩ ⟨⟨oe,vs,(ot x hTx.symm).trans he,hc,hod,hd,h1⟩,λ T' e=>?_⟩
 ·exact (ot b λ z=>hbT (by rw[z])).trans hb
 ·exact⟨o.slots,(ot b λ z=>hTf (z ▸ hbf)).trans hb⟩
 ·by_cases z:b=T
  ·subst z
   exact⟨_,hT'⟩
  ·exact⟨o,(ot b z).trans hb⟩
 ·cases e
  exact⟨hTx,_,_,hT',Obj.data_mapFields hdT _,by simp[h3s]⟩
def Ends.after (D:Ends)(j:Nat):Ends:={ nx:=λ σ H=>D.nx (σ.set j none) H,rt:=D.rt,bk:=λ σ H=>D.bk (σ.set j none) H,ct:=λ σ H=>D.ct (σ.set j none) H }
section
variable {X:Cx}{pins:List (Addr × Obj)}{σ:St}{H:Hp}{s:xO}{D:Ends}{th:TS}{cn n:Str}{C0:Addr}{np hpos:Pos}{b0:Stmt}{suite:List Stmt}{j:Nat}{e:xK}
def jG (K:W.Frag)(C0:Addr)(j:Nat)(th:TS)(D:Ends)(σ:St):XK:=λ cls od H'=>W.exmOne K cls (.ref C0)=some true/\∀x,H' x=some (.ext (xfly x cls od))->th (D.after j) (σ.set j (some (.ref x))) H'
theorem qB {M:Model}{h:Heap}{x:Addr}{cls:xK}{od tb:Option Addr}(ea:ExcAt h x cls od tb):W.Looks M h (typeOf (.ref x)) cls:=by
 obtain⟨oe,vs,hx,hc,_⟩:=ea.obj
 exact hc ▸ (W.Looks.ld hx).andThen .now
theorem qC (hst:X.stack=X.env::X.outer)(hfr:X.env.frame=some X.env.locals)(hm:X.mg cn=some (.ref C0))(hg:Gl X cn)(hdb:(cn == ("__debug__" : Str))=false)(hN:X.N.Nodup)(hj:X.N[j]? = some n)(hloc:X.env.scope.names.lookup n=some .local)(hs:∀x,QSs (hctx X x) (b0::suite) th)
  (h:XP X pins σ (jG X.K C0 j th D σ) e s) :
  yb (model X.prog X.w) X.A (noteFrame e X.env) (λ _ s₂=>yb (model X.prog X.w) X.A (setFlight e none) (λ _ s₃=>yb (model X.prog X.w) X.A (handleBy e X.env [.ExceptHandler (some (.Name cn np)) (some n) (b0::suite) hpos]) (SP X pins D) X.xe s₃) X.xe s₂) X.xe s:=by
 obtain⟨x,cls,od,tb,H',rfl,I,ex,sx,px,hT,ea,he,q⟩:=h
 have frames:=I.ok.frames
 have stack:=I.stack
 rw[hst] at frames stack
 refine gX frames stack hfr ea λ h2 T2 hsz nt ea2=>?_
 have I2:Inv X pins σ H' { s with heap:=h2 }:=I.noted (by rw[hst]; exact nt) ex ea2.fly sx px hT λ T eT=>let ⟨_,oT,ts,a,b,_⟩:=ea.hd T eT; ⟨oT,ts,a,b⟩
 have hT2:∀T,some T2=some T->H' T=none/\X.s₀.heap.objs.size<=T/\∀p∈X.pn++pins,p.1≠T:=λ T eT=>by
  cases eT
  exact⟨I.hok.fresh hsz,yv I.sz hsz,λ p hp z=>absurd (z ▸ yd (I.pin p hp).1) (Am.mpr hsz)⟩
 refine wpAny_handleBy_cons (codeAny_handlers_test ?_) (by intro z; cases z)
 refine fo (X:=hctx X x) (I2.hctx x) hg hm ?_ hdb
 refine (W.exm_one (h:=h2) I2.kIn (qB ea2) he).here ?_
 show codeAny _ _ (.handlers (.ref x) [.ExceptHandler none (some n) (b0::suite) hpos] X.env) _ _
 refine codeAny_handlers_suite_as ?_
 have stack2:=I2.stack
 refine kT (T:=T2) stack2 ea2 λ h3 nt3 ea3=>?_
 have I3:Inv X pins σ H' { s with heap:=h3 }:=I2.noted nt3 ex ea3.fly sx px hT2 λ T eT=>let ⟨_,oT,ts,a,b,_⟩:=ea2.hd T eT; ⟨oT,ts,a,b⟩
 refine gw (X:=hctx X x) (v:=.ref x) (I3.hctx x) hN hj (.inl hloc) rfl (λ s4 I4=>?_) (.inr hloc)
 refine y8 ((hs x).run pins s4 (σ.set j (some (.ref x))) H' (D.after j) I4 (q x ex)) (λ f s5 hsp=>?_) λ _ _ z=>z.elim
 have hk:(X.env.scope.kind == .class || (X.env.scope.kind == .module && X.env.locals != X.env.globals))=false:=by rw[I.ok.kind]; rfl
 have go:∀{σ5:St} {H5:Hp} {R:xO->Prop},Inv (hctx X x) pins σ5 H5 s5->(∀s6,Inv X pins (σ5.set j none) H5 s6->R s6)->yb (model X.prog X.w) X.A (do bindName X.env n .none; unbindBehindTheSuite X.env n hpos) (λ _ s6=>R s6) X.xe s5:=λ {σ5 H5 R} I5 k=>by
  have J:=Inv.unhctx I.ok I5
  obtain⟨m,hn,hl⟩:=id J.loc
  exact wpAny_nameGoes_keeps hloc hn hk λ h6 v hn' hs'=>k _ (J.gone hN hj hl hn' hs')
 cases f with
 | next=>obtain⟨σ5,H5,I5,q5⟩:=hsp; exact go I5 λ s6 I6=>⟨_,H5,I6,q5⟩
 | brk=>obtain⟨σ5,H5,I5,q5⟩:=hsp; exact go I5 λ s6 I6=>⟨_,H5,I6,q5⟩
 | cont=>obtain⟨σ5,H5,I5,q5⟩:=hsp; exact go I5 λ s6 I6=>⟨_,H5,I6,q5⟩
 | ret u=>obtain⟨v,σ5,H5,I5,r5,q5⟩:=hsp; exact go I5 λ s6 I6=>⟨v,_,H5,I6,r5,q5⟩
def vx (K:W.Frag)(C0:Addr)(i j:Nat)(te:XK->TE)(th:TS):TS:=λ D σ H=>te (jG K C0 j th D σ) σ H λ v H1=>D.nx (σ.set i (some v)) H1
variable {i:Nat}{x:Str}{ex:Expr}{te:XK->TE}{px apos pos:Pos}
theorem qD (K:W.Frag)(hm:X.mg cn=some (.ref C0))(hN:X.N.Nodup)(hi:X.N[i]? = some x)(hx:Loc X.env.scope x)(hj:X.N[j]? = some n)(hloc:X.env.scope.names.lookup n=some .local)(he:QEx X ex te)(hs:∀x,QSs (hctx X x) (b0::suite) th)
  (hst:X.stack=X.env::X.outer:=by rfl) (hfr:X.env.frame=some X.env.locals:=by rfl) (hg:Gl X cn:=by rfl) (hdb:(cn == ("__debug__" : Str))=false:=by decide) (hsw:swapsWith ex (some (.Name x px)) apos.line X.env=pure false:=by rfl) (hf:X.fn x=true\/X.env.scope.names.lookup x=some .local:=by first | exact .inl rfl | exact .inr rfl | assumption) (hk:X.K=K:=by rfl) :
  QS X (.Try [.Assign [.Name x px] ex apos] [.ExceptHandler (some (.Name cn np)) (some n) (b0::suite) hpos] [] [] pos) (vx K C0 i j te th):=by
 subst hk
 refine⟨λ pins s σ H D I h=>wpAny_Try_except (wpAny_execs_cons (y8 (wpAny_Assign_Name (E:=XP X pins σ (jG X.K C0 j th D σ)) (thn (he.run _ pins s σ H _ I h) λ v s1 ⟨y,H1,I1,r1,q1⟩=>gw I1 hN hi hx r1 (λ s2 I2=>?_) hf) hsw) (λ f s1 q=>q) λ e s1 q=>qC hst hfr hm hg hdb hN hj hloc hs q))⟩
 exact wpAny_execs_nil (wpAny_execs_nil ⟨_,H1,I2,q1⟩)
end
structure RaiseOk (P:yk) (w:World) (K:W.Frag) (mg:Str->Option xK) (base:Heap) (x:Str) (C:Addr) (sp:Sp):Prop where
 ex:∃(fI:Addr) (fd:yM) (ps:List Str),XMk K C fI/\FnOk P w K mg base CX0 1 fI fd ps sp/\mg x=some (.ref C)/\Binds K fd ps []
theorem qE {X:Cx}{C:Addr}{sp:Sp}{x:Str}{e:Expr}{es:List Expr}{t:TA}{p cpos pos:Pos}(E:XK)(R:RaiseOk X.prog X.w X.K X.mg X.base x C sp)(hr:Room 2 X.A)(hlv:gY X E)(hc:X.calm=true)(ha:QA X (e::es) t)(hg:Gl X x:=by rfl)(hdb:(x == ("__debug__" : Str))=false:=by decide) :
  QS X (.Raise (some (.Call (.Name x p) (e::es) [] cpos)) none pos) (tV C sp E t):=by
 obtain⟨fI,fd,ps,M,F,hm,hb⟩:=R.ex
 exact sE E M F hr hm hb hlv hc ha hg hdb
def vy (C:Addr)(f g:Str)(a b:V)(H:Hp)(E:XK):Prop:=∀d H',H' d=some (.ext (xdict d [(f,a),(g,b)]))->Ext [] H H'->E (.ref C) (some d) H'
theorem wU {C x:Addr}{f g:Str}{a b:V}{H0 H:Hp}{E:XK}(hfg:putF g b [(f,a)]=[(f,a),(g,b)])(r:vy C f g a b H0 E)(x0:Ext [] H0 H)(hx:H x=none):spX2 C f g [.ref x,a,b] (upd H x (.ext (xraw x C none))) (λ v H2=>v=.non/\∃od,H2 x=some (.ext (xraw x C od))/\E (.ref C) od (upd H2 x (.ext (xfly x (.ref C) od)))) E0:=by
 refine⟨x,a,b,rfl,af,λ d hd hdx=>⟨rfl,some d,?_,r d _ ?_ ?_⟩⟩
 ·rw[ag hdx.symm,ag hdx.symm,af]
 ·rw[ag hdx,af,hfg]
 ·have hd0:H d=none:=by rw[ag hdx] at hd; exact hd
  refine x0.trans ⟨λ c o _ hb=>?_,λ c xs hb=>?_⟩
  ·rw[ag (aj hb hx),ag (aj hb hd0),ag (aj hb hd0),ag (aj hb hx),ag (aj hb hx)]
   exact hb
  ·rw[ag (aj hb hx),ag (aj hb hd0),ag (aj hb hd0),ag (aj hb hx),ag (aj hb hx)]
   exact hb
def clsFn (s:Stmt)(i:Nat):Stmt:=match s with
 | .ClassDef _ _ _ b _ _ _ _ _ _ _=>b.getD i (.Pass ⟨0,0,0,0⟩)
 | _=>.Pass ⟨0,0,0,0⟩
structure OwnC (K:W.Frag) (mg:Str->Option xK) (x:Str) (D:Addr):Prop where
 nm:mg x=some (.ref D)
 ty:W.typeIn K (.ref D)=some (.type "type")
 cl:(W.clsIn K D).isSome=true
structure ExcI (K:W.Frag) (C J:Addr):Prop where
 ci:ClsI K C
 own:W.mroIn K C (.ref C)=some true
 val:W.mroIn K C (.type "ValueError")=some true
 up:W.mroIn K C (.ref J)=some true
 jx:W.mroIn K J (.type "BaseException")=some true
section
variable {K:W.Frag}{mg:Str->Option xK}{x:Str}{C D J:Addr}{b:Bool}
theorem OwnC.kit (o:OwnC K mg x D):W.kitCls K (.ref C) (.ref D)=W.mroIn K C (.ref D):=by
 show (if ((W.clsIn K D).isSome && W.typeIn K (.ref D) == some (.type "type"))=true then W.subIn K (.ref C) (.ref D) else none)=_
 rw[o.cl,o.ty]
 rw[if_pos (by simp)]
 rfl
theorem ExcI.exm (e:ExcI K C J)(o:OwnC K mg x J):W.exmOne K (.ref C) (.ref J)=some true:=by
 unfold W.exmOne
 have h:W.subIn K (.ref J) (.type "BaseException")=some true:=e.jx
 rw[h,if_pos (by simp),o.kit]
 exact e.up
theorem ExcI.one (e:ExcI K C J)(o:OwnC K mg x D)(h:W.mroIn K C (.ref D)=some b):W.kitOne K (.ref C) (.ref D)=some b:=by
 unfold W.kitOne
 by_cases q:C=D
 ·subst q
  have:=e.own
  rw[h] at this
  rw[if_pos (by simp),<- this]
 ·rw[if_neg (by simpa using q),o.kit]
  exact h
theorem ExcI.isVal (e:ExcI K C J):W.kitOne K (.ref C) (.type "ValueError")=some true:=by
 unfold W.kitOne
 rw[if_neg (by simp)]
 show (if W.kitMeta "ValueError" = true then W.subIn K (.ref C) (.type "ValueError") else none)=_
 rw[if_pos (by decide +kernel)]
 exact e.val
end
def m6 (es:Array DictEntry):Bool:=es.toList.all λ e=>match e.key with | .str _ _=>true | _=>false
theorem on {es:Array DictEntry}(h:m6 es=true):StrKeys es:=λ e he=>by
 have:=zX.mp h e (by simpa using he)
 revert this
 cases e.key <;> simp
theorem gj {K:W.Frag}{h:Heap}{mg:Str->Option xK}{x:Str}{D:Addr}{cd:ClassData}(X:K.In h)(G:h.Ns yp mg)(a:W.nsIn K yp x=some (some (.ref D)))(t:W.typeIn K (.ref D)=some (.type "type"))(c:W.clsIn K D=some cd):OwnC K mg x D :=
 ⟨W.mg_of X G a,t,by rw[c]; rfl⟩
structure RF (K:W.Frag) (C J fI:Addr):Prop where
 obj:∃nm qn N bs hdct sn sub ab col dd k0 k1 k2 k3 k5,K.lookup C=some (excClassObj nm qn C N bs (.ref J::veMro) hdct sn sub ab col dd k0 k1 k2 k3 k5 "ValueError.__new__")
 init:W.findIn K (.ref C) "__init__" = some (some (.ref fI))
 fn:W.isFn K (.ref fI)=true
 kp:W.keepIn K (.ref C)=true
 ei:ExcI K C J
theorem RF.mk' {K:W.Frag}{C J fI:Addr}(r:RF K C J fI)(j:JOk K J):XMk K C fI :=
 let ⟨nm,qn,N,bs,hdct,sn,sub,ab,col,dd,k0,k1,k2,k3,k5,e⟩:=r.obj
 ⟨⟨J,nm,qn,N,bs,hdct,sn,sub,ab,col,dd,k0,k1,k2,k3,k5,e,j⟩,r.init,r.fn,r.kp,r.ei.ci.cx⟩
section
variable {P:yk}{w:World}{K:W.Frag}{mg:Str->Option xK}{base:Heap}{C J fI:Addr}{fd:yM}{x q f g:Str}{st:Stmt}{sp:Sp}{ps:List Str}
theorem sG (r:RF K C J fI)(j:JOk K J)(m:mg x=some (.ref C))(F:FnOk P w K mg base CX0 1 fI fd ps sp)(b:Binds K fd ps []):RaiseOk P w K mg base x C sp:=⟨fI,fd,ps,r.mk' j,F,m,b⟩
end
end L2
namespace PySem
theorem jH (l:Addr)(items:Array xK)(n:Nat)(dd:Option Addr)(sl:Array (Option xK))(t:Tok) :
  Meets (Builtin.«tuple.__mul__» ⟨[.ref l,.int 1 t],[]⟩) (λ _ R s=>s.heap.get? l=some { cls:=.type "tuple",dict:=dd,data:=.seq items n,slots:=sl }/\R (.ok (.ret (xK.ref l))) s) :=
 .of_wp λ prog w A R s h=>by
  obtain⟨hp,g,d,tk,os⟩:=s
  obtain⟨hl,h⟩:=h
  have f1:=AutoSeq1.idx_int
  wp_walk
  exact⟨_,rfl,h⟩
end PySem
namespace L2
open PySem PySem.Spec PyProof.Rows
variable {X:Cx}
def wV (K:W.Frag):R2:=λ x y H Q=>(∃a xs,x=.ref a/\y=.int 1/\SqT K H a xs/\Q (.ref a) H)\/rRepT K x y H Q
theorem sH (K:W.Frag)(h:X.K=K:=by rfl):OpR X (binaryOp .Mult) (wV K):=by
 subst h
 intro pins s σ H x y v u Q I rx ry h
 rcases h with h | h
 ·obtain⟨a,xs,rfl,rfl,hx,q⟩:=h
  cases rx
  obtain⟨t,rfl⟩:=ry
  obtain⟨its,r,ht,hl⟩:=I.tuple hx
  obtain⟨⟨cls,dd,data,sl⟩,ho,hc,n,hd⟩:=id ht
  simp only at hc hd
  subst hc hd
  exact wpAny_binaryOp_repeat_ref (T := "tuple") (U := "int") (by decide) ⟨_,ho,rfl⟩ (λ s'=>typeIs_int s' 1 t) dm F.fills_int_mul F.slot_int_rmul gc F.slot_int_index.lookup
   (call_meets F.slot_int_rmul (typeIs_int s 1 t) F.entry_int_rmul (F.args_int_rmul_2 _ _) (eA 1 t a its.toArray n dd sl)
    ⟨ho,rfl,⟨_,ho,rfl⟩,call_meets F.slot_tuple_mul ⟨_,ho,rfl⟩ F.entry_tuple_mul (F.args_tuple_mul_2 _ _) (jH a its.toArray n dd sl t) ⟨ho,⟨.ref a,H,I,rfl,q⟩⟩⟩)
 ·exact vh X.K rfl pins s σ H x y v u Q I rx ry h
inductive Ent where
 | s (d:xH)
 | o (ds:List xH)
 | x (c:Str) (as:List xH)
structure Xc where
 cl:Str->Addr
 fl:Str->List Str
abbrev PEnv:=List (Option Ent)
structure Fr where
 G:Hp->Int->Prop
 gs:List Addr
 S0:List Addr
 H0:Hp
 fa:V
 fd:List Nat
 xc:Xc
 gext:∀{S:List Addr} {H H':Hp} {n:Int},G H n->Ext S H H'->(∀a∈S,H0 a=none)->G H' n
 ghas:∀{H:Hp} {n:Int},G H n->∀a∈gs,H a≠none
 gnx:∀{H:Hp} {n:Int},G H n->∀a∈gs,∀φ,H a≠some (.ext φ)
 gs0:∀a∈gs,a∈S0
 has0:∀a∈S0,H0 a≠none
def EntOk (M:Fr)(S:List Addr)(H:Hp):Ent->V->Prop
 | .s d,v=>Rep S H d v
 | .o ds,v=>∃a xs,v=.ref a/\H a=some (.lst xs)/\Reps S H ds xs/\a∈S/\M.H0 a=none
 | .x c as,v=>∃a dx vs,v=.ref a/\H a=some (.ext (xfly a (.ref (M.xc.cl c)) (some dx)))/\H dx=some (.ext (xdict dx ((M.xc.fl c).zip vs)))/\Reps S H as vs/\a ∉ M.gs/\dx ∉ M.gs
structure EnvOk (M:Fr) (env:PEnv) (pn:List (xH × V)) (σ:St) (S:List Addr) (H:Hp) (n:Int):Prop where
 val:∀(i:Nat) (e:Ent),env[i]? = some (some e)->∃v,σ[i]? = some (some v)/\EntOk M S H e v
 ne:∀(i j:Nat) (ds es:List xH) (a:Addr),env[i]? = some (some (.o ds))->env[j]? = some (some (.o es))->σ[i]? = some (some (.ref a))->σ[j]? = some (some (.ref a))->i=j
 len:env.length=σ.length
 fdv:∀i∈M.fd,σ[i]? = some (some M.fa)
 gd:M.G H n
 ext:Ext M.gs M.H0 H
 s0:∀a∈M.S0,a∈S
 sn:∀a∈S,a∈M.S0\/M.H0 a=none
 has:∀a∈S,H a≠none
 pin:∀p∈pn,Rep S H p.1 p.2
section
variable {M:Fr}{env:PEnv}{pn:List (xH × V)}{σ:St}{S:List Addr}{H H':Hp}{n n':Int}
theorem Fr.out (M:Fr){a:Addr}(h:M.H0 a=none):a ∉ M.gs:=λ z=>M.has0 a (M.gs0 a z) h
theorem EnvOk.gsS (ok:EnvOk M env pn σ S H n):∀a∈M.gs,a∈S:=λ a h=>ok.s0 a (M.gs0 a h)
theorem Ext.some {S:List Addr}{H H':Hp}(x:Ext S H H'){a:Addr}(ha:a ∉ S)(h:H a≠none):H' a≠none:=by
 cases e:H a with
 | none=>exact absurd e h
 | some o=>rw[x.keep a o ha e]; simp
theorem EntOk.step {e:Ent}{v:V}(hg:∀a∈M.gs,a∈S)(h:EntOk M S H e v)(x:Ext M.gs H H'):EntOk M S H' e v:=by
 cases e with
 | s d=>exact Rep.ext (x.mono hg) h
 | o ds =>
  obtain⟨a,xs,e,ha,r,hs,h0⟩:=h
  exact⟨a,xs,e,x.keep _ _ (M.out h0) ha,r.ext (x.mono hg),hs,h0⟩
 | x c as =>
  obtain⟨a,dx,vs,e,ha,hd,r,g1,g2⟩:=h
  exact⟨a,dx,vs,e,x.keep _ _ g1 ha,x.keep _ _ g2 hd,r.ext (x.mono hg),g1,g2⟩
theorem EnvOk.step (ok:EnvOk M env pn σ S H n)(x:Ext M.gs H H')(g:M.G H' n'):EnvOk M env pn σ S H' n':=by
 refine⟨λ i e he=>?_,ok.ne,ok.len,ok.fdv,g,ok.ext.trans x,ok.s0,ok.sn,λ a ha=>?_,λ p hp=>(ok.pin p hp).ext (x.mono ok.gsS)⟩
 ·obtain⟨v,hv,r⟩:=ok.val i e he
  exact⟨v,hv,r.step ok.gsS x⟩
 ·by_cases z:a∈M.gs
  ·exact M.ghas g a z
  ·exact x.some z (ok.has a ha)
theorem EnvOk.fresh (ok:EnvOk M env pn σ S H n){a:Addr}(h:H a=none):a ∉ S:=λ z=>ok.has a z h
theorem EnvOk.grow (ok:EnvOk M env pn σ S H n)(x:Ext [] H H'):M.G H' n:=M.gext ok.gd x (by simp)
end
mutual
theorem Rep.fresh {S:List Addr}{H:Hp}{a:Addr}(ha:H a=none):∀{d:xH} {v:V},Rep S H d v->Rep (a::S) H d v
 | .none,_,h=>h
 | .bool _,_,h=>h
 | .int _,_,h=>h
 | .str _,_,h=>h
 | .tuple ds,_,h=>by
  obtain⟨b,xs,rfl,hb,r⟩:=h.of_tup
  exact .tup hb (Reps.fresh ha r)
 | .list ds,_,h=>by
  obtain⟨b,xs,rfl,hb,hs,r⟩:=h.of_lst
  refine .lst hb (λ z=>?_) (Reps.fresh ha r)
  rcases xR.mp z with z | z
  ·rw[z,ha] at hb; cases hb
  ·exact hs z
 | .dict _,_,h=>h
theorem Reps.fresh {S:List Addr}{H:Hp}{a:Addr}(ha:H a=none):∀{ds:List xH} {vs:List V},Reps S H ds vs->Reps (a::S) H ds vs
 | [],_,h=>h
 | d::ds,_,h=>by
  obtain⟨x,r,rfl,h1,h2⟩:=h.of_cons
  exact .cons (Rep.fresh ha h1) (Reps.fresh ha h2)
end
def Sized (H:Hp):Prop:=∀a xs,H a=some (.lst xs)\/H a=some (.tup xs)->xs.length<=xV
theorem HOk.sized {P:yk}{w:World}{H:Hp}{h:Heap}(ok:HOk P w H h):Sized H:=λ a xs e=>by
 rcases e with e | e
 ·exact (ok a _ e).1
 ·exact (ok a _ e).1
def RepL (gs S:List Addr)(H:Hp)(d:xH)(v:V):Prop:=Rep S H d v\/∃ds a xs,d=.list ds/\v=.ref a/\H a=some (.lst xs)/\Reps S H ds xs/\a ∉ gs
section
variable {gs S:List Addr}{H H':Hp}{d:xH}{v:V}{ds:List xH}
theorem RepL.ext (h:RepL gs S H d v)(hg:∀a∈gs,a∈S)(x:Ext gs H H'):RepL gs S H' d v:=by
 rcases h with h | ⟨ds,a,xs,e1,e2,e3,r,ha⟩
 ·exact .inl (h.ext (x.mono hg))
 ·exact .inr ⟨ds,a,xs,e1,e2,x.keep _ _ ha e3,r.ext (x.mono hg),ha⟩
theorem RepL.of_lst (h:RepL gs S H (.list ds) v):∃a xs,v=.ref a/\H a=some (.lst xs)/\Reps S H ds xs:=by
 rcases h with h | ⟨ds',a,xs,e1,e2,e3,r,_⟩
 ·obtain⟨a,xs,e,ha,_,r⟩:=h.of_lst
  exact⟨a,xs,e,ha,r⟩
 ·cases e1
  exact⟨a,xs,e2,e3,r⟩
theorem RepL.rep (h:RepL gs S H d v)(hd:∀ds,d≠.list ds):Rep S H d v:=by
 rcases h with h | ⟨ds,a,xs,e1,_⟩
 ·exact h
 ·exact absurd e1 (hd ds)
theorem RepL.less (h:RepL gs S H d v)(hg:∀a∈gs,a∈S):Rep gs H d v:=by
 rcases h with h | ⟨ds,a,xs,rfl,rfl,e3,r,ha⟩
 ·exact h.less hg
 ·exact .lst e3 ha (r.less hg)
theorem RepL.of_tup (h:RepL gs S H (.tuple ds) v):∃a xs,v=.ref a/\H a=some (.tup xs)/\Reps S H ds xs:=(h.rep (by intro _ z; cases z)).of_tup
theorem RepL.of_int {i:Int}(h:RepL gs S H (.int i) v):v=.int i:=(h.rep (by intro _ z; cases z)).of_int
theorem RepL.of_bl {i:Bool}(h:RepL gs S H (.bool i) v):v=.bl i:=(h.rep (by intro _ z; cases z)).of_bl
theorem RepL.of_str {i:Str}(h:RepL gs S H (.str i) v):v=.str i:=(h.rep (by intro _ z; cases z)).of_str
theorem RepL.of_non (h:RepL gs S H .none v):v=.non:=(h.rep (by intro _ z; cases z)).of_non
end
abbrev UX:=PEnv->Int->(xH->Int->Prop)->Prop
abbrev UT:=PEnv->Int->(Bool->Int->Prop)->Prop
abbrev UA:=PEnv->Int->(List xH->Int->Prop)->Prop
structure UEnds where
 nx:PEnv->Int->Prop
 rt:xH->Int->Prop
abbrev US:=UEnds->PEnv->Int->Prop
def lift (M:Fr)(u:UX):TE:=λ σ H R=>∃env pn S n Q,EnvOk M env pn σ S H n/\u env n Q/\∀v H' d n',Rep S H' d v->Ext M.gs H H'->M.G H' n'->Sized H'->Q d n'->R v H'
def liftL (M:Fr)(u:UX):TE:=λ σ H R=>∃env pn S n Q,EnvOk M env pn σ S H n/\u env n Q/\∀v H' d n',RepL M.gs S H' d v->Ext M.gs H H'->M.G H' n'->Sized H'->Q d n'->R v H'
def liftN (M:Fr)(u:PEnv->Int->(List xH->Int->Prop)->Prop):TE:=λ σ H R=>∃env pn S n Q,EnvOk M env pn σ S H n/\u env n Q /\
 ∀a xs H' ds n',H a=none->H' a=some (.lst xs)->Reps (a::S) H' ds xs->Ext M.gs H H'->M.G H' n'->Sized H'->Q ds n'->R (.ref a) H'
def liftT (M:Fr)(u:UT):TT:=λ σ H R=>∃env pn S n Q,EnvOk M env pn σ S H n/\u env n Q/\∀b H' n',Ext M.gs H H'->M.G H' n'->Q b n'->R b H'
def liftA (M:Fr)(k:Nat)(u:UA):TA:=λ σ H R=>∃env pn S n Q,EnvOk M env pn σ S H n/\u env n Q/\∀vs H' ds n',vs.length=k->Reps S H' ds vs->Ext M.gs H H'->M.G H' n'->Sized H'->Q ds n'->R vs H'
def RepLs (gs S:List Addr)(H:Hp):List xH->List V->Prop
 | [],vs=>vs=[]
 | d::ds,vs=>∃v r,vs=v::r/\RepL gs S H d v/\RepLs gs S H ds r
theorem RepLs.ext {gs S:List Addr}{H H':Hp}:∀{ds:List xH} {vs:List V},RepLs gs S H ds vs->(∀a∈gs,a∈S)->Ext gs H H'->RepLs gs S H' ds vs
 | [],_,h,_,_=>h
 | _::_,_,⟨v,r,e,h1,h2⟩,hg,x=>⟨v,r,e,h1.ext hg x,RepLs.ext h2 hg x⟩
theorem RepLs.less {gs S:List Addr}{H:Hp}:∀{ds:List xH} {vs:List V},RepLs gs S H ds vs->(∀a∈gs,a∈S)->Reps gs H ds vs
 | [],_,h,_=>by cases h; exact .nil
 | _::_,_,⟨v,r,e,h1,h2⟩,hg=>by subst e; exact .cons (h1.less hg) (RepLs.less h2 hg)
def tW (M:Fr)(u:UA):TA:=λ σ H R=>∃env pn S n Q,EnvOk M env pn σ S H n/\u env n Q/\∀vs H' ds n',RepLs M.gs S H' ds vs->Ext M.gs H H'->M.G H' n'->Sized H'->Q ds n'->R vs H'
def liftS (M:Fr)(u:US):TS:=λ D σ H=>∃env pn S n E,EnvOk M env pn σ S H n/\u E env n/\(∀env' σ' S' H' n',EnvOk M env' pn σ' S' H' n'->E.nx env' n'->D.nx σ' H') /\
 (∀v H' d n',Rep M.S0 H' d v->Ext M.gs M.H0 H'->M.G H' n'->E.rt d n'->D.rt v H')
structure KE (X:Cx) (M:Fr) (e:Expr) (u:UX):Prop where run:QE X e (lift M u)
structure KL (X:Cx) (M:Fr) (e:Expr) (u:UX):Prop where run:QE X e (liftL M u)
structure KN (X:Cx) (M:Fr) (e:Expr) (u:PEnv->Int->(List xH->Int->Prop)->Prop):Prop where run:QE X e (liftN M u)
structure KB (X:Cx) (M:Fr) (e:Expr) (u:UT):Prop where run:QT X e (liftT M u)
structure KW (X:Cx) (M:Fr) (e:Expr) (u:UT):Prop where run:QW X e (liftT M u)
structure KA (X:Cx) (M:Fr) (es:List Expr) (u:UA):Prop where run:QA X es (liftA M es.length u)
structure KAL (X:Cx) (M:Fr) (es:List Expr) (u:UA):Prop where run:QA X es (tW M u)
structure KS (X:Cx) (M:Fr) (st:Stmt) (u:US):Prop where run:QS X st (liftS M u)
structure KSs (X:Cx) (M:Fr) (st:List Stmt) (u:US):Prop where run:QSs X st (liftS M u)
section
variable {X:Cx}{M:Fr}{e:Expr}{es:List Expr}{t:TE}{tT:TT}{ta:TA}{u:UX}
theorem ex5 {A B C D E:Type}{P:A->B->C->D->E->Prop}{r:Prop}(h:∃a b c d e,P a b c d e)(k:∀a b c d e,P a b c d e->r):r:=by
 obtain⟨a,b,c,d,e,p⟩:=h
 exact k a b c d e p
theorem ex6 {A B C D E F:Type}{P:A->B->C->D->E->F->Prop}{r:Prop}(h:∃a b c d e f,P a b c d e f)(k:∀a b c d e f,P a b c d e f->r):r:=by
 obtain⟨a,b,c,d,e,f,p⟩:=h
 exact k a b c d e f p
theorem QE.sized (h:QE X e t):QE X e (λ σ H R=>t σ H λ v H1=>Sized H1->R v H1) :=
 ⟨λ pins s σ H Q I q=>thn (h.run pins s σ H _ I q) λ v s1 ⟨x,H1,I1,r1,q1⟩=>⟨x,H1,I1,r1,q1 I1.hok.sized⟩⟩
theorem QA.sized (h:QA X es ta):QA X es (λ σ H R=>ta σ H λ v H1=>Sized H1->R v H1) :=
 ⟨λ pos pins s σ H Q I q=>thn (h.run pos pins s σ H _ I q) λ v s1 ⟨x,H1,I1,r1,q1⟩=>⟨x,H1,I1,r1,q1 I1.hok.sized⟩,h.ns⟩
theorem KE.of (h:QE X e t)(k:∀σ H R env pn S n Q,EnvOk M env pn σ S H n->u env n Q->(∀v H' d n',Rep S H' d v->Ext M.gs H H'->M.G H' n'->Q d n'->R v H')->t σ H R):KE X M e u :=
 ⟨h.sized.weaken λ σ H R h=>ex5 h λ env pn S n Q h=>k σ H _ env pn S n Q h.1 h.2.1 λ v H' d n' r x g qq sz=>h.2.2 v H' d n' r x g sz qq⟩
theorem KL.of (h:QE X e t)(k:∀σ H R env pn S n Q,EnvOk M env pn σ S H n->u env n Q->(∀v H' d n',RepL M.gs S H' d v->Ext M.gs H H'->M.G H' n'->Q d n'->R v H')->t σ H R):KL X M e u :=
 ⟨h.sized.weaken λ σ H R h=>ex5 h λ env pn S n Q h=>k σ H _ env pn S n Q h.1 h.2.1 λ v H' d n' r x g qq sz=>h.2.2 v H' d n' r x g sz qq⟩
theorem KN.of {u:PEnv->Int->(List xH->Int->Prop)->Prop}(h:QE X e t)(k:∀σ H R env pn S n Q,EnvOk M env pn σ S H n->u env n Q->(∀a xs H' ds n',H a=none->H' a=some (.lst xs)->Reps (a::S) H' ds xs->Ext M.gs H H'->M.G H' n'->Q ds n'->R (.ref a) H')->t σ H R):KN X M e u :=
 ⟨h.sized.weaken λ σ H R h=>ex5 h λ env pn S n Q h=>k σ H _ env pn S n Q h.1 h.2.1 λ a xs H' ds n' h0 h1 r x g qq sz=>h.2.2 a xs H' ds n' h0 h1 r x g sz qq⟩
theorem KA.of {u:UA}(h:QA X es ta)(k:∀σ H R env pn S n Q,EnvOk M env pn σ S H n->u env n Q->(∀v H' d n',v.length=es.length->Reps S H' d v->Ext M.gs H H'->M.G H' n'->Q d n'->R v H')->ta σ H R):KA X M es u :=
 ⟨h.sized.weaken λ σ H R h=>ex5 h λ env pn S n Q h=>k σ H _ env pn S n Q h.1 h.2.1 λ v H' d n' hl r x g qq sz=>h.2.2 v H' d n' hl r x g sz qq⟩
theorem KAL.of {u:UA}(h:QA X es ta)(k:∀σ H R env pn S n Q,EnvOk M env pn σ S H n->u env n Q->(∀v H' d n',RepLs M.gs S H' d v->Ext M.gs H H'->M.G H' n'->Q d n'->R v H')->ta σ H R):KAL X M es u :=
 ⟨h.sized.weaken λ σ H R h=>ex5 h λ env pn S n Q h=>k σ H _ env pn S n Q h.1 h.2.1 λ v H' d n' r x g qq sz=>h.2.2 v H' d n' r x g sz qq⟩
theorem QT.weaken {t t':TT}(h:QT X e t)(w:∀σ H Q,t' σ H Q->t σ H Q):QT X e t':=⟨λ pins s σ H Q I q=>h.run pins s σ H Q I (w σ H Q q)⟩
theorem QW.weaken {t t':TT}(h:QW X e t)(w:∀σ H Q,t' σ H Q->t σ H Q):QW X e t':=⟨λ wh pins s σ H Q I q=>h.run wh pins s σ H Q I (w σ H Q q)⟩
theorem QS.weaken {st:Stmt}{t t':TS}(h:QS X st t)(w:∀D σ H,t' D σ H->t D σ H):QS X st t':=⟨λ pins s σ H D I q=>h.run pins s σ H D I (w D σ H q)⟩
theorem QSs.weaken {st:List Stmt}{t t':TS}(h:QSs X st t)(w:∀D σ H,t' D σ H->t D σ H):QSs X st t':=⟨λ pins s σ H D I q=>h.run pins s σ H D I (w D σ H q)⟩
theorem KB.of {u:UT}(h:QT X e tT)(k:∀σ H R env pn S n Q,EnvOk M env pn σ S H n->u env n Q->(∀b H' n',Ext M.gs H H'->M.G H' n'->Q b n'->R b H')->tT σ H R):KB X M e u :=
 ⟨h.weaken λ σ H R h=>ex5 h λ env pn S n Q h=>k σ H _ env pn S n Q h.1 h.2.1 h.2.2⟩
theorem KW.of {u:UT}(h:QW X e tT)(k:∀σ H R env pn S n Q,EnvOk M env pn σ S H n->u env n Q->(∀b H' n',Ext M.gs H H'->M.G H' n'->Q b n'->R b H')->tT σ H R):KW X M e u :=
 ⟨h.weaken λ σ H R h=>ex5 h λ env pn S n Q h=>k σ H _ env pn S n Q h.1 h.2.1 h.2.2⟩
theorem KE.loose (h:KE X M e u):KL X M e u:=.of h.run λ σ H R env pn S n Q ok hu k=>⟨env,pn,S,n,Q,ok,hu,λ v H' d n' r x g _ q=>k v H' d n' (.inl r) x g q⟩
def uL (u:PEnv->Int->(List xH->Int->Prop)->Prop):UX:=λ env n Q=>u env n λ ds n'=>Q (.list ds) n'
theorem KN.data {u:PEnv->Int->(List xH->Int->Prop)->Prop}(h:KN X M e u):KE X M e (uL u):=.of h.run λ σ H R env pn S n Q ok hu k =>
 ⟨env,pn,S,n,_,ok,hu,λ a xs H' ds n' h0 h1 r x g _ q=>k _ H' _ n' (.lst h1 (ok.fresh h0) (r.less λ _ h=>xT _ h)) x g q⟩
end
def bnd {α:Type}(o:Option α)(Q:α->Prop):Prop:=∃d,o=some d/\Q d
@[simp] theorem am {α:Type} (d:α) (Q:α->Prop):bnd (some d) Q=Q d:=by simp[bnd]
@[simp] theorem xD {α:Type} (Q:α->Prop):bnd (none:Option α) Q=False:=by simp[bnd]
def uVar (i:Nat):UX:=λ env n Q=>match env[i]? with | some (some (.s d))=>Q d n | _=>False
def aa (i:Nat):UX:=λ env n Q=>match env[i]? with | some (some (.s d))=>Q d n | some (some (.o ds))=>Q (.list ds) n | _=>False
def uC (d:xH):UX:=λ _ n Q=>Q d n
section
variable {X:Cx}{M:Fr}{e:Expr}
theorem k_v (i:Nat){x:Str}{pos:Pos}(hN:X.N[i]? = some x:=by rfl)(hv:Vis X.env.scope x:=by first | exact Or.inl rfl | exact Or.inr (Or.inl rfl) | exact Or.inr (Or.inr rfl))(hd:(x == ("__debug__" : Str))=false:=by decide)
  (hcd:(x == ("__classdict__" : Str))=false:=by decide):KE X M (.Name x pos) (uVar i):=.of (qv i hN hv hd hcd) λ σ H R env pn S n Q ok hu k=>by
 unfold uVar at hu
 cases e:env[i]? with
 | none=>rw[e] at hu; exact hu.elim
 | some o =>
  cases o with
  | none=>rw[e] at hu; exact hu.elim
  | some en =>
   cases en with
   | o ds=>rw[e] at hu; exact hu.elim
   | x c as=>rw[e] at hu; exact hu.elim
   | s d =>
    rw[e] at hu
    obtain⟨v,hv,r⟩:=ok.val i _ e
    exact⟨v,hv,k v H d n r (.refl _ _) ok.gd hu⟩
theorem k_l (i:Nat){x:Str}{pos:Pos}(hN:X.N[i]? = some x:=by rfl)(hv:Vis X.env.scope x:=by first | exact Or.inl rfl | exact Or.inr (Or.inl rfl) | exact Or.inr (Or.inr rfl))(hd:(x == ("__debug__" : Str))=false:=by decide)
  (hcd:(x == ("__classdict__" : Str))=false:=by decide):KL X M (.Name x pos) (aa i):=.of (qv i hN hv hd hcd) λ σ H R env pn S n Q ok hu k=>by
 unfold aa at hu
 cases e:env[i]? with
 | none=>rw[e] at hu; exact hu.elim
 | some o =>
  cases o with
  | none=>rw[e] at hu; exact hu.elim
  | some en =>
   rw[e] at hu
   obtain⟨v,hv,r⟩:=ok.val i _ e
   cases en with
   | o ds =>
    obtain⟨a,xs,rfl,ha,r,hs,h0⟩:=r
    exact⟨_,hv,k _ H _ n (.inr ⟨ds,a,xs,rfl,rfl,ha,r,M.out h0⟩) (.refl _ _) ok.gd hu⟩
   | s d=>exact⟨v,hv,k v H d n (.inl r) (.refl _ _) ok.gd hu⟩
   | x c as=>exact hu.elim
theorem k_c {v:V}{d:xH}(h:QE X e (tC v))(r:∀S H,Rep S H d v):KE X M e (uC d):=.of h λ σ H R env pn S n Q ok hu k=>k v H d n (r S H) (.refl _ _) ok.gd hu
theorem k_int {i j pos}:KE X M (.Constant (.int i) j pos) (uC (.int i)):=k_c aw λ _ _=>.int i
theorem k_bl {i j pos}:KE X M (.Constant (.bool i) j pos) (uC (.bool i)):=k_c qe_bl λ _ _=>.bl i
theorem k_non {j pos}:KE X M (.Constant .none j pos) (uC .none):=k_c wG λ _ _=>.non
theorem k_str {x j pos}:KE X M (.Constant (.str x) j pos) (uC (.str x)):=k_c wH λ _ _=>.str x
end
def uNil:UA:=λ _ n Q=>Q [] n
def uCons (u:UX)(r:UA):UA:=λ env n Q=>u env n λ d n1=>r env n1 λ ds n2=>Q (d::ds) n2
section
variable {X:Cx}{M:Fr}{e a b:Expr}{es:List Expr}{u ua ub:UX}{ur:UA}{pos:Pos}
theorem ad:KA X M [] uNil:=.of aC λ σ H R env pn S n Q ok hu k=>k [] H [] n rfl .nil (.refl _ _) ok.gd hu
theorem ka_c (h:KE X M e u)(hr:KA X M es ur)(hs:aJ e=true:=by rfl):KA X M (e::es) (uCons u ur):=.of (qa_c h.run hr.run hs) λ σ H R env pn S n Q ok hu k =>
 ⟨env,pn,S,n,_,ok,hu,λ v H1 d n1 r1 x1 g1 _ q1=>⟨env,pn,S,n1,_,ok.step x1 g1,q1,λ vs H2 ds n2 hl r2 x2 g2 _ q2=>k _ H2 _ n2 (by simp[hl]) (.cons (r1.ext (x2.mono ok.gsS)) r2) (x1.trans x2) g2 q2⟩⟩
theorem ah:KAL X M [] uNil:=.of aC λ σ H R env pn S n Q ok hu k=>k [] H [] n rfl (.refl _ _) ok.gd hu
theorem kal_c (h:KL X M e u)(hr:KAL X M es ur)(hs:aJ e=true:=by rfl):KAL X M (e::es) (uCons u ur):=.of (qa_c h.run hr.run hs) λ σ H R env pn S n Q ok hu k =>
 ⟨env,pn,S,n,_,ok,hu,λ v H1 d n1 r1 x1 g1 _ q1=>⟨env,pn,S,n1,_,ok.step x1 g1,q1,λ vs H2 ds n2 r2 x2 g2 _ q2=>k _ H2 (d::ds) n2 ⟨_,_,rfl,r1.ext ok.gsS x2,r2⟩ (x1.trans x2) g2 q2⟩⟩
def uTup (ur:UA):UX:=λ env n Q=>ur env n λ ds n1=>Q (.tuple ds) n1
theorem k_tup {x1}(h:KA X M es ur)(hl:es.length<=xV:=by decide):KE X M (.Tuple es x1 pos) (uTup ur) :=
 .of (tN h.run) λ σ H R env pn S n Q ok hu k=>⟨env,pn,S,n,_,ok,hu,λ vs H1 ds n1 el r1 x1 g1 sz q1=>⟨by rw[el]; exact hl,λ p hp =>
  have x2:=Ext.new (S:=[]) (o:=.tup vs) hp
  k _ _ _ n1 (.tup af (r1.ext (x2.mono (by simp)))) (x1.trans (x2.mono (by simp))) (M.gext g1 x2 (by simp)) q1⟩⟩
theorem bT (h:KA X M es ur)(hl:es.length<=xV:=by decide):KN X M (.List es pos) ur :=
 .of (mL h.run) λ σ H R env pn S n Q ok hu k=>⟨env,pn,S,n,_,ok,hu,λ vs H1 ds n1 el r1 x1 g1 sz q1=>⟨by rw[el]; exact hl,λ p hp =>
  have x2:=Ext.new (S:=[]) (o:=.lst vs) hp
  have hp0:H p=none:=by
   by_cases z:p∈M.gs
   ·exact absurd hp (M.ghas g1 p z)
   ·exact x1.fresh z hp
  k p vs _ _ n1 hp0 af ((r1.fresh hp).ext (x2.mono (by simp))) (x1.trans (x2.mono (by simp))) (M.gext g1 x2 (by simp)) q1⟩⟩
end
theorem RelV.one {v w:V}{u:xK}(h:RelV v u)(k:RelV w u):v=w:=by
 cases v <;> cases w <;> simp only[RelV] at h k <;> first | rfl | (obtain⟨t,rfl⟩:=h; obtain⟨t',e⟩:=k; cases e; rfl) | (subst h; cases k; rfl) | (subst h; obtain⟨t',e⟩:=k; cases e) | (obtain⟨t,rfl⟩:=h; obtain⟨t',e⟩:=k; cases e; done) | (obtain⟨t,rfl⟩:=h; cases k; done) | (subst h; cases k; done)
mutual
theorem Rep.one {S:List Addr}{H:Hp}:∀{d d':xH} {v:V},Rep S H d v->Rep S H d' v->d=d'
 | .none,d',v,h,k=>by cases h.of_non; cases d' <;> simp[Rep] at k; rfl
 | .bool b,d',v,h,k=>by cases h.of_bl; cases d' <;> simp[Rep] at k; rw[k]
 | .int b,d',v,h,k=>by cases h.of_int; cases d' <;> simp[Rep] at k; rw[k]
 | .str b,d',v,h,k=>by cases h.of_str; cases d' <;> simp[Rep] at k; rw[k]
 | .tuple ds,d',v,h,k=>by
  obtain⟨a,xs,rfl,ha,r⟩:=h.of_tup
  cases d' with
  | tuple es =>
   obtain⟨b,ys,e,hb,r'⟩:=k.of_tup
   cases e
   rw[ha] at hb
   cases hb
   rw[Reps.one r r']
  | list es=>obtain⟨b,ys,e,hb,_⟩:=k.of_lst; cases e; rw[ha] at hb; cases hb
  | _=>simp[Rep] at k
 | .list ds,d',v,h,k=>by
  obtain⟨a,xs,rfl,ha,_,r⟩:=h.of_lst
  cases d' with
  | list es =>
   obtain⟨b,ys,e,hb,_,r'⟩:=k.of_lst
   cases e
   rw[ha] at hb
   cases hb
   rw[Reps.one r r']
  | tuple es=>obtain⟨b,ys,e,hb,_⟩:=k.of_tup; cases e; rw[ha] at hb; cases hb
  | _=>simp[Rep] at k
 | .dict _,d',v,h,k=>by unfold Rep at h; exact h.elim
theorem Reps.one {S:List Addr}{H:Hp}:∀{ds ds':List xH} {vs:List V},Reps S H ds vs->Reps S H ds' vs->ds=ds'
 | [],ds',vs,h,k=>by
  cases h.of_nil
  cases ds' with
  | nil=>rfl
  | cons d ds=>obtain⟨x,r,e,_⟩:=k.of_cons; cases e
 | d::ds,ds',vs,h,k=>by
  obtain⟨x,r,rfl,h1,h2⟩:=h.of_cons
  cases ds' with
  | nil=>cases k.of_nil
  | cons d' ds' =>
   obtain⟨x',r',e,k1,k2⟩:=k.of_cons
   cases e
   rw[Rep.one h1 k1,Reps.one h2 k2]
end
structure OpD (X:Cx) (f:xK->xK->Sem xK) (op:xH->xH->Option xH):Prop where
 ex:∃r,OpR X f r/\∀gs S H dx dy x y d (R:VK),(∀a∈S,H a≠none)->Sized H->RepL gs S H dx x->RepL gs S H dy y->op dx dy=some d->(∀v H',Rep S H' d v->Ext [] H H'->R v H')->r x y H R
def uOp (f:xH->xH->Option xH)(ua ub:UX):UX:=λ env n Q=>ua env n λ x n1=>ub env n1 λ y n2=>bnd (f x y) λ d=>Q d n2
def isB (d:xH)(Q:Bool->Prop):Prop:=match d with | .bool b=>Q b | _=>False
@[simp] theorem ai (b:Bool) (Q:Bool->Prop):isB (.bool b) Q=Q b:=rfl
def uTst (u:UX):UT:=λ env n Q=>u env n λ d n'=>isB d λ b=>Q b n'
section
variable {X:Cx}{M:Fr}{a b c e:Expr}{ua ub uc:UX}{pos:Pos}{f:xH->xH->Option xH}
theorem op_go {r:R2}{R:VK}{σ:St}{H:Hp}{env:PEnv}{pn:List (xH × V)}{S:List Addr}{n:Int}{Q:xH->Int->Prop}
  (hr:∀gs S H dx dy x y d (R:VK),(∀a∈S,H a≠none)->Sized H->RepL gs S H dx x->RepL gs S H dy y->f dx dy=some d->(∀v H',Rep S H' d v->Ext [] H H'->R v H')->r x y H R)
  (ok:EnvOk M env pn σ S H n) (hu:uOp f ua ub env n Q) (k:∀v H' d n',Rep S H' d v->Ext M.gs H H'->M.G H' n'->Q d n'->R v H'):tOp r (liftL M ua) (liftL M ub) σ H R :=
 ⟨env,pn,S,n,_,ok,hu,λ x H1 dx n1 r1 x1 g1 _ q1=>⟨env,pn,S,n1,_,ok.step x1 g1,q1,λ y H2 dy n2 r2 x2 g2 sz q2=>by
  obtain⟨d,e,q⟩:=q2
  exact hr M.gs S H2 dx dy x y d R ((ok.step x1 g1).step x2 g2).has sz (r1.ext ok.gsS x2) r2 e λ v H3 r3 x3=>k v H3 d n2 r3 ((x1.trans x2).trans (x3.mono (by simp))) (M.gext g2 x3 (by simp)) q⟩⟩
theorem k_op {op:Operator}(ho:OpD X (binaryOp op) f)(ha:KL X M a ua)(hb:KL X M b ub):KE X M (.BinOp a op b pos) (uOp f ua ub):=by
 obtain⟨r,h1,h2⟩:=ho.ex
 exact .of (qe_op h1 ha.run hb.run) λ σ H R env pn S n Q ok hu k=>op_go h2 ok hu k
theorem k_cmp {op:CmpOp}(ho:OpD X (compareOp op) f)(ha:KL X M a ua)(hb:KL X M b ub)(hm:behindInMarks op b=false:=by first | exact i7 _ | rfl):KE X M (.Compare a [op] [b] pos) (uOp f ua ub):=by
 obtain⟨r,h1,h2⟩:=ho.ex
 exact .of (pL h1 ha.run hb.run hm) λ σ H R env pn S n Q ok hu k=>op_go h2 ok hu k
theorem b_cmp {op:CmpOp}(ho:OpD X (compareOp op) f)(ha:KL X M a ua)(hb:KL X M b ub)(hm:behindInMarks op b=false:=by first | exact i7 _ | rfl):KB X M (.Compare a [op] [b] pos) (uTst (uOp f ua ub)):=by
 obtain⟨r,h1,h2⟩:=ho.ex
 refine .of (jy h1 ha.run hb.run hm) λ σ H R env pn S n Q ok hu k=>op_go (R:=λ x H'=>∃k,x=.bl k/\R k H') h2 ok hu λ v H' d n' r x g q=>?_
 cases d with
 | bool b=>exact⟨b,r.of_bl,k b H' n' x g q⟩
 | _=>exact False.elim q
def uChn (f g:xH->xH->Option xH)(ua ub uc:UX):UX:=λ env n Q=>ua env n λ x n1=>ub env n1 λ y n2=>bnd (f x y) λ d=>isB d λ b=>if b=true then uc env n2 λ z n3=>bnd (g y z) λ d=>Q d n3 else Q (.bool false) n2
theorem b_val (h:KE X M e ua)(he:∀whole,isTrue e X.env whole=(do let v <- whole; standAt e.pos; holding [v] (truthy v)):=by intro _; rfl):KB X M e (uTst ua) :=
 .of (pM h.run he) λ σ H R env pn S n Q ok hu k=>⟨env,pn,S,n,_,ok,hu,λ v H' d n' r x g _ q=>by
  cases d with
  | bool b=>exact⟨b,r.of_bl,k b H' n' x g q⟩
  | _=>exact False.elim q⟩
def uAnd (u w:UT):UT:=λ env n Q=>u env n λ b n1=>if b=true then w env n1 Q else Q false n1
def uOr (u w:UT):UT:=λ env n Q=>u env n λ b n1=>if b=true then Q true n1 else w env n1 Q
def uNot (u:UT):UT:=λ env n Q=>u env n λ b n1=>Q (!b) n1
variable {u w:UT}{rest:List Expr}
theorem qF (h:KB X M a u):KW X M (.BoolOp .And [a] pos) u:=⟨pN h.run⟩
theorem w_or1 (h:KB X M a u):KW X M (.BoolOp .Or [a] pos) u:=⟨wI h.run⟩
theorem w_and (ha:KB X M a u)(hb:KW X M (.BoolOp .And (b::rest) pos) w):KW X M (.BoolOp .And (a::b::rest) pos) (uAnd u w) :=
 .of (tM ha.run hb.run) λ σ H R env pn S n Q ok hu k=>⟨env,pn,S,n,_,ok,hu,λ c H1 n1 x1 g1 q=>by
  cases c with
  | true=>exact⟨env,pn,S,n1,Q,ok.step x1 g1,q,λ b H2 n2 x2 g2 q2=>k b H2 n2 (x1.trans x2) g2 q2⟩
  | false=>exact k false H1 n1 x1 g1 q⟩
theorem w_or (ha:KB X M a u)(hb:KW X M (.BoolOp .Or (b::rest) pos) w):KW X M (.BoolOp .Or (a::b::rest) pos) (uOr u w) :=
 .of (qw_or ha.run hb.run) λ σ H R env pn S n Q ok hu k=>⟨env,pn,S,n,_,ok,hu,λ c H1 n1 x1 g1 q=>by
  cases c with
  | false=>exact⟨env,pn,S,n1,Q,ok.step x1 g1,q,λ b H2 n2 x2 g2 q2=>k b H2 n2 (x1.trans x2) g2 q2⟩
  | true=>exact k true H1 n1 x1 g1 q⟩
theorem KW.kb (h:KW X M e u):KB X M e u:=⟨h.run.pt⟩
theorem b_not (h:KB X M a u):KB X M (.UnaryOp .Not a pos) (uNot u):=.of (wJ h.run) λ σ H R env pn S n Q ok hu k=>⟨env,pn,S,n,_,ok,hu,λ c H1 n1 x1 g1 q=>k _ H1 n1 x1 g1 q⟩
def uAndV (ua ub:UX):UX:=λ env n Q=>ua env n λ x n1=>isB x λ b=>if b=true then ub env n1 Q else Q (.bool false) n1
def uOrV (ua ub:UX):UX:=λ env n Q=>ua env n λ x n1=>isB x λ b=>if b=true then Q (.bool true) n1 else ub env n1 Q
def uNotV (ua:UX):UX:=λ env n Q=>ua env n λ x n1=>isB x λ b=>Q (.bool (!b)) n1
theorem k_one {op}(h:KE X M a ua):KE X M (.BoolOp op [a] pos) ua:=⟨wK h.run⟩
theorem k_and (ha:KE X M a ua)(hb:KE X M (.BoolOp .And (b::rest) pos) ub):KE X M (.BoolOp .And (a::b::rest) pos) (uAndV ua ub) :=
 .of (wL ha.run hb.run) λ σ H R env pn S n Q ok hu k=>⟨env,pn,S,n,_,ok,hu,λ v H1 d n1 r1 x1 g1 _ q=>by
  cases d with
  | bool c =>
   refine⟨c,r1.of_bl,?_⟩
   cases c with
   | true=>exact⟨env,pn,S,n1,Q,ok.step x1 g1,q,λ v H2 d n2 r2 x2 g2 _ q2=>k v H2 d n2 r2 (x1.trans x2) g2 q2⟩
   | false=>exact k _ H1 _ n1 (.bl false) x1 g1 q
  | _=>exact False.elim q⟩
theorem k_or (ha:KE X M a ua)(hb:KE X M (.BoolOp .Or (b::rest) pos) ub):KE X M (.BoolOp .Or (a::b::rest) pos) (uOrV ua ub) :=
 .of (qe_or ha.run hb.run) λ σ H R env pn S n Q ok hu k=>⟨env,pn,S,n,_,ok,hu,λ v H1 d n1 r1 x1 g1 _ q=>by
  cases d with
  | bool c =>
   refine⟨c,r1.of_bl,?_⟩
   cases c with
   | false=>exact⟨env,pn,S,n1,Q,ok.step x1 g1,q,λ v H2 d n2 r2 x2 g2 _ q2=>k v H2 d n2 r2 (x1.trans x2) g2 q2⟩
   | true=>exact k _ H1 _ n1 (.bl true) x1 g1 q
  | _=>exact False.elim q⟩
theorem k_not (ha:KE X M a ua):KE X M (.UnaryOp .Not a pos) (uNotV ua) :=
 .of (pO ha.run) λ σ H R env pn S n Q ok hu k=>⟨env,pn,S,n,_,ok,hu,λ v H1 d n1 r1 x1 g1 _ q=>by
  cases d with
  | bool c=>exact⟨c,r1.of_bl,k _ H1 _ n1 (.bl _) x1 g1 q⟩
  | _=>exact False.elim q⟩
def uIf (t:UT)(ua ub:UX):UX:=λ env n Q=>t env n λ c n1=>if c=true then ua env n1 Q else ub env n1 Q
theorem k_if (hc:KB X M c u)(ha:KE X M a ua)(hb:KE X M b ub):KE X M (.IfExp c a b pos) (uIf u ua ub) :=
 .of (si hc.run ha.run hb.run) λ σ H R env pn S n Q ok hu k=>⟨env,pn,S,n,_,ok,hu,λ c H1 n1 x1 g1 q=>by
  cases c with
  | true=>exact⟨env,pn,S,n1,Q,ok.step x1 g1,q,λ v H2 d n2 r2 x2 g2 _ q2=>k v H2 d n2 r2 (x1.trans x2) g2 q2⟩
  | false=>exact⟨env,pn,S,n1,Q,ok.step x1 g1,q,λ v H2 d n2 r2 x2 g2 _ q2=>k v H2 d n2 r2 (x1.trans x2) g2 q2⟩⟩
def negD:xH->Option xH | .int i=>some (.int (-i)) | _=>none
def uUn (f:xH->Option xH)(ua:UX):UX:=λ env n Q=>ua env n λ x n1=>bnd (f x) λ d=>Q d n1
theorem k_neg (ha:KE X M a ua):KE X M (.UnaryOp .USub a pos) (uUn negD ua) :=
 .of (qe_un tI ha.run) λ σ H R env pn S n Q ok hu k=>⟨env,pn,S,n,_,ok,hu,λ v H1 d n1 r1 x1 g1 _ q=>by
  obtain⟨d',e,q⟩:=q
  cases d with
  | int i=>cases e; exact⟨i,r1.of_int,k _ H1 _ n1 (.int _) x1 g1 q⟩
  | _=>cases e⟩
end
def addD:xH->xH->Option xH
 | .int i,.int j=>some (.int (i+j))
 | .tuple xs,.tuple ys=>if xs.length+ys.length<=xV then some (.tuple (xs++ys)) else none
 | .list xs,.list ys=>if xs.length+ys.length<=xV then some (.list (xs++ys)) else none
 | .str x,.str y=>if x.length+y.length<=xV then some (.str (x++y)) else none
 | _,_=>none
def subD:xH->xH->Option xH | .int i,.int j=>some (.int (i - j)) | _,_=>none
instance (i j:Int):Decidable (CMul i j):=by unfold CMul; infer_instance
instance (i j:Int):Decidable (CPow i j):=by unfold CPow; infer_instance
instance (i j:Int):Decidable (CDiv i j):=by unfold CDiv; infer_instance
def mulD:xH->xH->Option xH
 | .int i,.int j=>if CMul i j then some (.int (i * j)) else none
 | .list xs,.int k=>if -(2 ^ 63)<=k/\k<2 ^ 63/\xs.length * k.toNat<=xV then some (.list (List.replicate k.toNat xs).flatten) else none
 | .tuple xs,.int k=>if 1<=k/\k<2 ^ 40/\xs≠[]/\xs.length * k.toNat<=16000000 then some (.tuple (List.replicate k.toNat xs).flatten) else none
 | _,_=>none
def modD:xH->xH->Option xH | .int i,.int j=>if 0<j then some (.int (i % j)) else none | _,_=>none
def ltD:xH->xH->Option xH | .int i,.int j=>some (.bool (decide (i<j))) | _,_=>none
def leD:xH->xH->Option xH | .int i,.int j=>some (.bool (decide (i<=j))) | _,_=>none
def gtD:xH->xH->Option xH | .int i,.int j=>some (.bool (decide (j<i))) | _,_=>none
def geD:xH->xH->Option xH | .int i,.int j=>some (.bool (decide (j<=i))) | _,_=>none
def eqD (x y:xH):Option xH:=if x.canLay0=true/\y.canLay0=true/\x.depth<=60 then some (.bool (xH.eqv x y)) else none
def neD (x y:xH):Option xH:=if x.canLay0=true/\y.canLay0=true/\x.depth<=60 then some (.bool (!PyData.eqv x y)) else none
def ft (x:xH):Bool:=match x with | .none=>true | _=>false
def isD (x y:xH):Option xH:=match y with | .none=>some (.bool (ft x)) | _=>none
def inL (x:xH)(ds:List xH):Option Bool:=if x.canLay0=true/\xH.canLayAll0 ds=true/\x.depth<=60 then some (ds.any λ d=>xH.eqv d x) else none
def inD (x y:xH):Option xH:=match y with | .tuple ds=>(inL x ds).map .bool | .list ds=>(inL x ds).map .bool | _=>none
def ninD (x y:xH):Option xH:=match y with | .tuple ds=>(inL x ds).map λ b=>.bool (!b) | .list ds=>(inL x ds).map λ b=>.bool (!b) | _=>none
section
variable {X:Cx}
theorem opI0D {f:xK->xK->Sem xK}{g:Int->Int->xH}{gv:Int->Int->V}{op:xH->xH->Option xH}(h:OpR X f (rI0 gv))(hg:∀i j S H,Rep S H (g i j) (gv i j))(ho:∀x y d,op x y=some d->∃i j,x=.int i/\y=.int j/\d=g i j):OpD X f op :=
 ⟨_,h,λ gs S H dx dy x y d R _ _ r1 r2 e k=>by
  obtain⟨i,j,rfl,rfl,rfl⟩:=ho _ _ _ e
  exact⟨i,j,r1.of_int,r2.of_int,k _ H (hg i j S H) (.refl _ _)⟩⟩
theorem opID {f:xK->xK->Sem xK}{C:Int->Int->Prop}{g:Int->Int->xH}{gv:Int->Int->V}{op:xH->xH->Option xH}(h:OpR X f (rI C gv))(hg:∀i j S H,Rep S H (g i j) (gv i j))(ho:∀x y d,op x y=some d->∃i j,x=.int i/\y=.int j/\C i j/\d=g i j):OpD X f op :=
 ⟨_,h,λ gs S H dx dy x y d R _ _ r1 r2 e k=>by
  obtain⟨i,j,rfl,rfl,hc,rfl⟩:=ho _ _ _ e
  exact⟨i,j,r1.of_int,r2.of_int,hc,k _ H (hg i j S H) (.refl _ _)⟩⟩
theorem o_sub:OpD X (binaryOp .Sub) subD:=opI0D (g:=λ i j=>.int (i - j)) wq (λ _ _ _ _=>.int _) λ x y d e=>by
 cases x <;> cases y <;> simp[subD] at e; exact⟨_,_,rfl,rfl,e.symm⟩
theorem o_lt:OpD X (compareOp .Lt) ltD:=opI0D (g:=λ i j=>.bool (decide (i<j))) op_lt (λ _ _ _ _=>.bl _) λ x y d e=>by
 cases x <;> cases y <;> simp[ltD] at e; exact⟨_,_,rfl,rfl,e.symm⟩
theorem o_le:OpD X (compareOp .LtE) leD:=opI0D (g:=λ i j=>.bool (decide (i<=j))) op_le (λ _ _ _ _=>.bl _) λ x y d e=>by
 cases x <;> cases y <;> simp[leD] at e; exact⟨_,_,rfl,rfl,e.symm⟩
theorem o_gt:OpD X (compareOp .Gt) gtD:=opI0D (g:=λ i j=>.bool (decide (j<i))) op_gt (λ _ _ _ _=>.bl _) λ x y d e=>by
 cases x <;> cases y <;> simp[gtD] at e; exact⟨_,_,rfl,rfl,e.symm⟩
theorem o_ge:OpD X (compareOp .GtE) geD:=opI0D (g:=λ i j=>.bool (decide (j<=i))) op_ge (λ _ _ _ _=>.bl _) λ x y d e=>by
 cases x <;> cases y <;> simp[geD] at e; exact⟨_,_,rfl,rfl,e.symm⟩
theorem o_mod:OpD X (binaryOp .Mod) modD:=opID (g:=λ i j=>.int (i % j)) eU (λ _ _ _ _=>.int _) λ x y d e=>by
 cases x <;> cases y <;> simp[modD] at e; exact⟨_,_,rfl,rfl,e.1,e.2.symm⟩
theorem vz {S:List Addr}{H:Hp}{d:xH}{v:V}(r:Rep S H d v):ft d=decide (v=.non):=by
 cases d with
 | none=>cases r.of_non; rfl
 | bool b=>cases r.of_bl; rfl
 | int b=>cases r.of_int; rfl
 | str b=>cases r.of_str; rfl
 | tuple b=>obtain⟨a,xs,rfl,_⟩:=r.of_tup; rfl
 | list b=>obtain⟨a,xs,rfl,_⟩:=r.of_lst; rfl
 | dict b=>unfold Rep at r; exact r.elim
theorem RepL.isN {gs S:List Addr}{H:Hp}{d:xH}{v:V}(r:RepL gs S H d v):ft d=decide (v=.non):=by
 rcases r with r | ⟨ds,a,xs,rfl,rfl,_⟩
 ·exact vz r
 ·rfl
theorem o_is:OpD X (compareOp .Is) isD:=⟨_,ww,λ gs S H dx dy x y d R _ _ r1 r2 e k=>by
 cases dy with
 | none=>cases e; exact⟨r2.of_non,r1.isN ▸ k _ H (.bl _) (.refl _ _)⟩
 | _=>cases e⟩
theorem RepL.reads {gs S:List Addr}{H:Hp}{d:xH}{v:V}{P:yk}{w:World}{h:Heap}{u:xK}(r:RepL gs S H d v)(ok:HOk P w H h)(rv:RelV v u):∃as,Reads h u d as:=by
 rcases r with r | ⟨ds,a,xs,rfl,rfl,ha,rs,_⟩
 ·exact r.reads ok rv
 ·cases (show u=xK.ref a from rv)
  obtain⟨_,its,n,rv,e⟩:=ok a _ ha
  obtain⟨as,ra⟩:=Reps.reads ok rs rv
  exact⟨_,.list e rfl rfl (by simpa using ra)⟩
def rEqL (neg:Bool):R2:=λ x y H Q=>∃gs S dx dy,RepL gs S H dx x/\RepL gs S H dy y/\dx.canLay0=true/\dy.canLay0=true/\dx.depth<=60/\Q (.bl (if neg then !PyData.eqv dx dy else xH.eqv dx dy)) H
theorem wW (hun:X.A.units+64<cLine):OpR X (compareOp .Eq) (rEqL false):=by
 intro pins s σ H x y v u Q I rx ry h
 obtain⟨gs,S,dx,dy,h1,h2,c1,c2,d1,q⟩:=h
 obtain⟨as,ra⟩:=h1.reads I.hok rx
 obtain⟨bs,rb⟩:=h2.reads I.hok ry
 exact SeqAt.compareEq_reads ra rb c1 c2 (by omega) ⟨.bl _,H,I,rfl,q⟩
theorem wX (hun:X.A.units+64<cLine):OpR X (compareOp .NotEq) (rEqL true):=by
 intro pins s σ H x y v u Q I rx ry h
 obtain⟨gs,S,dx,dy,h1,h2,c1,c2,d1,q⟩:=h
 obtain⟨as,ra⟩:=h1.reads I.hok rx
 obtain⟨bs,rb⟩:=h2.reads I.hok ry
 exact SeqAt.compareNe_reads ra rb c1 c2 (by omega) ⟨.bl _,H,I,rfl,q⟩
theorem o_eq (hun:X.A.units+64<cLine):OpD X (compareOp .Eq) eqD:=⟨_,wW hun,λ gs S H dx dy x y d R _ _ r1 r2 e k=>by
 unfold eqD at e
 split at e
 ·rename_i hc
  cases e
  exact⟨gs,S,dx,dy,r1,r2,hc.1,hc.2.1,hc.2.2,k _ H (.bl _) (.refl _ _)⟩
 ·cases e⟩
theorem o_ne (hun:X.A.units+64<cLine):OpD X (compareOp .NotEq) neD:=⟨_,wX hun,λ gs S H dx dy x y d R _ _ r1 r2 e k=>by
 unfold neD at e
 split at e
 ·rename_i hc
  cases e
  exact⟨gs,S,dx,dy,r1,r2,hc.1,hc.2.1,hc.2.2,k _ H (.bl _) (.refl _ _)⟩
 ·cases e⟩
end
section
variable {X:Cx}
theorem RepL.sqT {K:W.Frag}{gs S:List Addr}{H:Hp}{ds:List xH}{v:V}(h:RepL gs S H (.tuple ds) v):∃a xs,v=.ref a/\SqT K H a xs/\H a=some (.tup xs)/\Reps S H ds xs:=let ⟨a,xs,e,ha,r⟩:=h.of_tup; ⟨a,xs,e,SqT.of ha,ha,r⟩
theorem RepL.sqL {K:W.Frag}{gs S:List Addr}{H:Hp}{ds:List xH}{v:V}(h:RepL gs S H (.list ds) v):∃a xs,v=.ref a/\SqL K H a xs/\H a=some (.lst xs)/\Reps S H ds xs:=let ⟨a,xs,e,ha,r⟩:=h.of_lst; ⟨a,xs,e,SqL.of ha,ha,r⟩
theorem g8 {S:List Addr}{H:Hp}{ds:List xH}{xs:List V}{p:Addr}(hp:H p=none)(r:Reps S H ds xs):Rep S (upd H p (.tup xs)) (.tuple ds) (.ref p):=.tup af (r.ext (.new hp))
theorem jI {S:List Addr}{H:Hp}{ds:List xH}{xs:List V}{p:Addr}(has:∀a∈S,H a≠none)(hp:H p=none)(r:Reps S H ds xs):Rep S (upd H p (.lst xs)) (.list ds) (.ref p):=.lst af (λ z=>has p z hp) (r.ext (.new hp))
theorem Reps.flat {S:List Addr}{H:Hp}{ds:List xH}{xs:List V}(r:Reps S H ds xs)(k:Nat):Reps S H (List.replicate k ds).flatten (List.replicate k xs).flatten:=by
 induction k with
 | zero=>exact .nil
 | succ k ih=>rw[yj,yj,zE,zE]; exact r.append ih
theorem o_add:OpD X (binaryOp .Add) addD:=⟨_,((op_add.or (catT X.K)).or tJ).or nM,λ gs S H dx dy x y d R has sz r1 r2 e k=>by
 cases dx with
 | int i=>cases dy with
  | int j=>cases e; exact .inl (.inl (.inl ⟨i,j,r1.of_int,r2.of_int,k _ H (.int _) (.refl _ _)⟩))
  | _=>cases e
 | str i=>cases dy with
  | str j =>
   simp only[addD] at e
   split at e
   ·rename_i hz
    cases e
    exact .inr ⟨i,j,r1.of_str,r2.of_str,hz,k _ H (.str _) (.refl _ _)⟩
   ·cases e
  | _=>cases e
 | tuple ds=>cases dy with
  | tuple es =>
   simp only[addD] at e
   split at e
   ·rename_i hz
    cases e
    obtain⟨a,xs,rfl,s1,h1,q1⟩:=r1.sqT (K:=X.K)
    obtain⟨b,ys,rfl,s2,h2,q2⟩:=r2.sqT (K:=X.K)
    refine .inl (.inl (.inr ⟨a,b,xs,ys,rfl,rfl,s1,s2,by rw[q1.length,q2.length]; exact hz,λ e=>?_,λ e=>?_,λ p hp=>k _ _ (g8 hp (q1.append q2)) (.new hp)⟩))
    ·subst e
     cases ds with
     | nil=>exact k _ H (.tup h2 q2) (.refl _ _)
     | cons d ds=>have:=q1.length; simp at this
    ·subst e
     cases es with
     | nil=>rw[y0] at k; exact k _ H (.tup h1 q1) (.refl _ _)
     | cons d ds=>have:=q2.length; simp at this
   ·cases e
  | _=>cases e
 | list ds=>cases dy with
  | list es =>
   simp only[addD] at e
   split at e
   ·rename_i hz
    cases e
    obtain⟨a,xs,rfl,h1,q1⟩:=r1.of_lst
    obtain⟨b,ys,rfl,h2,q2⟩:=r2.of_lst
    exact .inl (.inr ⟨a,b,xs,ys,rfl,rfl,h1,h2,by rw[q1.length,q2.length]; exact hz,λ p hp=>k _ _ (jI has hp (q1.append q2)) (.new hp)⟩)
   ·cases e
  | _=>cases e
 | _=>cases dy <;> cases e⟩
theorem o_mul:OpD X (binaryOp .Mult) mulD:=⟨_,(op_mul.or pC).or (sH X.K),λ gs S H dx dy x y d R has sz r1 r2 e k=>by
 cases dx with
 | int i=>cases dy with
  | int j =>
   simp only[mulD] at e
   split at e
   ·rename_i hz
    cases e
    exact .inl (.inl ⟨i,j,r1.of_int,r2.of_int,hz,k _ H (.int _) (.refl _ _)⟩)
   ·cases e
  | _=>cases e
 | list ds=>cases dy with
  | int j =>
   simp only[mulD] at e
   split at e
   ·rename_i hz
    cases e
    obtain⟨a,xs,rfl,h1,q1⟩:=r1.of_lst
    exact .inl (.inr ⟨a,j,xs,rfl,r2.of_int,h1,hz.1,hz.2.1,by rw[q1.length]; exact hz.2.2,λ p hp=>k _ _ (jI has hp (q1.flat _)) (.new hp)⟩)
   ·cases e
  | _=>cases e
 | tuple ds=>cases dy with
  | int j =>
   simp only[mulD] at e
   split at e
   ·rename_i hz
    cases e
    obtain⟨a,xs,rfl,s1,h1,q1⟩:=r1.sqT (K:=X.K)
    by_cases h:j=1
    ·subst h
     refine .inr (.inl ⟨a,xs,rfl,r2.of_int,s1,k _ H ?_ (.refl _ _)⟩)
     simpa using Rep.tup h1 q1
    ·refine .inr (.inr ⟨a,j,xs,rfl,r2.of_int,s1,λ z=>?_,by omega,hz.2.1,by rw[q1.length]; exact hz.2.2.2,λ p hp=>k _ _ (g8 hp (q1.flat _)) (.new hp)⟩)
     subst z
     have:=q1.length
     exact hz.2.2.1 (by simpa using this.symm)
   ·cases e
  | _=>cases e
 | _=>cases dy <;> cases e⟩
def rInD (neg:Bool):R2:=λ x y H Q=>∃gs S dx ds p xs,RepL gs S H dx x/\y=.ref p/\(H p=some (.lst xs)\/H p=some (.tup xs))/\Reps S H ds xs/\dx.canLay0=true/\xH.canLayAll0 ds=true/\dx.depth<=60/\Q (.bl (if neg then !(ds.any λ d=>xH.eqv d dx) else ds.any λ d=>xH.eqv d dx)) H
open Classical in
noncomputable def eqW (S:List Addr)(H:Hp)(xs:List V)(dx:xH)(y:xK):Bool:=decide (∃v d,RelV v y/\Rep S H d v/\xH.eqv d dx=true)
open Classical in
theorem tX {S:List Addr}{H:Hp}{xs:List V}{dx d:xH}{v:V}{y:xK}(h1:RelV v y)(h2:Rep S H d v):eqW S H xs dx y=xH.eqv d dx:=by
 unfold eqW
 cases e:xH.eqv d dx with
 | true=>exact decide_eq_true ⟨v,d,h1,h2,e⟩
 | false =>
  refine decide_eq_false λ ⟨v',d',k1,k2,k3⟩=>?_
  cases RelV.one h1 k1
  cases Rep.one h2 k2
  rw[e] at k3
  cases k3
theorem g9 {S:List Addr}{H:Hp}{zs:List V}{dx:xH}:∀{ds:List xH} {xs:List V} {us:List xK},Reps S H ds xs->Vals xs us->us.any (eqW S H zs dx)=ds.any λ d=>xH.eqv d dx
 | [],_,_,h,r=>by cases h.of_nil; cases r; rfl
 | d::ds,_,_,h,r=>by
  obtain⟨x,t,rfl,h1,h2⟩:=h.of_cons
  cases r with
  | cons q1 q2=>rw[zK,zK,g9 h2 q2,tX q1 h1]
theorem kU {P:yk}{w:World}{A:Around}{s:xO}{S gs:List Addr}{H:Hp}{zs:List V}{dx:xH}{x:V}{v:xK}(ok:HOk P w H s.heap)(rx:RepL gs S H dx x)(rv:RelV x v)(c1:dx.canLay0=true)(hu:A.units+60<cLine)(hd:dx.depth<=60) :
  ∀{ds:List xH} {xs:List V} {us:List xK},xH.canLayAll0 ds=true->Reps S H ds xs->Vals xs us->∀u∈us,SeqAt.EqAt A s u v (eqW S H zs dx u)
 | [],_,_,_,h,r=>by cases h.of_nil; cases r; intro u hu; cases hu
 | d::ds,_,_,hc,h,r=>by
  obtain⟨y,t,rfl,h1,h2⟩:=h.of_cons
  simp only[xH.canLayAll0,yD] at hc
  cases r with
  | cons q1 q2 =>
   intro u hu'
   rcases xR.mp hu' with rfl | hu'
   ·rw[tX q1 h1]
    obtain⟨as,ra⟩:=h1.reads ok q1
    obtain⟨bs,rb⟩:=rx.reads ok rv
    exact SeqAt.eqAt_reads d dx A s _ v as bs ra rb hc.1 c1 (by have:min d.depth dx.depth<=60:=(by omega); omega)
   ·exact kU ok rx rv c1 hu hd hc.2 h2 q2 u hu'
theorem wY (hun:X.A.units+64<cLine):OpR X (compareOp .In) (rInD false):=by
 intro pins s σ H x y v u Q I rx ry h
 obtain⟨gs,S,dx,ds,p,xs,r1,rfl,hq,rs,c1,c2,hd,q⟩:=h
 cases ry
 have hu1:X.A.in1.units+60<cLine:=by show X.A.units+1+60<cLine; omega
 rcases hq with hq | hq
 ·obtain⟨its,r,pl,hz⟩:=I.list (SqL.of (K:=X.K) hq)
  refine SeqAt.in_listAt (eqW S H xs dx) pl.isList (λ w hw=>kU I.hok r1 rx c1 hu1 hd c2 rs r w (by simpa using hw)) ⟨.bl _,H,I,rfl,?_⟩
  rw[show its.toArray.any (eqW S H xs dx)=its.any (eqW S H xs dx) by simp,g9 rs r]
  exact q
 ·obtain⟨its,r,pl,hz⟩:=I.tuple (SqT.of (K:=X.K) hq)
  refine SeqAt.in_tupleAt (eqW S H xs dx) pl (λ w hw=>kU I.hok r1 rx c1 hu1 hd c2 rs r w (by simpa using hw)) ⟨.bl _,H,I,rfl,?_⟩
  rw[show its.toArray.any (eqW S H xs dx)=its.any (eqW S H xs dx) by simp,g9 rs r]
  exact q
theorem vA (hun:X.A.units+64<cLine):OpR X (compareOp .NotIn) (rInD true):=by
 intro pins s σ H x y v u Q I rx ry h
 obtain⟨gs,S,dx,ds,p,xs,r1,rfl,hq,rs,c1,c2,hd,q⟩:=h
 cases ry
 have hu1:X.A.in1.units+60<cLine:=by show X.A.units+1+60<cLine; omega
 rcases hq with hq | hq
 ·obtain⟨its,r,pl,hz⟩:=I.list (SqL.of (K:=X.K) hq)
  refine SeqAt.notIn_listAt (eqW S H xs dx) pl.isList (λ w hw=>kU I.hok r1 rx c1 hu1 hd c2 rs r w (by simpa using hw)) ⟨.bl _,H,I,rfl,?_⟩
  rw[show its.toArray.any (eqW S H xs dx)=its.any (eqW S H xs dx) by simp,g9 rs r]
  exact q
 ·obtain⟨its,r,pl,hz⟩:=I.tuple (SqT.of (K:=X.K) hq)
  refine SeqAt.notIn_tupleAt (eqW S H xs dx) pl (λ w hw=>kU I.hok r1 rx c1 hu1 hd c2 rs r w (by simpa using hw)) ⟨.bl _,H,I,rfl,?_⟩
  rw[show its.toArray.any (eqW S H xs dx)=its.any (eqW S H xs dx) by simp,g9 rs r]
  exact q
theorem m7 {x:xH}{ds:List xH}{b:Bool}(h:inL x ds=some b):x.canLay0=true/\xH.canLayAll0 ds=true/\x.depth<=60/\(ds.any λ d=>xH.eqv d x)=b:=by
 unfold inL at h
 split at h
 ·rename_i hc
  cases h
  exact⟨hc.1,hc.2.1,hc.2.2,rfl⟩
 ·cases h
theorem o_in (hun:X.A.units+64<cLine):OpD X (compareOp .In) inD:=⟨_,wY hun,λ gs S H dx dy x y d R _ _ r1 r2 e k=>by
 cases dy with
 | tuple ds =>
  obtain⟨b,hb,rfl⟩:=zH.mp (show (inL dx ds).map xH.bool=some d from e)
  obtain⟨c1,c2,c3,rfl⟩:=m7 hb
  obtain⟨a,xs,rfl,ha,rs⟩:=r2.of_tup
  exact⟨gs,S,dx,ds,a,xs,r1,rfl,.inr ha,rs,c1,c2,c3,k _ H (.bl _) (.refl _ _)⟩
 | list ds =>
  obtain⟨b,hb,rfl⟩:=zH.mp (show (inL dx ds).map xH.bool=some d from e)
  obtain⟨c1,c2,c3,rfl⟩:=m7 hb
  obtain⟨a,xs,rfl,ha,rs⟩:=r2.of_lst
  exact⟨gs,S,dx,ds,a,xs,r1,rfl,.inl ha,rs,c1,c2,c3,k _ H (.bl _) (.refl _ _)⟩
 | _=>cases e⟩
theorem o_nin (hun:X.A.units+64<cLine):OpD X (compareOp .NotIn) ninD:=⟨_,vA hun,λ gs S H dx dy x y d R _ _ r1 r2 e k=>by
 cases dy with
 | tuple ds =>
  obtain⟨b,hb,rfl⟩:=zH.mp (show (inL dx ds).map (λ b=>xH.bool (!b))=some d from e)
  obtain⟨c1,c2,c3,rfl⟩:=m7 hb
  obtain⟨a,xs,rfl,ha,rs⟩:=r2.of_tup
  exact⟨gs,S,dx,ds,a,xs,r1,rfl,.inr ha,rs,c1,c2,c3,k _ H (.bl _) (.refl _ _)⟩
 | list ds =>
  obtain⟨b,hb,rfl⟩:=zH.mp (show (inL dx ds).map (λ b=>xH.bool (!b))=some d from e)
  obtain⟨c1,c2,c3,rfl⟩:=m7 hb
  obtain⟨a,xs,rfl,ha,rs⟩:=r2.of_lst
  exact⟨gs,S,dx,ds,a,xs,r1,rfl,.inl ha,rs,c1,c2,c3,k _ H (.bl _) (.refl _ _)⟩
 | _=>cases e⟩
end
def ixD (x y:xH):Option xH:=match x,y with | .tuple ds,.int i=>atI ds i | .list ds,.int i=>atI ds i | _,_=>none
theorem m8 {S:List Addr}{H:Hp}{ds:List xH}{xs:List V}{i:Int}{d:xH}(r:Reps S H ds xs)(h:atI ds i=some d):∃v,atI xs i=some v/\Rep S H d v:=by
 unfold atI at h ⊢
 rw[r.length]
 cases e:ixN ds.length i with
 | none=>rw[e] at h; cases h
 | some j =>
  rw[e] at h
  obtain⟨x,hx,rx⟩:=r.at (show ds[j]? = some d from h)
  exact⟨x,hx,rx⟩
section
variable {X:Cx}{M:Fr}{a b e:Expr}{ua ub:UX}{pos p2:Pos}
theorem k_ix (ha:KL X M a ua)(hb:KL X M b ub)(hs:lR b:=by exact λ _ _=>rfl):KE X M (.Subscript a b pos) (uOp ixD ua ub) :=
 .of (qe_ix ((ixT X.K).or (ixL X.K)) ha.run hb.run hs) λ σ H R env pn S n Q ok hu k=>op_go (λ gs S H dx dy x y d R _ _ r1 r2 e k=>by
  cases dx with
  | tuple ds=>cases dy with
   | int i =>
    obtain⟨a,xs,rfl,sq,_,rs⟩:=r1.sqT (K:=X.K)
    obtain⟨v,hv,rv⟩:=m8 rs (show atI ds i=some d from e)
    exact .inl ⟨a,xs,i,v,rfl,r2.of_int,sq,hv,k v H rv (.refl _ _)⟩
   | _=>cases e
  | list ds=>cases dy with
   | int i =>
    obtain⟨a,xs,rfl,sq,_,rs⟩:=r1.sqL (K:=X.K)
    obtain⟨v,hv,rv⟩:=m8 rs (show atI ds i=some d from e)
    exact .inr ⟨a,xs,i,v,rfl,r2.of_int,sq,hv,k v H rv (.refl _ _)⟩
   | _=>cases e
  | _=>cases dy <;> cases e) ok hu k
abbrev UO:=PEnv->Int->(Option Int->Int->Prop)->Prop
structure KO (X:Cx) (M:Fr) (e:Option Expr) (u:UO):Prop where run:∃t,QO X e t/\∀σ H R env pn S n Q,EnvOk M env pn σ S H n->u env n Q->(∀o H' n',Ext M.gs H H'->M.G H' n'->Q o n'->R o H')->t σ H R
def uNo:UO:=λ _ n Q=>Q none n
def uSo (u:UX):UO:=λ env n Q=>u env n λ d n1=>match d with | .int i=>Q (some i) n1 | _=>False
theorem bU:KO X M none uNo:=⟨_,pP,λ σ H R env pn S n Q ok hu k=>k none H n (.refl _ _) ok.gd hu⟩
theorem bV (h:KE X M e ua):KO X M (some e) (uSo ua):=⟨_,pQ h.run,λ σ H R env pn S n Q ok hu k=>⟨env,pn,S,n,_,ok,hu,λ v H1 d n1 r1 x1 g1 _ q=>by
 cases d with
 | int i=>exact⟨i,r1.of_int,k _ H1 n1 x1 g1 q⟩
 | _=>exact False.elim q⟩⟩
def cutG {α:Type}(xs:List α)(lo hi:Option Int):List α:=(xs.drop (HT.sIx xs.length 0 lo)).take (HT.sIx xs.length xs.length hi - HT.sIx xs.length 0 lo)
def slD (d:xH)(lo hi:Option Int):Option xH:=match d with | .tuple ds=>some (.tuple (cutG ds lo hi)) | .list ds=>some (.list (cutG ds lo hi)) | _=>none
def uSl (u:UX)(ul uh:UO):UX:=λ env n Q=>u env n λ d n1=>ul env n1 λ lo n2=>uh env n2 λ hi n3=>bnd (slD d lo hi) λ d=>Q d n3
theorem jJ {S:List Addr}{H:Hp}{ds:List xH}{xs:List V}(r:Reps S H ds xs)(lo hi:Option Int):Reps S H (cutG ds lo hi) (cutV xs lo hi):=by
 unfold cutG cutV
 rw[r.length]
 exact (r.drop _).take _
theorem qG {S:List Addr}{H:Hp}{ds:List xH}{xs:List V}(r:Reps S H ds xs){lo hi:Option Int}(h:cutV xs lo hi=xs):cutG ds lo hi=ds:=by
 have:=jJ r lo hi
 rw[h] at this
 exact Reps.one this r
theorem k_sl {lo hi:Option Expr}{ul uh:UO}(he:KL X M e ua)(hl:KO X M lo ul)(hu:KO X M hi uh):KE X M (.Subscript e (.Slice lo hi none p2) pos) (uSl ua ul uh):=by
 obtain⟨tl,q1,l1⟩:=hl.run
 obtain⟨th,q2,l2⟩:=hu.run
 refine .of (mM ((slT X.K).or (slL X.K)) he.run q1 q2) λ σ H R env pn S n Q ok hu k=>⟨env,pn,S,n,_,ok,hu,λ v H1 d n1 r1 x1 g1 _ q=>?_⟩
 refine l1 σ H1 _ env pn S n1 _ (ok.step x1 g1) q λ lo H2 n2 x2 g2 q=>?_
 refine l2 σ H2 _ env pn S n2 _ ((ok.step x1 g1).step x2 g2) q λ hi H3 n3 x3 g3 q=>?_
 obtain⟨d',e,q⟩:=q
 have ok3:=((ok.step x1 g1).step x2 g2).step x3 g3
 have r3:=(r1.ext ok.gsS x2).ext ok.gsS x3
 have x123:=(x1.trans x2).trans x3
 cases d with
 | tuple ds =>
  cases e
  obtain⟨a,xs,rfl,sq,ha,rs⟩:=r3.sqT (K:=X.K)
  refine .inl ⟨a,xs,rfl,sq,λ h=>?_,λ p hp=>k _ _ _ n3 (g8 hp (jJ rs lo hi)) (x123.trans (.new hp)) (M.gext g3 (.new (S:=[]) hp) (by simp)) q⟩
  have:=qG rs h
  exact k _ H3 _ n3 (.tup ha (by rw[this]; exact rs)) x123 g3 q
 | list ds =>
  cases e
  obtain⟨a,xs,rfl,sq,ha,rs⟩:=r3.sqL (K:=X.K)
  exact .inr ⟨a,xs,rfl,sq,λ p hp=>k _ _ _ n3 (jI ok3.has hp (jJ rs lo hi)) (x123.trans (.new hp)) (M.gext g3 (.new (S:=[]) hp) (by simp)) q⟩
 | _=>cases e
end
structure CallD (X:Cx) (fv:xK) (f:List xH->Option xH):Prop where
 ex:∃r,CallR X fv r/\∀gs S H ds vs d (R:VK),(∀a∈S,H a≠none)->Sized H->RepLs gs S H ds vs->f ds=some d->(∀v H',Rep S H' d v->Ext [] H H'->R v H')->r vs H R
def uCB (f:List xH->Option xH)(ua:UA):UX:=λ env n Q=>ua env n λ ds n1=>bnd (f ds) λ d=>Q d n1
section
variable {X:Cx}{M:Fr}{e:Expr}{es:List Expr}{ua:UA}{p pos:Pos}{f:List xH->Option xH}{id T:String}{x:Str}
theorem cb_go {r:List V->Hp->VK->Prop}(hr:∀gs S H ds vs d (R:VK),(∀a∈S,H a≠none)->Sized H->RepLs gs S H ds vs->f ds=some d->(∀v H',Rep S H' d v->Ext [] H H'->R v H')->r vs H R)
  {σ:St} {H:Hp} {R:VK} {env:PEnv} {pn:List (xH × V)} {S:List Addr} {n:Int} {Q:xH->Int->Prop} (ok:EnvOk M env pn σ S H n) (hu:uCB f ua env n Q) (k:∀v H' d n',Rep S H' d v->Ext M.gs H H'->M.G H' n'->Q d n'->R v H'):tCB r (tW M ua) σ H R :=
 ⟨env,pn,S,n,_,ok,hu,λ vs H1 ds n1 r1 x1 g1 sz q=>by
  obtain⟨d,e,q⟩:=q
  exact hr M.gs S H1 ds vs d R (ok.step x1 g1).has sz r1 e λ v H2 r2 x2=>k v H2 d n1 r2 (x1.trans (x2.mono (by simp))) (M.gext g1 x2 (by simp)) q⟩
theorem k_cB (hc:CallD X (.builtin id) f)(hm:X.mg x=none)(ha:KAL X M (e::es) ua)(hg:Gl X x:=by rfl)(hv:bootBuiltins x=some (.builtin id):=by decide +kernel)(hn:x ≠ "__name__" := by decide)(hdb:(x == ("__debug__" : Str))=false:=by decide) :
  KE X M (.Call (.Name x p) (e::es) [] pos) (uCB f ua):=by
 obtain⟨r,h1,h2⟩:=hc.ex
 exact .of (a8 h1 hg hm hv ha.run hn hdb) λ σ H R env pn S n Q ok hu k=>cb_go h2 ok hu k
theorem k_cT (hc:CallD X (.type T) f)(hm:X.mg x=none)(ha:KAL X M (e::es) ua)(hg:Gl X x:=by rfl)(hv:bootBuiltins x=some (.type T):=by decide +kernel)(hn:x ≠ "__name__" := by decide)(hdb:(x == ("__debug__" : Str))=false:=by decide) :
  KE X M (.Call (.Name x p) (e::es) [] pos) (uCB f ua):=by
 obtain⟨r,h1,h2⟩:=hc.ex
 exact .of (cI h1 hg hm hv ha.run hn hdb) λ σ H R env pn S n Q ok hu k=>cb_go h2 ok hu k
end
theorem RepLs.one {gs S:List Addr}{H:Hp}{d:xH}{vs:List V}(h:RepLs gs S H [d] vs):∃v,vs=[v]/\RepL gs S H d v:=let ⟨v,r,e,h1,h2⟩:=h; ⟨v,by rw[e,show r=[] from h2],h1⟩
theorem RepLs.two {gs S:List Addr}{H:Hp}{d e:xH}{vs:List V}(h:RepLs gs S H [d,e] vs):∃v w,vs=[v,w]/\RepL gs S H d v/\RepL gs S H e w:=let ⟨v,r,e,h1,h2⟩:=h; let ⟨w,e2,h3⟩:=RepLs.one h2; ⟨v,w,by rw[e,e2],h1,h3⟩
def lenD':List xH->Option xH | [.tuple ds]=>some (.int ds.length) | [.list ds]=>some (.int ds.length) | _=>none
def absD:List xH->Option xH | [.int i]=>some (.int (if i<0 then -i else i)) | _=>none
def min2D:List xH->Option xH | [.int i,.int j]=>some (.int (if j<i then j else i)) | _=>none
def max2D:List xH->Option xH | [.int i,.int j]=>some (.int (if j > i then j else i)) | _=>none
def intD:List xH->Option xH | [.int i]=>some (.int i) | [.bool b]=>some (.int (if b then 1 else 0)) | _=>none
def a4:List xH->Option xH | [.tuple ds]=>some (.tuple ds) | [.list ds]=>some (.tuple ds) | _=>none
section
variable {X:Cx}
theorem c_len:CallD X (.builtin "len") lenD':=⟨_,lenK X.K,λ gs S H ds vs d R _ _ rs e k=>by
 rcases ds with _ | ⟨d1,_ | ⟨d2,l⟩⟩
 ·cases e
 ·obtain⟨v,rfl,r⟩:=rs.one
  cases d1 with
  | tuple ds =>
   cases e
   obtain⟨a,xs,rfl,sq,_,rr⟩:=r.sqT (K:=X.K)
   refine⟨a,xs,rfl,.inr sq,?_⟩
   rw[rr.length]
   exact k _ H (.int _) (.refl _ _)
  | list ds =>
   cases e
   obtain⟨a,xs,rfl,sq,_,rr⟩:=r.sqL (K:=X.K)
   refine⟨a,xs,rfl,.inl sq,?_⟩
   rw[rr.length]
   exact k _ H (.int _) (.refl _ _)
  | _=>cases e
 ·cases d1 <;> cases e⟩
theorem c_abs:CallD X (.builtin "abs") absD:=⟨_,rX,λ gs S H ds vs d R _ _ rs e k=>by
 rcases ds with _ | ⟨d1,_ | ⟨d2,l⟩⟩
 ·cases e
 ·obtain⟨v,rfl,r⟩:=rs.one
  cases d1 with
  | int i=>cases e; exact⟨i,by rw[r.of_int],k _ H (.int _) (.refl _ _)⟩
  | _=>cases e
 ·cases d1 <;> cases e⟩
theorem m9 {f:List xH->Option xH}(hf:∀ds d,f ds=some d->∃i j,ds=[.int i,.int j]){gs S:List Addr}{H:Hp}{ds:List xH}{vs:List V}{d:xH}(rs:RepLs gs S H ds vs)(e:f ds=some d):∃i j,ds=[.int i,.int j]/\vs=[.int i,.int j]:=by
 obtain⟨i,j,rfl⟩:=hf _ _ e
 obtain⟨v,w,rfl,r,r2⟩:=rs.two
 exact⟨i,j,rfl,by rw[r.of_int,r2.of_int]⟩
theorem vB (ds:List xH)(d:xH)(e:min2D ds=some d):∃i j,ds=[.int i,.int j]:=by
 unfold min2D at e
 split at e
 ·exact⟨_,_,rfl⟩
 ·cases e
theorem vC (ds:List xH)(d:xH)(e:max2D ds=some d):∃i j,ds=[.int i,.int j]:=by
 unfold max2D at e
 split at e
 ·exact⟨_,_,rfl⟩
 ·cases e
theorem wZ (hc:X.calm=true):CallD X (.builtin "min") min2D:=⟨_,pd hc,λ gs S H ds vs d R _ _ rs e k=>by
 obtain⟨i,j,rfl,rfl⟩:=m9 vB rs e
 cases e
 exact⟨i,j,rfl,k _ H (.int _) (.refl _ _)⟩⟩
theorem tY (hc:X.calm=true):CallD X (.builtin "max") max2D:=⟨_,pc hc,λ gs S H ds vs d R _ _ rs e k=>by
 obtain⟨i,j,rfl,rfl⟩:=m9 vC rs e
 cases e
 exact⟨i,j,rfl,k _ H (.int _) (.refl _ _)⟩⟩
theorem c_int:CallD X (.type "int") intD:=⟨_,ki,λ gs S H ds vs d R _ _ rs e k=>by
 rcases ds with _ | ⟨d1,_ | ⟨d2,l⟩⟩
 ·cases e
 ·obtain⟨v,rfl,r⟩:=rs.one
  cases d1 with
  | int i=>cases e; exact .inl ⟨i,by rw[r.of_int],k _ H (.int _) (.refl _ _)⟩
  | bool i=>cases e; exact .inr ⟨i,by rw[r.of_bl],k _ H (.int _) (.refl _ _)⟩
  | _=>cases e
 ·cases d1 <;> cases e⟩
theorem cz:CallD X (.type "tuple") a4:=⟨_,pW X.K,λ gs S H ds vs d R _ _ rs e k=>by
 rcases ds with _ | ⟨d1,_ | ⟨d2,l⟩⟩
 ·cases e
 ·obtain⟨v,rfl,r⟩:=rs.one
  cases d1 with
  | tuple ds =>
   cases e
   obtain⟨a,xs,rfl,sq,ha,rr⟩:=r.sqT (K:=X.K)
   exact⟨a,xs,rfl,.inr ⟨sq,k _ H (.tup ha rr) (.refl _ _)⟩⟩
  | list ds =>
   cases e
   obtain⟨a,xs,rfl,sq,_,rr⟩:=r.sqL (K:=X.K)
   exact⟨a,xs,rfl,.inl ⟨sq,λ l hl=>k _ _ (g8 hl rr) (.new hl)⟩⟩
  | _=>cases e
 ·cases d1 <;> cases e⟩
end
section
variable {M:Fr}{env:PEnv}{pn:List (xH × V)}{σ:St}{S:List Addr}{H H':Hp}{n n':Int}{i:Nat}{d:xH}{v:V}
theorem aK {α:Type}{l:List (Option α)}{i j:Nat}{x:α}{y:Option α}(h:(l.set i y)[j]? = some (some x)):(i=j/\y=some x)\/(i≠j/\l[j]? = some (some x)):=by
 by_cases e:i=j
 ·subst e
  by_cases hl:i<l.length
  ·rw[zx hl] at h; exact .inl ⟨rfl,Option.some.inj h⟩
  ·rw[yG (by rw[yL]; omega)] at h; cases h
 ·rw[yq e] at h; exact .inr ⟨e,h⟩
theorem fu {α:Type}{l:List (Option α)}{i:Nat}{y:Option α}(h:i<l.length):(l.set i y)[i]? = some y:=zx h
theorem EnvOk.set (ok:EnvOk M env pn σ S H n)(r:Rep S H d v)(hi:i ∉ M.fd):EnvOk M (env.set i (some (.s d))) pn (σ.set i (some v)) S H n:=by
 refine⟨λ j e he=>?_,λ j k ds es a h1 h2 h3 h4=>?_,by rw[yL,yL,ok.len],λ j hj=>?_,ok.gd,ok.ext,ok.s0,ok.sn,ok.has,ok.pin⟩
 ·have hl:i<env.length->i<σ.length:=λ z=>by rw[<- ok.len]; exact z
  rcases aK he with⟨rfl,e1⟩ | ⟨ne,e1⟩
  ·cases e1
   have:i<env.length:=by
    by_cases z:i<env.length
    ·exact z
    ·rw[yG (by rw[yL]; omega)] at he; cases he
   exact⟨v,fu (hl this),r⟩
  ·obtain⟨v',hv,rv⟩:=ok.val j e e1
   exact⟨v',by rw[yq ne]; exact hv,rv⟩
 ·rcases aK h1 with⟨_,e1⟩ | ⟨n1,e1⟩
  ·cases e1
  ·rcases aK h2 with⟨_,e2⟩ | ⟨n2,e2⟩
   ·cases e2
   ·rw[yq n1] at h3
    rw[yq n2] at h4
    exact ok.ne j k ds es a e1 e2 h3 h4
 ·have:i≠j:=λ z=>hi (z ▸ hj)
  rw[yq this]
  exact ok.fdv j hj
theorem EnvOk.anew (ok:EnvOk M env pn σ S H n){a:Addr}(h0:H a=none):M.H0 a=none:=by
 by_cases z:a∈M.gs
 ·exact absurd h0 (M.ghas ok.gd a z)
 ·exact ok.ext.fresh z h0
theorem EntOk.fresh {e:Ent}{a:Addr}(h:EntOk M S H e v)(h0:H a=none):EntOk M (a::S) H e v:=by
 cases e with
 | s d=>exact Rep.fresh h0 h
 | o ds =>
  obtain⟨b,xs,e,hb,r,hs,h1⟩:=h
  exact⟨b,xs,e,hb,r.fresh h0,xT _ hs,h1⟩
 | x c as =>
  obtain⟨b,dx,vs,e,ha,hd,r,g1,g2⟩:=h
  exact⟨b,dx,vs,e,ha,hd,r.fresh h0,g1,g2⟩
theorem EnvOk.setN (ok:EnvOk M env pn σ S H n){a:Addr}{xs:List V}{ds:List xH}(h0:H a=none)(h1:H' a=some (.lst xs))(r:Reps (a::S) H' ds xs)(x:Ext M.gs H H')(g:M.G H' n')(hi:i ∉ M.fd) :
  EnvOk M (env.set i (some (.o ds))) pn (σ.set i (some (.ref a))) (a::S) H' n':=by
 have hg:∀b∈M.gs,b∈a::S:=λ b hb=>xT _ (ok.gsS b hb)
 have inS:∀(j:Nat) (es:List xH) (b:Addr),env[j]? = some (some (.o es))->σ[j]? = some (some (.ref b))->b≠a:=λ j es b e1 e2 z=>by
  obtain⟨v',hv,rv⟩:=ok.val j _ e1
  obtain⟨c,xs,e,hc,_,hs,_⟩:=rv
  subst e
  rw[e2] at hv
  cases hv
  rw[z] at hs
  exact ok.has _ hs h0
 have ok':=ok.step x g
 refine⟨λ j e he=>?_,λ j k ds' es b h2 h3 h4 h5=>?_,by rw[yL,yL,ok.len],λ j hj=>?_,g,ok'.ext,λ b hb=>xT _ (ok.s0 b hb),λ b hb=>?_,λ b hb=>?_,λ p hp=>?_⟩
 ·rcases aK he with⟨rfl,e1⟩ | ⟨ne,e1⟩
  ·cases e1
   have:i<env.length:=by
    by_cases z:i<env.length
    ·exact z
    ·rw[yG (by rw[yL]; omega)] at he; cases he
   exact⟨.ref a,fu (by rw[<- ok.len]; exact this),a,xs,rfl,h1,r,ya ..,ok.anew h0⟩
  ·obtain⟨v',hv,rv⟩:=ok.val j e e1
   exact⟨v',by rw[yq ne]; exact hv,(rv.fresh h0).step hg x⟩
 ·rcases aK h2 with⟨rfl,e1⟩ | ⟨n1,e1⟩
  ·have hil:i<σ.length:=by
    by_cases z:i<σ.length
    ·exact z
    ·rw[yG (by rw[yL]; omega)] at h4; cases h4
   rw[fu hil] at h4
   cases h4
   rcases aK h3 with⟨e3,_⟩ | ⟨n2,e2⟩
   ·exact e3
   ·rw[yq n2] at h5
    exact absurd rfl (inS k _ _ e2 h5)
  ·rw[yq n1] at h4
   rcases aK h3 with⟨rfl,e2⟩ | ⟨n2,e2⟩
   ·have hil:i<σ.length:=by
     by_cases z:i<σ.length
     ·exact z
     ·rw[yG (by rw[yL]; omega)] at h5; cases h5
    rw[fu hil] at h5
    cases h5
    exact absurd rfl (inS j _ _ e1 h4)
   ·rw[yq n2] at h5
    exact ok.ne j k _ _ b e1 e2 h4 h5
 ·have:i≠j:=λ z=>hi (z ▸ hj)
  rw[yq this]
  exact ok.fdv j hj
 ·rcases xR.mp hb with z | z
  ·rw[z]; exact .inr (ok.anew h0)
  ·exact ok.sn b z
 ·rcases xR.mp hb with z | z
  ·rw[z,h1]; simp
  ·exact ok'.has b z
 ·exact ((ok.pin p hp).fresh h0).ext (x.mono hg)
theorem EnvOk.put (ok:EnvOk M env pn σ S H n){ds es:List xH}{a:Addr}{xs ys:List V}(he:env[i]? = some (some (.o ds)))(hv:σ[i]? = some (some (.ref a)))(ha:H a=some (.lst xs))(r:Reps S H es ys):EnvOk M (env.set i (some (.o es))) pn σ S (upd H a (.lst ys)) n:=by
 obtain⟨v',hv',a',xs',e',ha',_,hs,h0⟩:=ok.val i _ he
 subst e'
 rw[hv] at hv'
 cases hv'
 have x:Ext [a] H (upd H a (.lst ys)):=.set (by simp) ha
 have xS:Ext S H (upd H a (.lst ys)):=x.mono (by simpa using hs)
 refine⟨λ j e hj=>?_,λ j k ds' es' b h2 h3 h4 h5=>?_,by rw[yL,ok.len],ok.fdv,M.gext ok.gd x (by simpa using h0),ok.ext.set' h0 ha,ok.s0,ok.sn,λ b hb=>?_,λ p hp=>(ok.pin p hp).ext xS⟩
 ·rcases aK hj with⟨rfl,e1⟩ | ⟨ne,e1⟩
  ·cases e1
   exact⟨_,hv,a,ys,rfl,af,r.ext xS,hs,h0⟩
  ·obtain⟨w,hw,rw'⟩:=ok.val j e e1
   refine⟨w,hw,?_⟩
   cases e with
   | s d=>exact Rep.ext xS rw'
   | o es' =>
    obtain⟨b,zs,e2,hb,r2,hs2,h02⟩:=rw'
    subst e2
    have:b≠a:=λ z=>ne (ok.ne i j _ _ a he e1 hv (z ▸ hw))
    exact⟨b,zs,rfl,by rw[ag this]; exact hb,r2.ext xS,hs2,h02⟩
   | x c as =>
    obtain⟨b,dx,vs,e2,hb,hd,r2,g1,g2⟩:=rw'
    exact⟨b,dx,vs,e2,by rw[ag (λ z=>by rw[z,ha] at hb; cases hb)]; exact hb,by rw[ag (λ z=>by rw[z,ha] at hd; cases hd)]; exact hd,r2.ext xS,g1,g2⟩
 ·have g1:∃l,env[j]? = some (some (.o l)):=by
   rcases aK h2 with⟨rfl,_⟩ | ⟨_,e1⟩
   ·exact⟨_,he⟩
   ·exact⟨_,e1⟩
  have g2:∃l,env[k]? = some (some (.o l)):=by
   rcases aK h3 with⟨rfl,_⟩ | ⟨_,e1⟩
   ·exact⟨_,he⟩
   ·exact⟨_,e1⟩
  obtain⟨l1,g1⟩:=g1
  obtain⟨l2,g2⟩:=g2
  exact ok.ne j k _ _ b g1 g2 h4 h5
 ·by_cases z:b=a
  ·rw[z,af]; simp
  ·rw[ag z]; exact ok.has b hb
theorem EnvOk.freeze (ok:EnvOk M env pn σ S H n){ds:List xH}(he:env[i]? = some (some (.o ds))):∃a xs S',σ[i]? = some (some (.ref a))/\H a=some (.lst xs)/\Rep S' H (.list ds) (.ref a)/\EnvOk M (env.set i (some (.s (.list ds)))) pn σ S' H n:=by
 obtain⟨v',hv,a,xs,rfl,ha,r,hs,h0⟩:=ok.val i _ he
 have less:∀b∈S.filter (·≠a),b∈S:=λ b hb=>(yV.mp hb).1
 have hr:Rep (S.filter (·≠a)) H (.list ds) (.ref a):=.lst ha (by simp) (r.less less)
 refine⟨a,xs,S.filter (·≠a),hv,ha,hr,λ j e hj=>?_,λ j k ds' es' b h2 h3 h4 h5=>?_,by rw[yL,ok.len],ok.fdv,ok.gd,ok.ext,λ b hb=>?_,λ b hb=>ok.sn b (less b hb),λ b hb=>ok.has b (less b hb),λ p hp=>(ok.pin p hp).less less⟩
 ·rcases aK hj with⟨rfl,e1⟩ | ⟨ne,e1⟩
  ·cases e1
   exact⟨_,hv,hr⟩
  ·obtain⟨w,hw,rw'⟩:=ok.val j e e1
   refine⟨w,hw,?_⟩
   cases e with
   | s d=>exact Rep.less less rw'
   | o es' =>
    obtain⟨b,zs,e2,hb,r2,hs2,h02⟩:=rw'
    subst e2
    have:b≠a:=λ z=>ne (ok.ne i j _ _ a he e1 hv (z ▸ hw))
    exact⟨b,zs,rfl,hb,r2.less less,yV.mpr ⟨hs2,by simpa using this⟩,h02⟩
   | x c as =>
    obtain⟨b,dx,vs,e2,hb,hd,r2,g1,g2⟩:=rw'
    exact⟨b,dx,vs,e2,hb,hd,r2.less less,g1,g2⟩
 ·rcases aK h2 with⟨_,e1⟩ | ⟨_,e1⟩
  ·cases e1
  ·rcases aK h3 with⟨_,e2⟩ | ⟨_,e2⟩
   ·cases e2
   ·exact ok.ne j k _ _ b e1 e2 h4 h5
 ·refine yV.mpr ⟨ok.s0 b hb,?_⟩
  have:b≠a:=λ z=>M.has0 b hb (z ▸ h0)
  simpa using this
theorem EnvOk.pins {qn:List (xH × V)}(ok:EnvOk M env pn σ S H n)(h:∀p∈qn,p∈pn):EnvOk M env qn σ S H n:=⟨ok.val,ok.ne,ok.len,ok.fdv,ok.gd,ok.ext,ok.s0,ok.sn,ok.has,λ p hp=>ok.pin p (h p hp)⟩
theorem EnvOk.pin1 (ok:EnvOk M env pn σ S H n)(h:Rep S H d v):EnvOk M env ((d,v)::pn) σ S H n:=⟨ok.val,ok.ne,ok.len,ok.fdv,ok.gd,ok.ext,ok.s0,ok.sn,ok.has,λ p hp=>by
 rcases xR.mp hp with rfl | hp
 ·exact h
 ·exact ok.pin p hp⟩
end
abbrev UG:=xH->PEnv->(PEnv->Prop)->Prop
def uNm (i:Nat):UG:=λ d env Q=>Q (env.set i (some (.s d)))
def uTps:List UG->List xH->PEnv->(PEnv->Prop)->Prop
 | [],[],env,Q=>Q env
 | u::us,d::ds,env,Q=>u d env λ env'=>uTps us ds env' Q
 | _,_,_,_=>False
def uTp (us:List UG):UG:=λ d env Q=>match d with | .tuple ds=>uTps us ds env Q | _=>False
def liftG (M:Fr)(u:UG):TG:=λ v σ H R=>∃env pn S n d N,EnvOk M env pn σ S H n/\Rep S H d v/\u d env N/\∀env' σ',EnvOk M env' pn σ' S H n->N env'->R σ' H
def w4 (M:Fr)(us:List UG):TGs:=λ vs σ H R=>∃env pn S n ds N,EnvOk M env pn σ S H n/\Reps S H ds vs/\uTps us ds env N/\∀env' σ',EnvOk M env' pn σ' S H n->N env'->R σ' H
structure KG (X:Cx) (M:Fr) (e:Expr) (u:UG):Prop where run:QG X e (liftG M u)
structure KGs (X:Cx) (M:Fr) (es:List Expr) (us:List UG):Prop where run:QGs X es (w4 M us)
theorem QG.weaken {X:Cx}{e:Expr}{t t':TG}(h:QG X e t)(w:∀v σ H Q,t' v σ H Q->t v σ H Q):QG X e t':=⟨λ pins s σ H v u D I r q=>h.run pins s σ H v u D I r (w _ σ H _ q)⟩
theorem QGs.weaken {X:Cx}{es:List Expr}{t t':TGs}(h:QGs X es t)(w:∀v σ H Q,t' v σ H Q->t v σ H Q):QGs X es t':=⟨λ pins s σ H v u D I r q=>h.run pins s σ H v u D I r (w _ σ H _ q)⟩
section
variable {X:Cx}{M:Fr}{e:Expr}{es:List Expr}{pos:Pos}{u:UG}{us:List UG}
theorem g_n {i:Nat}{x:Str}(hN:X.N.Nodup)(hx:Loc X.env.scope x)(hi:X.N[i]? = some x:=by rfl)(hf:X.fn x=true\/X.env.scope.names.lookup x=some .local:=by first | exact .inl rfl | exact .inr rfl | assumption)(hfd:i ∉ M.fd:=by decide):KG X M (.Name x pos) (uNm i) :=
 ⟨(gO hN hi hx hf).weaken λ v σ H R h=>ex6 h λ env pn S n d N h=>h.2.2.2 _ _ (h.1.set h.2.1 hfd) h.2.2.1⟩
theorem eW:KGs X M [] []:=⟨qgs_nil.weaken λ vs σ H R h=>ex6 h λ env pn S n ds N h=>by
 obtain⟨ok,r,hu,k⟩:=h
 cases ds with
 | nil=>exact⟨r.of_nil,k _ _ ok hu⟩
 | cons d ds=>exact False.elim hu⟩
theorem gs_c (h:KG X M e u)(hr:KGs X M es us)(hs:(assignEach (e::es) X.env).map (·.2)=assign e X.env::(assignEach es X.env).map (·.2):=by rfl):KGs X M (e::es) (u::us) :=
 ⟨(sj h.run hr.run hs).weaken λ vs σ H R h=>ex6 h λ env pn S n ds N h=>by
  obtain⟨ok,r,hu,k⟩:=h
  cases ds with
  | nil=>exact False.elim hu
  | cons d ds =>
   obtain⟨x,t,rfl,r1,r2⟩:=r.of_cons
   exact⟨x,t,rfl,env,pn,S,n,d,_,ok,r1,hu,λ env' σ' ok' q=>⟨env',pn,S,n,ds,N,ok',r2,q,k⟩⟩⟩
theorem nc:∀{us:List UG} {ds:List xH} {env:PEnv} {Q:PEnv->Prop},uTps us ds env Q->(∀u∈us,∀d env (Q:PEnv->Prop),u d env Q->∃env',Q env')->ds.length=us.length
 | [],[],_,_,_,_=>rfl
 | [],_::_,_,_,h,_=>False.elim h
 | _::_,[],_,_,h,_=>False.elim h
 | u::us,d::ds,env,Q,h,k=>by
  obtain⟨env',h'⟩:=k u (ya ..) d env _ h
  simp only[xP]
  rw[nc h' λ w hw=>k w (xT _ hw)]
theorem nm_ex {i:Nat}:∀d env (Q:PEnv->Prop),uNm i d env Q->∃env',Q env':=λ _ _ _ h=>⟨_,h⟩
theorem g_t {n':Nat}(hc:X.calm=true)(h:KGs X M es us)(hu:∀u∈us,∀d env (Q:PEnv->Prop),u d env Q->∃env',Q env')(hl:us.length=n')(hn:(assignEach es X.env).length=n':=by rfl)(hst:(assignEach es X.env).findIdx? (·.1)=none:=by rfl){k:Nat}:KG X M (.Tuple es k pos) (uTp us) :=
 ⟨(wM hc h.run hn hst).weaken λ v σ H R h=>ex6 h λ env pn S n d N h=>by
  obtain⟨ok,r,hh,k⟩:=h
  cases d with
  | tuple ds =>
   obtain⟨a,xs,rfl,ha,rs⟩:=r.of_tup
   exact⟨a,xs,rfl,SqT.of ha,by rw[rs.length,nc hh hu,hl],env,pn,S,n,ds,N,ok,rs,hh,k⟩
  | _=>exact False.elim hh⟩
end
structure ItD (S:List Addr) (J:It) (its:List xH) (H:Hp):Prop where
 go:∀i,i<its.length->J.go i H
 yld:∀i x H',i<its.length->J.yld i H x H'->∃d,its[i]? = some d/\Ext [] H H'/\Rep S H' d x
 stop:∀i,its.length<=i->J.stop i H
abbrev UI:=PEnv->Int->(List xH->PEnv->Int->Prop)->Prop
abbrev UJ:=PEnv->Int->(List xH->Int->Prop)->Prop
theorem QI.sized {X:Cx}{tg iter:Expr}{wi:TI}(h:QI X tg iter wi):QI X tg iter (λ σ H R=>wi σ H λ J H1=>Sized H1->R J H1) :=
 ⟨λ pins s σ H R I q=>thn (h.run pins s σ H _ I q) λ v s1 q1=>thn q1 λ it s2 ⟨a,fp,tn,J,H',e,I2,t,t0,f,r⟩=>⟨a,fp,tn,J,H',e,I2,t,t0,f,r I2.hok.sized⟩⟩
structure KI (X:Cx) (M:Fr) (tg iter:Expr) (u:UI):Prop where
 ex:∃wi,QI X tg iter wi/\∀σ H R env pn S n Q,EnvOk M env pn σ S H n->u env n Q ->
  (∀J H' its env' S' n' p,EnvOk M env' (p++pn) σ S' H' n'->(∀S2 H2,(∀q∈p,Rep S2 H2 q.1 q.2)->ItD S2 J its H2)->Q its env' n'->R J H')->wi σ H R
structure KJ (X:Cx) (M:Fr) (tg iter:Expr) (u:UJ):Prop where
 ex:∃wi,QI X tg iter wi/\∀σ H R env pn S n Q,EnvOk M env pn σ S H n->u env n Q ->
  (∀J H' its n',Ext M.gs H H'->M.G H' n'->(∀H2,Ext M.gs H' H2->ItD S J its H2)->its.length<=xV->Q its n'->R J H')->wi σ H R
theorem qH {K:W.Frag}{S:List Addr}{H:Hp}{a:Addr}{xs:List V}{ds:List xH}(ha:H a=some (.tup xs))(r:Reps S H ds xs):ItD S (Itt K a) ds H :=
 ⟨λ i hi=>⟨xs,xs[i]'(by rw[r.length]; exact hi),SqT.of ha,by simp⟩,λ i x H' _ ⟨e,y⟩=>by
  subst e
  obtain⟨d,hd,rd⟩:=r.get (y xs (SqT.of ha))
  exact⟨d,hd,.refl _ _,rd⟩,λ i hi=>⟨xs,SqT.of ha,by rw[r.length]; exact hi⟩⟩
theorem ng {K:W.Frag}{S:List Addr}{H:Hp}{a:Addr}{xs:List V}{ds:List xH}(ha:H a=some (.lst xs))(r:Reps S H ds xs):ItD S (Itl K a) ds H :=
 ⟨λ i hi=>⟨xs,xs[i]'(by rw[r.length]; exact hi),SqL.of ha,by simp⟩,λ i x H' _ ⟨e,y⟩=>by
  subst e
  obtain⟨d,hd,rd⟩:=r.get (y xs (SqL.of ha))
  exact⟨d,hd,.refl _ _,rd⟩,λ i hi=>⟨xs,SqL.of ha,by rw[r.length]; exact hi⟩⟩
def enumP (ds:List xH):List xH:=ds.zipIdx.map λ p=>.tuple [.int (p.2:Nat),p.1]
theorem cL (ds:List xH):(enumP ds).length=ds.length:=by simp[enumP]
theorem nh {ds:List xH}{i:Nat}{d:xH}(h:ds[i]? = some d):(enumP ds)[i]? = some (.tuple [.int (i:Nat),d]):=by
 unfold enumP
 rw[yg,List.getElem?_zipIdx,h]
 simp
theorem ni {K:W.Frag}{S:List Addr}{H:Hp}{a:Addr}{xs:List V}{ds:List xH}(ha:H a=some (.tup xs))(r:Reps S H ds xs):ItD S (Ite K a) (enumP ds) H :=
 ⟨λ i hi=>⟨xs,xs[i]'(by rw[r.length,<- cL]; exact hi),SqT.of ha,by simp⟩,λ i x H' _ ⟨T,xi,e1,hT,e2,hxi⟩=>by
  subst e1 e2
  obtain⟨d,hd,rd⟩:=r.get (hxi xs (SqT.of ha))
  exact⟨_,nh hd,.new hT,.tup af (.cons (.int _) (.cons (rd.ext (.new hT)) .nil))⟩,λ i hi=>⟨xs,SqT.of ha,by rw[r.length,<- cL]; exact hi⟩⟩
theorem nj {K:W.Frag}{S:List Addr}{H:Hp}{a:Addr}{xs:List V}{ds:List xH}(ha:H a=some (.lst xs))(r:Reps S H ds xs):ItD S (Iel K a) (enumP ds) H :=
 ⟨λ i hi=>⟨xs,xs[i]'(by rw[r.length,<- cL]; exact hi),SqL.of ha,by simp⟩,λ i x H' _ ⟨T,xi,e1,hT,e2,hxi⟩=>by
  subst e1 e2
  obtain⟨d,hd,rd⟩:=r.get (hxi xs (SqL.of ha))
  exact⟨_,nh hd,.new hT,.tup af (.cons (.int _) (.cons (rd.ext (.new hT)) .nil))⟩,λ i hi=>⟨xs,SqL.of ha,by rw[r.length,<- cL]; exact hi⟩⟩
def rngD (lo:Int)(n:Nat):List xH:=(List.range n).map λ (k:Nat)=>.int (lo+k)
theorem tZ {S:List Addr}{H:Hp}{lo:Int}{n:Nat}:ItD S (Itr lo n) (rngD lo n) H :=
 have hl:(rngD lo n).length=n:=by simp[rngD]
 ⟨λ i hi=>by rw[hl] at hi; exact hi,λ i x H' hi ⟨e1,e2⟩=>by
  subst e1 e2
  rw[hl] at hi
  exact⟨.int (lo+(i:Nat)),by simp[rngD,z8 hi],.refl _ _,.int _⟩,λ i hi=>by rw[hl] at hi; exact hi⟩
def uItV (i:Nat):UI:=λ env n Q=>match env[i]? with | some (some (.s (.tuple ds)))=>Q ds env n | some (some (.s (.list ds)))=>Q ds env n | some (some (.o ds))=>Q ds (env.set i (some (.s (.list ds)))) n | _=>False
def seqD (d:xH):Option (List xH):=match d with | .tuple ds=>some ds | .list ds=>some ds | _=>none
def uIt (u:UX):UI:=λ env n Q=>u env n λ d n1=>bnd (seqD d) λ ds=>Q ds env n1
def uJt (u:UX):UJ:=λ env n Q=>u env n λ d n1=>bnd (seqD d) λ ds=>Q ds n1
def uJe (u:UX):UJ:=λ env n Q=>u env n λ d n1=>bnd (seqD d) λ ds=>Q (enumP ds) n1
def uIe (u:UX):UI:=λ env n Q=>u env n λ d n1=>bnd (seqD d) λ ds=>Q (enumP ds) env n1
def uJr (u:UX):UJ:=λ env n Q=>u env n λ d n1=>match d with | .int j=>(-(2 ^ 62)<=j/\j<=16777216)/\Q (rngD 0 j.toNat) n1 | _=>False
def uIr (u:UX):UI:=λ env n Q=>u env n λ d n1=>match d with | .int j=>-(2 ^ 62)<=j/\j<2 ^ 62/\Q (rngD 0 j.toNat) env n1 | _=>False
def uJr2 (u w:UX):UJ:=λ env n Q=>u env n λ d n1=>w env n1 λ e n2=>match d,e with | .int i,.int j=>(-(2 ^ 62)<=i/\i<2 ^ 62/\-(2 ^ 62)<=j/\j<2 ^ 62)/\j - i<=16777216/\Q (rngD i (j - i).toNat) n2 | _,_=>False
def uIr2 (u w:UX):UI:=λ env n Q=>u env n λ d n1=>w env n1 λ e n2=>match d,e with | .int i,.int j=>(-(2 ^ 62)<=i/\i<2 ^ 62/\-(2 ^ 62)<=j/\j<2 ^ 62)/\Q (rngD i (j - i).toNat) env n2 | _,_=>False
def iSeq (K:W.Frag)(te:TE):TI:=λ σ H R=>te σ H λ x H1=>∃a,x=.ref a/\(((∃xs,SqL K H1 a xs)/\R (Itl K a) H1)\/((∃xs,SqT K H1 a xs)/\R (Itt K a) H1))
def iEnS (K:W.Frag)(ta:TA):TI:=λ σ H R=>ta σ H λ vs H1=>∃a,vs=[.ref a]/\(((∃xs,SqL K H1 a xs)/\R (Iel K a) H1)\/((∃xs,SqT K H1 a xs)/\R (Ite K a) H1))
section
variable {X:Cx}{M:Fr}{tg e a b:Expr}{u w:UX}{p pos tpos:Pos}{elts:List Expr}{k:Nat}
theorem qI {te:TE}(h:QE X e te):QI X tg e (iSeq X.K te):=by
 refine⟨λ pins s σ H R I q=>thn (h.run pins s σ H _ I q) λ v s1 ⟨x,H1,I1,r1,q1⟩=>?_⟩
 obtain⟨a,e,q1⟩:=q1
 subst e
 cases r1
 rcases q1 with⟨⟨xs,hq⟩,q⟩ | ⟨⟨xs,hq⟩,q⟩
 ·obtain⟨its,rv,p,hz⟩:=I1.list hq
  refine wpAny_pyIter_list p.isList ?_
  refine⟨s1.heap.objs.size,[s1.heap.objs.size],_,_,H1,rfl,I1.kept (t':=s1.toks) λ b o e=>xM _ e,kf a _,⟨_,xW _ rfl,rfl,rfl⟩,λ b hb=>?_,q⟩
  have e:b=s1.heap.objs.size:=by simpa using hb
  subst e
  exact I1.fpOk (xL _) (I1.hok.fresh (xL _))
 ·obtain⟨its,rv,p,hz⟩:=I1.tuple hq
  refine wpAny_pyIter_tuple (show s1.heap.IsTuple a its.toArray from p) ?_
  refine⟨s1.heap.objs.size,[s1.heap.objs.size],_,_,H1,rfl,I1.kept (t':=s1.toks) λ b o e=>xM _ e,i6 a _,⟨_,xW _ rfl,rfl,rfl⟩,λ b hb=>?_,q⟩
  have e:b=s1.heap.objs.size:=by simpa using hb
  subst e
  exact I1.fpOk (xL _) (I1.hok.fresh (xL _))
theorem w5 {ta:TA}(hg:Gl X "enumerate")(hm:X.mg "enumerate" = none)(ha:QA X [a] ta):QI X (.Tuple elts k tpos) (.Call (.Name "enumerate" p) [a] [] pos) (iEnS X.K ta):=by
 refine⟨λ pins s σ H R I h=>?_⟩
 have hs:=au (env:=X.env) (es:=[]) (ns_hd ha.ns).1
 refine Call_ (ke I hg hm (by decide +kernel:bootBuiltins "enumerate" = some (.type "enumerate")) (PyProof.Rows.callWith_type1 (thn (ha.run pos pins s σ H _ I h) λ us s1 ⟨vs,H1,I1,r1,q1⟩=>?_) hs rfl))
 obtain⟨t,e,q1⟩:=q1
 subst e
 have hfp:∀b∈[s1.heap.objs.size+1,s1.heap.objs.size],FpOk X pins H1 b:=λ b hb=>by
  have hb':s1.heap.objs.size<=b:=by
   rcases xR.mp hb with z | z
   ·rw[z]; exact zA _
   ·have z':b=s1.heap.objs.size:=by simpa using z
    rw[z']; exact xL _
  obtain⟨p0,p1,p2,p3,p4,p5⟩:=I1.fpOk hb' (I1.hok.fresh hb')
  exact⟨p0,p1,p2,p3,p4,p5⟩
 cases r1 with
 | cons r rr =>
  cases rr
  cases (show _=xK.ref t from r)
  rcases q1 with⟨⟨xs,hq⟩,q⟩ | ⟨⟨xs,hq⟩,q⟩
  ·obtain⟨its,rv,pp,hz⟩:=I1.list hq
   refine call_enumerate_list pp.isList λ h' en it' sz kp=>?_
   refine wpAny_pyIter_enum en ?_
   have I2:Inv X pins σ H1 { s1 with heap:=h' }:=I1.kept (t':=s1.toks) kp
   exact⟨s1.heap.objs.size+1,[s1.heap.objs.size+1,s1.heap.objs.size],_,_,H1,rfl,I2,og t _ _ (Aj _),⟨⟨_,en⟩,it'⟩,hfp,q⟩
  ·obtain⟨its,rv,pp,hz⟩:=I1.tuple hq
   refine nX (show s1.heap.IsTuple t its.toArray from pp) λ h' en it' sz kp=>?_
   refine wpAny_pyIter_enum en ?_
   have I2:Inv X pins σ H1 { s1 with heap:=h' }:=I1.kept (t':=s1.toks) kp
   exact⟨s1.heap.objs.size+1,[s1.heap.objs.size+1,s1.heap.objs.size],_,_,H1,rfl,I2,nY t _ _ (Aj _),⟨⟨_,en⟩,it'⟩,hfp,q⟩
theorem RepL.its {K:W.Frag}{gs S:List Addr}{H:Hp}{d:xH}{v:V}{ds:List xH}(r:RepL gs S H d v)(e:seqD d=some ds)(hg:∀a∈gs,a∈S):∃a,v=.ref a /\
  (((∃xs,H a=some (.lst xs)/\xs.length=ds.length)/\∀H2,Ext gs H H2->ItD S (Itl K a) ds H2/\ItD S (Iel K a) (enumP ds) H2)\/((∃xs,H a=some (.tup xs)/\xs.length=ds.length)/\∀H2,Ext gs H H2->ItD S (Itt K a) ds H2/\ItD S (Ite K a) (enumP ds) H2)):=by
 cases d with
 | tuple es =>
  cases e
  obtain⟨a,xs,rfl,ha,rs⟩:=r.of_tup
  exact⟨a,rfl,.inr ⟨⟨xs,ha,rs.length⟩,λ H2 x=>⟨qH (x.tup _ _ ha) (rs.ext (x.mono hg)),ni (x.tup _ _ ha) (rs.ext (x.mono hg))⟩⟩⟩
 | list es =>
  cases e
  have r0:=r
  obtain⟨a,xs,rfl,ha,rs⟩:=r.of_lst
  refine⟨a,rfl,.inl ⟨⟨xs,ha,rs.length⟩,λ H2 x=>?_⟩⟩
  obtain⟨a',xs',e',ha',rs'⟩:=(r0.ext hg x).of_lst
  cases e'
  exact⟨ng ha' rs',nj ha' rs'⟩
 | _=>cases e
theorem j_seq (h:KL X M e u):KJ X M tg e (uJt u):=⟨_,(qI h.run).sized,λ σ H R env pn S n Q ok hu k=>⟨env,pn,S,n,_,ok,hu,λ v H1 d n1 r1 x1 g1 sz q=>by
 obtain⟨ds,e,q⟩:=q
 obtain⟨a,rfl,h⟩:=r1.its (K:=X.K) e ok.gsS
 rcases h with⟨⟨xs,ha,hl⟩,h⟩ | ⟨⟨xs,ha,hl⟩,h⟩
 ·exact⟨a,rfl,.inl ⟨⟨xs,SqL.of ha⟩,λ sz=>k _ H1 ds n1 x1 g1 (λ H2 x2=>(h H2 x2).1) (by rw[<- hl]; exact sz a xs (.inl ha)) q⟩⟩
 ·exact⟨a,rfl,.inr ⟨⟨xs,SqT.of ha⟩,λ sz=>k _ H1 ds n1 x1 g1 (λ H2 x2=>(h H2 x2).1) (by rw[<- hl]; exact sz a xs (.inr ha)) q⟩⟩⟩⟩
theorem je (hm:X.mg "enumerate" = none)(h:KL X M a u)(hs:aJ a=true:=by rfl)(hg:Gl X "enumerate" := by rfl):KJ X M (.Tuple elts k tpos) (.Call (.Name "enumerate" p) [a] [] pos) (uJe u) :=
 ⟨_,(w5 hg hm (qa_c h.run aC hs)).sized,λ σ H R env pn S n Q ok hu k=>⟨env,pn,S,n,_,ok,hu,λ v H1 d n1 r1 x1 g1 sz q=>by
  obtain⟨ds,e,q⟩:=q
  obtain⟨a,rfl,h⟩:=r1.its (K:=X.K) e ok.gsS
  rcases h with⟨⟨xs,ha,hl⟩,h⟩ | ⟨⟨xs,ha,hl⟩,h⟩
  ·exact⟨a,rfl,.inl ⟨⟨xs,SqL.of ha⟩,λ sz=>k _ H1 _ n1 x1 g1 (λ H2 x2=>(h H2 x2).2) (by rw[cL,<- hl]; exact sz a xs (.inl ha)) q⟩⟩
  ·exact⟨a,rfl,.inr ⟨⟨xs,SqT.of ha⟩,λ sz=>k _ H1 _ n1 x1 g1 (λ H2 x2=>(h H2 x2).2) (by rw[cL,<- hl]; exact sz a xs (.inr ha)) q⟩⟩⟩⟩
theorem sI (lo:Int)(n:Nat):(rngD lo n).length=n:=by simp[rngD]
theorem l4 (hm:X.mg "range" = none)(h:KE X M a u)(hs:aJ a=true:=by rfl)(hg:Gl X "range" := by rfl):KJ X M tg (.Call (.Name "range" p) [a] [] pos) (uJr u) :=
 ⟨_,kE hg hm (qa_c h.run aC hs),λ σ H R env pn S n Q ok hu k=>⟨env,pn,S,n,_,ok,hu,λ v H1 d n1 r1 x1 g1 sz q=>by
  cases d with
  | int j =>
   have hsz:xV=16777216:=by decide
   exact⟨j,by rw[r1.of_int],q.1.1,by have:=q.1.2; omega,k _ H1 _ n1 x1 g1 (λ H2 _=>tZ) (by rw[sI,hsz]; have:=q.1.2; omega) q.2⟩
  | _=>exact False.elim q⟩⟩
theorem vD {K:W.Frag}{d:xH}{v:V}{ds:List xH}(e:seqD d=some ds){S:List Addr}{H:Hp}(r:Rep S H d v):∃a,v=.ref a /\
  (((∃xs,H a=some (.lst xs))/\∀S2 H2,(∀q∈[(d,v)],Rep S2 H2 q.1 q.2)->ItD S2 (Itl K a) ds H2/\ItD S2 (Iel K a) (enumP ds) H2)\/((∃xs,H a=some (.tup xs))/\∀S2 H2,(∀q∈[(d,v)],Rep S2 H2 q.1 q.2)->ItD S2 (Itt K a) ds H2/\ItD S2 (Ite K a) (enumP ds) H2)):=by
 cases d with
 | tuple es =>
  cases e
  obtain⟨a,xs,rfl,ha,rs⟩:=r.of_tup
  refine⟨a,rfl,.inr ⟨⟨xs,ha⟩,λ S2 H2 h=>?_⟩⟩
  obtain⟨a',xs',e',ha',rs'⟩:=(h _ (yh.mpr rfl)).of_tup
  cases e'
  exact⟨qH ha' rs',ni ha' rs'⟩
 | list es =>
  cases e
  obtain⟨a,xs,rfl,ha,_,rs⟩:=r.of_lst
  refine⟨a,rfl,.inl ⟨⟨xs,ha⟩,λ S2 H2 h=>?_⟩⟩
  obtain⟨a',xs',e',ha',_,rs'⟩:=(h _ (yh.mpr rfl)).of_lst
  cases e'
  exact⟨ng ha' rs',nj ha' rs'⟩
 | _=>cases e
theorem i_seq (h:KE X M e u):KI X M tg e (uIt u):=⟨_,qI h.run,λ σ H R env pn S n Q ok hu k=>⟨env,pn,S,n,_,ok,hu,λ v H1 d n1 r1 x1 g1 sz q=>by
 obtain⟨ds,e,q⟩:=q
 have ok1:=(ok.step x1 g1).pin1 r1
 obtain⟨a,rfl,h⟩:=vD (K:=X.K) e r1
 rcases h with⟨⟨xs,ha⟩,h⟩ | ⟨⟨xs,ha⟩,h⟩
 ·exact⟨a,rfl,.inl ⟨⟨xs,SqL.of ha⟩,k _ H1 ds env S n1 [_] ok1 (λ S2 H2 hh=>(h S2 H2 hh).1) q⟩⟩
 ·exact⟨a,rfl,.inr ⟨⟨xs,SqT.of ha⟩,k _ H1 ds env S n1 [_] ok1 (λ S2 H2 hh=>(h S2 H2 hh).1) q⟩⟩⟩⟩
theorem fw (hm:X.mg "range" = none)(h:KE X M a u)(hs:aJ a=true:=by rfl)(hg:Gl X "range" := by rfl):KI X M tg (.Call (.Name "range" p) [a] [] pos) (uIr u) :=
 ⟨_,kE hg hm (qa_c h.run aC hs),λ σ H R env pn S n Q ok hu k=>⟨env,pn,S,n,_,ok,hu,λ v H1 d n1 r1 x1 g1 sz q=>by
  cases d with
  | int j=>exact⟨j,by rw[r1.of_int],q.1,q.2.1,k _ H1 _ env S n1 [] (ok.step x1 g1) (λ S2 H2 _=>tZ) q.2.2⟩
  | _=>exact False.elim q⟩⟩
theorem i_var (i:Nat){x:Str}(hN:X.N[i]? = some x:=by rfl)(hv:Vis X.env.scope x:=by first | exact Or.inl rfl | exact Or.inr (Or.inl rfl) | exact Or.inr (Or.inr rfl))(hd:(x == ("__debug__" : Str))=false:=by decide)
  (hcd:(x == ("__classdict__" : Str))=false:=by decide):KI X M tg (.Name x pos) (uItV i):=⟨_,qI (qv i hN hv hd hcd),λ σ H R env pn S n Q ok hu k=>by
 unfold uItV at hu
 split at hu
 ·rename_i ds he
  obtain⟨v,hv,r⟩:=ok.val i _ he
  obtain⟨a,xs,rfl,ha,rs⟩:=Rep.of_tup r
  refine⟨_,hv,a,rfl,.inr ⟨⟨xs,SqT.of ha⟩,k _ H ds env S n [(.tuple ds,.ref a)] (ok.pin1 r) (λ S2 H2 hh=>?_) hu⟩⟩
  obtain⟨a',xs',e',ha',rs'⟩:=(hh _ (yh.mpr rfl)).of_tup
  cases e'
  exact qH ha' rs'
 ·rename_i ds he
  obtain⟨v,hv,r⟩:=ok.val i _ he
  obtain⟨a,xs,rfl,ha,_,rs⟩:=Rep.of_lst r
  refine⟨_,hv,a,rfl,.inl ⟨⟨xs,SqL.of ha⟩,k _ H ds env S n [(.list ds,.ref a)] (ok.pin1 r) (λ S2 H2 hh=>?_) hu⟩⟩
  obtain⟨a',xs',e',ha',_,rs'⟩:=(hh _ (yh.mpr rfl)).of_lst
  cases e'
  exact ng ha' rs'
 ·rename_i ds he
  obtain⟨a,xs,S',hv,ha,r,ok'⟩:=ok.freeze he
  refine⟨_,hv,a,rfl,.inl ⟨⟨xs,SqL.of ha⟩,k _ H ds _ S' n [(.list ds,.ref a)] (ok'.pin1 r) (λ S2 H2 hh=>?_) hu⟩⟩
  obtain⟨a',xs',e',ha',_,rs'⟩:=(hh _ (yh.mpr rfl)).of_lst
  cases e'
  exact ng ha' rs'
 ·exact hu.elim⟩
end
def uSeq (u w:US):US:=λ E env n=>u { E with nx:=w E } env n
def uCut (u w:US):US:=λ E env n=>∃C:PEnv->Int->Prop,u { E with nx:=C } env n/\∀env' n',C env' n'->w E env' n'
def uNext:US:=λ E env n=>E.nx env n
def uIfS (c:UT)(u w:US):US:=λ E env n=>c env n λ b n1=>if b=true then u E env n1 else w E env n1
def uRet (u:UX):US:=λ E env n=>u env n E.rt
def uRetO (i:Nat):US:=λ E env n=>match env[i]? with | some (some (.s d))=>E.rt d n | some (some (.o ds))=>E.rt (.list ds) n | _=>False
def uRetN:US:=λ E _ n=>E.rt .none n
def uSet (i:Nat)(u:UX):US:=λ E env n=>u env n λ d n1=>E.nx (env.set i (some (.s d))) n1
def uNew (i:Nat)(u:PEnv->Int->(List xH->Int->Prop)->Prop):US:=λ E env n=>u env n λ ds n1=>E.nx (env.set i (some (.o ds))) n1
def uAsg (u:UX)(g:UG):US:=λ E env n=>u env n λ d n1=>g d env λ env'=>E.nx env' n1
def uDrop (u:UX):US:=λ E env n=>u env n λ _ n1=>E.nx env n1
section
variable {X:Cx}{M:Fr}{st:Stmt}{sts body els:List Stmt}{u w:US}{e c tg iter a b:Expr}{ue ua ub:UX}{uc:UT}{pos:Pos}
theorem KS.of {t:TS}(h:QS X st t)(k:∀D σ H env pn S n E,EnvOk M env pn σ S H n->u E env n->(∀env' σ' S' H' n',EnvOk M env' pn σ' S' H' n'->E.nx env' n'->D.nx σ' H')->(∀v H' d n',Rep M.S0 H' d v->Ext M.gs M.H0 H'->M.G H' n'->E.rt d n'->D.rt v H')->t D σ H):KS X M st u :=
 ⟨h.weaken λ D σ H h=>ex5 h λ env pn S n E h=>k D σ H env pn S n E h.1 h.2.1 h.2.2.1 h.2.2.2⟩
theorem av:KSs X M [] uNext:=⟨qss_nil.weaken λ D σ H h=>ex5 h λ env pn S n E h=>h.2.2.1 _ _ _ _ _ h.1 h.2.1⟩
theorem ae (h:KS X M st u):KSs X M [st] u:=⟨cy h.run⟩
theorem kss_c (h:KS X M st u)(hr:KSs X M sts w):KSs X M (st::sts) (uSeq u w):=⟨(az h.run hr.run).weaken λ D σ H h=>ex5 h λ env pn S n E h =>
 ⟨env,pn,S,n,_,h.1,h.2.1,λ env' σ' S' H' n' ok' q=>⟨env',pn,S',n',E,ok',q,h.2.2.1,h.2.2.2⟩,h.2.2.2⟩⟩
theorem kss_x (h:KS X M st u)(hr:KSs X M sts w):KSs X M (st::sts) (uCut u w):=⟨(az h.run hr.run).weaken λ D σ H h=>ex5 h λ env pn S n E h=>Exists.elim h.2.1 λ C hC =>
 ⟨env,pn,S,n,_,h.1,hC.1,λ env' σ' S' H' n' ok' q=>⟨env',pn,S',n',E,ok',hC.2 _ _ q,h.2.2.1,h.2.2.2⟩,h.2.2.2⟩⟩
theorem s_if (hc:KB X M c uc)(ha:KSs X M body u)(hb:KSs X M els w):KS X M (.If c body els pos) (uIfS uc u w):=.of (qs_if hc.run ha.run hb.run) λ D σ H env pn S n E ok hu k1 k2 =>
 ⟨env,pn,S,n,_,ok,hu,λ b H1 n1 x1 g1 q=>by
  cases b with
  | true=>exact⟨env,pn,S,n1,E,ok.step x1 g1,q,k1,k2⟩
  | false=>exact⟨env,pn,S,n1,E,ok.step x1 g1,q,k1,k2⟩⟩
theorem s_ret (h:KE X M e ue):KS X M (.Return (some e) pos) (uRet ue):=.of (gP h.run) λ D σ H env pn S n E ok hu k1 k2 =>
 ⟨env,pn,S,n,_,ok,hu,λ v H1 d n1 r1 x1 g1 _ q=>k2 v H1 d n1 (r1.less ok.s0) (ok.step x1 g1).ext g1 q⟩
theorem s_set {i:Nat}{x:Str}{pos':Pos}(hN:X.N.Nodup)(hx:Loc X.env.scope x)(h:KE X M e ue)(hi:X.N[i]? = some x:=by rfl)(hs:swapsWith e (some (.Name x pos')) pos.line X.env=pure false:=by rfl)
  (hf:X.fn x=true\/X.env.scope.names.lookup x=some .local:=by first | exact .inl rfl | exact .inr rfl | assumption) (hfd:i ∉ M.fd:=by decide):KS X M (.Assign [.Name x pos'] e pos) (uSet i ue):=.of (ek hN hi hx h.run hs hf) λ D σ H env pn S n E ok hu k1 k2 =>
 ⟨env,pn,S,n,_,ok,hu,λ v H1 d n1 r1 x1 g1 _ q=>k1 _ _ _ _ _ ((ok.step x1 g1).set r1 hfd) q⟩
theorem s_new {i:Nat}{x:Str}{pos':Pos}{un:PEnv->Int->(List xH->Int->Prop)->Prop}(hN:X.N.Nodup)(hx:Loc X.env.scope x)(h:KN X M e un)(hi:X.N[i]? = some x:=by rfl)(hs:swapsWith e (some (.Name x pos')) pos.line X.env=pure false:=by rfl)
  (hf:X.fn x=true\/X.env.scope.names.lookup x=some .local:=by first | exact .inl rfl | exact .inr rfl | assumption) (hfd:i ∉ M.fd:=by decide):KS X M (.Assign [.Name x pos'] e pos) (uNew i un):=.of (ek hN hi hx h.run hs hf) λ D σ H env pn S n E ok hu k1 k2 =>
 ⟨env,pn,S,n,_,ok,hu,λ a xs H1 ds n1 h0 h1 r1 x1 g1 _ q=>k1 _ _ _ _ _ (ok.setN h0 h1 r1 x1 g1 hfd) q⟩
def uPar (i j:Nat)(ua:UA):US:=λ E env n=>ua env n λ ds n1=>match ds with | [d,e]=>E.nx ((env.set i (some (.s d))).set j (some (.s e))) n1 | _=>False
theorem t6 (h:KE X M e ue)(hs:swapsWith e none pos.line X.env=pure false:=by rfl):KS X M (.Expr e pos) (uDrop ue):=.of (pT h.run hs) λ D σ H env pn S n E ok hu k1 k2 =>
 ⟨env,pn,S,n,_,ok,hu,λ v H1 d n1 r1 x1 g1 _ q=>k1 _ _ _ _ _ (ok.step x1 g1) q⟩
def uLoop (ug:UG)(ub:US)(E:UEnds):List xH->PEnv->Int->Prop
 | [],env,n=>E.nx env n
 | d::ds,env,n=>ug d env λ env'=>ub { nx:=uLoop ug ub E ds,rt:=E.rt } env' n
def uFor (ui:UI)(ug:UG)(ub:US):US:=λ E env n=>ui env n λ its env1 n1=>uLoop ug ub E its env1 n1
theorem s_for {ui:UI}{ug:UG}(hp:PassesOwn (model X.prog X.w) X.A X.env X.xe)(hc:X.calm=true)(hi:KI X M tg iter ui)(hg:KG X M tg ug)(hb:KSs X M body u)(hs:∀x,foldedSetIterable iter X.env x=pure x:=by intro _; rfl):KS X M (.For tg iter body [] pos) (uFor ui ug u):=by
 obtain⟨wi,qi,hwi⟩:=hi.ex
 refine .of (pV hp hc qi hg.run hb.run hs) λ D σ H env pn S n E ok hu k1 k2=>hwi σ H _ env pn S n _ ok hu λ J H1 its env1 S1 n1 p ok1 hJ q=>?_
 refine⟨λ i m σ' H'=>m=its.length - i/\i<=its.length/\∃env' S' n',EnvOk M env' (p++pn) σ' S' H' n'/\uLoop ug u E (its.drop i) env' n',⟨its.length,by simp,yY _,env1,S1,n1,ok1,q⟩,?_⟩
 rintro i m σ' H' ⟨rfl,hle,env',S',n',ok',q'⟩
 have it:=hJ S' H' λ r hr=>ok'.pin r (zZ _ hr)
 by_cases hlt:i<its.length
 ·refine .inr ⟨it.go i hlt,λ σ2 H2=>∃env2 S2 n2,EnvOk M env2 (p++pn) σ2 S2 H2 n2/\uLoop ug u E (its.drop (i+1)) env2 n2,λ σ2 H2 h=>⟨its.length - (i+1),by omega,rfl,hlt,h⟩,λ x H2 hy=>?_⟩
  obtain⟨d,hd,x2,rd⟩:=it.yld i x H2 hlt hy
  have e:its.drop i=d::its.drop (i+1):=by
   rw[yX hlt]
   congr
   exact (ym.mp hd).2
  rw[e] at q'
  have ok2:=ok'.step (x2.mono (by simp)) (M.gext ok'.gd x2 (by simp))
  exact⟨env',p++pn,S',n',d,_,ok2,rd,q',λ env3 σ3 ok3 q3=>⟨env3,p++pn,S',n',_,ok3,q3,λ env4 σ4 S4 H4 n4 ok4 q4=>⟨env4,S4,n4,ok4,q4⟩,k2⟩⟩
 ·refine .inl ⟨it.stop i (by omega),?_⟩
  rw[zb (by omega)] at q'
  exact k1 _ _ _ _ _ (ok'.pins λ r hr=>yJ _ hr) q'
end
def seedP (mp:List (Option Nat))(env:PEnv):PEnv:=mp.map λ o=>match o with | none=>none | some i=>(env[i]?).join
def Fr.sub (M:Fr)(fd:List Nat):Fr:={ M with fd:=fd }
def aL (ug:UG)(uc:UT)(ue:UX)(Q:List xH->Int->Prop):List xH->List xH->PEnv->Int->Prop
 | [],acc,_,n=>Q acc n
 | d::ds,acc,env,n=>ug d env λ env'=>uc env' n λ b n1=>if b=true then ue env' n1 λ y n2=>aL ug uc ue Q ds (acc++[y]) env' n2 else aL ug uc ue Q ds acc env' n1
def uComp (ui:UJ)(mp:List (Option Nat))(ug:UG)(uc:UT)(ue:UX):PEnv->Int->(List xH->Int->Prop)->Prop:=λ env n Q=>ui env n λ its n1=>aL ug uc ue Q its [] (seedP mp env) n1
def uYes:UT:=λ _ n Q=>Q true n
structure KK (X:Cx) (M:Fr) (ifs:List Expr) (u:UT):Prop where run:QK X ifs (liftT M u)
section
variable {X:Cx}{M:Fr}{env:PEnv}{pn:List (xH × V)}{σ:St}{S:List Addr}{H:Hp}{n:Int}{mp:List (Option Nat)}{fd:List Nat}
theorem EnvOk.seed (ok:EnvOk M env pn σ S H n)(hfd:∀j∈fd,∃i∈M.fd,mp[j]? = some (some i))(hmp:(mp.filterMap id).Nodup):EnvOk (M.sub fd) (seedP mp env) pn (seed mp σ) S H n:=by
 have at':∀(j:Nat) (e:Ent),(seedP mp env)[j]? = some (some e)->∃i,mp[j]? = some (some i)/\env[i]? = some (some e):=λ j e he=>by
  unfold seedP at he
  rw[yg] at he
  cases hm:mp[j]? with
  | none=>rw[hm] at he; cases he
  | some o =>
   rw[hm] at he
   cases o with
   | none=>cases he
   | some i =>
    refine⟨i,rfl,?_⟩
    have he':(env[i]?).join=some e:=Option.some.inj he
    cases hv:env[i]? with
    | none=>rw[hv] at he'; cases he'
    | some z=>rw[hv] at he'; exact congrArg some (show z=some e from he')
 have sat:∀(j i:Nat) (v:V),mp[j]? = some (some i)->σ[i]? = some (some v)->(L2.seed mp σ)[j]? = some (some v):=λ j i v h1 h2=>by
  unfold L2.seed
  rw[yg,h1]
  simp[h2]
 have inv:∀(j i:Nat) (v:V),mp[j]? = some (some i)->(L2.seed mp σ)[j]? = some (some v)->σ[i]? = some (some v):=λ j i v h1 h2=>by
  unfold L2.seed at h2
  rw[yg,h1] at h2
  have he':(σ[i]?).join=some v:=Option.some.inj h2
  cases hv:σ[i]? with
  | none=>rw[hv] at he'; cases he'
  | some z=>rw[hv] at he'; exact congrArg some (show z=some v from he')
 refine⟨λ j e he=>?_,λ j k ds es a h1 h2 h3 h4=>?_,by simp[seedP,L2.seed],λ j hj=>?_,ok.gd,ok.ext,ok.s0,ok.sn,ok.has,ok.pin⟩
 ·obtain⟨i,hm,hv⟩:=at' j e he
  obtain⟨v,hv',r⟩:=ok.val i e hv
  exact⟨v,sat j i v hm hv',r⟩
 ·obtain⟨i,hm,hv⟩:=at' j _ h1
  obtain⟨i2,hm2,hv2⟩:=at' k _ h2
  have e:=ok.ne i i2 _ _ a hv hv2 (inv _ _ _ hm h3) (inv _ _ _ hm2 h4)
  subst e
  have hj:j<mp.length:=(ym.mp hm).1
  have hk:k<mp.length:=(ym.mp hm2).1
  clear h1 h2 h3 h4 at' sat inv hfd
  induction mp generalizing j k with
  | nil=>cases hm
  | cons o mp ih =>
   have nd:∀{i:Nat},i∈mp.filterMap id->o≠some i:=λ {i} hi z=>by
    subst z
    simp only[zc,id] at hmp
    exact (zu.mp hmp).1 hi
   have hmp':(mp.filterMap id).Nodup:=by
    cases o with
    | none=>simpa using hmp
    | some z=>simp only[zc,id] at hmp; exact (zu.mp hmp).2
   have mem:∀{k:Nat},mp[k]? = some (some i)->i∈mp.filterMap id:=λ {k} hk=>z9.mpr ⟨some i,zt hk,rfl⟩
   cases j with
   | zero=>cases k with
    | zero=>rfl
    | succ k =>
     have h1:o=some i:=by simpa using hm
     have h2:mp[k]? = some (some i):=by simpa using hm2
     exact absurd h1 (nd (mem h2))
   | succ j=>cases k with
    | zero =>
     have h1:o=some i:=by simpa using hm2
     have h2:mp[j]? = some (some i):=by simpa using hm
     exact absurd h1 (nd (mem h2))
    | succ k=>rw[ih hmp' j k (by simpa using hm) (by simpa using hm2) (by simpa using hj) (by simpa using hk)]
 ·obtain⟨i,hi,hm⟩:=hfd j hj
  exact sat j i _ hm (ok.fdv i hi)
variable {elt tg iter c:Expr}{ifs:List Expr}{sc:Scope}{pos:Pos}{N:List Str}{ui:UJ}{ug:UG}{uc:UT}{ue:UX}
theorem dn:KK X M [] uYes:=⟨⟨λ pins s σ H Q I h=>ex5 h λ env pn S n R h=>qk_nil.run pins s σ H Q I (h.2.2 true H n (.refl _ _) h.1.gd h.2.1)⟩⟩
theorem cm (h:KB X M c uc):KK X M [c] uc:=⟨pS h.run⟩
theorem vE {wi:TI} (hwi:∀σ H R env pn S n Q,EnvOk M env pn σ S H n->ui env n Q ->
  (∀J H' its n',Ext M.gs H H'->M.G H' n'->(∀H2,Ext M.gs H' H2->ItD S J its H2)->its.length<=xV->Q its n'->R J H')->wi σ H R)
  (hfd:∀j∈fd,∃i∈M.fd,mp[j]? = some (some i)) (hmp:(mp.filterMap id).Nodup) {Q:List xH->Int->Prop} {R:List V->Hp->Prop} (ok:EnvOk M env pn σ S H n) (hu:uComp ui mp ug uc ue env n Q)
  (k:∀ys H' ds n',Reps S H' ds ys->Ext M.gs H H'->M.G H' n'->Q ds n'->R ys H'):tComp wi mp (liftG (M.sub fd) ug) (liftT (M.sub fd) uc) (lift (M.sub fd) ue) σ H R:=by
 refine hwi σ H _ env pn S n _ ok hu λ J H1 its n1 x1 g1 hJ hl q=>?_
 have ok1:=ok.step x1 g1
 refine⟨λ i m ys σ' H'=>m=its.length - i/\i<=its.length/\∃env' n' acc,EnvOk (M.sub fd) env' pn σ' S H' n'/\Reps S H' acc ys/\acc.length<=i/\Ext M.gs H1 H'/\aL ug uc ue Q (its.drop i) acc env' n',
  ⟨its.length,by simp,yY _,_,n1,[],ok1.seed hfd hmp,.nil,xL _,.refl _ _,q⟩,?_⟩
 rintro i m ys σ' H' ⟨rfl,hle,env',n',acc,ok',ra,ha,x',q'⟩
 have it:=hJ H' x'
 by_cases hlt:i<its.length
 ·refine .inr ⟨it.go i hlt,by rw[ra.length]; omega,λ x H2 hy=>?_⟩
  obtain⟨d,hd,x2,rd⟩:=it.yld i x H2 hlt hy
  have e:its.drop i=d::its.drop (i+1):=by
   rw[yX hlt]
   congr
   exact (ym.mp hd).2
  rw[e] at q'
  have ok2:EnvOk (M.sub fd) env' pn σ' S H2 n':=ok'.step (x2.mono (by simp)) (M.gext ok'.gd x2 (by simp))
  refine⟨env',pn,S,n',d,_,ok2,rd,q',λ env3 σ3 ok3 q3=>⟨env3,pn,S,n',_,ok3,q3,λ b H4 n4 x4 g4 q4=>?_⟩⟩
  have x24:Ext M.gs H' H4:=(x2.mono (by simp)).trans x4
  cases b with
  | true=>exact⟨env3,pn,S,n4,_,ok3.step x4 g4,q4,λ y H5 dy n5 r5 x5 g5 _ q5=>⟨its.length - (i+1),by omega,rfl,hlt,env3,n5,acc++[dy],(ok3.step x4 g4).step x5 g5,(ra.ext ((x24.trans x5).mono ok.gsS)).append (.cons r5 .nil),by simp; omega,x'.trans (x24.trans x5),q5⟩⟩
  | false=>exact⟨its.length - (i+1),by omega,rfl,hlt,env3,n4,acc,ok3.step x4 g4,ra.ext (x24.mono ok.gsS),by omega,x'.trans x24,q4⟩
 ·refine .inl ⟨it.stop i (by omega),by rw[ra.length]; omega,?_⟩
  rw[zb (by omega)] at q'
  exact k ys H' acc n' ra (x1.trans x') ok'.gd q'
theorem aI (fd:List Nat)(hc:X.calm=true)(hi:KJ X M tg iter ui)(hk:sc.kind=.function)(hm:eV X.N X.env.scope sc N mp=true)
  (hb:∀(cl:List (Str × Addr)) (C:Addr) (s₂:xO) (H₂:Hp) (fp:List Addr),KG (bR X sc N cl C s₂ H₂ fp) (M.sub fd) tg ug/\KK (bR X sc N cl C s₂ H₂ fp) (M.sub fd) ifs uc/\KE (bR X sc N cl C s₂ H₂ fp) (M.sub fd) elt ue)
  (hfd:∀j∈fd,∃i∈M.fd,mp[j]? = some (some i):=by decide) (hmp:(mp.filterMap id).Nodup:=by decide) (hs:∀x,foldedSetIterable iter X.env x=pure x:=by intro _; rfl):KN X M (.ListComp elt [⟨tg,iter,ifs,0⟩] sc pos) (uComp ui mp ug uc ue):=by
 obtain⟨wi,qi,hwi⟩:=hi.ex
 refine .of (lT hc qi hk hm (λ cl C s₂ H₂ fp=>⟨(hb cl C s₂ H₂ fp).1.run,(hb cl C s₂ H₂ fp).2.1.run,(hb cl C s₂ H₂ fp).2.2.run⟩) hs) λ σ H R env pn S n Q ok hu k=>?_
 refine vE hwi hfd hmp ok hu λ ys H' ds n' r x g q D hD=>?_
 have ok':=ok.step x g
 have hD0:H D=none:=by
  by_cases z:D∈M.gs
  ·exact absurd hD (M.ghas g D z)
  ·exact x.fresh z hD
 exact k D ys _ ds n' hD0 af ((r.fresh hD).ext (.new hD)) (x.trans (.new hD)) (M.gext g (.new (S:=[]) hD) (by simp)) q
end
def uMeth (i:Nat)(f:List xH->List xH->Option (List xH))(ua:UA):US:=λ E env n=>match env[i]? with | some (some (.o ds))=>ua env n λ as n1=>bnd (f ds as) λ ds'=>E.nx (env.set i (some (.o ds'))) n1 | _=>False
def eE (ds as:List xH):Option (List xH):=match as with | [d]=>if ds.length<xV then some (ds++[d]) else none | _=>none
def dB (ds as:List xH):Option (List xH):=match as with | [.tuple es]=>if ds.length+es.length<=xV then some (ds++es) else none | [.list es]=>if ds.length+es.length<=xV then some (ds++es) else none | _=>none
structure MtD (X:Cx) (id:String) (f:List xH->List xH->Option (List xH)):Prop where
 ex:∃r,MtR X id r/\∀S H a xs ds as vs ds' (R:VK),H a=some (.lst xs)->Reps S H ds xs->Reps S H as vs->f ds as=some ds'->(∀ys v,Reps S H ds' ys->R v (upd H a (.lst ys)))->r (.ref a) vs H R
section
variable {X:Cx}{M:Fr}{e o:Expr}{es:List Expr}{ua:UA}{pos apos cpos:Pos}{name:Str}{id:String}{f:List xH->List xH->Option (List xH)}
theorem jK:MtD X "list.append" eE:=⟨_,pA,λ S H a xs ds as vs ds' R ha r ra e k=>by
 obtain⟨d,rfl⟩:∃d,as=[d]:=by
  unfold eE at e
  split at e
  ·exact⟨_,rfl⟩
  ·cases e
 simp only[eE] at e
 split at e
 ·rename_i hl
  cases e
  obtain⟨v,t,rfl,r1,r2⟩:=ra.of_cons
  cases r2.of_nil
  exact⟨a,xs,v,rfl,rfl,ha,by rw[r.length]; exact hl,k _ _ (r.append (.cons r1 .nil))⟩
 ·cases e⟩
theorem sK:MtD X "list.extend" dB:=⟨_,MtR.or (pB (X:=X)) (nU X.K),λ S H a xs ds as vs ds' R ha r ra e k=>by
 obtain⟨es,h⟩:∃es,as=[.tuple es]\/as=[.list es]:=by
  unfold dB at e
  split at e
  ·exact⟨_,.inl rfl⟩
  ·exact⟨_,.inr rfl⟩
  ·cases e
 rcases h with rfl | rfl
 ·simp only[dB] at e
  split at e
  ·rename_i hl
   cases e
   obtain⟨v,t,rfl,r1,r2⟩:=ra.of_cons
   cases r2.of_nil
   obtain⟨b,ys,rfl,hb,rb⟩:=r1.of_tup
   exact .inr ⟨a,b,xs,ys,rfl,rfl,ha,SqT.of hb,by rw[r.length,rb.length]; exact hl,k _ _ (r.append rb)⟩
  ·cases e
 ·simp only[dB] at e
  split at e
  ·rename_i hl
   cases e
   obtain⟨v,t,rfl,r1,r2⟩:=ra.of_cons
   cases r2.of_nil
   obtain⟨b,ys,rfl,hb,_,rb⟩:=r1.of_lst
   exact .inl ⟨a,b,xs,ys,rfl,rfl,ha,hb,by rw[r.length,rb.length]; exact hl,k _ _ (r.append rb)⟩
  ·cases e⟩
theorem nk (i:Nat){x:Str}{p:Pos}(pa:PlainAttrs "list")(slot:Slot "list" name id)(hty:typeOf (.builtin id)=pure (.type "method_descriptor"))(hm:MtD X id f)(ha:KA X M (e::es) ua)
  (hN:X.N[i]? = some x:=by rfl) (hv:Vis X.env.scope x:=by first | exact Or.inl rfl | exact Or.inr (Or.inl rfl) | exact Or.inr (Or.inr rfl)) (hd:(x == ("__debug__" : Str))=false:=by decide) (hcd:(x == ("__classdict__" : Str))=false:=by decide)
  (hbase:attributeBase (.Name x p) name X.env (eval (.Name x p) X.env)=eval (.Name x p) X.env:=by rfl) (hl:decide ((e::es).length+0+0<30)=true:=by rfl) (hline:(apos.endLine == cpos.line)=true:=by rfl)
  (hs:swapsWith (.Call (.Attribute (.Name x p) name apos) (e::es) [] cpos) none pos.line X.env=pure false:=by rfl):KS X M (.Expr (.Call (.Attribute (.Name x p) name apos) (e::es) [] cpos) pos) (uMeth i f ua):=by
 obtain⟨r,h1,h2⟩:=hm.ex
 refine .of (pT (wO X.K pa slot hty h1 (qv i hN hv hd hcd) ha.run rfl hbase hl hline) hs) λ D σ H env pn S n E ok hu k1 k2=>?_
 unfold uMeth at hu
 split at hu
 ·rename_i ds he
  obtain⟨v,hv,a,xs,rfl,ha,ra,hs,h0⟩:=ok.val i _ he
  refine⟨_,hv,.inl ⟨rfl,xs,SqL.of ha⟩,env,pn,S,n,_,ok,hu,λ vs H1 as n1 el r1 x1 g1 _ q=>?_⟩
  obtain⟨ds',e',q⟩:=q
  have ok1:=ok.step x1 g1
  obtain⟨v',hv',a',xs',e'',ha',ra',_,_⟩:=ok1.val i _ he
  subst e''
  rw[hv] at hv'
  cases hv'
  exact h2 S H1 a xs' ds as vs ds' _ ha' ra' r1 e' λ ys w ry=>k1 _ _ _ _ _ (ok1.put he hv ha' ry) q
 ·exact hu.elim
def uSetI (i:Nat)(ui ue:UX):US:=λ E env n=>match env[i]? with | some (some (.o ds))=>ue env n λ d n1=>ui env n1 λ k n2=>(match k with | .int k=>bnd (ixN ds.length k) λ j=>E.nx (env.set i (some (.o (ds.set j d)))) n2 | _=>False) | _=>False
def uAugI (i:Nat)(g:Int->Int->Int)(ui ue:UX):US:=λ E env n=>match env[i]? with | some (some (.o ds))=>ui env n λ k n1=>(match k with | .int k=>0<=k/\(match ds[k.toNat]? with | some (.int a)=>ue env n1 λ d n2=>(match d with | .int b=>E.nx (env.set i (some (.o (ds.set k.toNat (.int (g a b)))))) n2 | _=>False) | _=>False) | _=>False) | _=>False
def uAug (i:Nat)(g:Int->Int->Int)(ue:UX):US:=λ E env n=>match env[i]? with | some (some (.s (.int a)))=>ue env n λ d n1=>(match d with | .int b=>E.nx (env.set i (some (.s (.int (g a b))))) n1 | _=>False) | _=>False
theorem Reps.set {S:List Addr}{H:Hp}{d:xH}{v:V}(h:Rep S H d v):∀{ds:List xH} {xs:List V} (j:Nat),Reps S H ds xs->Reps S H (ds.set j d) (xs.set j v)
 | [],_,j,r=>by cases r.of_nil; exact .nil
 | e::es,_,0,r=>by obtain⟨x,t,rfl,r1,r2⟩:=r.of_cons; exact .cons h r2
 | e::es,_,j+1,r=>by obtain⟨x,t,rfl,r1,r2⟩:=r.of_cons; exact .cons r1 (Reps.set h j r2)
variable {ie:Expr}{ui ue:UX}
theorem w6 (i:Nat){x:Str}{p tpos:Pos}{op:Operator}{g:Int->Int->Int}(hip:PIp X op (ipI g))(hi:KE X M ie ui)(he:KE X M e ue)
  (hN:X.N[i]? = some x:=by rfl) (hv:Vis X.env.scope x:=by first | exact Or.inl rfl | exact Or.inr (Or.inl rfl) | exact Or.inr (Or.inr rfl)) (hd:(x == ("__debug__" : Str))=false:=by decide) (hcd:(x == ("__classdict__" : Str))=false:=by decide)
  (ha:∀ov iv new,augStore ie ov iv new=(do holding [new,ov,iv] (setItem ov iv new); release [new,ov,iv] []; pure .next):=by intros; rfl):KS X M (.AugAssign (.Subscript (.Name x p) ie tpos) op e pos) (uAugI i g ui ue):=by
 refine .of (vm (qv i hN hv hd hcd) hi.run p9 he.run hip gx ha) λ D σ H env pn S n E ok hu k1 k2=>?_
 unfold uAugI at hu
 split at hu
 ·rename_i ds hen
  obtain⟨v',hv',a,xs,rfl,ha',ra',hs',h0'⟩:=ok.val i _ hen
  refine⟨_,hv',env,pn,S,n,_,ok,hu,λ kv H2 k n2 r2 x2 g2 _ q=>?_⟩
  have ok2:=ok.step x2 g2
  obtain⟨v2,hv2,a2,xs2,e2,ha2,ra2,_,_⟩:=ok2.val i _ hen
  subst e2
  rw[hv'] at hv2
  cases hv2
  cases k with
  | int k =>
   obtain⟨hk,q⟩:=q
   cases hd:ds[k.toNat]? with
   | none=>rw[hd] at q; exact q.elim
   | some dd =>
    rw[hd] at q
    cases dd with
    | int z =>
     obtain⟨y,hy,ry⟩:=ra2.at hd
     cases ry.of_int
     refine⟨a,xs2,k,_,rfl,r2.of_int,ha2,hk,hy,env,pn,S,n2,_,ok2,q,λ w H3 d3 n3 r3 x3 g3 _ q=>?_⟩
     have ok3:=ok2.step x3 g3
     obtain⟨v3,hv3,a3,xs3,e3,ha3,ra3,_,_⟩:=ok3.val i _ hen
     subst e3
     rw[hv'] at hv3
     cases hv3
     cases d3 with
     | int b =>
      have hlt:k.toNat<ds.length:=(ym.mp hd).1
      refine⟨z,b,rfl,r3.of_int,a,xs3,k,k.toNat,rfl,r2.of_int,ha3,?_,k1 _ _ _ _ _ (ok3.put hen hv' ha3 (Reps.set (.int _) k.toNat ra3)) q⟩
      unfold ixN
      rw[if_pos hk,if_pos (by rw[ra3.length]; omega)]
     | _=>exact False.elim q
    | _=>exact False.elim q
  | _=>exact False.elim q
 ·exact hu.elim
end
abbrev XQ:=Str->List xH->Prop
abbrev UF:=List xH->Int->(xH->Int->Prop)->XQ->Prop
def noX:XQ:=λ _ _=>False
def Rz (C:Xc)(S gs:List Addr)(H:Hp)(E:XK)(c:Str)(as:List xH):Prop:=∀(dx:Addr) (H':Hp) (vs:List V),Reps S H' as vs->H' dx=some (.ext (xdict dx ((C.fl c).zip vs)))->Ext gs H H'->E (.ref (C.cl c)) (some dx) H'
def spU (C:Xc)(F:UF):Sp:=λ vs H Q E=>∃S ds n Qp Xp,Reps S H ds vs/\(∀a∈S,H a≠none)/\F ds n Qp Xp/\(∀d v H',Rep S H' d v->Ext [] H H'->Qp d n->Q v H')/\∀c as,Xp c as->Rz C S [] H E c as
structure Fam where
 Feed:Hp->Addr->Addr->Int->Prop
 ext:∀{S:List Addr} {H H':Hp} {fa sa:Addr} {n:Int},Feed H fa sa n->Ext S H H'->fa ∉ S->sa ∉ S->Feed H' fa sa n
 fa:∀{H:Hp} {fa sa:Addr} {n:Int},Feed H fa sa n->H fa≠none
 sa:∀{H:Hp} {fa sa:Addr} {n:Int},Feed H fa sa n->H sa≠none
 nx:∀{H:Hp} {fa sa:Addr} {n:Int},Feed H fa sa n->∀φ,H fa≠some (.ext φ)
def spUF (Y:Fam)(F:UF):Sp:=λ vs H Q E=>∃fa sa us S ds n Qp,vs=.ref fa::us/\Y.Feed H fa sa n/\fa∈S/\Reps S H ds us/\(∀a∈S,H a≠none)/\F ds n Qp noX/\(∀d n' v H',Rep S H' d v->Y.Feed H' fa sa n'->Ext [fa] H H'->Qp d n'->Q v H')
def Fr.pure (C:Xc)(n0:Int)(S:List Addr)(H:Hp)(has:∀a∈S,H a≠none):Fr where
 G:=λ _ n=>n=n0
 gs:=[]
 S0:=S
 H0:=H
 fa:=.non
 fd:=[]
 xc:=C
 gext:=λ h _ _=>h
 ghas:=λ _ a h=>by cases h
 gnx:=λ _ a h=>by cases h
 gs0:=λ a h=>by cases h
 has0:=has
def Fr.feed (C:Xc)(Y:Fam)(i:Nat)(fa sa:Addr)(n0:Int)(S:List Addr)(H:Hp)(hf:Y.Feed H fa sa n0)(hS:fa∈S)(has:∀a∈S,H a≠none):Fr where
 G:=λ H n=>Y.Feed H fa sa n
 gs:=[fa]
 S0:=S
 H0:=H
 fa:=.ref fa
 fd:=[i]
 xc:=C
 gext:=λ h x k=>Y.ext h x (λ z=>Y.fa hf (k _ z)) (λ z=>Y.sa hf (k _ z))
 ghas:=λ h a ha=>by have e:=yh.mp ha; subst e; exact Y.fa h
 gnx:=λ h a ha=>by have e:=yh.mp ha; subst e; exact Y.nx h
 gs0:=λ a ha=>by have e:=yh.mp ha; subst e; exact hS
 has0:=has
def envOf (N:Nat)(ds:List xH):PEnv:=ds.map (λ d=>some (.s d))++List.replicate (N - ds.length) none
def mkF (N np:Nat)(u:XQ->US):UF:=λ ds n Q Ex=>ds.length=np/\u Ex { nx:=λ _ n'=>Q .none n',rt:=Q } (envOf N ds) n
def mkFF (N np:Nat)(u:XQ->US):UF:=λ ds n Q Ex=>ds.length+1=np/\u Ex { nx:=λ _ n'=>Q .none n',rt:=Q } (none::envOf (N - 1) ds) n
theorem kW {M:Fr}{S:List Addr}{H:Hp}{ds:List xH}{vs:List V}{n:Int}{N:List Str}(h0:M.H0=H)(hS:M.S0=S)(r:Reps S H ds vs)(hfd:M.fd=[])(g:M.G H n):EnvOk M (envOf N.length ds) [] (start N vs) S H n:=by
 subst h0 hS
 have hl:=r.length
 have key:∀(i:Nat) (e:Ent),(envOf N.length ds)[i]? = some (some e)->∃d,ds[i]? = some d/\e=.s d:=λ i e h=>by
  unfold envOf at h
  by_cases hi:i<ds.length
  ·rw[zC (by simpa using hi),yg] at h
   cases hd:ds[i]? with
   | none=>rw[hd] at h; cases h
   | some d=>rw[hd] at h; exact⟨d,rfl,(Option.some.inj (Option.some.inj h)).symm⟩
  ·rw[Aa (by simp; omega),y7] at h
   split at h <;> cases h
 refine⟨λ i e h=>?_,λ i j a b c h1=>?_,?_,(by rw[hfd]; intro i hi; cases hi),g,.refl _ _,λ a h=>h,λ a h=>.inl h,M.has0,λ p hp=>by cases hp⟩
 ·obtain⟨d,hd,rfl⟩:=key i e h
  obtain⟨v,hv,rv⟩:=r.at hd
  refine⟨v,?_,rv⟩
  unfold start
  rw[zC (by rw[xQ]; exact (ym.mp hv).1),yg,hv]
  rfl
 ·obtain⟨d,_,e⟩:=key _ _ h1
  cases e
 ·unfold envOf start
  simp[hl]
theorem oo {M:Fr}{S:List Addr}{H:Hp}{ds:List xH}{vs:List V}{n:Int}{N:List Str}{fa:Addr}(h0:M.H0=H)(hS:M.S0=S)(r:Reps S H ds vs)(hfd:M.fd=[0])(hfa:M.fa=.ref fa)(hN:1<=N.length)(g:M.G H n):EnvOk M (none::envOf (N.length - 1) ds) [] (start N (.ref fa::vs)) S H n:=by
 subst h0 hS
 have hl:=r.length
 have key:∀(i:Nat) (e:Ent),(none::envOf (N.length - 1) ds)[i]? = some (some e)->∃j d,i=j+1/\ds[j]? = some d/\e=.s d:=λ i e h=>by
  cases i with
  | zero=>cases h
  | succ i =>
   rw[xZ] at h
   unfold envOf at h
   by_cases hi:i<ds.length
   ·rw[zC (by simpa using hi),yg] at h
    cases hd:ds[i]? with
    | none=>rw[hd] at h; cases h
    | some d=>rw[hd] at h; exact⟨i,d,rfl,hd,(Option.some.inj (Option.some.inj h)).symm⟩
   ·rw[Aa (by simp; omega),y7] at h
    split at h <;> cases h
 refine⟨λ i e h=>?_,λ i j a b c h1=>?_,?_,?_,g,.refl _ _,λ a h=>h,λ a h=>.inl h,M.has0,λ p hp=>by cases hp⟩
 ·obtain⟨j,d,rfl,hd,rfl⟩:=key i e h
  obtain⟨v,hv,rv⟩:=r.at hd
  refine⟨v,?_,rv⟩
  unfold start
  have hjl:j<vs.length:=(ym.mp hv).1
  rw[zC (by rw[xQ,xP]; omega),xY,xZ,yg,hv]
  rfl
 ·obtain⟨j,d,_,_,e⟩:=key _ _ h1
  cases e
 ·unfold envOf start
  simp[hl]
  omega
 ·rw[hfd,hfa]
  intro i hi
  have e:=yh.mp hi
  subst e
  unfold start
  simp
section
variable {P:yk}{w:World}{K:W.Frag}{mg:Str->Option xK}{base:Heap}{f:Addr}{fd:yM}{x:Str}{qual:Str}{st:Stmt}{N ps:List Str}{k:Nat}{C:Xc}{u:XQ->US}{Y:Fam}
theorem defU (F:Fun K x qual st f fd)(hm:mg x=some (.ref f))(sc:FnScope N ps (ac st))(hb:Binds K fd ps [])
  (body:∀(cdv:xK) (A:Around) (outer:List Env) (s:xO) (H:Hp) (E:XK) (n0:Int) (S:List Addr) (has:∀a∈S,H a≠none),Room k (A.deeper (envOfC qual (ac st) s.heap.objs.size f cdv))->KSs (cxOf CX0 P w K mg base N qual (ac st) f cdv A outer s H E).nox (Fr.pure C n0 S H has) (aB st) (u noX)) :
  DefOk P w K mg base (k+1) x ps (spU C (mkF N.length ps.length λ _=>u noX)):=by
 refine⟨f,fd,F.okQ sc (λ vs H Q E h=>?_) (λ cdv A outer s H vs Q E hr h=>?_),hm,F.kp,hb⟩
 ·obtain⟨S,ds,n,Qp,Xp,r,_,hF,_⟩:=h
  rw[r.length]
  exact hF.1
 ·obtain⟨S,ds,n,Qp,Xp,r,has,hF,hq,hx⟩:=h
  refine⟨_,(body cdv A outer s H E n S has hr).run,envOf N.length ds,[],S,n,_,kW rfl rfl r rfl rfl,hF.2,λ env' σ' S' H' n' ok q=>?_,λ v H' d n' rv x g q=>?_⟩
  ·have e:n'=n:=ok.gd
   subst e
   exact hq _ _ H' .non ok.ext q
  ·have e:n'=n:=g
   subst e
   exact hq d v H' rv x q
theorem defX (F:Fun K x qual st f fd)(hm:mg x=some (.ref f))(sc:FnScope N ps (ac st))(hb:Binds K fd ps [])
  (body:∀(cdv:xK) (A:Around) (outer:List Env) (s:xO) (H:Hp) (E:XK) (n0:Int) (S:List Addr) (has:∀a∈S,H a≠none) (Ex:XQ),(∀c as,Ex c as->Rz C S [] H E c as)->Room k (A.deeper (envOfC qual (ac st) s.heap.objs.size f cdv)) ->
   KSs (cxOf (CX1 P w) P w K mg base N qual (ac st) f cdv A outer s H E) (Fr.pure C n0 S H has) (aB st) (u Ex)) :
  DefX P w K mg base (k+1) x ps (spU C (mkF N.length ps.length u)):=by
 refine⟨f,fd,F.okX sc (λ vs H Q E h=>?_) (λ cdv A outer s H vs Q E hr h=>?_),hm,F.kp,hb⟩
 ·obtain⟨S,ds,n,Qp,Xp,r,_,hF,_⟩:=h
  rw[r.length]
  exact hF.1
 ·obtain⟨S,ds,n,Qp,Xp,r,has,hF,hq,hx⟩:=h
  refine⟨_,(body cdv A outer s H E n S has Xp hx hr).run,envOf N.length ds,[],S,n,_,kW rfl rfl r rfl rfl,hF.2,λ env' σ' S' H' n' ok q=>?_,λ v H' d n' rv x g q=>?_⟩
  ·have e:n'=n:=ok.gd
   subst e
   exact hq _ _ H' .non ok.ext q
  ·have e:n'=n:=g
   subst e
   exact hq d v H' rv x q
theorem defF (F:Fun K x qual st f fd)(hm:mg x=some (.ref f))(sc:FnScope N ps (ac st))(hb:Binds K fd ps [])(hN:1<=N.length)
  (body:∀(cdv:xK) (A:Around) (outer:List Env) (s:xO) (H:Hp) (E:XK) (fa sa:Addr) (n0:Int) (S:List Addr) (hf:Y.Feed H fa sa n0) (hS:fa∈S) (has:∀a∈S,H a≠none),Room k (A.deeper (envOfC qual (ac st) s.heap.objs.size f cdv)) ->
   KSs (cxOf CX0 P w K mg base N qual (ac st) f cdv A outer s H E).nox (Fr.feed C Y 0 fa sa n0 S H hf hS has) (aB st) (u noX)) :
  DefOk P w K mg base (k+1) x ps (spUF Y (mkFF N.length ps.length λ _=>u noX)):=by
 refine⟨f,fd,F.okQ sc (λ vs H Q E h=>?_) (λ cdv A outer s H vs Q E hr h=>?_),hm,F.kp,hb⟩
 ·obtain⟨fa,sa,us,S,ds,n,Qp,rfl,_,_,r,_,hF,_⟩:=h
  rw[xP,r.length]
  exact hF.1
 ·obtain⟨fa,sa,us,S,ds,n,Qp,rfl,fe,hS,r,has,hF,hq⟩:=h
  refine⟨_,(body cdv A outer s H E fa sa n S fe hS has hr).run,none::envOf (N.length - 1) ds,[],S,n,_,oo rfl rfl r rfl rfl hN fe,hF.2,λ env' σ' S' H' n' ok q=>?_,λ v H' d n' rv x g q=>?_⟩
  ·exact hq _ n' _ H' .non ok.gd ok.ext q
  ·exact hq d n' v H' rv g x q
end
def uCall (F:UF)(ua:UA):UX:=λ env n Q=>ua env n λ ds n1=>F ds n1 Q noX
def jf (F:UF)(Ex:XQ)(ua:UA):UX:=λ env n Q=>ua env n λ ds n1=>F ds n1 Q Ex
mutual
def noLst:xH->Bool
 | .list _=>false
 | .tuple ds=>noLsts ds
 | .dict _=>false
 | _=>true
def noLsts:List xH->Bool
 | []=>true
 | d::ds=>noLst d && noLsts ds
end
mutual
theorem Rep.any {S S':List Addr}{H:Hp}:∀{d:xH} {v:V},noLst d=true->Rep S H d v->Rep S' H d v
 | .none,_,_,h=>h
 | .bool _,_,_,h=>h
 | .int _,_,_,h=>h
 | .str _,_,_,h=>h
 | .tuple ds,_,hn,h=>by
  obtain⟨a,xs,rfl,ha,r⟩:=h.of_tup
  exact .tup ha (Reps.any (by simpa [noLst] using hn) r)
 | .list ds,_,hn,h=>by simp[noLst] at hn
 | .dict _,_,_,h=>h
theorem Reps.any {S S':List Addr}{H:Hp}:∀{ds:List xH} {vs:List V},noLsts ds=true->Reps S H ds vs->Reps S' H ds vs
 | [],_,_,h=>h
 | d::ds,_,hn,h=>by
  obtain⟨x,t,rfl,h1,h2⟩:=h.of_cons
  simp only[noLsts,yD] at hn
  exact .cons (Rep.any hn.1 h1) (Reps.any hn.2 h2)
end
def qJ (F:UF)(ua:UA):UX:=λ env n Q=>ua env n λ ds n1=>F ds n1 (λ d n'=>noLst d=true/\Q d n') noX
section
variable {X:Cx}{M:Fr}{k:Nat}{x:Str}{ps:List Str}{F:UF}{e:Expr}{es:List Expr}{ua:UA}{p pos:Pos}{C:Xc}{Y:Fam}
theorem ak (D:DefOk X.prog X.w X.K X.mg X.base k x ps (spU C F))(hr:Room k X.A)(ha:KA X M (e::es) ua)(hg:Gl X x:=by rfl)(hdb:(x == ("__debug__" : Str))=false:=by decide):KE X M (.Call (.Name x p) (e::es) [] pos) (uCall F ua) :=
 .of (gA D hr ha.run hg hdb) λ σ H R env pn S n Q ok hu k=>⟨env,pn,S,n,_,ok,hu,λ vs H1 ds n1 el r1 x1 g1 _ q=>⟨S,ds,n1,Q,noX,r1,(ok.step x1 g1).has,q,λ d v H2 r2 x2 q2=>k v H2 d n1 r2 (x1.trans (x2.mono (by simp))) (M.gext g1 x2 (by simp)) q2,λ c as z=>z.elim⟩⟩
theorem vF (D:DefOk X.prog X.w X.K X.mg X.base k x ps (spU C F))(hr:Room k X.A)(ha:KAL X M (e::es) ua)(hg:Gl X x:=by rfl)(hdb:(x == ("__debug__" : Str))=false:=by decide):KE X M (.Call (.Name x p) (e::es) [] pos) (qJ F ua) :=
 .of (gA D hr ha.run hg hdb) λ σ H R env pn S n Q ok hu k=>⟨env,pn,S,n,_,ok,hu,λ vs H1 ds n1 r1 x1 g1 _ q=>⟨M.gs,ds,n1,_,noX,r1.less ok.gsS,M.ghas g1,q,λ d v H2 r2 x2 q2=>k v H2 d n1 (r2.any q2.1) (x1.trans (x2.mono (by simp))) (M.gext g1 x2 (by simp)) q2.2,λ c as z=>z.elim⟩⟩
theorem aq (i:Nat){y:Str}{p2:Pos}{fa sa:Addr}(D:DefOk X.prog X.w X.K X.mg X.base k x ps (spUF Y F))(hr:Room k X.A)(ha:KA X M es ua)
  (hG:M.G=λ H n=>Y.Feed H fa sa n:=by rfl) (hfa:M.fa=.ref fa:=by rfl) (hgs:M.gs=[fa]:=by rfl) (hfd:i∈M.fd:=by decide)
  (hN:X.N[i]? = some y:=by rfl) (hv:Vis X.env.scope y:=by first | exact Or.inl rfl | exact Or.inr (Or.inl rfl) | exact Or.inr (Or.inr rfl)) (hd:(y == ("__debug__" : Str))=false:=by decide) (hcd:(y == ("__classdict__" : Str))=false:=by decide)
  (hg:Gl X x:=by rfl) (hdb:(x == ("__debug__" : Str))=false:=by decide):KE X M (.Call (.Name x p) (.Name y p2::es) [] pos) (uCall F ua) :=
 .of (gA D hr (qa_c (qv i hN hv hd hcd) ha.run rfl) hg hdb) λ σ H R env pn S n Q ok hu k=>⟨_,ok.fdv i hfd,env,pn,S,n,_,ok,hu,λ vs H1 ds n1 el r1 x1 g1 _ q=>by
  have ok1:=ok.step x1 g1
  refine⟨fa,sa,vs,S,ds,n1,Q,by rw[hfa],by rw[hG] at g1; exact g1,ok.gsS fa (by rw[hgs]; simp),r1,ok1.has,q,λ d n2 v H2 r2 f2 x2 q2=>k v H2 d n2 r2 (x1.trans (by rw[hgs]; exact x2)) (by rw[hG]; exact f2) q2⟩⟩
theorem qK (E:XK)(Ex:XQ)(D:DefX X.prog X.w X.K X.mg X.base k x ps (spU C F))(hr:Room k X.A)(hl:gY X E)(hx:∀c as,Ex c as->Rz C M.S0 M.gs M.H0 E c as)(ha:KA X M (e::es) ua)(hg:Gl X x:=by rfl)(hdb:(x == ("__debug__" : Str))=false:=by decide) :
  KE X M (.Call (.Name x p) (e::es) [] pos) (jf F Ex ua) :=
 .of (sC E D hr hl ha.run hg hdb) λ σ H R env pn S n Q ok hu k=>⟨env,pn,S,n,_,ok,hu,λ vs H1 ds n1 el r1 x1 g1 _ q=>⟨S,ds,n1,Q,Ex,r1,(ok.step x1 g1).has,q,λ d v H2 r2 x2 q2=>k v H2 d n1 r2 (x1.trans (x2.mono (by simp))) (M.gext g1 x2 (by simp)) q2,
  λ c as z dx H' vs' rv hd x'=>hx c as z dx H' vs' (rv.less ok.s0) hd ((ok.step x1 g1).ext.trans (x'.mono (by simp)))⟩⟩
def qL (Ex:XQ)(c:Str)(ua:UA):US:=λ _ env n=>ua env n λ as _=>Ex c as
theorem nq (E:XK)(Ex:XQ)(C:Xc){f g:Str}{e2:Expr}(R:RaiseOk X.prog X.w X.K X.mg X.base x (C.cl x) (spX2 (C.cl x) f g))(hf:C.fl x=[f,g])(hfg:∀a b:V,putF g b [(f,a)]=[(f,a),(g,b)])(hr:Room 2 X.A)(hl:gY X E)(hc:X.calm=true)(hx:∀c as,Ex c as->Rz C M.S0 M.gs M.H0 E c as)(ha:KA X M [e,e2] ua){cpos:Pos}(hg:Gl X x:=by rfl)(hdb:(x == ("__debug__" : Str))=false:=by decide) :
  KS X M (.Raise (some (.Call (.Name x p) [e,e2] [] cpos)) none pos) (qL Ex x ua):=.of (qE E R hr hl hc ha.run hg hdb) λ D σ H env pn S n En ok hu k1 k2=>⟨env,pn,S,n,_,ok,hu,λ vs H1 as n1 el r1 x1 g1 _ q=>by
 have hv:∃v w,vs=[v,w]:=by
  match vs,el with
  | [v,w],_=>exact⟨v,w,rfl⟩
 obtain⟨v,w,rfl⟩:=hv
 refine⟨by show 2<=100; decide,λ y hy=>wU (H0:=H1) (hfg v w) (λ dx H' hd x'=>?_) (.refl _ _) hy⟩
 refine hx x as q dx H' [v,w] ((r1.ext (x'.mono (by simp))).less ok.s0) (by rw[hf]; exact hd) ((ok.step x1 g1).ext.trans (x'.mono (by simp)))⟩
end
section
variable {X:Cx}
theorem qM (K:W.Frag)(hc:X.calm=true)(hk:X.K=K:=by rfl):CallR X (.builtin "sum") (λ xs H Q=>∃(p:Addr) (ns:List Int),xs=[.ref p]/\SqL K H p (ns.map V.int)/\(∀n∈ns,-500000000000<=n/\n<=500000000000)/\Q (.int ns.sum) H):=by
 subst hk
 intro pins s σ H xs us Q I r h
 obtain⟨p,ns,rfl,hp,hb,q⟩:=h
 obtain⟨u,rfl,ru⟩:=vals1 r
 cases ru
 obtain⟨its,rv,ht,hz⟩:=I.list hp
 have hh:=I.ok.hd hc
 have hpl:p<s.heap.objs.size:=ht.lt
 have hlen:its.toArray.size=ns.length:=by rw[xU,<- rv.length,xQ]
 rw[xQ] at hz
 have hsz:xV=16777216:=by decide
 have sumb:∀l:List Int,(∀n∈l,-500000000000<=n/\n<=500000000000)->-(500000000000 * (l.length:Int))<=l.sum/\l.sum<=500000000000 * l.length:=by
  intro l
  induction l with
  | nil=>intro _; simp
  | cons a l ih =>
   intro hl
   have h1:=ih λ n hn=>hl n (xT _ hn)
   have h2:=hl a (ya ..)
   rw[List.sum_cons,xP]
   omega
 refine call_sum_walk (wpAny_pyIter_list ht.isList ⟨s.heap.objs.size,_,_,its.toArray.size,_,_,λ a=>ns.getD a 0,rfl,Walks.list (A:=X.A.in1) hh _ p (yu hpl) its.toArray,⟨⟨_,xW _ rfl,rfl,rfl⟩,ht.isList.at λ o e=>xM _ e⟩,?_,?_,?_,?_⟩)
 ·intro b hb'
  rw[y9]
  rcases xR.mp hb' with e | hb'
  ·rw[e]; exact zN _
  ·have e:b=p:=by simpa using hb'
   rw[e]; exact zG hpl
 ·intro a v e
  have e':its[a]? = some v:=by simpa using e
  obtain⟨x,hx,rx⟩:=rv.at' e'
  rw[yg] at hx
  cases hn:ns[a]? with
  | none=>rw[hn] at hx; cases hx
  | some b =>
   rw[hn] at hx
   cases hx
   obtain⟨t,rfl⟩:=rx
   refine⟨t,?_⟩
   show xK.int b t=xK.int (ns.getD a 0) t
   rw[yi,hn]
   rfl
 ·intro j hj
  rw[hlen] at hj
  have hm:ns.getD j 0∈ns:=by
   have:ns[j]? = some ns[j]:=by simp[hj]
   rw[yi,this]
   exact zp hj
  have h1:=hb _ hm
  have h2:=sumb (ns.take (j+1)) λ n hn=>hb n (zj hn)
  rw[yO] at h2
  show InLong (ns.getD j 0)/\InLong (preSum (λ a=>ns.getD a 0) (j+1))
  unfold InLong
  rw[bS ns (j+1) (by omega)]
  have h3:(min (j+1) ns.length:Nat)<=16777216:=by omega
  constructor <;> constructor <;> omega
 ·intro h' tk t' kp
  have I1:Inv X pins σ H { s with heap:=h',toks:=tk }:=I.kept λ b o e=>kp b o (λ z=>by
   have e2:b=s.heap.objs.size:=by simpa using z
   rw[e2] at e
   exact absurd (yd e) (y6 _)) (xM _ e)
  have e:preSum (λ a=>ns.getD a 0) its.toArray.size=ns.sum:=by rw[hlen,bS ns _ (xL _),List.take_length]
  rw[e]
  exact⟨.int _,H,I1,⟨_,rfl⟩,q⟩
end
def isiD (c:String)(d:xH):Bool:=match c,d with
 | "int",.int _=>true | "int",.bool _=>true | "bool",.bool _=>true | "tuple",.tuple _=>true | "list",.list _=>true | "str",.str _=>true | _,_=>false
def uIsi (c:String)(u:UX):UX:=λ env n Q=>u env n λ d n1=>Q (.bool (isiD c d)) n1
theorem kitD {K:W.Frag}{c:String}(hc:c = "int" \/ c = "bool" \/ c = "tuple" \/ c = "list" \/ c = "str")(d:xH):W.kitOne K (.type (tyD d)) (.type c)=some (isiD c d):=by
 rcases hc with rfl | rfl | rfl | rfl | rfl <;> cases d <;> rfl
theorem RepL.ty {K:W.Frag}{gs S:List Addr}{H:Hp}{d:xH}{v:V}(h:RepL gs S H d v):TyOf K H v (.type (tyD d)):=by
 rcases h with h | ⟨ds,a,xs,rfl,rfl,ha,_⟩
 ·exact h.ty
 ·exact .lst ha
section
variable {X:Cx}{M:Fr}{e a b:Expr}{u w:UX}{p p2 q2 pos:Pos}{c:String}{x:Str}
theorem k_isi (hm:X.mg "isinstance" = none)(hx:X.mg x=none)(h:KL X M e u)(hc:c = "int" \/ c = "bool" \/ c = "tuple" \/ c = "list" \/ c = "str" := by decide)(hv:bootBuiltins x=some (.type c):=by decide +kernel)(hg:Gl X "isinstance" := by rfl)(hgx:Gl X x:=by rfl)(hs:aJ e=true:=by rfl)(hn:x ≠ "__name__" := by decide)(hdb:(x == ("__debug__" : Str))=false:=by decide) :
  KE X M (.Call (.Name "isinstance" p) [e,.Name x p2] [] pos) (uIsi c u) :=
 .of (a8 (isiK X.K) hg hm (by decide +kernel) (qa_c h.run (qa_c (qe_ty c hgx hx hv hn hdb) aC rfl) hs)) λ σ H R env pn S n Q ok hu k=>⟨env,pn,S,n,_,ok,hu,λ v H1 d n1 r1 x1 g1 _ q=>⟨v,_,c,_,rfl,r1.ty,kitD hc d,k _ H1 _ n1 (.bl _) x1 g1 q⟩⟩
def uSeqL (u:UX):PEnv->Int->(List xH->Int->Prop)->Prop:=λ env n Q=>u env n λ d n1=>bnd (seqD d) λ ds=>Q ds n1
theorem nr {env:PEnv}{pn:List (xH × V)}{σ:St}{S:List Addr}{H H':Hp}{n n':Int}(ok:EnvOk M env pn σ S H n)(x:Ext M.gs H H')(g:M.G H' n'){l:Addr}(h:H' l=none):H l=none:=by
 by_cases z:l∈M.gs
 ·exact absurd h (M.ghas g l z)
 ·exact x.fresh z h
theorem ud (hm:X.mg "list" = none)(h:KL X M e u)(hg:Gl X "list" := by rfl)(hs:aJ e=true:=by rfl):KN X M (.Call (.Name "list" p) [e] [] pos) (uSeqL u) :=
 .of (cI (listK X.K) hg hm (by decide +kernel) (qa_c h.run aC hs)) λ σ H R env pn S n Q ok hu k=>⟨env,pn,S,n,_,ok,hu,λ v H1 d n1 r1 x1 g1 _ q=>by
  obtain⟨ds,e,q⟩:=q
  have fin:∀xs,Reps S H1 ds xs->∀l,H1 l=none->R (.ref l) (upd H1 l (.lst xs)):=λ xs rs l hl=>k l xs _ ds n1 (nr ok x1 g1 hl) af ((rs.fresh hl).ext (.new hl)) (x1.trans (.new hl)) (M.gext g1 (.new (S:=[]) hl) (by simp)) q
  cases d with
  | tuple es =>
   cases e
   obtain⟨a,xs,rfl,ha,rs⟩:=r1.of_tup
   exact⟨a,xs,rfl,.inr (SqT.of ha),fin xs rs⟩
  | list es =>
   cases e
   obtain⟨a,xs,rfl,ha,rs⟩:=r1.of_lst
   exact⟨a,xs,rfl,.inl (SqL.of ha),fin xs rs⟩
  | _=>cases e⟩
def uRngL (u:UX):PEnv->Int->(List xH->Int->Prop)->Prop:=λ env n Q=>u env n λ d n1=>match d with | .int j=>(-(2 ^ 62)<=j/\j<=16777216)/\Q (rngD 0 j.toNat) n1 | _=>False
def uTupL (u:PEnv->Int->(List xH->Int->Prop)->Prop):UX:=λ env n Q=>u env n λ ds n'=>Q (.tuple ds) n'
def asInt:xH->Option Int | .int i=>some i | _=>none
def bo (ds:List xH):Option (List Int):=ds.mapM asInt
@[simp] theorem bp (ns:List Int):bo (ns.map .int)=some ns:=by
 unfold bo
 induction ns with
 | nil=>rfl
 | cons n ns ih=>rw[xY,List.mapM_cons,ih]; rfl
theorem bW:∀{ds:List xH} {ns:List Int},bo ds=some ns->ds=ns.map .int
 | [],ns,h=>by cases h; rfl
 | d::ds,ns,h=>by
  unfold bo at h
  rw[List.mapM_cons] at h
  cases d with
  | int i =>
   cases e:ds.mapM asInt with
   | none=>simp[asInt,e] at h
   | some ms =>
    simp[asInt,e] at h
    subst h
    rw[bW (ds:=ds) e]
    rfl
  | _=>simp[asInt] at h
theorem bf {S:List Addr}{H:Hp}:∀{ns:List Int} {xs:List V},Reps S H (ns.map .int) xs->xs=ns.map V.int
 | [],_,r=>r.of_nil
 | n::ns,_,r=>by
  obtain⟨x,t,rfl,r1,r2⟩:=r.of_cons
  rw[r1.of_int,bf r2]
  rfl
def sumD:List xH->Option xH | [.list ds]=>(bo ds).bind λ ns=>if ∀n∈ns,-500000000000<=n/\n<=500000000000 then some (.int ns.sum) else none | _=>none
theorem c_sum (hc:X.calm=true):CallD X (.builtin "sum") sumD:=⟨_,qM X.K hc,λ gs S H ds vs d R _ _ rs e k=>by
 obtain⟨ds,rfl⟩:∃l,ds=[.list l]:=by
  unfold sumD at e
  split at e
  ·exact⟨_,rfl⟩
  ·cases e
 obtain⟨v,rfl,r⟩:=rs.one
 obtain⟨a,xs,rfl,sq,_,rr⟩:=r.sqL (K:=X.K)
 simp only[sumD] at e
 cases ei:bo ds with
 | none=>rw[ei] at e; cases e
 | some ns =>
  rw[ei] at e
  simp only[zY] at e
  split at e
  ·rename_i hb
   cases e
   rw[bW ei] at rr
   rw[bf rr] at sq
   exact⟨a,ns,rfl,sq,hb,k _ H (.int _) (.refl _ _)⟩
  ·cases e⟩
def insI (a:Int):List Int->List Int | []=>[a] | b::l=>if a<=b then a::b::l else b::insI a l
def sortI:List Int->List Int | []=>[] | a::l=>insI a (sortI l)
theorem hU (a:Int):∀l,(insI a l).Perm (a::l)
 | []=>.refl _
 | b::l=>by
  unfold insI
  split
  ·exact .refl _
  ·exact ((hU a l).cons b).trans (.swap a b l)
theorem cM:∀l,(sortI l).Perm l
 | []=>.refl _
 | a::l=>(hU a (sortI l)).trans ((cM l).cons a)
theorem hV (a:Int):∀l:List Int,l.Pairwise (·<=·)->(insI a l).Pairwise (·<=·)
 | [],_=>by simp[insI]
 | b::l,h=>by
  unfold insI
  obtain⟨h1,h2⟩:=zo.mp h
  split
  ·rename_i hab
   exact zo.mpr ⟨λ c hc=>by rcases xR.mp hc with rfl | hc; exact hab; exact Int.le_trans hab (h1 c hc),h⟩
  ·rename_i hab
   refine zo.mpr ⟨λ c hc=>?_,hV a l h2⟩
   rcases xR.mp ((hU a l).mem_iff.mp hc) with rfl | hc
   ·omega
   ·exact h1 c hc
theorem cp:∀l,(sortI l).Pairwise (·<=·)
 | []=>.nil
 | a::l=>hV a _ (cp l)
theorem fy {l m:List Int}(h:l.Perm m)(hl:l.Pairwise (·<=·))(hm:m.Pairwise (·<=·)):l=m:=h.eq_of_pairwise (λ a b _ _ h1 h2=>Int.le_antisymm h1 h2) hl hm
def onceI:List Int->List Int | []=>[] | a::l=>if a∈l then onceI l else a::onceI l
theorem mem_onceI {k:Int}:∀{l:List Int},k∈onceI l↔k∈l
 | []=>Iff.rfl
 | a::l=>by
  unfold onceI
  split
  ·rename_i h
   rw[mem_onceI,xR]
   exact⟨.inr,λ z=>z.elim (λ e=>e ▸ h) id⟩
  ·rw[xR,mem_onceI,xR]
theorem cS:∀l:List Int,(onceI l).Nodup
 | []=>List.nodup_nil
 | a::l=>by
  unfold onceI
  split
  ·exact cS l
  ·rename_i h
   exact zu.mpr ⟨λ z=>h (mem_onceI.mp z),cS l⟩
def hW (l:List Int):List Int:=sortI (onceI l)
theorem mem_usortI {k:Int}{l:List Int}:k∈hW l↔k∈l:=((cM _).mem_iff).trans mem_onceI
theorem cN (l:List Int):(hW l).Pairwise (· < ·):=gU (cp _) ((cM _).nodup_iff.mpr (cS l))
theorem w9:∀{l m:List Int},l.Pairwise (· < ·)->m.Pairwise (· < ·)->(∀k,k∈l↔k∈m)->l=m:=λ {l m} hl hm h=>by
 have nl:l.Nodup:=hl.imp λ h=>by omega
 have nm:m.Nodup:=hm.imp λ h=>by omega
 exact fy ((zB nl nm).mpr h) (hl.imp λ h=>by omega) (hm.imp λ h=>by omega)
def uSort (u:UX):PEnv->Int->(List xH->Int->Prop)->Prop:=λ env n Q=>u env n λ d n1=>bnd (seqD d) λ ds=>bnd (bo ds) λ ns=>ns.length<64/\Q ((sortI ns).map .int) n1
def uf (u:UX):PEnv->Int->(List xH->Int->Prop)->Prop:=λ env n Q=>u env n λ d n1=>bnd (seqD d) λ ds=>bnd (bo ds) λ ns=>ns.length<64/\Q ((hW ns).map .int) n1
theorem vG (hm:X.mg "sorted" = none)(hm2:X.mg "set" = none)(hc:X.calm=true)(h:KL X M e u)(hg:Gl X "sorted" := by rfl)(hg2:Gl X "set" := by rfl)(hs:aJ e=true:=by rfl):KN X M (.Call (.Name "sorted" p) [.Call (.Name "set" p2) [e] [] q2] [] pos) (uf u) :=
 .of (kQ X.K hc hg hm hg2 hm2 h.run rfl hs) λ σ H R env pn S n Q ok hu k=>⟨env,pn,S,n,_,ok,hu,λ v H1 d n1 r1 x1 g1 _ q=>by
  obtain⟨ds,e,ns,ei,hl,q⟩:=q
  have e2:=bW ei
  subst e2
  have fin:∀(l:Addr) (ms:List Int) (H2:Hp),Ext [] H1 H2->H1 l=none->H2 l=some (.lst (ms.map V.int))->ms.Pairwise (· < ·)->(∀k,k∈ms↔k∈ns)->ms.length<=ns.length->R (.ref l) H2:=λ l ms H2 x2 hl h2 hp hm _=>by
   have em:ms=hW ns:=w9 hp (cN ns) λ k=>(hm k).trans mem_usortI.symm
   subst em
   exact k l _ H2 _ n1 (nr ok x1 g1 hl) h2 (.ints _) (x1.trans (x2.mono (by simp))) (M.gext g1 x2 (by simp)) q
  cases d with
  | tuple es =>
   cases e
   obtain⟨a,xs,rfl,sq,_,rs⟩:=r1.sqT (K:=X.K)
   rw[bf rs] at sq
   exact⟨a,ns,rfl,.inr sq,hl,fin⟩
  | list es =>
   cases e
   obtain⟨a,xs,rfl,sq,_,rs⟩:=r1.sqL (K:=X.K)
   rw[bf rs] at sq
   exact⟨a,ns,rfl,.inl sq,hl,fin⟩
  | _=>cases e⟩
def uRepr (u:UX):UX:=λ env n Q=>u env n λ d n1=>Good d/\Q (.str d.shown) n1
theorem nu {kk:Nat}(hr:Room kk X.A)(hm:X.mg "repr" = none)(h:KE X M e u)(hg:Gl X "repr" := by rfl)(hs:aJ e=true:=by rfl):KE X M (.Call (.Name "repr" p) [e] [] pos) (uRepr u) :=
 .of (a8 (nS hr) hg hm (by decide +kernel) (qa_c h.run aC hs)) λ σ H R env pn S n Q ok hu k=>⟨env,pn,S,n,_,ok,hu,λ v H1 d n1 r1 x1 g1 _ q=>⟨S,d,v,rfl,r1,q.1,k _ H1 _ n1 (.str _) x1 g1 q.2⟩⟩
def kX:xH->Option Bool | .bool i=>some i | _=>none
def fz (ds:List xH):Option (List Bool):=ds.mapM kX
@[simp] theorem l5 (ns:List Bool):fz (ns.map .bool)=some ns:=by
 unfold fz
 induction ns with
 | nil=>rfl
 | cons n ns ih=>rw[xY,List.mapM_cons,ih]; rfl
theorem jg:∀{ds:List xH} {ns:List Bool},fz ds=some ns->ds=ns.map .bool
 | [],ns,h=>by cases h; rfl
 | d::ds,ns,h=>by
  unfold fz at h
  rw[List.mapM_cons] at h
  cases d with
  | bool i =>
   cases e:ds.mapM kX with
   | none=>simp[kX,e] at h
   | some ms =>
    simp[kX,e] at h
    subst h
    rw[jg (ds:=ds) e]
    rfl
  | _=>simp[kX] at h
theorem jh {S:List Addr}{H:Hp}:∀{ns:List Bool} {xs:List V},Reps S H (ns.map .bool) xs->xs=ns.map V.bl
 | [],_,r=>r.of_nil
 | n::ns,_,r=>by
  obtain⟨x,t,rfl,r1,r2⟩:=r.of_cons
  rw[r1.of_bl,jh r2]
  rfl
def allD:List xH->Option xH | [.list ds]=>(fz ds).map λ bs=>.bool (bs.all id) | _=>none
theorem c_all (hc:X.calm=true):CallD X (.builtin "all") allD:=⟨_,pX X.K hc,λ gs S H ds vs d R _ _ rs e k=>by
 obtain⟨ds,rfl⟩:∃l,ds=[.list l]:=by
  unfold allD at e
  split at e
  ·exact⟨_,rfl⟩
  ·cases e
 obtain⟨v,rfl,r⟩:=rs.one
 obtain⟨a,xs,rfl,sq,_,rr⟩:=r.sqL (K:=X.K)
 simp only[allD] at e
 cases ei:fz ds with
 | none=>rw[ei] at e; cases e
 | some ns =>
  rw[ei] at e
  cases e
  rw[jg ei] at rr
  rw[jh rr] at sq
  exact⟨a,ns,rfl,sq,k _ H (.bl _) (.refl _ _)⟩⟩
end
theorem nf (i:Nat)(l:List Nat)(h:l.contains i=false:=by rfl):i ∉ l:=λ z=>by
 have:l.contains i=true:=List.contains_iff_mem.mpr z
 rw[h] at this
 cases this
theorem fd0 {P:Nat->Prop}:∀j∈([]:List Nat),P j:=λ j h=>by cases h
theorem fd1 {i j:Nat}{mp:List (Option Nat)}(h:mp[j]? = some (some i)):∀j'∈[j],∃i'∈[i],mp[j']? = some (some i'):=λ j' hj=>by
 have e:=yh.mp hj
 subst e
 exact⟨i,yh.mpr rfl,h⟩
def uSrt (u:UX):PEnv->Int->(List xH->Int->Prop)->Prop:=λ env n Q=>u env n λ d n1=>match d with | .list ds=>bnd (bo ds) λ ns=>ns.length<64/\Q ((sortI ns).map .int) n1 | _=>False
def uMul (ua ub:UX):PEnv->Int->(List xH->Int->Prop)->Prop:=λ env n Q=>ua env n λ x n1=>ub env n1 λ y n2=>match x,y with | .list xs,.int k=>(-(2 ^ 63)<=k/\k<2 ^ 63/\xs.length * k.toNat<=xV)/\Q (List.replicate k.toNat xs).flatten n2 | _,_=>False
def uCat (ua ub:UX):PEnv->Int->(List xH->Int->Prop)->Prop:=λ env n Q=>ua env n λ x n1=>ub env n1 λ y n2=>match x,y with | .list xs,.list ys=>xs.length+ys.length<=xV/\Q (xs++ys) n2 | _,_=>False
def uSlL (u:UX)(ul uh:UO):PEnv->Int->(List xH->Int->Prop)->Prop:=λ env n Q=>u env n λ d n1=>ul env n1 λ lo n2=>uh env n2 λ hi n3=>match d with | .list ds=>Q (cutG ds lo hi) n3 | _=>False
section
variable {X:Cx}{M:Fr}{e a b:Expr}{u ua ub:UX}{p p2 q2 pos:Pos}
theorem n_mul (ha:KL X M a ua)(hb:KL X M b ub):KN X M (.BinOp a .Mult b pos) (uMul ua ub) :=
 .of (qe_op pC ha.run hb.run) λ σ H R env pn S n Q ok hu k=>⟨env,pn,S,n,_,ok,hu,λ x H1 dx n1 r1 x1 g1 _ q1=>⟨env,pn,S,n1,_,ok.step x1 g1,q1,λ y H2 dy n2 r2 x2 g2 sz q=>by
  cases dx with
  | list xs=>cases dy with
   | int kk =>
    obtain⟨l,vs,rfl,hl,rs⟩:=(r1.ext ok.gsS x2).of_lst
    exact⟨l,kk,vs,rfl,r2.of_int,hl,q.1.1,q.1.2.1,by rw[rs.length]; exact q.1.2.2,λ p hp=>k p _ _ _ n2 (nr ok (x1.trans x2) g2 hp) af (((rs.flat _).fresh hp).ext (.new hp)) ((x1.trans x2).trans (.new hp)) (M.gext g2 (.new (S:=[]) hp) (by simp)) q.2⟩
   | _=>exact False.elim q
  | _=>cases dy <;> exact False.elim q⟩⟩
def xE (u:UX):UX:=λ env n Q=>u env n λ d n1=>bnd (seqD d) λ ds=>bnd (bo ds) λ ns=>ns.length<4000/\Q (.int (onceI ns).length) n1
end
structure XF (K:W.Frag) (mg:Str->Option xK) (C:Xc) (exc all:List Str):Prop where
 nm:∀c∈all,mg c=some (.ref (C.cl c))
 exm:∀c∈exc,∀h,(h=c\/h = "JoinError")->W.exmOne K (.ref (C.cl c)) (.ref (C.cl h))=some true
 isi:∀c∈exc,∀h∈all,W.kitOne K (.ref (C.cl c)) (.ref (C.cl h))=some (decide (h=c\/h = "JoinError"))
 val:∀c∈exc,W.kitOne K (.ref (C.cl c)) (.type "ValueError")=some true
 ci:∀c∈exc,ClsI K (C.cl c)
 fld:∀c∈exc,∀f∈C.fl c,W.findIn K (.ref (C.cl c)) f=some none
section
variable {X:Cx}{M:Fr}{C:Xc}{exc all:List Str}{e:Expr}{es:List Expr}{ua:UA}{F:UF}{k i j:Nat}{x f cn nm:Str}{ps:List Str}{b0:Stmt}{suite:List Stmt}{uh:US}{p pos apos px np hpos cpos:Pos}
def uTryA (i j:Nat)(F:UF)(cn:Str)(exc:List Str)(ua:UA)(uh:US):US:=λ E env n=>ua env n λ ds n1=>F ds n1 (λ d n'=>E.nx (env.set i (some (.s d))) n') (λ c as=>(c∈exc/\(cn=c\/cn = "JoinError"))/\uh { E with nx:=λ env' n'=>E.nx (env'.set j none) n' } (env.set j (some (.x c as))) n1)
theorem EnvOk.drop {env:PEnv}{pn:List (xH × V)}{σ:St}{S:List Addr}{H:Hp}{n:Int}(ok:EnvOk M env pn σ S H n)(hj:j ∉ M.fd):EnvOk M (env.set j none) pn (σ.set j none) S H n:=by
 refine⟨λ i e he=>?_,λ i k ds es a h1 h2 h3 h4=>?_,by rw[yL,yL,ok.len],λ i hi=>?_,ok.gd,ok.ext,ok.s0,ok.sn,ok.has,ok.pin⟩
 ·rcases aK he with⟨_,e1⟩ | ⟨ne,e1⟩
  ·cases e1
  ·obtain⟨v,hv,r⟩:=ok.val i e e1
   exact⟨v,by rw[yq ne]; exact hv,r⟩
 ·rcases aK h1 with⟨_,e1⟩ | ⟨n1,e1⟩
  ·cases e1
  ·rcases aK h2 with⟨_,e2⟩ | ⟨n2,e2⟩
   ·cases e2
   ·rw[yq n1] at h3
    rw[yq n2] at h4
    exact ok.ne i k ds es a e1 e2 h3 h4
 ·have:j≠i:=λ z=>hj (z ▸ hi)
  rw[yq this]
  exact ok.fdv i hi
theorem EnvOk.setX {env:PEnv}{pn:List (xH × V)}{σ:St}{S:List Addr}{H:Hp}{n:Int}{c:Str}{as:List xH}{v:V}(ok:EnvOk M env pn σ S H n)(r:EntOk M S H (.x c as) v)(hj:j ∉ M.fd):EnvOk M (env.set j (some (.x c as))) pn (σ.set j (some v)) S H n:=by
 refine⟨λ i e he=>?_,λ i k ds es a h1 h2 h3 h4=>?_,by rw[yL,yL,ok.len],λ i hi=>?_,ok.gd,ok.ext,ok.s0,ok.sn,ok.has,ok.pin⟩
 ·rcases aK he with⟨rfl,e1⟩ | ⟨ne,e1⟩
  ·cases e1
   have:j<env.length:=by
    by_cases z:j<env.length
    ·exact z
    ·rw[yG (by rw[yL]; omega)] at he; cases he
   exact⟨v,fu (by rw[<- ok.len]; exact this),r⟩
  ·obtain⟨v,hv,r⟩:=ok.val i e e1
   exact⟨v,by rw[yq ne]; exact hv,r⟩
 ·rcases aK h1 with⟨_,e1⟩ | ⟨n1,e1⟩
  ·cases e1
  ·rcases aK h2 with⟨_,e2⟩ | ⟨n2,e2⟩
   ·cases e2
   ·rw[yq n1] at h3
    rw[yq n2] at h4
    exact ok.ne i k ds es a e1 e2 h3 h4
 ·have:j≠i:=λ z=>hj (z ▸ hi)
  rw[yq this]
  exact ok.fdv i hi
theorem xa (hM:M.xc=C)(xf:XF X.K X.mg C exc all)(hcn:cn∈all)(D:DefX X.prog X.w X.K X.mg X.base k f ps (spU C F))(hr:Room k X.A)(hN:X.N.Nodup)(hx:Loc X.env.scope x)(ha:∀Ex,KA (X.wish Ex) M (e::es) ua)(hs:∀x,KSs (hctx X x) M (b0::suite) uh)
  (hfd:i ∉ M.fd) (hfj:j ∉ M.fd) (hi:X.N[i]? = some x:=by rfl) (hj:X.N[j]? = some nm:=by rfl) (hloc:X.env.scope.names.lookup nm=some .local:=by rfl) (hst:X.stack=X.env::X.outer:=by rfl) (hfr:X.env.frame=some X.env.locals:=by rfl) (hg:Gl X cn:=by rfl) (hdb:(cn == ("__debug__" : Str))=false:=by decide) (hgf:Gl X f:=by rfl) (hdf:(f == ("__debug__" : Str))=false:=by decide)
  (hsw:swapsWith (.Call (.Name f p) (e::es) [] cpos) (some (.Name x px)) apos.line X.env=pure false:=by rfl) (hf:X.fn x=true\/X.env.scope.names.lookup x=some .local:=by first | exact .inl rfl | exact .inr rfl | assumption) :
  KS X M (.Try [.Assign [.Name x px] (.Call (.Name f p) (e::es) [] cpos) apos] [.ExceptHandler (some (.Name cn np)) (some nm) (b0::suite) hpos] [] [] pos) (uTryA i j F cn exc ua uh) :=
 .of (qD X.K (xf.nm cn hcn) hN hi hx hj hloc (vw D hr (λ Ex=>(ha Ex).run) hgf hdf) (λ y=>(hs y).run) hst hfr hg hdb hsw hf) λ D σ H env pn S n E ok hu k1 k2=>⟨env,pn,S,n,_,ok,hu,λ vs H1 ds n1 el r1 x1 g1 _ q =>
  ⟨S,ds,n1,_,_,r1,(ok.step x1 g1).has,q,λ d v H2 r2 x2 q2=>k1 _ _ _ _ _ (((ok.step x1 g1).step (x2.mono (by simp)) (M.gext g1 x2 (by simp))).set r2 hfd) q2,λ c as z dx H' vs rv hd x'=>by
   refine⟨xf.exm c z.1.1 cn z.1.2,λ y hy=>?_⟩
   have ok':=(ok.step x1 g1).step (x'.mono (by simp)) (M.gext g1 x' (by simp))
   subst hM
   have gy:y ∉ M.gs/\dx ∉ M.gs:=⟨λ zz=>M.gnx ok'.gd y zz _ hy,λ zz=>M.gnx ok'.gd dx zz _ hd⟩
   exact⟨env.set j (some (.x c as)),pn,S,n1,_,ok'.setX ⟨y,dx,vs,rfl,hy,hd,rv,gy.1,gy.2⟩ hfj,z.2,λ env' σ' S' H'' n' ok'' q''=>k1 _ _ _ _ _ (ok''.drop hfj) q'',k2⟩⟩⟩
def uIsx (i:Nat)(exc:List Str)(h:Str):UX:=λ env n Q=>match env[i]? with | some (some (.x c _))=>c∈exc/\Q (.bool (decide (h=c\/h = "JoinError"))) n | _=>False
def uIsxV (i:Nat)(exc:List Str):UX:=λ env n Q=>match env[i]? with | some (some (.x c _))=>c∈exc/\Q (.bool true) n | _=>False
def uIsxT (i:Nat)(exc hs:List Str):UX:=λ env n Q=>match env[i]? with | some (some (.x c _))=>c∈exc/\Q (.bool (hs.any λ h=>decide (h=c\/h = "JoinError"))) n | _=>False
def uFlx (i:Nat)(exc:List Str)(fl:Str->List Str)(f:Str):UX:=λ env n Q=>match env[i]? with | some (some (.x c as))=>(c∈exc/\f∈fl c)/\bnd (((fl c).zip as).lookup f) λ d=>Q d n | _=>False
theorem ji {S:List Addr}{H:Hp}{f:Str}{d:xH}:∀{fs:List Str} {as:List xH} {vs:List V},Reps S H as vs->(fs.zip as).lookup f=some d->∃v,(fs.zip vs).lookup f=some v/\Rep S H d v
 | [],_,_,_,h=>by cases h
 | g::fs,[],_,_,h=>by cases h
 | g::fs,a::as,_,r,h=>by
  obtain⟨v,t,rfl,r1,r2⟩:=r.of_cons
  rw[List.zip_cons_cons,zi] at h
  rw[List.zip_cons_cons,zi]
  cases e:f == g with
  | true=>rw[e] at h; cases h; exact⟨v,rfl,r1⟩
  | false=>rw[e] at h; exact ji r2 h
theorem k_isx (i:Nat){y h:Str}{p2 p3:Pos}(hM:M.xc=C)(xf:XF X.K X.mg C exc all)(hh:h∈all)(hm:X.mg "isinstance" = none)(hN:X.N[i]? = some y:=by rfl)(hv:Vis X.env.scope y:=by first | exact Or.inl rfl | exact Or.inr (Or.inl rfl) | exact Or.inr (Or.inr rfl))(hd:(y == ("__debug__" : Str))=false:=by decide)(hcd:(y == ("__classdict__" : Str))=false:=by decide)
  (hg:Gl X "isinstance" := by rfl) (hgh:Gl X h:=by rfl) (hdh:(h == ("__debug__" : Str))=false:=by decide):KE X M (.Call (.Name "isinstance" p) [.Name y p2,.Name h p3] [] pos) (uIsx i exc h) :=
 .of (a8 (g7 X.K) hg hm (by decide +kernel) (qa_c (qv i hN hv hd hcd) (qa_c (pK (v:=.ref (C.cl h)) hgh (xf.nm h hh) rfl hdh) aC rfl) rfl)) λ σ H R env pn S n Q ok hu k=>by
  unfold uIsx at hu
  split at hu
  ·rename_i c as he
   obtain⟨v,hv,a,dx,vs,rfl,ha,hdx,rv,_⟩:=ok.val i _ he
   subst hM
   exact⟨_,hv,a,_,dx,_,_,_,rfl,ha,hdx,xf.ci c hu.1,.own (xf.isi c hu.1 h hh),k _ H _ n (.bl _) (.refl _ _) ok.gd hu.2⟩
  ·exact hu.elim
theorem xb (i:Nat){y:Str}{p2 p3:Pos}(hM:M.xc=C)(xf:XF X.K X.mg C exc all)(hm:X.mg "isinstance" = none)(hmv:X.mg "ValueError" = none)(hN:X.N[i]? = some y:=by rfl)(hv:Vis X.env.scope y:=by first | exact Or.inl rfl | exact Or.inr (Or.inl rfl) | exact Or.inr (Or.inr rfl))(hd:(y == ("__debug__" : Str))=false:=by decide)(hcd:(y == ("__classdict__" : Str))=false:=by decide)
  (hg:Gl X "isinstance" := by rfl) (hgh:Gl X "ValueError" := by rfl):KE X M (.Call (.Name "isinstance" p) [.Name y p2,.Name "ValueError" p3] [] pos) (uIsxV i exc) :=
 .of (a8 (g7 X.K) hg hm (by decide +kernel) (qa_c (qv i hN hv hd hcd) (qa_c (qe_ty "ValueError" hgh hmv (by decide +kernel)) aC rfl) rfl)) λ σ H R env pn S n Q ok hu k=>by
  unfold uIsxV at hu
  split at hu
  ·rename_i c as he
   obtain⟨v,hv,a,dx,vs,rfl,ha,hdx,rv,_⟩:=ok.val i _ he
   subst hM
   exact⟨_,hv,a,_,dx,_,_,_,rfl,ha,hdx,xf.ci c hu.1,.ty (xf.val c hu.1),k _ H _ n (.bl _) (.refl _ _) ok.gd hu.2⟩
  ·exact hu.elim
structure QCs (X:Cx) (C:Xc) (es:List Expr) (hs:List Str):Prop where
 run:∃t,QA X es t/\∀σ H (R:List V->Hp->Prop),R (hs.map λ h=>.ref (C.cl h)) H->t σ H R
theorem xg:QCs X C [] []:=⟨_,aC,λ σ H R h=>h⟩
theorem cs_c {h:Str}{hs:List Str}{p3:Pos}(xf:XF X.K X.mg C exc all)(hh:h∈all)(r:QCs X C es hs)(hgh:Gl X h:=by rfl)(hdh:(h == ("__debug__" : Str))=false:=by decide):QCs X C (.Name h p3::es) (h::hs):=by
 obtain⟨t,q,k⟩:=r.run
 exact⟨_,qa_c (pK (v:=.ref (C.cl h)) hgh (xf.nm h hh) rfl hdh) q rfl,λ σ H R hR=>k σ H _ hR⟩
theorem qN {K:W.Frag}{mg:Str->Option xK}(xf:XF K mg C exc all){c:Str}(hc:c∈exc):∀{hs:List Str},(∀h∈hs,h∈all)->W.kitAny K (.ref (C.cl c)) ((hs.map λ h=>C.cl h).map xK.ref)=some (hs.any λ h=>decide (h=c\/h = "JoinError"))
 | [],_=>rfl
 | h::hs,ha=>by
  rw[xY,xY,zK]
  show (match W.kitOne K (.ref (C.cl c)) (.ref (C.cl h)) with | some true=>some true | some false=>W.kitAny K (.ref (C.cl c)) ((hs.map λ h=>C.cl h).map xK.ref) | none=>none)=_
  rw[xf.isi c hc h (ha h (ya ..))]
  cases e:decide (h=c\/h = "JoinError") with
  | true=>rfl
  | false=>exact qN xf hc λ g hg=>ha g (xT _ hg)
theorem xh (i:Nat){y:Str}{hs:List Str}{p2 p3:Pos}{k2:Nat}(hM:M.xc=C)(xf:XF X.K X.mg C exc all)(hh:∀h∈hs,h∈all)(hm:X.mg "isinstance" = none)(cs:QCs X C es hs)(hl:hs.length<=xV:=by decide)(hN:X.N[i]? = some y:=by rfl)(hv:Vis X.env.scope y:=by first | exact Or.inl rfl | exact Or.inr (Or.inl rfl) | exact Or.inr (Or.inr rfl))(hd:(y == ("__debug__" : Str))=false:=by decide)(hcd:(y == ("__classdict__" : Str))=false:=by decide)
  (hg:Gl X "isinstance" := by rfl):KE X M (.Call (.Name "isinstance" p) [.Name y p2,.Tuple es k2 p3] [] pos) (uIsxT i exc hs):=by
 obtain⟨t,qt,kt⟩:=cs.run
 refine .of (a8 (g7 X.K) hg hm (by decide +kernel) (qa_c (qv i hN hv hd hcd) (qa_c (tN qt) aC rfl) rfl)) λ σ H R env pn S n Q ok hu k=>?_
 unfold uIsxT at hu
 split at hu
 ·rename_i c as he
  obtain⟨v,hv,a,dx,vs,rfl,ha,hdx,rv,_⟩:=ok.val i _ he
  subst hM
  refine⟨_,hv,kt σ H _ ⟨by rw[xQ]; exact hl,λ t ht=>?_⟩⟩
  have x1:Ext [] H (upd H t (.tup (hs.map λ h=>.ref (M.xc.cl h)))):=.new ht
  refine⟨a,_,dx,_,_,_,rfl,x1.keep _ _ (by simp) ha,x1.keep _ _ (by simp) hdx,xf.ci c hu.1,.tup (ds:=hs.map λ h=>M.xc.cl h) ?_ (qN xf hu.1 hh),k _ _ _ n (.bl _) (x1.mono (by simp)) (M.gext ok.gd x1 (by simp)) hu.2⟩
  rw[af,yS]
  rfl
 ·exact hu.elim
theorem k_flx (i:Nat){y f:Str}{p2:Pos}(hM:M.xc=C)(xf:XF X.K X.mg C exc all)(hN:X.N[i]? = some y:=by rfl)(hv:Vis X.env.scope y:=by first | exact Or.inl rfl | exact Or.inr (Or.inl rfl) | exact Or.inr (Or.inr rfl))(hd:(y == ("__debug__" : Str))=false:=by decide)(hcd:(y == ("__classdict__" : Str))=false:=by decide)
  (hb:attributeBase (.Name y p2) f X.env (eval (.Name y p2) X.env)=eval (.Name y p2) X.env:=by rfl):KE X M (.Attribute (.Name y p2) f pos) (uFlx i exc C.fl f) :=
 .of (vq X.K (qv i hN hv hd hcd) hb) λ σ H R env pn S n Q ok hu k=>by
  unfold uFlx at hu
  split at hu
  ·rename_i c as he
   obtain⟨v,hv,a,dx,vs,rfl,ha,hdx,rv,_⟩:=ok.val i _ he
   subst hM
   obtain⟨⟨h1,h2⟩,d,hl,q⟩:=hu
   obtain⟨w,hw,rw'⟩:=ji rv hl
   exact⟨_,hv,a,_,dx,_,w,rfl,ha,hdx,(xf.ci c h1).cx,xf.fld c h1 f h2,hw,k w H d n rw' (.refl _ _) ok.gd q⟩
  ·exact hu.elim
end
def mostN:Int:=1099511627776
def aD:UF:=λ ds n Q _=>match ds with | [.int m]=>(0<m/\m<1073741824/\n<mostN)/\∀r:Int,0<=r->r<m->Q (.int r) (n+1) | _=>False
def qO (Y:Fam):Sp:=λ vs H Q _=>∃(fa sa:Addr) (n many:Int),vs=[.ref fa,.int many]/\Y.Feed H fa sa n/\0<many/\many<1073741824/\n<mostN/\∀(r:Int) (H':Hp),0<=r->r<many->Y.Feed H' fa sa (n+1)->Ext [fa] H H'->Q (.int r) H'
def jL (Y:Fam)(K:W.Frag):Sp:=λ vs H Q _=>∃(a:Addr) (ns:List Int),vs=[.ref a]/\SqL K H a (ns.map V.int)/\∀(fa sa:Addr) (H':Hp),Y.Feed H' fa sa 0->Ext [] H H'->H fa=none->H sa=none->Q (.ref fa) H'
def spLaw (K:W.Frag):Sp:=λ vs H Q _=>∃(a:Addr) (ns:List Int),vs=[.ref a]/\SqL K H a (ns.map V.int)/\ns.length<=63/\∀H',Q (.bl true) H'
section
variable {P:yk}{w:World}{K:W.Frag}{mg:Str->Option xK}{base:Heap}{f:Addr}{fd:yM}{x:Str}{ps:List Str}{k:Nat}{C:Xc}{u:US}{Y:Fam}{st st0:Stmt}{rest:List Stmt}{N:List Str}{sn:Str}
theorem DefOk.imp {sp sp':Sp}(D:DefOk P w K mg base k x ps sp)(h:∀vs H Q E,sp' vs H Q E->sp vs H Q E):DefOk P w K mg base k x ps sp':=let ⟨f,fd,F,r⟩:=D.ex; ⟨f,fd,F.imp h,r⟩
theorem DefOk.up {sp:Sp}{k':Nat}(D:DefOk P w K mg base k x ps sp)(h:k<=k'):DefOk P w K mg base k' x ps sp:=let ⟨f,fd,F,r⟩:=D.ex; ⟨f,fd,F.mono h,r⟩
theorem DefOk.draw (D:DefOk P w K mg base k x ps (qO Y)):DefOk P w K mg base k x ps (spUF Y aD):=D.imp λ vs H Q E h=>by
 obtain⟨fa,sa,us,S,ds,n,Qp,rfl,fe,hS,r,has,hF,hq⟩:=h
 unfold aD at hF
 split at hF
 ·rename_i m
  obtain⟨⟨h1,h2,h3⟩,h4⟩:=hF
  obtain⟨v,t,rfl,r1,r2⟩:=r.of_cons
  cases r2.of_nil
  cases r1.of_int
  exact⟨fa,sa,n,m,rfl,fe,h1,h2,h3,λ r H' r0 r1 fe' x=>hq _ _ _ H' (.int r) fe' x (h4 r r0 r1)⟩
 ·exact hF.elim
theorem lawU (F:Fun K "law" "law" st f fd)(sc:FnScope N [sn] (ac st))(hN:2<=N.length)
  (body:∀(cdv:xK) (A:Around) (outer:List Env) (s:xO) (H:Hp) (E:XK),Room k (A.deeper (envOfC "law" (ac st) s.heap.objs.size f cdv)) ->
   QS (cxOf CX0 P w K mg base N "law" (ac st) f cdv A outer s H E).nox st0 (tAsg (i9 (jL Y K) (tCons (tVar 0) tNil)) (gName 1)) /\
   ∀(fa sa:Addr) (n0:Int) (S:List Addr) (H1:Hp) (hf:Y.Feed H1 fa sa n0) (hS:fa∈S) (has:∀a∈S,H1 a≠none),KSs (cxOf CX0 P w K mg base N "law" (ac st) f cdv A outer s H E).nox (Fr.feed C Y 1 fa sa n0 S H1 hf hS has) rest u)
  (hb:aB st=st0::rest) (hu:u { nx:=λ _ _=>False,rt:=λ d _=>d=.bool true } (List.replicate N.length none) 0):FnOk P w K mg base CX0 (k+1) f fd [sn] (spLaw K):=by
 refine F.okQ sc (λ vs H Q E h=>?_) (λ cdv A outer s H vs Q E hr h=>?_)
 ·obtain⟨a,ns,rfl,_⟩:=h
  rfl
 ·obtain⟨a,ns,rfl,hs,_,q⟩:=h
  obtain⟨q0,qr⟩:=body cdv A outer s H E hr
  have qrest:QSs (cxOf CX0 P w K mg base N "law" (ac st) f cdv A outer s H E).nox rest (λ D σ H'=>∃fa sa n0 S H1 hf hS has,liftS (Fr.feed C Y 1 fa sa n0 S H1 hf hS has) u D σ H') :=
   ⟨λ pins s σ H D I ⟨fa,sa,n0,S,H1,hf,hS,has,h⟩=>(qr fa sa n0 S H1 hf hS has).run.run pins s σ H D I h⟩
  rw[hb]
  have hst:start N [V.ref a]=some (.ref a)::List.replicate (N.length - 1) none:=rfl
  refine⟨_,az q0 qrest,_,by rw[hst]; rfl,a,ns,rfl,hs,λ fa sa H1 fe x1 hfa hsa=>?_⟩
  have has:∀b∈[fa],H1 b≠none:=λ b hb=>by have e:=yh.mp hb; subst e; exact Y.fa fe
  refine⟨fa,sa,0,[fa],H1,fe,yh.mpr rfl,has,List.replicate N.length none,[],[fa],0,_,⟨λ i e he=>?_,λ i j ds es b h1=>?_,?_,?_,fe,.refl _ _,λ b hb=>hb,λ b hb=>.inl hb,has,λ p hp=>by cases hp⟩,hu,λ _ _ _ _ _ _ z=>z.elim,λ v H' d n' r _ _ e=>?_⟩
  ·rw[y7] at he
   split at he <;> cases he
  ·rw[y7] at h1
   split at h1 <;> cases h1
  ·rw[yL,hst,xP,zU,zU]
   omega
  ·intro i hi
   have e:i=1:=yh.mp hi
   subst e
   rw[hst]
   exact fu (by rw[xP,zU]; omega)
  ·subst e
   rw[r.of_bl]
   exact q H'
end
def strD:List xH->Option xH | [.int i]=>if i.natAbs.log2<1920 then some (.str (toString i)) else none | _=>none
section
variable {X:Cx}
theorem c_str:CallD X (.type "str") strD:=⟨_,kj,λ gs S H ds vs d R _ _ rs e k=>by
 unfold strD at e
 split at e
 ·split at e
  ·rename_i i hl
   cases e
   obtain⟨v,rfl,r⟩:=rs.one
   exact⟨i,by rw[r.of_int],hl,k _ H (.str _) (.refl _ _)⟩
  ·cases e
 ·cases e⟩
end
def F_no:UF:=λ _ _ _ _=>False
section
variable {P:yk}{w:World}{K:W.Frag}{mg:Str->Option xK}{base:Heap}{f:Addr}{fd:yM}{x qual:Str}{st:Stmt}{ps:List Str}{k:Nat}{Y:Fam}{C:Xc}
theorem def0F (F:Fun K x qual st f fd)(hm:mg x=some (.ref f))(hb:Binds K fd ps []):DefOk P w K mg base k x ps (spUF Y F_no) :=
 ⟨f,fd,⟨λ vs H Q E ⟨_,_,_,_,_,_,_,_,_,_,_,_,h,_⟩=>h.elim,λ _ _ _ _ _ _ _ _ _ _ _ _ _ ⟨_,_,_,_,_,_,_,_,_,_,_,_,h,_⟩=>h.elim⟩,hm,F.kp,hb⟩
end
theorem ExcI.exmS {K:W.Frag}{mg:Str->Option xK}{x:Str}{C J:Addr}(e:ExcI K C J)(o:OwnC K mg x C)(bx:W.mroIn K C (.type "BaseException")=some true):W.exmOne K (.ref C) (.ref C)=some true:=by
 unfold W.exmOne
 have h:W.subIn K (.ref C) (.type "BaseException")=some true:=bx
 rw[h,if_pos (by simp),o.kit]
 exact e.own
end L2
namespace L2
open PySem
mutual
def Gd (B:Nat):xH->Prop
 | .none=>True
 | .bool _=>True
 | .int i=>i.natAbs<=B
 | .str x=>(∀c∈x.cps.toList,c<1114112)/\x.cps.size<=60
 | .tuple ds=>GdL B ds
 | .list ds=>GdL B ds
 | .dict _=>False
def GdL (B:Nat):List xH->Prop
 | []=>True
 | d::ds=>Gd B d/\GdL B ds
end
theorem big50:(10:Nat) ^ 50<2 ^ 1920:=by decide +kernel
mutual
theorem nv:∀d:xH,Gd (10 ^ 50) d->d.canLay0=true/\d.showable=true/\d.leavesShort 60=true
 | .none,_=>⟨rfl,rfl,rfl⟩
 | .bool _,_=>⟨rfl,rfl,rfl⟩
 | .int i,g=>by
  simp only[Gd] at g
  refine⟨rfl,?_,?_⟩
  ·simp only[xH.showable,decide_eq_true_eq]
   by_cases h:i.natAbs=0
   ·rw[h]; decide
   ·exact (Nat.log2_lt h).mpr (Ab g big50)
  ·simp only[xH.leavesShort,decide_eq_true_eq]
   have e:=int_text_length_le10 (k:=51) (by decide) (Ab g (by decide +kernel:(10:Nat) ^ 50<10 ^ 51))
   show (Str.ofString (toString i)).length<=60
   rw[ofString_length]
   omega
 | .str x,g=>by
  simp only[Gd] at g
  refine⟨?_,rfl,?_⟩
  ·show xH.strOk x=true
   unfold xH.strOk
   rw[Array.all_eq_true']
   intro c hc
   exact decide_eq_true (g.1 c (by simpa using hc))
  ·simp only[xH.leavesShort,zX,decide_eq_true_eq]
   intro c hc
   exact yr (g.1 c hc) (by decide)
 | .tuple ds,g=>by simp only[Gd] at g; simpa only [xH.canLay0,xH.showable,xH.leavesShort] using gdl_lay ds g
 | .list ds,g=>by simp only[Gd] at g; simpa only [xH.canLay0,xH.showable,xH.leavesShort] using gdl_lay ds g
 | .dict _,g=>by simp only[Gd] at g
theorem gdl_lay:∀ds:List xH,GdL (10 ^ 50) ds->xH.canLayAll0 ds=true/\xH.showableAll ds=true/\xH.leavesShortAll 60 ds=true
 | [],_=>⟨rfl,rfl,rfl⟩
 | d::ds,g=>by
  simp only[GdL] at g
  obtain⟨a1,a2,a3⟩:=nv d g.1
  obtain⟨b1,b2,b3⟩:=gdl_lay ds g.2
  simp only[xH.canLayAll0,xH.showableAll,xH.leavesShortAll,a1,a2,a3,b1,b2,b3]
  exact⟨rfl,rfl,rfl⟩
end
theorem vH {d:xH}(g:Gd (10 ^ 50) d)(hd:d.depth<=60)(hw:d.weight<=200000):Good d:=⟨(nv d g).1,(nv d g).2.1,(nv d g).2.2,hd,hw⟩
theorem eX:∀xs ys:List xH,xH.weightAll (xs++ys)=xH.weightAll xs+xH.weightAll ys
 | [],ys=>by simp[xH.weightAll]
 | x::xs,ys=>by simp only[yy,xH.weightAll,eX xs ys]; omega
theorem eY:∀xs ys:List xH,xH.depthAll (xs++ys)=max (xH.depthAll xs) (xH.depthAll ys)
 | [],ys=>by simp[xH.depthAll]
 | x::xs,ys=>by simp only[yy,xH.depthAll,eY xs ys]; exact (Nat.max_assoc _ _ _).symm
theorem gC (xs:List xH)(n:Nat):xH.weightAll xs=xH.weightAll (xs.take n)+xH.weightAll (xs.drop n):=by rw[<- eX,List.take_append_drop]
theorem ny (xs:List xH)(n:Nat):xH.depthAll xs=max (xH.depthAll (xs.take n)) (xH.depthAll (xs.drop n)):=by rw[<- eY,List.take_append_drop]
theorem uj:∀xs:List xH,xH.weightAll xs.reverse=xH.weightAll xs
 | []=>rfl
 | x::xs=>by rw[zL,eX,uj xs]; simp only[xH.weightAll]; omega
theorem uk:∀xs:List xH,xH.depthAll xs.reverse=xH.depthAll xs
 | []=>rfl
 | x::xs=>by rw[zL,eY,uk xs]; simp only[xH.depthAll]; omega
theorem qP:∀xs:List xH,xs.length<=xH.weightAll xs
 | []=>xL _
 | x::xs=>by have:=qP xs; simp only[xP,xH.weightAll]; omega
theorem w_int {i:Int}{k:Nat}(h:i.natAbs<2 ^ k):xH.weight (.int i)<=k:=by
 simp only[xH.weight]
 split
 ·omega
 ·rename_i hne
  have:i.natAbs≠0:=λ z=>hne (by simp; omega)
  have:=(Nat.log2_lt this).mpr h
  omega
theorem qQ:∀{ds:List xH} {d:xH},d∈ds->d.depth<=xH.depthAll ds
 | e::es,d,h=>by
  simp only[xH.depthAll]
  rcases xR.mp h with rfl | h
  ·omega
  ·have:=qQ h; omega
theorem qR:∀{ds:List xH} {d:xH},d∈ds->d.weight+1<=xH.weightAll ds
 | e::es,d,h=>by
  simp only[xH.weightAll]
  rcases xR.mp h with rfl | h
  ·omega
  ·have:=qR h; omega
mutual
def Gq (B L:Nat):xH->Prop
 | .none=>True
 | .bool _=>True
 | .int i=>i.natAbs<=B
 | .str x=>(∀c∈x.cps.toList,c<1114112)/\x.cps.size<=L
 | .tuple ds=>GqL B L ds
 | .list ds=>GqL B L ds
 | .dict _=>False
def GqL (B L:Nat):List xH->Prop
 | []=>True
 | d::ds=>Gq B L d/\GqL B L ds
end
theorem gql_iff {B L:Nat}:∀{ds:List xH},GqL B L ds↔∀d∈ds,Gq B L d
 | []=>by simp[GqL]
 | d::ds=>by simp[GqL,gql_iff (ds:=ds)]
mutual
theorem l6 {B L B' L':Nat}(h:B<=B')(k:L<=L'):∀d:xH,Gq B L d->Gq B' L' d
 | .none,_=>by simp[Gq]
 | .bool _,_=>by simp[Gq]
 | .int i,g=>by simp only[Gq] at g ⊢; omega
 | .str x,g=>by simp only[Gq] at g ⊢; exact⟨g.1,by omega⟩
 | .tuple ds,g=>by simp only[Gq] at g ⊢; exact gql_mono h k ds g
 | .list ds,g=>by simp only[Gq] at g ⊢; exact gql_mono h k ds g
 | .dict _,g=>by simp only[Gq] at g
theorem gql_mono {B L B' L':Nat}(h:B<=B')(k:L<=L'):∀ds:List xH,GqL B L ds->GqL B' L' ds
 | [],_=>by simp[GqL]
 | d::ds,g=>by simp only[GqL] at g ⊢; exact⟨l6 h k d g.1,gql_mono h k ds g.2⟩
end
mutual
theorem gq_gd:∀d:xH,Gq (10 ^ 50) 60 d->Gd (10 ^ 50) d
 | .none,_=>by simp[Gd]
 | .bool _,_=>by simp[Gd]
 | .int i,g=>by simp only[Gq] at g; simp only[Gd]; exact g
 | .str x,g=>by simp only[Gq] at g; simp only[Gd]; exact g
 | .tuple ds,g=>by simp only[Gq] at g; simp only[Gd]; exact gql_gd ds g
 | .list ds,g=>by simp only[Gq] at g; simp only[Gd]; exact gql_gd ds g
 | .dict _,g=>by simp only[Gq] at g
theorem gql_gd:∀ds:List xH,GqL (10 ^ 50) 60 ds->GdL (10 ^ 50) ds
 | [],_=>by simp[GdL]
 | d::ds,g=>by simp only[GqL] at g; simp only[GdL]; exact⟨gq_gd d g.1,gql_gd ds g.2⟩
end
structure Sz (B L w p:Nat) (d:xH):Prop where
 gq:Gq B L d
 wt:d.weight<=w
 dp:d.depth<=p
structure SzL (B L w p:Nat) (ds:List xH):Prop where
 gq:GqL B L ds
 wt:xH.weightAll ds<=w
 dp:xH.depthAll ds<=p
section
variable {B L B' L' w w' p p':Nat}{d:xH}{ds es:List xH}
theorem Sz.mono (h:Sz B L w p d)(hB:B<=B')(hL:L<=L')(hw:w<=w')(hp:p<=p'):Sz B' L' w' p' d:=⟨l6 hB hL d h.gq,yv h.wt hw,yv h.dp hp⟩
theorem SzL.mono (h:SzL B L w p ds)(hB:B<=B')(hL:L<=L')(hw:w<=w')(hp:p<=p'):SzL B' L' w' p' ds:=⟨gql_mono hB hL ds h.gq,yv h.wt hw,yv h.dp hp⟩
theorem Sz.gd (h:Sz B L w p d)(hB:B<=10 ^ 50)(hL:L<=60):Gd (10 ^ 50) d:=gq_gd d (l6 hB hL d h.gq)
theorem Sz.good (h:Sz B L w p d)(hB:B<=10 ^ 50)(hL:L<=60)(hw:w<=200000)(hp:p<=60):Good d:=vH (h.gd hB hL) (yv h.dp hp) (yv h.wt hw)
mutual
theorem um:∀d:xH,Gq B L d->d.canLay0=true
 | .none,_=>rfl
 | .bool _,_=>rfl
 | .int i,_=>rfl
 | .str x,g=>by
  simp only[Gq] at g
  show xH.strOk x=true
  unfold xH.strOk
  rw[Array.all_eq_true']
  intro c hc
  exact decide_eq_true (g.1 c (by simpa using hc))
 | .tuple ds,g=>by simp only[Gq] at g; simpa only [xH.canLay0] using gql_lay ds g
 | .list ds,g=>by simp only[Gq] at g; simpa only [xH.canLay0] using gql_lay ds g
 | .dict _,g=>by simp only[Gq] at g
theorem gql_lay:∀ds:List xH,GqL B L ds->xH.canLayAll0 ds=true
 | [],_=>rfl
 | d::ds,g=>by
  simp only[GqL] at g
  simp only[xH.canLayAll0,um d g.1,gql_lay ds g.2]
  rfl
end
theorem Sz.lay (h:Sz B L w p d):d.canLay0=true:=um d h.gq
theorem SzL.lay (h:SzL B L w p ds):xH.canLayAll0 ds=true:=gql_lay ds h.gq
theorem SzL.len (h:SzL B L w p ds):ds.length<=w:=yv (qP ds) h.wt
theorem SzL.nil:SzL B L 0 0 []:=⟨by simp[GqL],by simp[xH.weightAll],by simp[xH.depthAll]⟩
theorem SzL.cons (h:Sz B L w p d)(t:SzL B L w' p' ds):SzL B L (w+1+w') (max p p') (d::ds):=by
 refine⟨by simp only[GqL]; exact⟨h.gq,t.gq⟩,?_,?_⟩
 ·simp only[xH.weightAll]; have:=h.wt; have:=t.wt; omega
 ·simp only[xH.depthAll]; have:=h.dp; have:=t.dp; omega
theorem SzL.append (h:SzL B L w p ds)(t:SzL B L w' p' es):SzL B L (w+w') (max p p') (ds++es):=by
 refine⟨gql_iff.mpr λ d hd=>?_,?_,?_⟩
 ·rcases yQ.mp hd with hd | hd
  ·exact gql_iff.mp h.gq d hd
  ·exact gql_iff.mp t.gq d hd
 ·rw[eX]; have:=h.wt; have:=t.wt; omega
 ·rw[eY]; have:=h.dp; have:=t.dp; omega
theorem SzL.take (h:SzL B L w p ds)(n:Nat):SzL B L w p (ds.take n):=by
 refine⟨gql_iff.mpr λ d hd=>gql_iff.mp h.gq d (zj hd),?_,?_⟩
 ·have:=gC ds n; have:=h.wt; omega
 ·have:=ny ds n; have:=h.dp; omega
theorem SzL.drop (h:SzL B L w p ds)(n:Nat):SzL B L w p (ds.drop n):=by
 refine⟨gql_iff.mpr λ d hd=>gql_iff.mp h.gq d (z6 hd),?_,?_⟩
 ·have:=gC ds n; have:=h.wt; omega
 ·have:=ny ds n; have:=h.dp; omega
theorem SzL.rev (h:SzL B L w p ds):SzL B L w p ds.reverse:=⟨gql_iff.mpr λ d hd=>gql_iff.mp h.gq d (List.mem_reverse.mp hd),by rw[uj]; exact h.wt,by rw[uk]; exact h.dp⟩
theorem SzL.mem (h:SzL B L w p ds)(hd:d∈ds):Sz B L w p d:=⟨gql_iff.mp h.gq d hd,by have:=qR hd; have:=h.wt; omega,yv (qQ hd) h.dp⟩
theorem Sz.tup (h:SzL B L w p ds):Sz B L w (p+1) (.tuple ds):=⟨by simp only[Gq]; exact h.gq,by simp only[xH.weight]; exact h.wt,by simp only[xH.depth]; have:=h.dp; omega⟩
theorem Sz.lst (h:SzL B L w p ds):Sz B L w (p+1) (.list ds):=⟨by simp only[Gq]; exact h.gq,by simp only[xH.weight]; exact h.wt,by simp only[xH.depth]; have:=h.dp; omega⟩
theorem Sz.of_tup (h:Sz B L w p (.tuple ds)):SzL B L w (p - 1) ds:=⟨by have:=h.gq; simpa only [Gq] using this,by have:=h.wt; simpa only [xH.weight] using this,by have:=h.dp; simp only[xH.depth] at this; omega⟩
theorem Sz.non:Sz B L 0 0 .none:=⟨by simp[Gq],by simp[xH.weight],by simp[xH.depth]⟩
theorem Sz.bl (b:Bool):Sz B L 0 0 (.bool b):=⟨by simp[Gq],by simp[xH.weight],by simp[xH.depth]⟩
theorem Sz.int {i:Int}(h:i.natAbs<=B)(hB:B<=10 ^ 50):Sz B L 168 0 (.int i):=⟨by simpa only [Gq] using h,w_int (Ab (yv h hB) (by decide +kernel)),by simp[xH.depth]⟩
theorem Sz.small {i:Int}(h:i.natAbs<1024)(hB:1023<=B):Sz B L 10 0 (.int i):=⟨by simp only[Gq]; omega,w_int h,by simp[xH.depth]⟩
theorem Sz.str {x:Str}(h:(x.cps.toList.all (λ c=>decide (c<1114112)) && decide (x.cps.size<=L))=true):Sz B L L 0 (.str x):=by
 rw[yD,zX] at h
 have h2:=of_decide_eq_true h.2
 exact⟨by simp only[Gq]; exact⟨λ c hc=>of_decide_eq_true (h.1 c hc),h2⟩,by simp only[xH.weight]; exact h2,by simp[xH.depth]⟩
theorem SzL.ints (hB:1023<=B):∀{ns:List Int},(∀i∈ns,i.natAbs<1024)->SzL B L (11 * ns.length) 0 (ns.map .int)
 | [],_=>SzL.nil
 | n::ns,h=>by
  have t:=SzL.ints (ns:=ns) hB λ i hi=>h i (xT _ hi)
  have:=SzL.cons (Sz.small (h n (ya ..)) hB) t
  rw[xY,xP]
  exact this.mono (xL _) (xL _) (by omega) (by simp)
theorem SzL.all:∀{ds:List xH},(∀d∈ds,Sz B L w p d)->SzL B L ((w+1) * ds.length) p ds
 | [],_=>SzL.nil.mono (xL _) (xL _) (by simp) (yY _)
 | d::ds,h=>by
  have t:=SzL.all (ds:=ds) λ i hi=>h i (xT _ hi)
  refine (SzL.cons (h d (ya ..)) t).mono (xL _) (xL _) ?_ (by simp)
  rw[xP,Nat.mul_succ]
  omega
end
theorem vI {i:Int}{B L:Nat}(h:i.natAbs<10 ^ 9)(hL:11<=L):Sz B L L 0 (.str (toString i)):=by
 have hc:∀c∈(Str.ofString (toString i)).cps.toList,c<1114112:=by
  intro c hc
  rw[Str.ofString_eq_toList] at hc
  obtain⟨a,_,rfl⟩:=yI.mp hc
  have:=a.valid
  simp only[UInt32.isValidChar,Nat.isValidChar] at this
  show a.val.toNat<1114112
  omega
 have e:=int_text_length_le10 (k:=9) (by decide) h
 have hl:(Str.ofString (toString i)).cps.size<=L:=by
  show (Str.ofString (toString i)).length<=L
  rw[ofString_length]
  omega
 exact⟨by simp only[Gq]; exact⟨hc,hl⟩,by simp only[xH.weight]; exact hl,by simp[xH.depth]⟩
section
variable {i j:Int}{ns ms:List Int}{x y:xH}
theorem eZ (ns:List Int):xH.canLayAll0 (ns.map .int)=true:=by
 induction ns with
 | nil=>rfl
 | cons n ns ih=>simpa [xH.canLayAll0,xH.canLay0] using ih
theorem nz (ns:List Int):xH.depthAll (ns.map .int)=0:=by
 induction ns with
 | nil=>rfl
 | cons n ns ih=>simpa [xH.depthAll,xH.depth] using ih
theorem jM:∀ns ms:List Int,xH.eqvAll (ns.map .int) (ms.map .int)=decide (ns=ms)
 | [],[]=>rfl
 | [],m::ms=>rfl
 | n::ns,[]=>rfl
 | n::ns,m::ms=>by
  simp only[xY,xH.eqvAll,xH.eqv,jM ns ms,List.cons.injEq]
  by_cases h:n=m <;> simp[h]
theorem qS (hx:x.canLay0=true)(hy:y.canLay0=true)(hd:x.depth<=60):eqD x y=some (.bool (xH.eqv x y)):=if_pos ⟨hx,hy,hd⟩
theorem nA (hx:x.canLay0=true)(hy:y.canLay0=true)(hd:x.depth<=60):neD x y=some (.bool (!PyData.eqv x y)):=if_pos ⟨hx,hy,hd⟩
theorem bg:eqD (.int i) (.int j)=some (.bool (decide (i=j))):=by
 rw[qS rfl rfl (by simp[xH.depth])]
 simp only[xH.eqv]
 congr
theorem jO:neD (.int i) (.int j)=some (.bool (!decide (i=j))):=by
 rw[nA rfl rfl (by simp[xH.depth])]
 simp only[xH.eqv]
 congr
theorem nB {a b:Bool}:neD (.bool a) (.bool b)=some (.bool (!(a == b))):=by
 rw[nA rfl rfl (by simp[xH.depth])]
 simp only[xH.eqv]
theorem qT:neD (.tuple (ns.map .int)) (.tuple (ms.map .int))=some (.bool (!decide (ns=ms))):=by
 rw[nA (show xH.canLay0 (.tuple _)=true from eZ ns) (show xH.canLay0 (.tuple _)=true from eZ ms) (by simp[xH.depth,nz])]
 simp only[xH.eqv,jM]
theorem hZ:eqD (.list (ns.map .int)) (.list (ms.map .int))=some (.bool (decide (ns=ms))):=by
 rw[qS (show xH.canLay0 (.list _)=true from eZ ns) (show xH.canLay0 (.list _)=true from eZ ms) (by simp[xH.depth,nz])]
 simp only[xH.eqv,jM]
theorem vJ {ds:List xH}:xH.eqvAll ds []=ds.isEmpty:=by cases ds <;> rfl
theorem sL (i:Int)(ns:List Int):((ns.map xH.int).any λ d=>xH.eqv d (.int i))=decide (i∈ns):=by
 induction ns with
 | nil=>rfl
 | cons n ns ih =>
  rw[xY,zK,ih]
  simp only[xH.eqv,xR]
  by_cases h:n=i
  ·simp[h]
  ·have h':¬ i=n:=λ z=>h z.symm
   simp[h,h']
theorem nC:inL (.int i) (ns.map .int)=some (decide (i∈ns)):=by
 unfold inL
 rw[if_pos ⟨rfl,eZ ns,by simp[xH.depth]⟩,sL]
theorem cO:inD (.int i) (.tuple (ns.map .int))=some (.bool (decide (i∈ns))):=by simp only[inD,nC,zD]
theorem jj:ninD (.int i) (.tuple (ns.map .int))=some (.bool (!decide (i∈ns))):=by simp only[ninD,nC,zD]
end
section
variable {α:Type}
theorem eB {xs:List α}{i:Int}(h0:0<=i)(h1:i<xs.length):atI xs i=xs[i.toNat]? := by
 unfold atI ixN
 rw[if_pos h0,if_pos h1]
 rfl
theorem atI_0 (a:α)(l:List α):atI (a::l) 0=some a:=by rw[eB (by decide) (by simp only[xP]; omega)]; rfl
theorem atI_1 (a b:α)(l:List α):atI (a::b::l) 1=some b:=by rw[eB (by decide) (by simp only[xP]; omega)]; rfl
theorem atI_2 (a b c:α)(l:List α):atI (a::b::c::l) 2=some c:=by rw[eB (by decide) (by simp only[xP]; omega)]; rfl
theorem qU {xs:List α}{x:α}(h:xs.getLast? = some x):atI xs (-1)=some x:=by
 have hl:0<xs.length:=by
  cases xs with
  | nil=>cases h
  | cons a l=>simp
 unfold atI ixN
 rw[if_neg (by decide),if_pos (by omega)]
 show xs[(-1+(xs.length:Int)).toNat]? = some x
 rw[show (-1+(xs.length:Int)).toNat=xs.length - 1 by omega,<- List.getLast?_eq_getElem?]
 exact h
theorem sM (xs:List α)(x:α):atI (xs++[x]) (-1)=some x:=qU (by simp)
theorem gD {xs:List α}{i:Int}(h0:0<=i)(h1:i<xs.length):∃x,atI xs i=some x/\x∈xs:=by
 have:i.toNat<xs.length:=by omega
 exact⟨xs[i.toNat],by rw[eB h0 h1]; simp[this],zp _⟩
theorem fA (xs:List α)(k:Int)(h:0<=k):cutG xs none (some k)=xs.take k.toNat:=by
 unfold cutG
 rw[show k=((k.toNat:Nat):Int) by omega,HT.sIx_nat,HT.sIx_none]
 simp only[List.drop_zero,Nat.sub_zero,yR]
 by_cases hc:k.toNat<=xs.length
 ·rw[Nat.min_eq_left hc]
 ·rw[Nat.min_eq_right (by omega),zm (xL _),zm (by omega)]
theorem e8 (xs:List α)(k:Int)(h:0<=k):cutG xs (some k) none=xs.drop k.toNat:=by
 unfold cutG
 rw[show k=((k.toNat:Nat):Int) by omega,HT.sIx_nat,HT.sIx_none]
 simp only[yR]
 by_cases hc:k.toNat<=xs.length
 ·rw[Nat.min_eq_left hc,zm (by rw[zh]; exact xL _)]
 ·rw[Nat.min_eq_right (by omega),zb (xL _),zb (by omega)]
  simp
end
theorem ixD_t {ds:List xH}{i:Int}:ixD (.tuple ds) (.int i)=atI ds i:=rfl
theorem ixD_l {ds:List xH}{i:Int}:ixD (.list ds) (.int i)=atI ds i:=rfl
theorem aE {m n:Int}{Q:xH->Int->Prop}{X:XQ}(h0:0<m)(h1:m<1073741824)(h2:n<mostN)(h:∀r:Int,0<=r->r<m->Q (.int r) (n+1)):aD [.int m] n Q X:=⟨⟨h0,h1,h2⟩,h⟩
section
variable {i j:Nat}{ue:UX}{uc:UT}{Q:List xH->Int->Prop}{env:PEnv}
theorem jP (f:xH->xH):∀(its acc:List xH) (n:Int) (env:PEnv),(∀d∈its,∀n Q,ue (env.set i (some (.s d))) n Q=Q (f d) n)->aL (uNm i) uYes ue Q its acc env n=Q (acc++its.map f) n
 | [],acc,n,env,_=>by simp[aL]
 | d::ds,acc,n,env,h=>by
  have ih:=λ acc=>jP f ds acc n (env.set i (some (.s d))) λ e he n Q=>by rw[List.set_set]; exact h e (xT _ he) n Q
  simp only[aL,uNm,uYes,if_true,h d (ya ..),ih,xY,zM,List.singleton_append]
theorem ic (f:xH->xH)(p:xH->Bool):∀(its acc:List xH) (n:Int) (env:PEnv),(∀d∈its,∀n Q,ue (env.set i (some (.s d))) n Q=Q (f d) n)->(∀d∈its,∀n Q,uc (env.set i (some (.s d))) n Q=Q (p d) n)->aL (uNm i) uc ue Q its acc env n=Q (acc++(its.filter p).map f) n
 | [],acc,n,env,_,_=>by simp[aL]
 | d::ds,acc,n,env,h,k=>by
  have ih:=λ acc=>ic f p ds acc n (env.set i (some (.s d))) (λ e he n Q=>by rw[List.set_set]; exact h e (xT _ he) n Q) (λ e he n Q=>by rw[List.set_set]; exact k e (xT _ he) n Q)
  simp only[aL,uNm,k d (ya ..),h d (ya ..),ih]
  cases hp:p d with
  | true=>simp[hp]
  | false=>simp[hp]
end
theorem bJ {ug:UG}{ub:US}{E:UEnds}(Inv:List xH->List xH->PEnv->Int->Prop) :
  ∀(its pre:List xH) (env:PEnv) (n:Int),(∀pre d post env n (E':UEnds),E'.rt=E.rt->Inv pre (d::post) env n->(∀env' n',Inv (pre++[d]) post env' n'->E'.nx env' n')->ug d env λ env1=>ub E' env1 n)->Inv pre its env n->(∀pre env n,Inv pre [] env n->E.nx env n)->uLoop ug ub E its env n
 | [],pre,env,n,_,h0,hd=>hd pre env n h0
 | d::ds,pre,env,n,hb,h0,hd=>hb pre d ds env n { nx:=uLoop ug ub E ds,rt:=E.rt } rfl h0 λ env' n' h'=>bJ Inv ds (pre++[d]) env' n' hb h' hd
theorem eF {i j:Int}(h:CMul i j):mulD (.int i) (.int j)=some (.int (i * j)):=if_pos h
theorem nD {c:Int}{b:Bool}:mulD (.int c) (.int (if b=true then 1 else 0))=some (.int (if b=true then c else 0)):=by
 cases b with
 | true=>rw[if_pos rfl,if_pos rfl,eF (.inr ⟨by decide,by decide⟩),Int.mul_one]
 | false=>rw[if_neg (by decide),if_neg (by decide),eF (.inr ⟨by decide,by decide⟩),Int.mul_zero]
theorem kY {xs ys:List xH}(h:xs.length+ys.length<=16777216):addD (.tuple xs) (.tuple ys)=some (.tuple (xs++ys)):=if_pos (by rw[show xV=16777216 by decide]; exact h)
theorem qV {xs ys:List xH}(h:xs.length+ys.length<=16777216):addD (.list xs) (.list ys)=some (.list (xs++ys)):=if_pos (by rw[show xV=16777216 by decide]; exact h)
theorem fB {ds:List xH}{d:xH}(h:ds.length<16777216):eE ds [d]=some (ds++[d]):=if_pos (by rw[show xV=16777216 by decide]; exact h)
theorem l7 {i j:Int}(h:0<j):modD (.int i) (.int j)=some (.int (i % j)):=if_pos h
def rngI (lo:Int)(n:Nat):List Int:=(List.range n).map λ (k:Nat)=>lo+(k:Int)
theorem ig (lo:Int)(n:Nat):rngD lo n=(rngI lo n).map .int:=by unfold rngD rngI; rw[yS]; rfl
theorem mem_rngI {lo i:Int}{n:Nat}:i∈rngI lo n↔lo<=i/\i<lo+n:=by
 unfold rngI
 rw[yI]
 constructor
 ·rintro⟨k,hk,rfl⟩
  have:=zR.mp hk
  omega
 ·intro h
  exact⟨(i - lo).toNat,zR.mpr (by omega),by omega⟩
theorem cq (lo:Int)(n:Nat):(rngI lo n).length=n:=by simp[rngI]
theorem l8 (p:xH->Bool)(ns:List Int):(ns.map xH.int).filter p=(ns.filter λ i=>p (.int i)).map .int:=by rw[List.filter_map]; rfl
theorem sN (f:xH->xH)(ns:List Int):(ns.map xH.int).map f=ns.map λ i=>f (.int i):=by rw[yS]; rfl
section
variable {ns:List Int}
theorem sO:eqD (.list (ns.map .int)) (.list [])=some (.bool (decide (ns=[]))):=hZ (ms:=[])
theorem sP:neD (.tuple (ns.map .int)) (.tuple [])=some (.bool (!decide (ns=[]))):=qT (ms:=[])
end
theorem bh (f:Int->xH)(p:Int->Bool){i:Nat}{ue:UX}{uc:UT}{Q:List xH->Int->Prop}(ns:List Int)(acc:List xH)(n:Int)(env:PEnv)(h:∀k∈ns,∀n Q,ue (env.set i (some (.s (.int k)))) n Q=Q (f k) n)(hp:∀k∈ns,∀n Q,uc (env.set i (some (.s (.int k)))) n Q=Q (p k) n) :
  aL (uNm i) uc ue Q (ns.map .int) acc env n=Q (acc++(ns.filter p).map f) n:=by
 rw[ic (λ d=>match d with | .int k=>f k | _=>.none) (λ d=>match d with | .int k=>p k | _=>false) _ _ _ _ (λ d hd n Q=>?_) (λ d hd n Q=>?_),l8,sN]
 ·obtain⟨k,hk,rfl⟩:=yI.mp hd
  exact h k hk n Q
 ·obtain⟨k,hk,rfl⟩:=yI.mp hd
  exact hp k hk n Q
def nesD (x y:xH):Option xH:=match x,y with | .str a,.str b=>some (.bool (!decide (a=b))) | _,_=>none
theorem sQ {a b:Str}:decide (V.str a=V.str b)=decide (a=b):=by
 rw[decide_eq_decide]
 exact⟨λ h=>by cases h; rfl,λ h=>by rw[h]⟩
theorem RepL.of_strS {gs S:List Addr}{H:Hp}{x:Str}{v:V}(r:RepL gs S H (.str x) v):v=.str x:=by
 rcases r with r | ⟨ds,a,xs,h,_⟩
 ·exact r.of_str
 ·cases h
section
variable {X:Cx}
theorem o_nes:OpD X (compareOp .NotEq) nesD:=⟨_,op_ne,λ gs S H dx dy x y d R _ _ r1 r2 e k=>by
 unfold nesD at e
 split at e
 ·rename_i a b
  cases e
  have e1:=r1.of_strS
  have e2:=r2.of_strS
  subst e1 e2
  refine⟨rfl,?_⟩
  rw[sQ]
  exact k _ H (.bl _) (.refl _ _)
 ·cases e⟩
end
end L2
namespace L2
open PySem PySem.Spec PyProof.Rows
def xj (x y:xH):Option xH:=match x,y with
 | .tuple ds,.int k=>(bo ds).map λ ns=>.int (ns.count k:Nat)
 | .list ds,.int k=>(bo ds).map λ ns=>.int (ns.count k:Nat)
 | _,_=>none
def xk (x:xH):Prop:=match x with | .tuple _=>True | .list _=>True | _=>False
def uCnt (uo ue:UX):UX:=λ env n Q=>uo env n λ x n1=>xk x/\ue env n1 λ y n2=>bnd (xj x y) λ d=>Q d n2
def vK:xH->Option xH | .list ds=>some (.tuple ds.reverse) | _=>none
def xF (u:UX):UX:=λ env n Q=>u env n λ x n1=>bnd (vK x) λ d=>Q d n1
section
variable {X:Cx}
theorem kZ:∀l:List Int,(∀n∈l,-500000000000<=n/\n<=500000000000)->-(500000000000 * (l.length:Int))<=l.sum/\l.sum<=500000000000 * l.length
 | [],_=>by simp
 | a::l,hl=>by
  have h1:=kZ l λ n hn=>hl n (xT _ hn)
  have h2:=hl a (ya ..)
  rw[List.sum_cons,xP]
  omega
theorem qW (K:W.Frag)(hc:X.calm=true)(hk:X.K=K:=by rfl):CallR X (.builtin "sum") (λ xs H Q=>∃(p:Addr) (ns:List Int),xs=[.ref p]/\SqT K H p (ns.map V.int)/\(∀n∈ns,-500000000000<=n/\n<=500000000000)/\Q (.int ns.sum) H):=by
 subst hk
 intro pins s σ H xs us Q I r h
 obtain⟨p,ns,rfl,hp,hb,q⟩:=h
 obtain⟨u,rfl,ru⟩:=vals1 r
 cases ru
 obtain⟨its,rv,ht,hz⟩:=I.tuple hp
 have isT:s.heap.IsTuple p its.toArray:=ht
 have hpl:p<s.heap.objs.size:=let ⟨o,e,_⟩:=isT; yd e
 have hlen:its.toArray.size=ns.length:=by rw[xU,<- rv.length,xQ]
 rw[xQ] at hz
 have hsz:xV=16777216:=by decide
 refine call_sum_walk (wpAny_pyIter_tuple isT ⟨s.heap.objs.size,_,_,its.toArray.size,_,_,λ a=>ns.getD a 0,rfl,Walks.tuple (A:=X.A.in1) (I.ok.hd hc) _ p (yu hpl) its.toArray,⟨⟨_,xW _ rfl,rfl,rfl⟩,isT.at λ o e=>xM _ e⟩,?_,?_,?_,?_⟩)
 ·intro b hb'
  rw[y9]
  rcases xR.mp hb' with e | hb'
  ·rw[e]; exact zN _
  ·rw[show b=p by simpa using hb']; exact zG hpl
 ·intro a v e
  obtain⟨x,hx,rx⟩:=rv.at' (show its[a]? = some v by simpa using e)
  rw[yg] at hx
  cases hn:ns[a]? with
  | none=>rw[hn] at hx; cases hx
  | some b =>
   rw[hn] at hx
   cases hx
   obtain⟨t,rfl⟩:=rx
   exact⟨t,by show xK.int b t=xK.int (ns.getD a 0) t; rw[show ns.getD a 0=b by rw[yi,hn]; rfl]⟩
 ·intro j hj
  rw[hlen] at hj
  have h1:=hb (ns.getD j 0) (by rw[yi,show ns[j]? = some ns[j] by simp[hj]]; exact zp hj)
  have h2:=kZ (ns.take (j+1)) λ n hn=>hb n (zj hn)
  rw[yO] at h2
  show InLong (ns.getD j 0)/\InLong (preSum (λ a=>ns.getD a 0) (j+1))
  unfold InLong
  rw[bS ns (j+1) (by omega)]
  have h3:(min (j+1) ns.length:Nat)<=16777216:=by omega
  constructor <;> constructor <;> omega
 ·intro h' tk t' kp
  have I1:Inv X pins σ H { s with heap:=h',toks:=tk }:=I.kept λ b o e=>kp b o (λ z=>by
   rw[show b=s.heap.objs.size by simpa using z] at e
   exact absurd (yd e) (y6 _)) (xM _ e)
  rw[show preSum (λ a=>ns.getD a 0) its.toArray.size=ns.sum by rw[hlen,bS ns _ (xL _),List.take_length]]
  exact⟨.int _,H,I1,⟨_,rfl⟩,q⟩
def sumAD (ds:List xH):Option xH:=match ds with | [.tuple ds]=>sumD [.list ds] | ds=>sumD ds
theorem k8 (hc:X.calm=true):CallD X (.builtin "sum") sumAD:=by
 obtain⟨r,hr,hd⟩:=(c_sum (X:=X) hc).ex
 refine⟨_,(show CallR X (.builtin "sum") λ xs H Q=>(∃(p:Addr) (ns:List Int),xs=[.ref p]/\SqT X.K H p (ns.map V.int)/\(∀n∈ns,-500000000000<=n/\n<=500000000000)/\Q (.int ns.sum) H)\/r xs H Q from λ pins s σ H xs us Q I rv h=>h.elim (qW X.K hc rfl pins s σ H xs us Q I rv) (hr pins s σ H xs us Q I rv)),λ gs S H ds vs d R hs hz rs e k=>?_⟩
 unfold sumAD at e
 split at e
 ·rename_i ds
  obtain⟨v,rfl,rl⟩:=rs.one
  obtain⟨a,xs,rfl,sq,_,rr⟩:=rl.sqT (K:=X.K)
  simp only[sumD] at e
  cases ei:bo ds with
  | none=>rw[ei] at e; cases e
  | some ns =>
   rw[ei] at e
   simp only[zY] at e
   split at e
   ·rename_i hb
    cases e
    rw[bW ei] at rr
    rw[bf rr] at sq
    exact .inl ⟨a,ns,rfl,sq,hb,k _ H (.int _) (.refl _ _)⟩
   ·cases e
 ·exact .inr (hd gs S H ds vs d R hs hz rs e k)
end
theorem lenS {α:Type}{us:List α}{n:Nat}(h:us.length=n+1):∃a r,us=a::r/\r.length=n:=by
 cases us with
 | nil=>cases h
 | cons a r=>exact⟨a,r,rfl,Nat.succ.inj h⟩
theorem len1 {α:Type}{us:List α}(h:us.length=1):∃a,us=[a]:=by
 obtain⟨a,r,rfl,k⟩:=lenS (n:=0) h
 rw[List.eq_nil_of_length_eq_zero k]
 exact⟨_,rfl⟩
theorem len2 {α:Type}{us:List α}(h:us.length=2):∃a b,us=[a,b]:=by
 obtain⟨a,r,rfl,k⟩:=lenS (n:=1) h
 obtain⟨b,rfl⟩:=len1 k
 exact⟨_,_,rfl⟩
theorem len3 {α:Type}{us:List α}(h:us.length=3):∃a b c,us=[a,b,c]:=by
 obtain⟨a,r,rfl,k⟩:=lenS (n:=2) h
 obtain⟨b,c,rfl⟩:=len2 k
 exact⟨_,_,_,rfl⟩
theorem len4 {α:Type}{us:List α}(h:us.length=4):∃a b c d,us=[a,b,c,d]:=by
 obtain⟨a,r,rfl,k⟩:=lenS (n:=3) h
 obtain⟨b,c,d,rfl⟩:=len3 k
 exact⟨_,_,_,_,rfl⟩
def uShr (i:Nat)(u:US):US:=λ E env n=>match env[i]? with
 | some (some (.o ds))=>u E (env.set i (some (.s (.list ds)))) n
 | _=>u E env n
theorem qX (xs:Array xK):slicePick xs none none (some (-1))=xs.toList.reverse.toArray:=by
 have e0:sliceBounds none none (some (-1)) xs.size=((xs.size:Int) - 1,-1,-1):=rfl
 have e1:sliceRange ((xs.size:Int) - 1) (-1) (-1)=(List.range xs.size).map λ (k:Nat)=>(((xs.size:Nat):Int) - 1+(k:Int) * -1).toNat:=by
  have ec:((if (-1:Int) > 0 then (if (xs.size:Int) - 1 < -1 then (-1 - ((xs.size:Int) - 1) + -1 - 1) / -1 else 0) else (if (xs.size:Int) - 1 > -1 then ((xs.size:Int) - 1 - -1 - -1 - 1) / (- -1) else 0)).toNat)=xs.size:=by
   rw[if_neg (by decide),show (- -1:Int)=1 from rfl,Int.ediv_one]
   split <;> omega
  unfold sliceRange
  simp only[]
  rw[ec]
  apply List.map_congr_left
  intro k _
  congr 1
  omega
 unfold slicePick
 rw[e0]
 simp only[]
 rw[e1,List.filterMap_map]
 exact HT.pick_rev xs
section
variable {X:Cx}{M:Fr}{e:Expr}{ua:UX}{te:TE}{pos p2 p3 p4:Pos}{k':Nat}
def tRevA (K:W.Frag)(te:TE):TE:=λ σ H Q=>te σ H λ x H1=>∃a xs,x=.ref a/\((SqT K H1 a xs/\∀p,H1 p=none->Q (.ref p) (upd H1 p (.tup xs.reverse)))\/(SqL K H1 a xs/\∀p,H1 p=none->Q (.ref p) (upd H1 p (.lst xs.reverse))))
theorem vL (he:QE X e te):QE X (.Subscript e (.Slice none none (some (.UnaryOp .USub (.Constant (.int 1) k' p4) p3)) p2) pos) (tRevA X.K te):=by
 refine⟨λ pins s σ H Q I h=>?_⟩
 have hst:PE X (.UnaryOp .USub (.Constant (.int 1) k' p4) p3) (tUn (rU λ i=>.int (-i)) (tC (.int 1))):=pe_un tI tH
 refine Subscript_ (thn (he.run pins s σ H _ I h) λ v s1 ⟨x,H1,I1,r1,a,xs,ex,hx⟩=>?_)
 subst ex
 cases r1
 refine wpAny_Slice ?_
 rw[evalPart_none]
 refine xN (xN ?_)
 rw[evalPart_some]
 refine thn (hst pins s1 σ H1 (λ z H2=>z=.int (-1)/\H2=H1) I1 ⟨1,rfl,rfl,rfl⟩) λ u s3 ⟨z,H3,I3,r3,ez,eH⟩=>?_
 subst ez eH
 obtain⟨tk,rfl⟩:=r3
 have I4:Inv X pins σ H3 { s3 with heap:=s3.heap.push { cls:=.type "slice",data:=.fields #[.none,.none,.int (-1) tk] } }:=I3.kept (t':=s3.toks) λ b ob q=>xM _ q
 show yb (model X.prog X.w) X.A (subscriptTail e (.Slice none none (some (.UnaryOp .USub (.Constant (.int 1) k' p4) p3)) p2) (.ref a) (.ref s3.heap.objs.size)) (EP X pins σ Q) X.xe { s3 with heap:=s3.heap.push { cls:=.type "slice",data:=.fields #[.none,.none,.int (-1) tk] } }
 rcases hx with⟨hx,q⟩ | ⟨hx,q⟩
 ·obtain⟨its,r,ht,hz⟩:=I4.tuple hx
  refine tail_any (ops:=[.ref a,.ref s3.heap.objs.size]) ht.typeIs PyProof.Rows.slot_tuple_getitem.lookup (HT.getItem_tuple_rev ht (Heap.IsSliceOf.new ..) ?_ (by rw[xU,<- r.length]; exact hz)) (by with_unfolding_all rfl)
  refine⟨.ref _,_,I4.laid (t':=s3.toks) (o:=.tup xs.reverse) (λ b ob q=>xM _ q) (xL _) ?_,rfl,q _ (I4.hok.fresh (xL _))⟩
  exact⟨by rw[List.length_reverse]; exact hz,_,by simpa using r.reverse,TupN.new _ _⟩
 ·obtain⟨its,r,ht,hz⟩:=I4.list hx
  refine tail_any (ops:=[.ref a,.ref s3.heap.objs.size]) ht.isList.typeIs PySem.slot_list_getitem.lookup (wpAny_getItem_list_slice ht.isList (Heap.IsSliceOf.new ..) .none .none (.int (-1) tk) (by simp) ?_ (by rw[xU,<- r.length]; exact hz)) (by with_unfolding_all rfl)
  rw[qX]
  refine⟨.ref _,_,I4.laid (t':=s3.toks) (o:=.lst xs.reverse) (λ b ob q=>xM _ q) (xL _) ?_,rfl,q _ (I4.hok.fresh (xL _))⟩
  exact⟨by rw[List.length_reverse]; exact hz,its.reverse,0,r.reverse,xW _ rfl⟩
def revAD (d:xH):Option xH:=match d with | .tuple ds=>some (.tuple ds.reverse) | .list ds=>some (.list ds.reverse) | _=>none
theorem xl (he:KL X M e ua):KE X M (.Subscript e (.Slice none none (some (.UnaryOp .USub (.Constant (.int 1) k' p4) p3)) p2) pos) (uUn revAD ua) :=
 .of (vL he.run) λ σ H R env pn S n Q ok hu k=>⟨env,pn,S,n,_,ok,hu,λ v H1 d n1 r1 x1 g1 _ q=>by
  obtain⟨d',e,q⟩:=q
  cases d with
  | tuple ds =>
   cases e
   obtain⟨a,xs,rfl,ha,rs⟩:=r1.of_tup
   exact⟨a,xs,rfl,.inl ⟨SqT.of ha,λ p hp=>k _ _ _ n1 (g8 hp rs.reverse) (x1.trans (.new hp)) (M.gext g1 (.new (S:=[]) hp) (by simp)) q⟩⟩
  | list ds =>
   cases e
   obtain⟨a,xs,rfl,ha,rs⟩:=r1.of_lst
   exact⟨a,xs,rfl,.inr ⟨SqL.of ha,λ p hp=>k _ _ _ n1 (jI (ok.step x1 g1).has hp rs.reverse) (x1.trans (.new hp)) (M.gext g1 (.new (S:=[]) hp) (by simp)) q⟩⟩
  | _=>cases e⟩
end
section
variable {prog:yk}{w:World}{A:Around}{E:xK->xO->Prop}{s:xO}
theorem l9 {t:Addr}{vs:List xK}{Q:List xK->xO->Prop}(ht:s.heap.IsTuple t vs.toArray)(hsz:vs.length<=1000)
  (h:∀h1:Heap,(∀b o,s.heap.get? b=some o->h1.get? b=some o)->Q vs { s with heap:=h1 }):yb (model prog w) A (collect (.ref t)) Q E s:=by
 obtain⟨o,ho,hc,n,hd⟩:=id ht
 have h6:xV=16777216:=by decide
 (unfold collect; refine xI (wpAny_runValue (codeAny_builtin entry_proto_collect' ?_)))
 show yb _ _ (newList [] >>= λ z=>again (.builtin "list.__iadd__" ⟨[z,.ref t],[]⟩)) _ _ s
 refine xI (wpAny_newList (xN ⟨Code.quiet_builtin _ (by decide +kernel),codeAny_builtin entry_list_iadd' (?_:yb _ _ _ _ _ _)⟩))
 show yb _ _ (Builtin.List.listExtendWith (.ref s.heap.objs.size) (.ref t) (.ref s.heap.objs.size)) _ _ { s with heap:=s.heap.push (seqObj "list" #[] 0) }
 have g:(s.heap.push (seqObj "list" #[] 0)).get? t=some o:=xM _ ho
 (unfold Builtin.List.listExtendWith; refine xI (wpAny_typeOf (T := "tuple") ⟨o,g,hc⟩ ?_))
 rw[if_pos (by simp)]
 refine xI (listItems_at g hd (xI (listItems_at (xs:=#[]) (n:=0) (xW _ rfl) rfl ?_)))
 rw[if_neg (by simp)]
 refine xI (listUpdate_at (xs:=#[]) (n:=0) (xW _ rfl) rfl (xN ?_) (yY _) (by show (#[]++vs.toArray).size<=xV+1; simp only[Array.size_append,xU,yn]; omega))
 show yb (model prog w) A (load s.heap.objs.size >>= _) Q E { s with heap:=(s.heap.push (seqObj "list" #[] 0)).update s.heap.objs.size (Obj.mapSeq (·++vs.toArray)) }
 refine xI (wpAny_load (get?_update_seq (xW _ rfl) _) ?_)
 show yb _ _ (pure ((#[]:Array xK)++vs.toArray).toList) Q E _
 rw[show ((#[]:Array xK)++vs.toArray).toList=vs by simp]
 refine xN (h _ λ b ob e=>?_)
 rw[xX _ _ (ze (yd e))]
 exact xM _ e
end
section
variable {X:Cx}
theorem k9 (K:W.Frag)(hk:X.K=K:=by rfl):CallR X (.builtin "sorted") (λ xs H Q=>∃(p:Addr) (ns:List Int),xs=[.ref p]/\SqT K H p (ns.map V.int)/\ns.length<64 /\
  ∀(l:Addr) (ms:List Int),ms.Perm ns->ms.Pairwise (·<=·)->H l=none->Q (.ref l) (upd H l (.lst (ms.map V.int)))):=by
 subst hk
 intro pins s σ H xs us Q I r h
 obtain⟨p,ns,rfl,hp,h64,q⟩:=h
 obtain⟨u,rfl,ru⟩:=vals1 r
 cases ru
 obtain⟨its,rv,ht,hz⟩:=I.tuple hp
 have hI:IntsAre its ns:=IntsAre.of_vals rv
 have hal:its.length<64:=by rw[IntsAre.length hI]; exact h64
 refine Calls.call_function_entry kind_sorted plain_sorted entry_sorted (args_sorted1 _) ?_
 (unfold Builtin.«sorted»; refine xI (m:=checkCount "sorted" 1 1 _) (xN ?_))
 refine xI (l9 (A:=X.A.in1) (show s.heap.IsTuple p its.toArray from ht) (by omega) λ h1 hkp=>?_)
 refine xI (wpAny_newList ?_)
 have hoL:(h1.push (seqObj "list" its.toArray 0)).get? h1.objs.size=some (seqObj "list" its.toArray 0):=xW _ rfl
 show yb _ _ _ _ _ { s with heap:=h1.push (seqObj "list" its.toArray 0) }
 refine xI (wpAny_holding (wpAny_call_entry slot_list_sort ⟨_,hoL,rfl⟩ entry_list_sort (list_sort_tree hoL hI hal λ out ns' a1 a2 a3=>⟨_,rfl,?_⟩) (args_list_sort _)))
 refine xN ⟨_,rfl,?_⟩
 have hm:=a2.length_eq
 have hv:Vals (ns'.map V.int) out.toList:=Vals.of_ints a1
 have hsz:(ns'.map V.int).length<=xV:=by rw[xQ,show xV=16777216 by decide]; omega
 have I1:Inv X pins σ H { s with heap:=h1 }:=I.kept (t':=s.toks) hkp
 have kp2:∀b ob,h1.get? b=some ob->(sortedHeap (h1.push (seqObj "list" its.toArray 0)) h1.objs.size its out).get? b=some ob:=by
  intro b ob e
  have hb:h1.objs.size≠b:=ze (yd e)
  unfold sortedHeap
  rw[xX _ _ hb]
  refine xM _ (xM _ ?_)
  rw[xX _ _ hb]
  exact xM _ e
 have nw:∃n,(sortedHeap (h1.push (seqObj "list" its.toArray 0)) h1.objs.size its out).get? h1.objs.size=some { cls:=.type "list",data:=.seq out n }:=by
  have g2:=yo (Obj.mapSeq λ _=>(#[]:Array xK)) hoL rfl
  have g3:=xM (seqObj "list" #[] 0) (xM (seqObj "tuple" its.toArray 0) g2)
  exact⟨_,yo (Obj.mapSeq λ _=>out) g3 rfl⟩
 obtain⟨n,nw⟩:=nw
 exact⟨.ref h1.objs.size,_,I1.laid (t':=s.toks) (o:=.lst (ns'.map V.int)) kp2 (xL _) ⟨hsz,out.toList,n,hv,by simpa using nw⟩,rfl,q _ ns' a2 a3 (I1.hok.fresh (xL _))⟩
end
def uSrtA (u:UX):PEnv->Int->(List xH->Int->Prop)->Prop:=λ env n Q=>u env n λ d n1=>bnd (seqD d) λ ds=>bnd (bo ds) λ ns=>ns.length<64/\Q ((sortI ns).map .int) n1
section
variable {X:Cx}{M:Fr}{e:Expr}{u:UX}{p pos:Pos}
theorem vM (hm:X.mg "sorted" = none)(h:KL X M e u)(hg:Gl X "sorted" := by rfl)(hs:aJ e=true:=by rfl):KN X M (.Call (.Name "sorted" p) [e] [] pos) (uSrtA u) :=
 .of (a8 (show CallR X (.builtin "sorted") _ from λ pins s σ H xs us Q I r (hh:(∃(p:Addr) (ns:List Int),xs=[.ref p]/\(SqL X.K H p (ns.map V.int)\/SqT X.K H p (ns.map V.int))/\ns.length<64/\∀(l:Addr) (ms:List Int),ms.Perm ns->ms.Pairwise (·<=·)->H l=none->Q (.ref l) (upd H l (.lst (ms.map V.int)))))=>by
  obtain⟨p,ns,e1,sq,rest⟩:=hh
  rcases sq with sq | sq
  ·exact dz X.K rfl pins s σ H xs us Q I r ⟨p,ns,e1,sq,rest⟩
  ·exact k9 X.K rfl pins s σ H xs us Q I r ⟨p,ns,e1,sq,rest⟩) hg hm (by decide +kernel) (qa_c h.run aC hs)) λ σ H R env pn S n Q ok hu k=>⟨env,pn,S,n,_,ok,hu,λ v H1 d n1 r1 x1 g1 _ q=>by
  obtain⟨ds,es,ns,ei,hl,q⟩:=q
  have e2:=bW ei
  subst e2
  have fin:∀(l:Addr) (ms:List Int),ms.Perm ns->ms.Pairwise (·<=·)->H1 l=none->R (.ref l) (upd H1 l (.lst (ms.map V.int))):=λ l ms pm ps hl=>by
   have em:ms=sortI ns:=fy (pm.trans (cM ns).symm) ps (cp ns)
   subst em
   exact k l _ _ _ n1 (nr ok x1 g1 hl) af (.ints _) (x1.trans (.new hl)) (M.gext g1 (.new (S:=[]) hl) (by simp)) q
  cases d with
  | list xs =>
   cases es
   obtain⟨a,xs,rfl,sq,_,rs⟩:=r1.sqL (K:=X.K)
   rw[bf rs] at sq
   exact⟨a,ns,rfl,.inl sq,hl,fin⟩
  | tuple xs =>
   cases es
   obtain⟨a,xs,rfl,sq,_,rs⟩:=r1.sqT (K:=X.K)
   rw[bf rs] at sq
   exact⟨a,ns,rfl,.inr sq,hl,fin⟩
  | _=>cases es⟩
end
structure RoomH (k:Nat) (A:Around):Prop where
 dp:A.depth+3 * k+5<recursionLimit
 un:A.units+16 * k+200<cLine
 gd:A.guards=some []
theorem Room.h {k:Nat}{A:Around}(r:Room k A)(v:Option xK):RoomH k (A.mark v):=⟨r.dp,r.un,r.gd⟩
theorem RoomH.mono {j k:Nat}{A:Around}(r:RoomH k A)(h:j<=k):RoomH j A:=⟨by have:=r.dp; omega,by have:=r.un; omega,r.gd⟩
abbrev Cx.low (X:Cx):Cx:={ X with calm:=false,xe:=λ _ _=>False }
structure DefH (P:yk) (w:World) (K:W.Frag) (mg:Str->Option xK) (base:Heap) (k:Nat) (x:Str) (ps:List Str) (sp:Sp):Prop where
 ex:∃(f:Addr) (fd:yM),(∀vs H Q E,sp vs H Q E->vs.length=ps.length)/\(∀(A:Around) (outer:List Env) (s:xO) (H:Hp) (args:Args) (us:List xK) (vs:List V) (Q:VK) (E:XK),RoomH k A->Env0 P w K mg base A outer s H->BindsTo s fd args (ps.zip us)->Vals vs us->sp vs H Q E ->
  codeAny (model P w) A (.call (.ref f) args) (CR CX0 outer P w H s Q E) s)/\mg x=some (.ref f)/\W.keepIn K (.ref f)=true/\Binds K fd ps []
section
variable {P:yk}{w:World}{K:W.Frag}{mg:Str->Option xK}{base:Heap}{k:Nat}{x qual:Str}{st:Stmt}{f:Addr}{fd:yM}{N ps:List Str}{sp:Sp}
theorem Fun.okH (F:Fun K x qual st f fd)(hm:mg x=some (.ref f))(S:FnScope N ps (ac st))(hbi:Binds K fd ps [])(len:∀vs H Q E,sp vs H Q E->vs.length=ps.length)
  (hbody:∀(cdv:xK) (A:Around) (outer:List Env) (s:xO) (H:Hp) (vs:List V) (Q:VK) (E:XK),sp vs H Q E ->
   ∃t,QSs (cxOf CX0 P w K mg base N qual (ac st) f cdv A outer s H E).low (aB st) t/\t { nx:=λ _ H'=>Q .non H',rt:=Q } (start N vs) H):DefH P w K mg base (k+1) x ps sp:=by
 have hkp:=F.kp
 obtain⟨oc,od,kV,doc,pm,an,cdv,ct,osl,rfl,lk,hcd⟩:=F.ex
 refine⟨f,_,len,λ A outer s H args us vs Q E hr e0 hb r hsp=>?_,hm,hkp,hbi⟩
 have hl:=len _ _ _ _ hsp
 have KX:K.In s.heap:=e0.mod.kin.keeps λ b o e=>(e0.bs b o e).1
 have lim:s.heap.NoLimit:=e0.mod.nolimit.keeps λ b o e=>(e0.bs b o e).1
 have hkind:∀y∈ps.zip us,(ac st).names.lookup y.1=some .local\/((ac st).names.lookup y.1=some .cell/\((cellsFrom (s.heap.objs.size+1) (ac st).names []).lookup y.1).isSome=true):=λ ⟨n,v⟩ hy=>by
  rcases S.par n (Ao hy).1 with q | q
  ·exact .inl q
  ·exact .inr ⟨q,W.cellsFrom_some _ _ _ (.inl q)⟩
 refine codeAny_call_function (by have:=hr.dp; omega) (KX _ _ lk) rfl S.co S.gen rfl (W.codeRec_of KX hcd) (hb _ _ _ _ ?_)
 refine wpAny_newFunctionEnv_cells S.kind hkind λ env he s1 x=>?_
 subst he
 refine⟨lim.keeps x.toInCall.keep,codeAny_func ?_⟩
 obtain⟨t,ht,hq⟩:=hbody cdv A outer s H vs Q E hsp
 have I0:Inv (cxOf CX0 P w K mg base N qual (ac st) f cdv { A with handled:=none } outer s H E) [] (start N vs) H s1:=ku S rfl ⟨e0.frames,e0.mod,e0.bs,e0.bsz,e0.funs,e0.frf,e0.hok,e0.bare⟩ hl r x
 have I:Inv (cxOf CX0 P w K mg base N qual (ac st) f cdv A outer s H E).low [] (start N vs) H s1 :=
  ⟨⟨I0.ok.mod,I0.ok.kind,I0.ok.glob,I0.ok.blt,I0.ok.above,I0.ok.inj,I0.ok.has,I0.ok.cab,λ z=>(by cases z),I0.ok.frames,I0.ok.stk,I0.ok.exf,I0.ok.bs,I0.ok.bsz,I0.ok.noex,I0.ok.exfs,I0.ok.funs,I0.ok.frf⟩,I0.os,I0.bare,I0.base,I0.loc,I0.cell,I0.free,I0.freeC,I0.pin,I0.hok,I0.len⟩
 refine y8 (ht.run [] s1 (start N vs) H _ I hq) (λ fl s' hs=>?_) λ e s' hs=>hs.elim
 have fin:∀{σ':St} {H':Hp} {v:V} {u:xK},Inv (cxOf CX0 P w K mg base N qual (ac st) f cdv A outer s H E).low [] σ' H' s'->RelV v u->Q v H'->CE outer P w H s Q u s' :=
  λ {σ' H' v u} J rv q=>⟨v,H',J.os,J.bare,J.base,J.hok,rv,q⟩
 cases fl with
 | ret u =>
  obtain⟨v,σ',H',J,rv,q⟩:=hs
  exact fin J rv q
 | next =>
  obtain⟨σ',H',J,q⟩:=hs
  exact fin (v:=V.non) (u:=xK.none) J rfl q
 | brk =>
  obtain⟨_,_,_,q⟩:=hs
  exact False.elim q
 | cont =>
  obtain⟨_,_,_,q⟩:=hs
  exact False.elim q
end
section
variable {X:Cx}{k:Nat}{x:Str}{ps:List Str}{sp:Sp}{e:Expr}{es:List Expr}{t:TA}{p pos:Pos}
theorem sR (D:DefH X.prog X.w X.K X.mg X.base k x ps sp)(hr:RoomH k X.A)(ha:QA X (e::es) t)(hg:Gl X x:=by rfl)(hdb:(x == ("__debug__" : Str))=false:=by decide):QE X (.Call (.Name x p) (e::es) [] pos) (i9 sp t):=by
 obtain⟨f,fd,len,run,hm,hk,hb⟩:=D.ex
 refine⟨?_⟩
 intro pins s σ H Q I h
 refine wpAny_Call_Name_kw (fo I hg hm ?_ hdb)
 refine W.callWith_K (h₀:=X.base) I.ok.mod.kin hk (thn (ha.run pos pins s σ H _ I h) λ us s1 ⟨vs,H1,I1,r,q⟩=>⟨I1.kIn,?_⟩) (au (ns_hd ha.ns).1) (be (ns_hd ha.ns).2)
 have hl:us.length=ps.length:=by rw[<- r.length]; exact len _ _ _ _ q
 have hbt:=hb s1 us I1.kIn (by rw[y0]; exact hl)
 rw[y0] at hbt
 refine wpAny_call (codeAny_mono (run X.A X.stack s1 H1 ⟨us,[]⟩ us vs Q E0 hr I1.env0 hbt r q) λ r s' hq=>?_)
 cases r with
 | error e=>exact hq.elim
 | ok fl =>
  cases fl with
  | ret u=>exact I1.after hq
  | next=>exact False.elim hq
  | brk=>exact False.elim hq
  | cont=>exact False.elim hq
end
abbrev UE:=Str->List xH->Int->(xH->Int->Prop)->Prop
def spE (C:Xc)(F:UE):Sp:=λ vs H Q E=>∃S c as n Qp a dx ws,vs=[.ref a]/\H a=some (.ext (xfly a (.ref (C.cl c)) (some dx)))/\H dx=some (.ext (xdict dx ((C.fl c).zip ws)))/\Reps S H as ws/\(∀a∈S,H a≠none)/\F c as n Qp/\(∀d v H',Rep S H' d v->Ext [] H H'->Qp d n->Q v H')
def mkE (N:Nat)(u:US):UE:=λ c as n Q=>u { nx:=λ _ n'=>Q .none n',rt:=Q } (some (.x c as)::List.replicate (N - 1) none) n
section
variable {P:yk}{w:World}{K:W.Frag}{mg:Str->Option xK}{base:Heap}{k:Nat}{x qual p1:Str}{st:Stmt}{f:Addr}{fd:yM}{N:List Str}{C:Xc}{u:US}
theorem defE (F:Fun K x qual st f fd)(hm:mg x=some (.ref f))(sc:FnScope N [p1] (ac st))(hb:Binds K fd [p1] [])(hN:1<=N.length)
  (body:∀(cdv:xK) (A:Around) (outer:List Env) (s:xO) (H:Hp) (E:XK) (n0:Int) (S:List Addr) (has:∀a∈S,H a≠none),KSs (cxOf CX0 P w K mg base N qual (ac st) f cdv A outer s H E).low (Fr.pure C n0 S H has) (aB st) u) :
  DefH P w K mg base (k+1) x [p1] (spE C (mkE N.length u)):=by
 refine F.okH hm sc hb (λ vs H Q E h=>?_) (λ cdv A outer s H vs Q E h=>?_)
 ·obtain⟨S,c,as,n,Qp,a,dx,ws,rfl,_⟩:=h
  rfl
 ·obtain⟨S,c,as,n,Qp,a,dx,ws,rfl,ha,hdx,r,has,hF,hq⟩:=h
  obtain⟨m,hm1⟩:∃m,N.length=m+1:=⟨N.length - 1,by omega⟩
  have hst:start N [V.ref a]=some (V.ref a)::List.replicate (N.length - 1) none:=rfl
  refine⟨_,(body cdv A outer s H E n S has).run,some (.x c as)::List.replicate (N.length - 1) none,[],S,n,_,?_,hF,λ env' σ' S' H' n' ok q=>?_,λ v H' d n' rv x g q=>?_⟩
  ·rw[hst]
   refine⟨λ i e h=>?_,λ i j a b c h1=>?_,by simp,(by intro i hi; cases hi),rfl,.refl _ _,λ a h=>h,λ a h=>.inl h,has,λ p hp=>by cases hp⟩
   ·cases i with
    | zero =>
     simp only[ye,Option.some.injEq] at h
     subst h
     exact⟨_,rfl,a,dx,ws,rfl,ha,hdx,r,⟨λ z=>(by cases z),λ z=>(by cases z)⟩⟩
    | succ i =>
     rw[xZ,y7] at h
     split at h <;> cases h
   ·cases i with
    | zero=>cases h1
    | succ i =>
     rw[xZ,y7] at h1
     split at h1 <;> cases h1
  ·have e:n'=n:=ok.gd
   subst e
   exact hq _ _ H' .non ok.ext q
  ·have e:n'=n:=g
   subst e
   exact hq d v H' rv x q
end
def jk (F:UE)(i:Nat):UX:=λ env n Q=>match env[i]? with | some (some (.x c as))=>F c as n Q | _=>False
theorem vN {X:Cx}{M:Fr}{k:Nat}{x p1:Str}{F:UE}{p pos p2:Pos}{C:Xc}(i:Nat){y:Str}(hM:M.xc=C)(D:DefH X.prog X.w X.K X.mg X.base k x [p1] (spE C F))(hr:RoomH k X.A)
  (hN:X.N[i]? = some y:=by rfl) (hv:Vis X.env.scope y:=by first | exact Or.inl rfl | exact Or.inr (Or.inl rfl) | exact Or.inr (Or.inr rfl)) (hd:(y == ("__debug__" : Str))=false:=by decide) (hcd:(y == ("__classdict__" : Str))=false:=by decide)
  (hg:Gl X x:=by rfl) (hdb:(x == ("__debug__" : Str))=false:=by decide):KE X M (.Call (.Name x p) [.Name y p2] [] pos) (jk F i) :=
 .of (sR D hr (qa_c (qv i hN hv hd hcd) aC rfl) hg hdb) λ σ H R env pn S n Q ok hu k=>by
  unfold jk at hu
  split at hu
  ·rename_i c as he
   obtain⟨v,hv,a,dx,vs,rfl,ha,hdx,rv,_⟩:=ok.val i _ he
   subst hM
   exact⟨_,hv,S,c,as,n,Q,a,dx,vs,rfl,ha,hdx,rv,ok.has,hu,λ d v H2 r2 x2 q2=>k v H2 d n r2 (x2.mono (by simp)) (M.gext ok.gd x2 (by simp)) q2⟩
  ·exact hu.elim
abbrev Held (h0 h1:Heap):Prop:=∀b o,h0.get? b=some o->h1.get? b=some o
def CmpIn (prog:yk)(w:World)(A:Around)(h0:Heap)(op:CmpOp)(P:Nat->xK->Prop)(bt:Nat->Nat->Bool):Prop :=
 ∀i j u v (s:xO) (Q:xK->xO->Prop) (E:xK->xO->Prop),Held h0 s.heap->P i u->P j v->Q (.bool (bt i j)) s->yb (model prog w) A (richCompare op u v) Q E s
section
variable {prog:yk}{w:World}{A:Around}{E:xK->xO->Prop}{s:xO}{R:Result->xO->Prop}{it:Addr}{fp wr:List Addr}{n:Nat}{P:Nat->xK->Prop}{St:Nat->Heap->Prop}
theorem xm {h0:Heap}(W:Walks prog w A.in1 it fp wr n P St)(nw:∀b∈wr,h0.get? b=none)(bt:Nat->Nat->Bool)(cmp:CmpIn prog w A.in1 h0 .Lt P bt)(z:Addr)(zf:z ∉ fp)(z0:h0.get? z=none) :
  ∀(m j:Nat) (s:xO) (b:xK) (c:Nat),n=j+1+m->St (j+1) s.heap->P (argBest bt j) b->s.heap.get? z=some { cls:=.type "list",dict:=none,data:=.seq #[b,b] c,slots:=#[] }->Held h0 s.heap ->
  (∀v hh tk,P (argBest bt (n - 1)) v->Held h0 hh->R (.ok (.ret v)) { s with heap:=hh,toks:=tk })->codeAny (model prog w) A (.builtin "min.loop" ⟨[.ref it,.none,.ref z],[]⟩) R s:=by
 have zw:z ∉ wr:=λ y=>zf (W.sub _ y)
 have nm:(toString "min" ++ toString ".loop" : String) = "min.loop" := by decide
 have upd0:∀{hh:Heap} {f:Obj->Obj},Held h0 hh->Held h0 (hh.update z f):=λ {hh f} k x o e=>(xX _ _ (λ q:z=x=>by rw[<- q,z0] at e; cases e)).trans (k x o e)
 intro m
 induction m with
 | zero =>
  intro j s b c en st pb gz kp fin
  refine codeAny_builtin F.entry_min_loop ?_
  rw[Around.under_plainId F.plain_min_loop _]
  refine xI (m:=seqItems? (.ref z)) (wpAny_seqItems gz rfl ?_)
  refine xI (m:=tryCatch (pyNext (.ref it)) _) (wpAny_tryCatch (W.done s _ _ (by rw[en]; exact st) λ h1 t1 k1=>?_))
  have k2:Held h0 h1:=λ x o e=>k1 x o (λ y=>by rw[nw x y] at e; cases e) (kp x o e)
  refine xI (m:=updateSeq z λ _=>#[]) (wpAny_updateSeq (k1 z _ zw gz) rfl (xI (wpAny_letGo (xN (fin b _ t1 (by rw[en]; exact pb) (upd0 k2))))))
 | succ m ih =>
  intro j s b c en st pb gz kp fin
  refine codeAny_builtin F.entry_min_loop ?_
  rw[Around.under_plainId F.plain_min_loop _]
  refine xI (m:=seqItems? (.ref z)) (wpAny_seqItems gz rfl ?_)
  refine xI (m:=tryCatch (pyNext (.ref it)) _) (wpAny_tryCatch (W.item (j+1) s _ _ (by omega) st λ v h1 t1 pv st1 k1=>?_))
  have k2:Held h0 h1:=λ x o e=>k1 x o (λ y=>by rw[nw x y] at e; cases e) (kp x o e)
  have g1:=k1 z _ zw gz
  refine xI (m:=tryCatch (holding [v,v] (richCompare .Lt v b >>= _)) _) (wpAny_tryCatch (wpAny_holding (xI (cmp (j+1) (argBest bt j) v b _ _ _ k2 pv pb (xI (wpAny_holding (wpAny_truthy_bool (xI (wpAny_letGo (xN ?_))))))))))
  cases eb:bt (j+1) (argBest bt j) with
  | true =>
   rw[if_pos rfl]
   refine xI (wpAny_updateSeq g1 rfl (xI (wpAny_letGo ?_)))
   rw[nm]
   exact xN ⟨plainId_quiet F.plain_min_loop _,ih (j+1) _ v _ (by omega) (W.frame _ _ _ st1 λ x xf o e=>(xX _ _ (λ q:z=x=>zf (by rw[q]; exact xf))).trans e) (by simp only[argBest,eb,if_true]; exact pv) (yo _ g1 rfl) (upd0 k2) λ v' h2 t2 p2 k3=>fin v' h2 t2 p2 k3⟩
  | false =>
   rw[if_neg (by decide)]
   refine xI (wpAny_letGo ?_)
   rw[nm]
   exact xN ⟨plainId_quiet F.plain_min_loop _,ih (j+1) _ b c (by omega) st1 (by simp only[argBest,eb,yt,if_false]; exact pb) g1 k2 λ v' h2 t2 p2 k3=>fin v' h2 t2 p2 k3⟩
theorem xn {l:Addr}{vs:Array xK}{bt:Nat->Nat->Bool}{Q:xK->xO->Prop}(hh:A.handled=none)(gl:s.heap.IsList l vs)(ne:0<vs.size)(cmp:CmpIn prog w A.in1 s.heap .Lt (λ i v=>vs[i]? = some v) bt)
  (fin:∀v h1 tk,vs[argBest bt (vs.size - 1)]? = some v->Held s.heap h1->Q v { s with heap:=h1,toks:=tk }):yb (model prog w) A (call (.builtin "min") [.ref l]) Q E s:=by
 have nm:(toString "min" ++ toString ".loop" : String) = "min.loop" := by decide
 have ll:l<s.heap.objs.size:=let ⟨_,e,_⟩:=gl; yd e
 refine call_function_tree F.kind_min F.plain_min F.entry_min (F.args_min1 _) ?_
 refine xI (m:=Builtin.Builtins.bindParams "min" ["key", "default"] 0 ⟨[],[]⟩) (wpAny_of_eq (show _=pure [none,none] from rfl) (xI (xN (xI ?_))))
 refine wpAny_pyIter_list gl (xI (yF ?_))
 rw[nm]
 have W:=Walks.list (prog:=prog) (w:=w) (A:=A.in1) hh s.heap.objs.size l (yu ll) vs
 have no:∀k,s.heap.get? (s.heap.objs.size+k)=none:=λ k=>by simp[Heap.get?]
 have gi:(s.heap.push { cls:=.type "list_iterator",data:=.fields #[.ref l,.int 0 0] }).IsListIter s.heap.objs.size l 0:=⟨_,xW _ rfl,rfl,rfl⟩
 have sz:(s.heap.push { cls:=.type "list_iterator",data:=.fields #[.ref l,.int 0 0] }).objs.size=s.heap.objs.size+1:=y9 ..
 have held1:Held s.heap (s.heap.push { cls:=.type "list_iterator",data:=.fields #[.ref l,.int 0 0] }):=λ b o e=>xM _ e
 have st0:(s.heap.push { cls:=.type "list_iterator",data:=.fields #[.ref l,.int 0 0] }).IsList l vs:=gl.push _
 show yb _ _ _ _ _ { s with heap:=(s.heap.push { cls:=.type "list_iterator",data:=.fields #[.ref l,.int 0 0] }).push { cls:=.type "list",data:=.seq #[] 0 } }
 generalize s.heap.push { cls:=.type "list_iterator",data:=.fields #[.ref l,.int 0 0] }=h1 at gi sz held1 st0 ⊢
 have gz:(h1.push { cls:=.type "list",data:=.seq #[] 0 }).get? h1.objs.size=some { cls:=.type "list",data:=.seq #[] 0 }:=xW _ rfl
 have held2:Held h1 (h1.push { cls:=.type "list",data:=.seq #[] 0 }):=λ b o e=>xM _ e
 have zf:h1.objs.size ∉ [s.heap.objs.size,l]:=by
  rw[sz]
  simp only[xR,yE,or_false,not_or]
  exact⟨Aj _,ze (zG ll)⟩
 have zw:h1.objs.size ∉ [s.heap.objs.size]:=λ y=>zf (W.sub _ y)
 refine xN ⟨plainId_quiet F.plain_min_loop _,codeAny_builtin F.entry_min_loop ?_⟩
 rw[Around.under_plainId F.plain_min_loop _]
 refine xI (m:=seqItems? (.ref h1.objs.size)) (wpAny_seqItems gz rfl ?_)
 refine xI (m:=tryCatch (pyNext (.ref s.heap.objs.size)) _) (wpAny_tryCatch (W.item 0 _ _ _ ne (W.frame _ _ _ ⟨gi,st0⟩ λ b _ o e=>held2 b o e) λ v h3 t3 pv st3 k3=>?_))
 have g3:=k3 _ _ zw gz
 have held3:Held s.heap h3:=λ b o e=>k3 b o (λ y=>by rw[yh.mp y,<- Nat.add_zero s.heap.objs.size,no] at e; cases e) (held2 b o (held1 b o e))
 refine xI (m:=updateSeq h1.objs.size λ _=>#[v,v]) (wpAny_updateSeq g3 rfl ?_)
 rw[nm]
 refine xN ⟨plainId_quiet F.plain_min_loop _,xm W (λ b hb=>by rw[yh.mp hb,<- Nat.add_zero s.heap.objs.size]; exact no 0) bt cmp h1.objs.size zf (by rw[sz]; exact no 1) (vs.size - 1) 0 _ v _ (by omega) (W.frame _ _ _ st3 λ x xf o e=>(xX _ _ (λ q:h1.objs.size=x=>zf (by rw[q]; exact xf))).trans e) pv (yo _ g3 rfl) (λ x o e=>(xX _ _ (λ q:h1.objs.size=x=>by rw[<- q,sz,no] at e; cases e)).trans (held3 x o e)) λ v' h4 t4 p4 k4=>fin v' h4 t4 p4 k4⟩
theorem xo {h0:Heap}(W:Walks prog w A.in1 it fp wr n P St)(nw:∀b∈wr,h0.get? b=none)(bt:Nat->Nat->Bool)(cmp:CmpIn prog w A.in1 h0 .Gt P bt)(z:Addr)(zf:z ∉ fp)(z0:h0.get? z=none) :
  ∀(m j:Nat) (s:xO) (b:xK) (c:Nat),n=j+1+m->St (j+1) s.heap->P (argBest bt j) b->s.heap.get? z=some { cls:=.type "list",dict:=none,data:=.seq #[b,b] c,slots:=#[] }->Held h0 s.heap ->
  (∀v hh tk,P (argBest bt (n - 1)) v->Held h0 hh->R (.ok (.ret v)) { s with heap:=hh,toks:=tk })->codeAny (model prog w) A (.builtin "max.loop" ⟨[.ref it,.none,.ref z],[]⟩) R s:=by
 have zw:z ∉ wr:=λ y=>zf (W.sub _ y)
 have nm:(toString "max" ++ toString ".loop" : String) = "max.loop" := by decide
 have upd0:∀{hh:Heap} {f:Obj->Obj},Held h0 hh->Held h0 (hh.update z f):=λ {hh f} k x o e=>(xX _ _ (λ q:z=x=>by rw[<- q,z0] at e; cases e)).trans (k x o e)
 intro m
 induction m with
 | zero =>
  intro j s b c en st pb gz kp fin
  refine codeAny_builtin F.entry_max_loop ?_
  rw[Around.under_plainId F.plain_max_loop _]
  refine xI (m:=seqItems? (.ref z)) (wpAny_seqItems gz rfl ?_)
  refine xI (m:=tryCatch (pyNext (.ref it)) _) (wpAny_tryCatch (W.done s _ _ (by rw[en]; exact st) λ h1 t1 k1=>?_))
  have k2:Held h0 h1:=λ x o e=>k1 x o (λ y=>by rw[nw x y] at e; cases e) (kp x o e)
  refine xI (m:=updateSeq z λ _=>#[]) (wpAny_updateSeq (k1 z _ zw gz) rfl (xI (wpAny_letGo (xN (fin b _ t1 (by rw[en]; exact pb) (upd0 k2))))))
 | succ m ih =>
  intro j s b c en st pb gz kp fin
  refine codeAny_builtin F.entry_max_loop ?_
  rw[Around.under_plainId F.plain_max_loop _]
  refine xI (m:=seqItems? (.ref z)) (wpAny_seqItems gz rfl ?_)
  refine xI (m:=tryCatch (pyNext (.ref it)) _) (wpAny_tryCatch (W.item (j+1) s _ _ (by omega) st λ v h1 t1 pv st1 k1=>?_))
  have k2:Held h0 h1:=λ x o e=>k1 x o (λ y=>by rw[nw x y] at e; cases e) (kp x o e)
  have g1:=k1 z _ zw gz
  refine xI (m:=tryCatch (holding [v,v] (richCompare .Gt v b >>= _)) _) (wpAny_tryCatch (wpAny_holding (xI (cmp (j+1) (argBest bt j) v b _ _ _ k2 pv pb (xI (wpAny_holding (wpAny_truthy_bool (xI (wpAny_letGo (xN ?_))))))))))
  cases eb:bt (j+1) (argBest bt j) with
  | true =>
   rw[if_pos rfl]
   refine xI (wpAny_updateSeq g1 rfl (xI (wpAny_letGo ?_)))
   rw[nm]
   exact xN ⟨plainId_quiet F.plain_max_loop _,ih (j+1) _ v _ (by omega) (W.frame _ _ _ st1 λ x xf o e=>(xX _ _ (λ q:z=x=>zf (by rw[q]; exact xf))).trans e) (by simp only[argBest,eb,if_true]; exact pv) (yo _ g1 rfl) (upd0 k2) λ v' h2 t2 p2 k3=>fin v' h2 t2 p2 k3⟩
  | false =>
   rw[if_neg (by decide)]
   refine xI (wpAny_letGo ?_)
   rw[nm]
   exact xN ⟨plainId_quiet F.plain_max_loop _,ih (j+1) _ b c (by omega) st1 (by simp only[argBest,eb,yt,if_false]; exact pb) g1 k2 λ v' h2 t2 p2 k3=>fin v' h2 t2 p2 k3⟩
theorem xp {l:Addr}{vs:Array xK}{bt:Nat->Nat->Bool}{Q:xK->xO->Prop}(hh:A.handled=none)(gl:s.heap.IsList l vs)(ne:0<vs.size)(cmp:CmpIn prog w A.in1 s.heap .Gt (λ i v=>vs[i]? = some v) bt)
  (fin:∀v h1 tk,vs[argBest bt (vs.size - 1)]? = some v->Held s.heap h1->Q v { s with heap:=h1,toks:=tk }):yb (model prog w) A (call (.builtin "max") [.ref l]) Q E s:=by
 have nm:(toString "max" ++ toString ".loop" : String) = "max.loop" := by decide
 have ll:l<s.heap.objs.size:=let ⟨_,e,_⟩:=gl; yd e
 refine call_function_tree F.kind_max F.plain_max F.entry_max (F.args_max1 _) ?_
 refine xI (m:=Builtin.Builtins.bindParams "max" ["key", "default"] 0 ⟨[],[]⟩) (wpAny_of_eq (show _=pure [none,none] from rfl) (xI (xN (xI ?_))))
 refine wpAny_pyIter_list gl (xI (yF ?_))
 rw[nm]
 have W:=Walks.list (prog:=prog) (w:=w) (A:=A.in1) hh s.heap.objs.size l (yu ll) vs
 have no:∀k,s.heap.get? (s.heap.objs.size+k)=none:=λ k=>by simp[Heap.get?]
 have gi:(s.heap.push { cls:=.type "list_iterator",data:=.fields #[.ref l,.int 0 0] }).IsListIter s.heap.objs.size l 0:=⟨_,xW _ rfl,rfl,rfl⟩
 have sz:(s.heap.push { cls:=.type "list_iterator",data:=.fields #[.ref l,.int 0 0] }).objs.size=s.heap.objs.size+1:=y9 ..
 have held1:Held s.heap (s.heap.push { cls:=.type "list_iterator",data:=.fields #[.ref l,.int 0 0] }):=λ b o e=>xM _ e
 have st0:(s.heap.push { cls:=.type "list_iterator",data:=.fields #[.ref l,.int 0 0] }).IsList l vs:=gl.push _
 show yb _ _ _ _ _ { s with heap:=(s.heap.push { cls:=.type "list_iterator",data:=.fields #[.ref l,.int 0 0] }).push { cls:=.type "list",data:=.seq #[] 0 } }
 generalize s.heap.push { cls:=.type "list_iterator",data:=.fields #[.ref l,.int 0 0] }=h1 at gi sz held1 st0 ⊢
 have gz:(h1.push { cls:=.type "list",data:=.seq #[] 0 }).get? h1.objs.size=some { cls:=.type "list",data:=.seq #[] 0 }:=xW _ rfl
 have held2:Held h1 (h1.push { cls:=.type "list",data:=.seq #[] 0 }):=λ b o e=>xM _ e
 have zf:h1.objs.size ∉ [s.heap.objs.size,l]:=by
  rw[sz]
  simp only[xR,yE,or_false,not_or]
  exact⟨Aj _,ze (zG ll)⟩
 have zw:h1.objs.size ∉ [s.heap.objs.size]:=λ y=>zf (W.sub _ y)
 refine xN ⟨plainId_quiet F.plain_max_loop _,codeAny_builtin F.entry_max_loop ?_⟩
 rw[Around.under_plainId F.plain_max_loop _]
 refine xI (m:=seqItems? (.ref h1.objs.size)) (wpAny_seqItems gz rfl ?_)
 refine xI (m:=tryCatch (pyNext (.ref s.heap.objs.size)) _) (wpAny_tryCatch (W.item 0 _ _ _ ne (W.frame _ _ _ ⟨gi,st0⟩ λ b _ o e=>held2 b o e) λ v h3 t3 pv st3 k3=>?_))
 have g3:=k3 _ _ zw gz
 have held3:Held s.heap h3:=λ b o e=>k3 b o (λ y=>by rw[yh.mp y,<- Nat.add_zero s.heap.objs.size,no] at e; cases e) (held2 b o (held1 b o e))
 refine xI (m:=updateSeq h1.objs.size λ _=>#[v,v]) (wpAny_updateSeq g3 rfl ?_)
 rw[nm]
 refine xN ⟨plainId_quiet F.plain_max_loop _,xo W (λ b hb=>by rw[yh.mp hb,<- Nat.add_zero s.heap.objs.size]; exact no 0) bt cmp h1.objs.size zf (by rw[sz]; exact no 1) (vs.size - 1) 0 _ v _ (by omega) (W.frame _ _ _ st3 λ x xf o e=>(xX _ _ (λ q:h1.objs.size=x=>zf (by rw[q]; exact xf))).trans e) pv (yo _ g3 rfl) (λ x o e=>(xX _ _ (λ q:h1.objs.size=x=>by rw[<- q,sz,no] at e; cases e)).trans (held3 x o e)) λ v' h4 t4 p4 k4=>fin v' h4 t4 p4 k4⟩
end
def CmAt (op:CmpOp)(A:Around)(s:xO)(y x:xK)(b:Bool):Prop :=
 ∀(prog:yk) (w:World) (E:xK->xO->Prop) (Q:xK->xO->Prop),Q (.bool b) s->yb (model prog w) A (richCompare op y x) Q E s
def lexG (e f:Nat->Bool)(fin:Bool):List Nat->Bool
 | []=>fin
 | i::r=>if e i then lexG e f fin r else f i
mutual
def cmpv (g:Bool):xH->xH->Option Bool
 | .int i,.int j=>some (if g then decide (j<i) else decide (i<j))
 | .tuple xs,.tuple ys=>cmpvs g xs ys
 | _,_=>none
def cmpvs (g:Bool):List xH->List xH->Option Bool
 | [],[]=>some false
 | [],_::_=>some (!g)
 | _::_,[]=>some g
 | x::xs,y::ys=>if xH.eqv x y then cmpvs g xs ys else cmpv g x y
end
theorem ii {g:Bool}:∀(xs ys:List xH) (j:Nat) (r:Bool),cmpvs g xs ys=some r->j<xs.length->j<ys.length->(∀i<j,SeqAt.pairEq xs ys i=true)->SeqAt.pairEq xs ys j=false->∃q,cmpv g (xs.getD j .none) (ys.getD j .none)=some q
 | [],_,_,_,_,h,_,_,_=>absurd h (Nat.not_lt_zero _)
 | _::_,[],_,_,_,_,h,_,_=>absurd h (Nat.not_lt_zero _)
 | x::xs,y::ys,j,r,e,h1,h2,al,hj=>by
  rw[cmpvs] at e
  cases j with
  | zero =>
   have:xH.eqv x y=false:=hj
   rw[this,if_neg (by decide)] at e
   exact⟨r,e⟩
  | succ j =>
   have:xH.eqv x y=true:=al 0 (Nat.succ_pos _)
   rw[this,if_pos rfl] at e
   exact ii xs ys j r e (zy h1) (zy h2) (λ i hi=>al (i+1) (Nat.succ_lt_succ hi)) hj
theorem cT {h:Heap}:∀{vs:List xK} {xs:List xH} {as:List Addr},ReadsAll h vs xs as->∀{j:Nat} (hj:j<vs.length),∃bs,Reads h vs[j] (xs.getD j .none) bs
 | _::_,_::_,_,.cons r rs,j,hj=>by
  cases j with
  | zero=>exact⟨_,r⟩
  | succ j=>exact cT rs (zy hj)
theorem jQ:∀{xs:List xH} {j:Nat},j<xs.length->(xs.getD j .none).depth<=xH.depthAll xs
 | x::xs,0,_=>by simp only[xH.depthAll,List.getD_cons_zero]; omega
 | x::xs,j+1,h=>by
  have:=jQ (xs:=xs) (j:=j) (zy h)
  simp only[xH.depthAll,List.getD_cons_succ]
  omega
theorem lc:∀{xs:List xH} {j:Nat},xH.canLayAll0 xs=true->j<xs.length->(xs.getD j .none).canLay0=true
 | x::xs,0,h,_=>by simp only[xH.canLayAll0,yD] at h; exact h.1
 | x::xs,j+1,h,hj=>by simp only[xH.canLayAll0,yD] at h; exact lc (xs:=xs) (j:=j) h.2 (zy hj)
theorem ij (e f:Nat->Bool)(fin:Bool):∀l:List Nat,lexG e f fin (l.map (· + 1))=lexG (λ i=>e (i+1)) (λ i=>f (i+1)) fin l
 | []=>rfl
 | i::l=>by rw[xY,lexG,lexG,ij e f fin l]
theorem xq (l b:Addr)(xs ys:Array xK)(n m:Nat)(d1 d2:Option Addr)(s1 s2:Array (Option xK))(e f:Nat->Bool) :
  Meets (Builtin.«tuple.__lt__» ⟨[.ref l,.ref b],[]⟩) (λ A R s=>s.heap.get? l=some { cls:=.type "tuple",dict:=d1,data:=.seq xs n,slots:=s1 }/\s.heap.get? b=some { cls:=.type "tuple",dict:=d2,data:=.seq ys m,slots:=s2 } /\
    (∀j (h1:j<xs.size) (h2:j<ys.size),SeqAt.EqAt A.in1 s xs[j] ys[j] (e j))/\(∀j (h1:j<xs.size) (h2:j<ys.size),(∀i<j,e i=true)->e j=false->CmAt .Lt A.in1 s xs[j] ys[j] (f j)) /\
    R (.ok (.ret (.bool (lexG e f (decide (xs.size<ys.size)) (List.range (min xs.size ys.size)))))) s) :=
 .of_wp λ prog w A R s h=>by
  obtain⟨hp,g,d,tk,os⟩:=s
  obtain⟨gl,gb,he,hf,h⟩:=h
  have sub:=AutoSeq1.sub_tuple_tuple
  have zl:(xs.toList.zip ys.toList).length=min xs.size ys.size:=by simp
  wp_walk using AutoSeq1.wpAny_loadPart' gl,AutoSeq1.wpAny_loadPart' gb,wpAny_forIn_list _ (λ left b s'=>b.1=none/\s'=⟨hp,g,d,tk,os⟩/\∃i,left=(xs.toList.zip ys.toList).drop i/\(∀k<i,e k=true)/\R (.ok (.ret (.bool (lexG e f (decide (xs.size<ys.size)) ((List.range (min xs.size ys.size)).drop i))))) ⟨hp,g,d,tk,os⟩) _
  case turn =>
   rintro⟨y,x⟩ left b s' ⟨nb,rfl,i,ez,al,rr⟩
   have il:i<(xs.toList.zip ys.toList).length:=Nat.lt_of_not_le λ q=>by rw[zb q] at ez; cases ez
   have im:i<min xs.size ys.size:=zl ▸ il
   have i1:i<xs.size:=by omega
   have i2:i<ys.size:=by omega
   rw[yX il] at ez
   injection ez with ep er
   obtain rfl:y=xs[i]:=by simpa using congrArg Prod.fst ep
   obtain rfl:x=ys[i]:=by simpa using congrArg Prod.snd ep
   rw[show (List.range (min xs.size ys.size)).drop i=i::(List.range (min xs.size ys.size)).drop (i+1) by simp[yX,im],lexG] at rr
   refine xI (he i i1 i2 prog w _ _ ?_)
   cases ei:e i with
   | true =>
    rw[ei,if_pos rfl] at rr
    wp_walk
    exact⟨rfl,rfl,i+1,er,λ k hk=>(zF k i).elim (al k) λ q=>by rw[show k=i by omega]; exact ei,rr⟩
   | false =>
    rw[ei,if_neg (by decide)] at rr
    have hc:=hf i i1 i2 al ei prog w
    wp_walk using hc _ _
    exact⟨_,rfl,by simpa using rr⟩
  case fin =>
   rintro⟨b1,b2⟩ s' ⟨nb,rfl,i,ez,_,rr⟩
   simp only at nb
   subst nb
   have ge:min xs.size ys.size<=i:=Nat.le_of_not_lt λ q=>by rw[yX (zl.symm ▸ q)] at ez; cases ez
   rw[zb (by simpa using ge),lexG] at rr
   wp_walk
   exact⟨_,rfl,by simpa [Builtin.Tuple.tupleCompareSizes] using rr⟩
  case h=>exact⟨rfl,rfl,0,by simp,by simp,by simpa using h⟩
theorem CmAt.tups_lt {A:Around}{s:xO}{l b:Addr}{xs ys:Array xK}{e f:Nat->Bool}(hl:s.heap.IsTuple l xs)(hb:s.heap.IsTuple b ys)(hu:A.units<cLine)(he:∀j (h1:j<xs.size) (h2:j<ys.size),SeqAt.EqAt A.in1 s xs[j] ys[j] (e j))
  (hf:∀j (h1:j<xs.size) (h2:j<ys.size),(∀i<j,e i=true)->e j=false->CmAt .Lt A.in1 s xs[j] ys[j] (f j)):CmAt .Lt A s (.ref l) (.ref b) (lexG e f (decide (xs.size<ys.size)) (List.range (min xs.size ys.size))):=λ prog w E Q h=>by
 obtain⟨⟨c1,d1,data,s1⟩,ho,hc,n,hd⟩:=id hl
 obtain⟨⟨c2,d2,data2,s2⟩,ho2,hc2,n2,hd2⟩:=id hb
 simp only at hc hd hc2 hd2
 subst hc hd hc2 hd2
 exact richCompare_meets_room (op:=.Lt) ⟨_,ho,rfl⟩ ⟨_,ho2,rfl⟩ F.slot_tuple_lt F.entry_tuple_lt (F.args_tuple_lt_2 _ _) (xq l b xs ys n n2 d1 d2 s1 s2 e f) ⟨ho,ho2,he,hf,show xK.bool _≠xK.notImplemented/\Q (.bool _) s from ⟨(λ x=>nomatch x),h⟩⟩ hu
theorem uq:∀(xs ys:List xH) (r:Bool),cmpvs false xs ys=some r->lexG (SeqAt.pairEq xs ys) (λ j=>(cmpv false (xs.getD j .none) (ys.getD j .none)).getD false) (decide (xs.length<ys.length)) (List.range (min xs.length ys.length))=r
 | [],[],r,e=>by cases e; rfl
 | [],y::ys,r,e=>by cases e; simp[lexG]
 | x::xs,[],r,e=>by cases e; simp[lexG]
 | x::xs,y::ys,r,e=>by
  rw[cmpvs] at e
  rw[xP,xP,Nat.succ_min_succ,Al,lexG]
  cases q:xH.eqv x y with
  | true =>
   rw[q,if_pos rfl] at e
   rw[if_pos (show SeqAt.pairEq (x::xs) (y::ys) 0=true from q)]
   have:=uq xs ys r e
   rw[show List.map Nat.succ=List.map (· + 1) from rfl,ij,show decide (xs.length+1<ys.length+1)=decide (xs.length<ys.length) by simp]
   exact this
  | false =>
   rw[q,if_neg (by decide)] at e
   rw[if_neg (by rw[show SeqAt.pairEq (x::xs) (y::ys) 0=false from q]; decide)]
   simp only[List.getD_cons_zero,e,Option.getD_some]
theorem rc_lt:∀(N:Nat) (da db:xH) (r:Bool) (A:Around) (s:xO) (a b:xK) (as bs:List Addr),da.depth<=N->Reads s.heap a da as->Reads s.heap b db bs->da.canLay0=true->db.canLay0=true->A.units+N<cLine->cmpv false da db=some r->CmAt .Lt A s a b r:=by
 intro N
 induction N with
 | zero =>
  intro da db r A s a b as bs hN ra rb ha hb hu e
  cases ra with
  | int i t =>
   cases rb with
   | int j u =>
    cases e
    exact λ prog w E Q h=>richCompare_gives (op:=.Lt) (typeIs_int s _ t) (typeIs_int s _ u) F.slot_int_lt F.entry_int_lt (F.args_int_lt_2 _ _) (gives_int_lt _ _ t u) (λ x=>nomatch x) h
   | _=>simp[cmpv] at e
  | tuple=>simp[xH.depth] at hN
  | _=>simp[cmpv] at e
 | succ N ih =>
  intro da db r A s a b as bs hN ra rb ha hb hu e
  cases ra with
  | int i t =>
   cases rb with
   | int j u =>
    cases e
    exact λ prog w E Q h=>richCompare_gives (op:=.Lt) (typeIs_int s _ t) (typeIs_int s _ u) F.slot_int_lt F.entry_int_lt (F.args_int_lt_2 _ _) (gives_int_lt _ _ t u) (λ x=>nomatch x) h
   | _=>simp[cmpv] at e
  | @tuple l o vs n xs as₁ h1 h2 h3 h4 =>
   cases rb with
   | @tuple l' o' ws n' ys bs₁ k1 k2 k3 k4 =>
    have n1:vs.size=xs.length:=by simpa using SeqAt.ReadsAll.length _ _ _ h4
    have n2:ws.size=ys.length:=by simpa using SeqAt.ReadsAll.length _ _ _ k4
    simp only[xH.depth] at hN
    simp only[cmpv] at e
    have he:∀j (j1:j<vs.size) (j2:j<ws.size),SeqAt.EqAt A.in1 s vs[j] ws[j] (SeqAt.pairEq xs ys j):=λ j j1 j2=>by
     have hu':A.in1.units+min (xH.depthAll xs) (xH.depthAll ys)<cLine:=by show A.units+1+_<_; omega
     have q:=SeqAt.eqAt_readsAll xs ys A.in1 s vs.toList ws.toList _ _ h4 k4 ha hb hu' j (by simpa using j1) (by simpa using j2)
     rw[zk,zk] at q
     exact q
    have hf:∀j (j1:j<vs.size) (j2:j<ws.size),(∀i<j,SeqAt.pairEq xs ys i=true)->SeqAt.pairEq xs ys j=false->CmAt .Lt A.in1 s vs[j] ws[j] ((cmpv false (xs.getD j .none) (ys.getD j .none)).getD false):=λ j j1 j2 al hj=>by
     obtain⟨q,hq⟩:=ii xs ys j r e (by omega) (by omega) al hj
     obtain⟨as2,r1⟩:=cT h4 (j:=j) (by simpa using j1)
     obtain⟨bs2,r2⟩:=cT k4 (j:=j) (by simpa using j2)
     rw[hq]
     have d1:=jQ (xs:=xs) (j:=j) (by omega)
     have q2:=ih _ _ q A.in1 s _ _ as2 bs2 (by omega) r1 r2 (lc ha (by omega)) (lc hb (by omega)) (by show A.units+1+_<_; omega) hq
     rw[zk,zk] at q2
     exact q2
    have:=CmAt.tups_lt ⟨_,h1,h2,_,h3⟩ ⟨_,k1,k2,_,k3⟩ (show A.units<cLine by omega) he hf
    rw[n1,n2,uq xs ys r e] at this
    exact this
   | _=>simp[cmpv] at e
  | _=>simp[cmpv] at e
theorem xr (l b:Addr)(xs ys:Array xK)(n m:Nat)(d1 d2:Option Addr)(s1 s2:Array (Option xK))(e f:Nat->Bool) :
  Meets (Builtin.«tuple.__gt__» ⟨[.ref l,.ref b],[]⟩) (λ A R s=>s.heap.get? l=some { cls:=.type "tuple",dict:=d1,data:=.seq xs n,slots:=s1 }/\s.heap.get? b=some { cls:=.type "tuple",dict:=d2,data:=.seq ys m,slots:=s2 } /\
    (∀j (h1:j<xs.size) (h2:j<ys.size),SeqAt.EqAt A.in1 s xs[j] ys[j] (e j))/\(∀j (h1:j<xs.size) (h2:j<ys.size),(∀i<j,e i=true)->e j=false->CmAt .Gt A.in1 s xs[j] ys[j] (f j)) /\
    R (.ok (.ret (.bool (lexG e f (decide (xs.size > ys.size)) (List.range (min xs.size ys.size)))))) s) :=
 .of_wp λ prog w A R s h=>by
  obtain⟨hp,g,d,tk,os⟩:=s
  obtain⟨gl,gb,he,hf,h⟩:=h
  have sub:=AutoSeq1.sub_tuple_tuple
  have zl:(xs.toList.zip ys.toList).length=min xs.size ys.size:=by simp
  wp_walk using AutoSeq1.wpAny_loadPart' gl,AutoSeq1.wpAny_loadPart' gb,wpAny_forIn_list _ (λ left b s'=>b.1=none/\s'=⟨hp,g,d,tk,os⟩/\∃i,left=(xs.toList.zip ys.toList).drop i/\(∀k<i,e k=true)/\R (.ok (.ret (.bool (lexG e f (decide (xs.size > ys.size)) ((List.range (min xs.size ys.size)).drop i))))) ⟨hp,g,d,tk,os⟩) _
  case turn =>
   rintro⟨y,x⟩ left b s' ⟨nb,rfl,i,ez,al,rr⟩
   have il:i<(xs.toList.zip ys.toList).length:=Nat.lt_of_not_le λ q=>by rw[zb q] at ez; cases ez
   have im:i<min xs.size ys.size:=zl ▸ il
   have i1:i<xs.size:=by omega
   have i2:i<ys.size:=by omega
   rw[yX il] at ez
   injection ez with ep er
   obtain rfl:y=xs[i]:=by simpa using congrArg Prod.fst ep
   obtain rfl:x=ys[i]:=by simpa using congrArg Prod.snd ep
   rw[show (List.range (min xs.size ys.size)).drop i=i::(List.range (min xs.size ys.size)).drop (i+1) by simp[yX,im],lexG] at rr
   refine xI (he i i1 i2 prog w _ _ ?_)
   cases ei:e i with
   | true =>
    rw[ei,if_pos rfl] at rr
    wp_walk
    exact⟨rfl,rfl,i+1,er,λ k hk=>(zF k i).elim (al k) λ q=>by rw[show k=i by omega]; exact ei,rr⟩
   | false =>
    rw[ei,if_neg (by decide)] at rr
    have hc:=hf i i1 i2 al ei prog w
    wp_walk using hc _ _
    exact⟨_,rfl,by simpa using rr⟩
  case fin =>
   rintro⟨b1,b2⟩ s' ⟨nb,rfl,i,ez,_,rr⟩
   simp only at nb
   subst nb
   have ge:min xs.size ys.size<=i:=Nat.le_of_not_lt λ q=>by rw[yX (zl.symm ▸ q)] at ez; cases ez
   rw[zb (by simpa using ge),lexG] at rr
   wp_walk
   exact⟨_,rfl,by simpa [Builtin.Tuple.tupleCompareSizes] using rr⟩
  case h=>exact⟨rfl,rfl,0,by simp,by simp,by simpa using h⟩
theorem CmAt.tups_gt {A:Around}{s:xO}{l b:Addr}{xs ys:Array xK}{e f:Nat->Bool}(hl:s.heap.IsTuple l xs)(hb:s.heap.IsTuple b ys)(hu:A.units<cLine)(he:∀j (h1:j<xs.size) (h2:j<ys.size),SeqAt.EqAt A.in1 s xs[j] ys[j] (e j))
  (hf:∀j (h1:j<xs.size) (h2:j<ys.size),(∀i<j,e i=true)->e j=false->CmAt .Gt A.in1 s xs[j] ys[j] (f j)):CmAt .Gt A s (.ref l) (.ref b) (lexG e f (decide (xs.size > ys.size)) (List.range (min xs.size ys.size))):=λ prog w E Q h=>by
 obtain⟨⟨c1,d1,data,s1⟩,ho,hc,n,hd⟩:=id hl
 obtain⟨⟨c2,d2,data2,s2⟩,ho2,hc2,n2,hd2⟩:=id hb
 simp only at hc hd hc2 hd2
 subst hc hd hc2 hd2
 exact richCompare_meets_room (op:=.Gt) ⟨_,ho,rfl⟩ ⟨_,ho2,rfl⟩ F.slot_tuple_gt F.entry_tuple_gt (F.args_tuple_gt_2 _ _) (xr l b xs ys n n2 d1 d2 s1 s2 e f) ⟨ho,ho2,he,hf,show xK.bool _≠xK.notImplemented/\Q (.bool _) s from ⟨(λ x=>nomatch x),h⟩⟩ hu
theorem ut:∀(xs ys:List xH) (r:Bool),cmpvs true xs ys=some r->lexG (SeqAt.pairEq xs ys) (λ j=>(cmpv true (xs.getD j .none) (ys.getD j .none)).getD false) (decide (xs.length > ys.length)) (List.range (min xs.length ys.length))=r
 | [],[],r,e=>by cases e; rfl
 | [],y::ys,r,e=>by cases e; simp[lexG]
 | x::xs,[],r,e=>by cases e; simp[lexG]
 | x::xs,y::ys,r,e=>by
  rw[cmpvs] at e
  rw[xP,xP,Nat.succ_min_succ,Al,lexG]
  cases q:xH.eqv x y with
  | true =>
   rw[q,if_pos rfl] at e
   rw[if_pos (show SeqAt.pairEq (x::xs) (y::ys) 0=true from q)]
   have:=ut xs ys r e
   rw[show List.map Nat.succ=List.map (· + 1) from rfl,ij,show decide (xs.length+1 > ys.length+1)=decide (xs.length > ys.length) by simp]
   exact this
  | false =>
   rw[q,if_neg (by decide)] at e
   rw[if_neg (by rw[show SeqAt.pairEq (x::xs) (y::ys) 0=false from q]; decide)]
   simp only[List.getD_cons_zero,e,Option.getD_some]
theorem rc_gt:∀(N:Nat) (da db:xH) (r:Bool) (A:Around) (s:xO) (a b:xK) (as bs:List Addr),da.depth<=N->Reads s.heap a da as->Reads s.heap b db bs->da.canLay0=true->db.canLay0=true->A.units+N<cLine->cmpv true da db=some r->CmAt .Gt A s a b r:=by
 intro N
 induction N with
 | zero =>
  intro da db r A s a b as bs hN ra rb ha hb hu e
  cases ra with
  | int i t =>
   cases rb with
   | int j u =>
    cases e
    exact λ prog w E Q h=>richCompare_gives (op:=.Gt) (typeIs_int s _ t) (typeIs_int s _ u) F.slot_int_gt F.entry_int_gt (F.args_int_gt_2 _ _) (gives_int_gt _ _ t u) (λ x=>nomatch x) h
   | _=>simp[cmpv] at e
  | tuple=>simp[xH.depth] at hN
  | _=>simp[cmpv] at e
 | succ N ih =>
  intro da db r A s a b as bs hN ra rb ha hb hu e
  cases ra with
  | int i t =>
   cases rb with
   | int j u =>
    cases e
    exact λ prog w E Q h=>richCompare_gives (op:=.Gt) (typeIs_int s _ t) (typeIs_int s _ u) F.slot_int_gt F.entry_int_gt (F.args_int_gt_2 _ _) (gives_int_gt _ _ t u) (λ x=>nomatch x) h
   | _=>simp[cmpv] at e
  | @tuple l o vs n xs as₁ h1 h2 h3 h4 =>
   cases rb with
   | @tuple l' o' ws n' ys bs₁ k1 k2 k3 k4 =>
    have n1:vs.size=xs.length:=by simpa using SeqAt.ReadsAll.length _ _ _ h4
    have n2:ws.size=ys.length:=by simpa using SeqAt.ReadsAll.length _ _ _ k4
    simp only[xH.depth] at hN
    simp only[cmpv] at e
    have he:∀j (j1:j<vs.size) (j2:j<ws.size),SeqAt.EqAt A.in1 s vs[j] ws[j] (SeqAt.pairEq xs ys j):=λ j j1 j2=>by
     have hu':A.in1.units+min (xH.depthAll xs) (xH.depthAll ys)<cLine:=by show A.units+1+_<_; omega
     have q:=SeqAt.eqAt_readsAll xs ys A.in1 s vs.toList ws.toList _ _ h4 k4 ha hb hu' j (by simpa using j1) (by simpa using j2)
     rw[zk,zk] at q
     exact q
    have hf:∀j (j1:j<vs.size) (j2:j<ws.size),(∀i<j,SeqAt.pairEq xs ys i=true)->SeqAt.pairEq xs ys j=false->CmAt .Gt A.in1 s vs[j] ws[j] ((cmpv true (xs.getD j .none) (ys.getD j .none)).getD false):=λ j j1 j2 al hj=>by
     obtain⟨q,hq⟩:=ii xs ys j r e (by omega) (by omega) al hj
     obtain⟨as2,r1⟩:=cT h4 (j:=j) (by simpa using j1)
     obtain⟨bs2,r2⟩:=cT k4 (j:=j) (by simpa using j2)
     rw[hq]
     have d1:=jQ (xs:=xs) (j:=j) (by omega)
     have q2:=ih _ _ q A.in1 s _ _ as2 bs2 (by omega) r1 r2 (lc ha (by omega)) (lc hb (by omega)) (by show A.units+1+_<_; omega) hq
     rw[zk,zk] at q2
     exact q2
    have:=CmAt.tups_gt ⟨_,h1,h2,_,h3⟩ ⟨_,k1,k2,_,k3⟩ (show A.units<cLine by omega) he hf
    rw[n1,n2,ut xs ys r e] at this
    exact this
   | _=>simp[cmpv] at e
  | _=>simp[cmpv] at e
def bestV (g:Bool):xH->List xH->xH
 | b,[]=>b
 | b,d::ds=>bestV g (if (cmpv g d b).getD false=true then d else b) ds
theorem jl (g:Bool)(x:xH):∀(b:xH) (l:List xH),bestV g b (l++[x])=if (cmpv g x (bestV g b l)).getD false=true then x else bestV g b l
 | b,[]=>rfl
 | b,d::l=>by rw[yy,bestV,bestV,jl g x _ l]
theorem le (g:Bool):∀(b:xH) (l:List xH),bestV g b l∈b::l
 | b,[]=>yh.mpr rfl
 | b,d::l=>by
  rw[bestV]
  have:=le g (if (cmpv g d b).getD false=true then d else b) l
  rcases xR.mp this with e | e
  ·rw[e]
   split
   ·exact xT _ (ya ..)
   ·exact ya ..
  ·exact xT _ (xT _ e)
def Cmpb (g:Bool)(ds:List xH):Prop:=∀x∈ds,(x.canLay0=true/\x.depth<=50)/\∀y∈ds,(cmpv g x y).isSome=true
open Classical in
noncomputable def lg (g:Bool)(as:List xH):Option xH:=match as with | [.list (d::ds)]=>if Cmpb g (d::ds) then some (bestV g d ds) else none | _=>none
noncomputable abbrev min1D:=lg false
def btD (g:Bool)(L:List xH)(i j:Nat):Bool:=(cmpv g (L.getD i .none) (L.getD j .none)).getD false
theorem qY (g:Bool)(d:xH)(ds:List xH):∀k,k<=ds.length->(d::ds).getD (argBest (btD g (d::ds)) k) .none=bestV g d (ds.take k)
 | 0,_=>rfl
 | k+1,h=>by
  have ih:=qY g d ds k (by omega)
  have hk:k<ds.length:=h
  rw[argBest,List.take_succ_eq_append_getElem hk,jl,<- ih]
  have e:btD g (d::ds) (k+1) (argBest (btD g (d::ds)) k)=(cmpv g ds[k] ((d::ds).getD (argBest (btD g (d::ds)) k) .none)).getD false:=by
   unfold btD
   simp[yi,hk]
  rw[e]
  split
  ·simp[yi,hk]
  ·rfl
theorem Reps.atJ {S:List Addr}{H:Hp}:∀{ds:List xH} {xs:List V} {us:List xK},Reps S H ds xs->Vals xs us->∀(j:Nat) (hj:j<us.length),∃v,Rep S H (ds.getD j .none) v/\RelV v us[j]
 | [],_,us,r,q,j,hj=>by
  cases r.of_nil
  cases q
  exact absurd hj (Nat.not_lt_zero _)
 | d::ds,_,us,r,q,j,hj=>by
  obtain⟨x,t,rfl,h1,h2⟩:=r.of_cons
  cases q with
  | cons q1 q2 =>
   cases j with
   | zero=>exact⟨_,h1,q1⟩
   | succ j=>exact Reps.atJ h2 q2 j (zy hj)
section
variable {X:Cx}
theorem oq (g:Bool)(hc:X.calm=true)(hu:X.A.units+64<cLine):CallR X (.builtin (if g then "max" else "min")) (λ xs H Q=>∃p ys S d ds,xs=[.ref p]/\SqL X.K H p ys/\Reps S H (d::ds) ys/\Cmpb g (d::ds)/\∀v,Rep S H (bestV g d ds) v->Q v H):=by
 intro pins s σ H xs us Q I r h
 obtain⟨p,ys,S,d,ds,rfl,hp,hr,hcm,q⟩:=h
 obtain⟨u,rfl,ru⟩:=vals1 r
 cases ru
 obtain⟨its,rv,ht,hz⟩:=I.list hp
 have hlen:its.length=(d::ds).length:=by rw[<- rv.length,hr.length]
 have hget:∀i,i<its.length->(d::ds).getD i .none∈d::ds:=λ i hi=>by
  rw[yi,yC (by omega),Option.getD_some]
  exact zp _
 have hcmp:∀op:CmpOp,(∀(a b:xH) (r:Bool) (A:Around) (s:xO) (u v:xK) (as bs:List Addr),a.depth<=50->Reads s.heap u a as->Reads s.heap v b bs->a.canLay0=true->b.canLay0=true->A.units+50<cLine->cmpv g a b=some r->CmAt op A s u v r) ->
   CmpIn X.prog X.w X.A.in1 s.heap op (λ i v=>its.toArray[i]? = some v) (btD g (d::ds)):=λ op hop i j u v s' Q' E' held hi hj hq=>by
  have hi:its.toArray[i]? = some u:=hi
  have hj:its.toArray[j]? = some v:=hj
  rw[zW] at hi hj
  obtain⟨as,ra⟩:=hr.reads (I.kept (h':=s'.heap) (t':=s.toks) held).hok rv
  obtain⟨i1,rfl⟩:=ym.mp hi
  obtain⟨j1,rfl⟩:=ym.mp hj
  obtain⟨as1,r1⟩:=cT ra i1
  obtain⟨bs1,r2⟩:=cT ra j1
  have mi:=hget i i1
  have mj:=hget j j1
  obtain⟨r,hr⟩:=Ah.mp ((hcm _ mi).2 _ mj)
  have e:btD g (d::ds) i j=r:=by unfold btD; rw[hr]; rfl
  rw[e] at hq
  exact hop _ _ r X.A.in1 s' _ _ as1 bs1 (hcm _ mi).1.2 r1 r2 (hcm _ mi).1.1 (hcm _ mj).1.1 (by show X.A.units+1+50<_; omega) hr X.prog X.w E' Q' hq
 have fin:∀(v:xK) (h1:Heap) (tk:Nat),its.toArray[argBest (btD g (d::ds)) (its.toArray.size - 1)]? = some v->Held s.heap h1->EP X pins σ Q v { s with heap:=h1,toks:=tk }:=λ v h1 tk hv held=>by
  rw[zW] at hv
  obtain⟨k1,rfl⟩:=ym.mp hv
  obtain⟨x,rx,rel⟩:=hr.atJ rv _ k1
  have hs:its.toArray.size - 1=ds.length:=by rw[xU,hlen,xP]; omega
  rw[hs,qY g d ds ds.length (xL _),List.take_length] at rx
  exact⟨x,H,I.kept held,rel,q x rx⟩
 have hne:0<its.toArray.size:=by rw[xU,hlen,xP]; omega
 cases g with
 | true=>exact xp (I.ok.hd hc) ht.isList hne (hcmp .Gt λ a b r A s u v as bs=>rc_gt 50 a b r A s u v as bs) fin
 | false=>exact xn (I.ok.hd hc) ht.isList hne (hcmp .Lt λ a b r A s u v as bs=>rc_lt 50 a b r A s u v as bs) fin
theorem vO (g:Bool)(hc:X.calm=true)(hu:X.A.units+64<cLine):CallD X (.builtin (if g then "max" else "min")) (lg g):=⟨_,oq g hc hu,λ gs S H as vs d R _ _ rs e k=>by
 unfold lg at e
 split at e
 ·rename_i d0 ds
  split at e
  ·rename_i hcm
   cases e
   obtain⟨v,rfl,rl⟩:=rs.one
   obtain⟨a,xs,rfl,sq,_,rr⟩:=rl.sqL (K:=X.K)
   exact⟨a,xs,S,d0,ds,rfl,sq,rr,hcm,λ v rv=>k v H rv (.refl _ _)⟩
  ·cases e
 ·cases e⟩
theorem uu (hc:X.calm=true)(hu:X.A.units+64<cLine):CallD X (.builtin "min") min1D:=vO false hc hu
end
theorem lh (a:Bool)(b:Int)(u:Tok):Gives (Builtin.«int.__add__» ⟨[.bool a,.int b u],[]⟩) (.int ((if a=true then (1:Int) else 0)+b)) :=
 .of_wp λ M A E s Q q=>by
  obtain⟨h1,h2,h3,h4,h5⟩:=s
  wp_walk
  exact⟨_,rfl,q⟩
theorem lj (a:Bool)(b:Int)(u:Tok):Gives (Builtin.«int.__sub__» ⟨[.bool a,.int b u],[]⟩) (.int ((if a=true then (1:Int) else 0) - b)) :=
 .of_wp λ M A E s Q q=>by
  obtain⟨h1,h2,h3,h4,h5⟩:=s
  wp_walk
  exact⟨_,rfl,q⟩
def addB (x y:xH):Option xH:=match x,y with | .bool b,.int j=>some (.int ((if b=true then (1:Int) else 0)+j)) | x,y=>addD x y
def subB (x y:xH):Option xH:=match x,y with | .bool b,.int j=>some (.int ((if b=true then (1:Int) else 0) - j)) | x,y=>subD x y
def strB (ds:List xH):Option xH:=match ds with | [.bool b]=>some (.str (if b then "True" else "False")) | ds=>strD ds
section
variable {X:Cx}
theorem xt:OpD X (binaryOp .Add) addB:=by
 obtain⟨r,hr,hd⟩:=(o_add (X:=X)).ex
 refine⟨λ x y H Q=>(∃b j,x=.bl b/\y=.int j/\Q (.int ((if b=true then (1:Int) else 0)+j)) H)\/r x y H Q,λ pins s σ H x y v u Q I rx ry h=>?_,λ gs S H dx dy x y d R hs hz rx ry e k=>?_⟩
 ·rcases h with⟨b,j,rfl,rfl,q⟩ | h
  ·cases (show v=xK.bool b from rx)
   obtain⟨t,rfl⟩:=(show ∃t,u=xK.int j t from ry)
   exact binaryOp_left_gives (op:=.Add) (T := "bool") (U := "int") (by decide) rfl (λ s'=>typeIs_int s' j t) F.fills_bool_add F.fills_int_add F.sub_int_bool F.slot_bool_add F.slot_int_radd F.entry_int_add (F.args_int_add_2 _ _) (lh b j t) trivial ⟨.int _,H,I.tok _,⟨_,rfl⟩,q⟩
  ·exact hr pins s σ H x y v u Q I rx ry h
 ·unfold addB at e
  split at e
  ·rename_i b j
   cases e
   exact .inl ⟨b,j,rx.of_bl,ry.of_int,k _ H (.int _) (.refl _ _)⟩
  ·exact .inr (hd gs S H dx dy x y d R hs hz rx ry e k)
theorem xu:OpD X (binaryOp .Sub) subB:=by
 obtain⟨r,hr,hd⟩:=(o_sub (X:=X)).ex
 refine⟨λ x y H Q=>(∃b j,x=.bl b/\y=.int j/\Q (.int ((if b=true then (1:Int) else 0) - j)) H)\/r x y H Q,λ pins s σ H x y v u Q I rx ry h=>?_,λ gs S H dx dy x y d R hs hz rx ry e k=>?_⟩
 ·rcases h with⟨b,j,rfl,rfl,q⟩ | h
  ·cases (show v=xK.bool b from rx)
   obtain⟨t,rfl⟩:=(show ∃t,u=xK.int j t from ry)
   exact binaryOp_left_gives (op:=.Sub) (T := "bool") (U := "int") (by decide) rfl (λ s'=>typeIs_int s' j t) F.fills_bool_sub F.fills_int_sub F.sub_int_bool F.slot_bool_sub F.slot_int_rsub F.entry_int_sub (F.args_int_sub_2 _ _) (lj b j t) trivial ⟨.int _,H,I.tok _,⟨_,rfl⟩,q⟩
  ·exact hr pins s σ H x y v u Q I rx ry h
 ·unfold subB at e
  split at e
  ·rename_i b j
   cases e
   exact .inl ⟨b,j,rx.of_bl,ry.of_int,k _ H (.int _) (.refl _ _)⟩
  ·exact .inr (hd gs S H dx dy x y d R hs hz rx ry e k)
theorem xv:CallD X (.type "str") strB:=by
 obtain⟨r,hr,hd⟩:=(c_str (X:=X)).ex
 refine⟨λ xs H Q=>(∃b,xs=[.bl b]/\Q (.str (if b then "True" else "False")) H)\/r xs H Q,λ pins s σ H xs us Q I rv h=>?_,λ gs S H ds vs d R hs hz rs e k=>?_⟩
 ·rcases h with⟨b,rfl,q⟩ | h
  ·obtain⟨u,rfl,ru⟩:=vals1 rv
   cases (show u=xK.bool b from ru)
   exact P.str_of_bool ⟨.str _,H,I.tok _,⟨_,rfl⟩,q⟩
  ·exact hr pins s σ H xs us Q I rv h
 ·unfold strB at e
  split at e
  ·rename_i b
   cases e
   obtain⟨v,rfl,rl⟩:=rs.one
   exact .inl ⟨b,by rw[rl.of_bl],k _ H (.str _) (.refl _ _)⟩
  ·exact .inr (hd gs S H ds vs d R hs hz rs e k)
end
theorem RM {d k:Nat}{A:Around}(hr:Room k A)(h:d<=k:=by decide):Room d A:=hr.mono h
theorem nd (N:List Str)(h:N.Nodup:=by decide +kernel):N.Nodup:=h
theorem co (N:List Str)(s:Scope){sc:Scope}{N':List Str}{mp:List (Option Nat)}(h:eV N s sc N' mp=true:=by decide +kernel):eV N s sc N' mp=true:=h
theorem scm {N ps:List Str}{s:Scope}(h1:s.kind=.function:=by rfl)(h2:s.isCoroutine=false:=by rfl)(h3:s.isGenerator=false:=by rfl)(h4:N.Nodup:=by decide +kernel)(h5:N.take ps.length=ps:=by rfl)
  (h6:∀x∈ps,s.names.lookup x=some .local\/s.names.lookup x=some .cell:=by decide +kernel) (h7:∀y∈s.names,y.2≠.free:=by decide +kernel):FnScope N ps s:=⟨h1,h2,h3,h4,h5,h6,h7⟩
theorem nxs {us:List UG}(is:List Nat)(h:us=is.map uNm:=by rfl):∀u∈us,∀d env (Q:PEnv->Prop),u d env Q->∃env',Q env':=λ u hu=>by
 subst h
 obtain⟨i,_,rfl⟩:=yI.mp hu
 exact nm_ex
section
variable {X:Cx}{M:Fr}{e:Expr}{ue:UX}{pos pos':Pos}{x:Str}
theorem g_m (i:Nat)(hN:X.N.Nodup)(hx:Loc X.env.scope x:=by exact Or.inl rfl)(hi:X.N[i]? = some x:=by rfl)(hf:X.fn x=true\/X.env.scope.names.lookup x=some .local:=by first | exact .inl rfl | exact .inr rfl | assumption)(hfd:i ∉ M.fd:=by exact nf _ _ rfl):KG X M (.Name x pos) (uNm i):=g_n hN hx hi hf hfd
theorem s_st (i:Nat)(hN:X.N.Nodup)(h:KE X M e ue)(hx:Loc X.env.scope x:=by exact Or.inl rfl)(hi:X.N[i]? = some x:=by rfl)(hs:swapsWith e (some (.Name x pos')) pos.line X.env=pure false:=by rfl)
  (hf:X.fn x=true\/X.env.scope.names.lookup x=some .local:=by first | exact .inl rfl | exact .inr rfl | assumption) (hfd:i ∉ M.fd:=by exact nf _ _ rfl):KS X M (.Assign [.Name x pos'] e pos) (uSet i ue):=s_set hN hx h hi hs hf hfd
theorem s_nw (i:Nat){un:PEnv->Int->(List xH->Int->Prop)->Prop}(hN:X.N.Nodup)(h:KN X M e un)(hx:Loc X.env.scope x:=by exact Or.inl rfl)(hi:X.N[i]? = some x:=by rfl)(hs:swapsWith e (some (.Name x pos')) pos.line X.env=pure false:=by rfl)
  (hf:X.fn x=true\/X.env.scope.names.lookup x=some .local:=by first | exact .inl rfl | exact .inr rfl | assumption) (hfd:i ∉ M.fd:=by exact nf _ _ rfl):KS X M (.Assign [.Name x pos'] e pos) (uNew i un):=s_new hN hx h hi hs hf hfd
end
structure FM (K:W.Frag) (mg:Str->Option xK) (x:Str) (st:Stmt):Prop where
 ex:∃f fd,Fun K x x st f fd/\mg x=some (.ref f)
structure FOk (K:W.Frag) (x:Str) (st:Stmt):Prop where
 ex:∃f fd,Fun K x x st f fd/\W.nsIn K yp x=some (some (.ref f))
theorem FOk.of {K:W.Frag}{x:Str}{st:Stmt}{f:Addr}{oc:xK}{od an:Option Addr}{osl:Array (Option xK)}{kV doc pm cdv ct:xK}(a:W.nsIn K yp x=some (some (.ref f)))(l:K.lookup f=some ⟨oc,od,.func (W.fnOf x x (cR st) (aB st) (ac st) .none kV doc pm an cdv ct),osl⟩)
  (c:W.codeIn K cdv x=true) (k:W.keepIn K (.ref f)=true):FOk K x st:=⟨f,_,pF l c k,a⟩
theorem FOk.m {K:W.Frag}{x:Str}{st:Stmt}{h:Heap}{mg:Str->Option xK}(a:FOk K x st)(X:K.In h)(G:h.Ns yp mg):FM K mg x st :=
 let ⟨f,fd,F,n⟩:=a.ex; ⟨f,fd,F,W.mg_of X G n⟩
def AllF (K:W.Frag)(t:Nat->Stmt):List (Str × Nat)->Prop
 | []=>True
 | (x,i)::r=>FOk K x (t i)/\AllF K t r
theorem allF_nil {K:W.Frag}{t:Nat->Stmt}:AllF K t []:=trivial
theorem allF_c {K:W.Frag}{t:Nat->Stmt}{x:Str}{i:Nat}{r:List (Str × Nat)}(h:FOk K x (t i))(hr:AllF K t r):AllF K t ((x,i)::r):=⟨h,hr⟩
def BD (x:Str)(st:Stmt)(ps:List Str):Prop:=∀(kV doc pm:xK) (an:Option Addr) (cdv ct:xK) (us:List xK),us.length=ps.length->bindArgs (W.fnOf x x (cR st) (aB st) (ac st) .none kV doc pm an cdv ct) ⟨us,[]⟩=pure (ps.zip us)
section
variable {P:yk}{w:World}{K:W.Frag}{mg:Str->Option xK}{base:Heap}{x:Str}{st:Stmt}{N ps:List Str}{k:Nat}{C:Xc}{Y:Fam}
theorem defU2 (u:US)(N:List Str)(F:FM K mg x st)
  (body:FnScope N ps (ac st)->∀(f:Addr) (cdv:xK) (A:Around) (outer:List Env) (s:xO) (H:Hp) (E:XK) (n0:Int) (S:List Addr) (has:∀a∈S,H a≠none),Room k (A.deeper (envOfC x (ac st) s.heap.objs.size f cdv))->(A.deeper (envOfC x (ac st) s.heap.objs.size f cdv)).units+64<cLine->KSs (cxOf CX0 P w K mg base N x (ac st) f cdv A outer s H E).nox (Fr.pure C n0 S H has) (aB st) u)
  (sc:FnScope N ps (ac st):=by exact scm) (hb:BD x st ps:=by intro _ _ _ _ _ _ us hl; first | (obtain⟨_,rfl⟩:=len1 hl; rfl) | (obtain⟨_,_,rfl⟩:=len2 hl; rfl) | (obtain⟨_,_,_,rfl⟩:=len3 hl; rfl) | (obtain⟨_,_,_,_,rfl⟩:=len4 hl; rfl) | (obtain⟨_,_,_,_,_,rfl⟩:=len5 hl; rfl) | (obtain⟨_,_,_,_,_,_,rfl⟩:=len6 hl; rfl) | (cases us <;> first | rfl | cases hl)) :
  DefOk P w K mg base (k+1) x ps (spU C (mkF N.length ps.length λ _=>u)) :=
 let ⟨f,_,F,hm⟩:=F.ex; defU (u:=λ _=>u) F hm sc (F.binds hb) λ cdv A outer s H E n0 S has hr=>body sc f cdv A outer s H E n0 S has hr hr.units
theorem defX2 (u:XQ->US)(N:List Str)(F:FM K mg x st)
  (body:FnScope N ps (ac st)->∀(f:Addr) (cdv:xK) (A:Around) (outer:List Env) (s:xO) (H:Hp) (E:XK) (n0:Int) (S:List Addr) (has:∀a∈S,H a≠none) (Ex:XQ),(∀c as,Ex c as->Rz C S [] H E c as)->Room k (A.deeper (envOfC x (ac st) s.heap.objs.size f cdv))->(A.deeper (envOfC x (ac st) s.heap.objs.size f cdv)).units+64<cLine->gY (cxOf (CX1 P w) P w K mg base N x (ac st) f cdv A outer s H E) E ->
   KSs (cxOf (CX1 P w) P w K mg base N x (ac st) f cdv A outer s H E) (Fr.pure C n0 S H has) (aB st) (u Ex))
  (sc:FnScope N ps (ac st):=by exact scm) (hb:BD x st ps:=by intro _ _ _ _ _ _ us hl; first | (obtain⟨_,rfl⟩:=len1 hl; rfl) | (obtain⟨_,_,rfl⟩:=len2 hl; rfl) | (obtain⟨_,_,_,rfl⟩:=len3 hl; rfl) | (obtain⟨_,_,_,_,rfl⟩:=len4 hl; rfl) | (obtain⟨_,_,_,_,_,rfl⟩:=len5 hl; rfl) | (obtain⟨_,_,_,_,_,_,rfl⟩:=len6 hl; rfl)) :
  DefX P w K mg base (k+1) x ps (spU C (mkF N.length ps.length u)) :=
 let ⟨f,_,F,hm⟩:=F.ex; defX F hm sc (F.binds hb) λ cdv A outer s H E n0 S has Ex hx hr=>body sc f cdv A outer s H E n0 S has Ex hx hr hr.units qo
theorem defF2 (u:US)(N:List Str)(F:FM K mg x st)
  (body:FnScope N ps (ac st)->∀(f:Addr) (cdv:xK) (A:Around) (outer:List Env) (s:xO) (H:Hp) (E:XK) (fa sa:Addr) (n0:Int) (S:List Addr) (hf:Y.Feed H fa sa n0) (hS:fa∈S) (has:∀a∈S,H a≠none),Room k (A.deeper (envOfC x (ac st) s.heap.objs.size f cdv))->(A.deeper (envOfC x (ac st) s.heap.objs.size f cdv)).units+64<cLine ->
   KSs (cxOf CX0 P w K mg base N x (ac st) f cdv A outer s H E).nox (Fr.feed C Y 0 fa sa n0 S H hf hS has) (aB st) u)
  (sc:FnScope N ps (ac st):=by exact scm) (hN:1<=N.length:=by decide) (hb:BD x st ps:=by intro _ _ _ _ _ _ us hl; first | (obtain⟨_,rfl⟩:=len1 hl; rfl) | (obtain⟨_,_,rfl⟩:=len2 hl; rfl) | (obtain⟨_,_,_,rfl⟩:=len3 hl; rfl) | (obtain⟨_,_,_,_,rfl⟩:=len4 hl; rfl) | (obtain⟨_,_,_,_,_,rfl⟩:=len5 hl; rfl) | (obtain⟨_,_,_,_,_,_,rfl⟩:=len6 hl; rfl)) :
  DefOk P w K mg base (k+1) x ps (spUF Y (mkFF N.length ps.length λ _=>u)) :=
 let ⟨f,_,F,hm⟩:=F.ex; defF (u:=λ _=>u) F hm sc (F.binds hb) hN λ cdv A outer s H E fa sa n0 S hf hS has hr=>body sc f cdv A outer s H E fa sa n0 S hf hS has hr hr.units
end
end L2
open PySem
namespace Odj
end Odj
open PySem
namespace Odj
abbrev Odd:=List (Int × Bool)
def isOdd (o:Odd)(k:Int):Bool:=((o.find? λ p=>decide (p.1=k)).map (·.2)).getD false
def aR (o:Odd)(k:Int):Odd:=if o.any (λ p=>decide (p.1=k)) then o.map (λ p=>if p.1=k then (p.1,!(isOdd o k)) else p) else o++[(k,!(isOdd o k))]
def ao (row:List Int):Odd:=row.foldl aR []
def trues (o:Odd):List Int:=(o.filter (·.2)).map (·.1)
def aF (o:Odd):List Int:=o.map (·.1)
theorem lm (o:Odd)(k:Int):aF (aR o k)=if k∈aF o then aF o else aF o++[k]:=by
 unfold aR aF
 by_cases h:k∈o.map (·.1)
 ·have h':o.any (λ p=>decide (p.1=k))=true:=by
   obtain⟨p,hp,e⟩:=yI.mp h
   exact List.any_eq_true.mpr ⟨p,hp,decide_eq_true e⟩
  rw[if_pos h',if_pos h,yS]
  apply List.map_congr_left
  intro p _
  simp only[Function.comp]
  split <;> rfl
 ·have h':¬ o.any (λ p=>decide (p.1=k))=true:=by
   intro z
   obtain⟨p,hp,e⟩:=List.any_eq_true.mp z
   exact h (yI.mpr ⟨p,hp,of_decide_eq_true e⟩)
  rw[if_neg h',if_neg h,yU]
  rfl
theorem ou {o:Odd}{k:Int}(h:(aF o).Nodup):(aF (aR o k)).Nodup:=by
 rw[lm]
 split
 ·exact h
 ·rename_i hk
  rw[Ag]
  refine⟨h,by simp,λ a ha b hb=>?_⟩
  have:b=k:=by simpa using hb
  subst this
  intro z
  subst z
  exact hk ha
theorem sS (o:Odd)(k:Int):(aR o k).length<=o.length+1:=by
 unfold aR
 split
 ·simp
 ·simp
theorem sU {o:Odd}{k x:Int}(h:x∈aF (aR o k)):x=k\/x∈aF o:=by
 rw[lm] at h
 split at h
 ·exact .inr h
 ·rcases yQ.mp h with z | z
  ·exact .inr z
  ·exact .inl (by simpa using z)
theorem uv {o:Odd}(h:(aF o).Nodup){i:Nat}{p:Int × Bool}(hp:o[i]? = some p):isOdd o p.1=p.2:=by
 induction o generalizing i with
 | nil=>cases hp
 | cons q o ih =>
  unfold aF at h
  rw[xY,zu] at h
  cases i with
  | zero =>
   have:q=p:=by simpa using hp
   subst this
   simp[isOdd]
  | succ i =>
   have hp':o[i]? = some p:=by simpa using hp
   have hm:p.1∈o.map (·.1):=yI.mpr ⟨p,zt hp',rfl⟩
   have hne:¬ q.1=p.1:=λ z=>h.1 (z ▸ hm)
   have:=ih h.2 hp'
   unfold isOdd at this ⊢
   rw[zv]
   simp only[hne,decide_false]
   exact this
end Odj
open PySem
namespace Odj
theorem fC:∀{l1 l2:List Int},l1.Pairwise (· < ·)->l2.Pairwise (· < ·)->(∀k,k∈l1↔k∈l2)->l1=l2
 | [],[],_,_,_=>rfl
 | [],b::l2,_,_,h=>absurd ((h b).mpr (ya ..)) (by simp)
 | a::l1,[],_,_,h=>absurd ((h a).mp (ya ..)) (by simp)
 | a::l1,b::l2,h1,h2,h=>by
  obtain⟨q1,r1⟩:=zo.mp h1
  obtain⟨q2,r2⟩:=zo.mp h2
  have e:a=b:=by
   rcases xR.mp ((h a).mp (ya ..)) with z | z
   ·exact z
   ·rcases xR.mp ((h b).mpr (ya ..)) with y | y
    ·exact y.symm
    ·have:=q2 a z
     have:=q1 b y
     omega
  subst e
  rw[fC r1 r2 λ k=>?_]
  constructor
  ·intro hk
   rcases xR.mp ((h k).mp (xT _ hk)) with z | z
   ·have:=q1 k hk
    omega
   ·exact z
  ·intro hk
   rcases xR.mp ((h k).mpr (xT _ hk)) with z | z
   ·have:=q2 k hk
    omega
   ·exact z
def OddSet (row ns:List Int):Prop:=ns.Pairwise (· < ·)/\∀k,k∈ns↔row.count k % 2=1
theorem OddSet.one {r1 r2 n1 n2:List Int}(h1:OddSet r1 n1)(h2:OddSet r2 n2)(h:∀k,r1.count k % 2=r2.count k % 2):n1=n2 :=
 fC h1.1 h2.1 λ k=>by rw[h1.2,h2.2,h k]
theorem sV {l:List Int}(h:l.Pairwise (· < ·)):l.Nodup:=h.imp λ hab z=>by omega
theorem OddSet.self {l:List Int}(h:l.Pairwise (· < ·)):OddSet l l:=⟨h,λ k=>by
 have hn:=sV h
 by_cases hk:k∈l
 ·have:=Ad.mpr hk
  have h1:=List.nodup_iff_count.mp hn k
  constructor
  ·intro _; omega
  ·intro _; exact hk
 ·have:=List.count_eq_zero.mpr hk
  constructor
  ·intro z; exact absurd z hk
  ·intro z; omega⟩
theorem OddSet.count {r n:List Int}(h:OddSet r n)(k:Int):n.count k % 2=r.count k % 2:=by
 have h1:=(OddSet.self h.1).2 k
 have h2:=h.2 k
 have a1:=Ae (n.count k)
 have a2:=Ae (r.count k)
 by_cases hk:k∈n
 ·rw[h1.mp hk,h2.mp hk]
 ·have b1:¬ n.count k % 2=1:=λ z=>hk (h1.mpr z)
  have b2:¬ r.count k % 2=1:=λ z=>hk (h2.mpr z)
  omega
def sW (t:Int × Int × Int)(x:Int):Int:=if t.1=x then t.2.1 else t.1
def Walk (ts:List (Int × Int × Int)):Int->List Int->Int->Prop
 | x,[],y=>x=y
 | x,n::row,y=>∃t,0<=n/\ts[n.toNat]? = .some t/\(t.1=x\/t.2.1=x)/\Walk ts (sW t x) row y
theorem Walk.append {ts:List (Int × Int × Int)}:∀{a b:List Int} {x y z:Int},Walk ts x a y->Walk ts y b z->Walk ts x (a++b) z
 | [],b,x,y,z,h1,h2=>by
  have e:x=y:=h1
  subst e
  exact h2
 | n::a,b,x,y,z,h1,h2=>by
  obtain⟨t,h0,ht,hx,hw⟩:=h1
  exact⟨t,h0,ht,hx,hw.append h2⟩
theorem Walk.bounds {ts:List (Int × Int × Int)}:∀{a:List Int} {x y:Int},Walk ts x a y->∀n∈a,0<=n/\n<(ts.length:Int)
 | [],_,_,_,n,hn=>by cases hn
 | m::a,x,y,h,n,hn=>by
  obtain⟨t,h0,ht,hx,hw⟩:=h
  rcases xR.mp hn with e | e
  ·subst e
   have:=(ym.mp ht).1
   omega
  ·exact hw.bounds n e
end Odj
namespace Odj
open PySem L2
def oddI (row:List Int):List Int:=hW (row.filter λ k=>decide (row.count k % 2=1))
def aM:UF:=λ ds n Q _=>match ds with
 | [.list es]=>bnd (bo es) λ row=>((onceI row).length<=60/\row.length<=100000)/\Q (.tuple ((oddI row).map .int)) n
 | [.tuple es]=>bnd (bo es) λ row=>((onceI row).length<=60/\row.length<=100000)/\Q (.tuple ((oddI row).map .int)) n
 | _=>False
def EXC:List Str:=["NoPaper"]
def ALLC:List Str:=["JoinError", "NoPaper", "NoWalk", "NoText", "NoTurns", "NoTie", "TooMany", "NoLine"]
def FL (c:Str):List Str:=(([("NoPaper",["word", "number"])]:List (Str × List Str)).lookup c).getD []
abbrev XC (cl:Str->Addr):Xc:=⟨cl,FL⟩
def cU (Ex:XQ):US:=(uIfS (uTst (uOp gtD (uCB lenD' (uCons (aa 1) uNil)) (uC (.int 0)))) (qL Ex "NoPaper" (uCons (uVar 0) (uCons (uOp ixD (aa 1) (uC (.int 0))) uNil))) uNext)
def aW:UF:=mkF 2 2 (cU)
def fD:US:=(uRet (uAndV (uIsi "int" (aa 0)) (uNotV (uIsi "bool" (aa 0)))))
def bO:UF:=mkF 1 1 (λ _=>fD)
def bX:US:=(uRet (uAndV (uCall bO (uCons (uVar 0) uNil)) (uOp geD (aa 0) (aa 1))))
def aS:UF:=mkF 2 2 (λ _=>bX)
def cV:US:=(uRet (uAndV (uIsi "tuple" (aa 0)) (uOp eqD (uCB lenD' (uCons (aa 0) uNil)) (aa 1))))
def bi:UF:=mkF 2 2 (λ _=>cV)
def eG:US:=(uSeq (uIfS (uNot (uTst (uIsi "tuple" (aa 0)))) (uRet (uC (.bool false))) uNext)
 (uSeq (uSet 1 (uUn negD (uC (.int 1))))
 (uSeq (uFor (uItV 0) (uNm 2)
 (uSeq (uIfS (uOr (uNot (uTst (uCall bO (uCons (uVar 2) uNil)))) (uTst (uOp leD (aa 2) (aa 1)))) (uRet (uC (.bool false))) uNext)
 (uSet 1 (uVar 2))))
 (uRet (uC (.bool true))))))
def cW:UF:=mkF 3 1 (λ _=>eG)
def bq:US:=(uRet (uAndV (uCall cW (uCons (uVar 0) uNil)) (uOrV (uOp eqD (uCB lenD' (uCons (aa 0) uNil)) (uC (.int 0))) (uOp ltD (uOp ixD (aa 0) (uUn negD (uC (.int 1)))) (aa 1)))))
def aX:UF:=mkF 2 2 (λ _=>bq)
def ik:US:=(uRet (uCall aX (uCons (uVar 1) (uCons (uOp ixD (aa 0) (uC (.int 0))) uNil))))
def e9:UF:=mkF 2 2 (λ _=>ik)
def fE:US:=(uRet (uCall aM (uCons (uOp addD (aa 0) (aa 1)) uNil)))
def dU:UF:=mkF 2 2 (λ _=>fE)
def io:US:=(uSeq (uNew 2 uNil)
 (uSeq (uFor (uItV 1) (uNm 3)
 (uMeth 2 dB (uCons (uSl (uOp ixD (uOp ixD (aa 0) (uC (.int 1))) (aa 3)) uNo (uSo (uC (.int 2)))) uNil)))
 (uRet (qJ aM (uCons (aa 2) uNil)))))
def fb:UF:=mkF 4 2 (λ _=>io)
def fF:US:=(uRet (uCB sumAD (uCons (uL (uComp (uJt (aa 1)) [none,some 0] (uNm 0) uYes (uOp ixD (uOp ixD (uOp ixD (aa 1) (uC (.int 1))) (aa 0)) (uC (.int 2))))) uNil)))
def dW:UF:=mkF 2 2 (λ _=>fF)
def jR:US:=(uRet (uCB a4 (uCons (uL (uComp (uJe (uOp ixD (aa 0) (uC (.int 1)))) [none,none,some 1] (uTp [(uNm 0),(uNm 1)]) (uTst (uOp neD (uOp inD (uOp ixD (aa 1) (uC (.int 0))) (aa 2)) (uOp inD (uOp ixD (aa 1) (uC (.int 1))) (aa 2)))) (uVar 0))) uNil)))
def gE:UF:=mkF 2 2 (λ _=>jR)
def dC:US:=(uRet (uOp eqD (uOp modD (uCB lenD' (uCons (uL (uComp (uJt (aa 1)) [none,some 0] (uNm 0) (uTst (uOp inD (aa 0) (aa 1))) (uVar 0))) uNil)) (uC (.int 2))) (uC (.int 1))))
def cr:UF:=mkF 2 2 (λ _=>dC)
def ma:US:=(uRet (uCB a4 (uCons (uL (uComp (uJe (uOp ixD (aa 0) (uC (.int 1)))) [none,none] (uTp [(uNm 0),(uNm 1)]) (uTst (uOp ltD (uOp ixD (aa 1) (uC (.int 2))) (uC (.int 0)))) (uVar 0))) uNil)))
def ip:UF:=mkF 1 1 (λ _=>ma)
def jS:US:=(uRet (uTup (uCons (uOp ixD (aa 0) (uC (.int 0))) (uCons (uCB a4 (uCons (uL (uComp (uJt (uOp ixD (aa 0) (uC (.int 1)))) [none,none,none] (uTp [(uNm 1),(uNm 0),(uNm 2)]) uYes (uTup (uCons (uVar 1) (uCons (uVar 0) (uCons (uCB absD (uCons (aa 2) uNil)) uNil)))))) uNil)) uNil))))
def gF:UF:=mkF 1 1 (λ _=>jS)
def cY:US:=(uRet (uCall dU (uCons (uVar 1) (uCons (uCall fb (uCons (uVar 0) (uCons (uCall ip (uCons (uVar 0) uNil)) uNil))) uNil))))
def bK:UF:=mkF 2 2 (λ _=>cY)
def cZ:US:=(uRet (uAndV (uCall bi (uCons (uVar 1) (uCons (uC (.int 2)) uNil))) (uAndV (uCall e9 (uCons (uVar 0) (uCons (uOp ixD (aa 1) (uC (.int 0))) uNil))) (uCall aS (uCons (uOp ixD (aa 1) (uC (.int 1))) (uCons (uC (.int 1)) uNil))))))
def bL:UF:=mkF 2 2 (λ _=>cZ)
def bY:US:=(uSeq (uIfS (uOr (uNot (uTst (uCall bi (uCons (uVar 1) (uCons (uC (.int 2)) uNil))))) (uOr (uNot (uTst (uCall aS (uCons (uOp ixD (aa 1) (uC (.int 0))) (uCons (uC (.int 1)) uNil))))) (uNot (uTst (uIsi "tuple" (uOp ixD (aa 1) (uC (.int 1)))))))) (uRet (uC (.bool false))) uNext)
 (uRet (uCB allD (uCons (uL (uComp (uJt (uOp ixD (aa 1) (uC (.int 1)))) [none,some 0] (uNm 0) uYes (uCall bL (uCons (uVar 1) (uCons (uVar 0) uNil))))) uNil))))
def aT:UF:=mkF 2 2 (λ _=>bY)
def eI:US:=(uRet (uL (uComp (uJe (aa 1)) [none,none,some 0] (uTp [(uNm 0),(uNm 1)]) (uNot (uTst (uCall cr (uCons (uVar 2) (uCons (uOp ixD (aa 1) (uC (.int 0))) uNil))))) (uVar 0))))
def c5:UF:=mkF 2 2 (λ _=>eI)
def dD:US:=(uSeq (uNew 3 (uMul (uL (uCons (uC (.int 0)) uNil)) (uCB lenD' (uCons (uOp ixD (aa 0) (uC (.int 1))) uNil))))
 (uSeq (uFor (uItV 2) (uNm 4)
 (uFor (uIt (uOp ixD (aa 4) (uC (.int 0)))) (uNm 5)
 (uAugI 3 (λ i j=>i+j) (uVar 5) (uOp ixD (aa 4) (uC (.int 1))))))
 (uRet (uL (uComp (uJe (uOp ixD (aa 0) (uC (.int 1)))) [none,none,some 3,some 1] (uTp [(uNm 0),(uNm 1)]) (uTst (uOp gtD (uOp ixD (aa 2) (aa 0)) (uOp mulD (aa 3) (uOp ixD (aa 1) (uC (.int 2)))))) (uVar 0))))))
def cu:UF:=mkF 6 3 (λ _=>dD)
def fG:US:=(uRet (uL (uComp (uJt (aa 1)) [none,some 0] (uNm 0) uYes (uTup (uCons (uCall gE (uCons (uVar 1) (uCons (uOp ixD (aa 0) (uC (.int 0))) uNil))) (uCons (uOp ixD (aa 0) (uC (.int 1))) uNil))))))
def dY:UF:=mkF 2 2 (λ _=>fG)
def eJ:US:=(uRet (uCB sumAD (uCons (uL (uComp (uJt (aa 0)) [none] (uNm 0) uYes (uOp ixD (aa 0) (uC (.int 1))))) uNil)))
def c6:UF:=mkF 1 1 (λ _=>eJ)
def dZ (Ex:XQ):US:=(uSeq (uIfS (uNot (uTst (uCall aT (uCons (uVar 0) (uCons (uVar 2) uNil))))) (qL Ex "NoPaper" (uCons (uC (.str "shape")) (uCons (uC (.int 0)) uNil))) uNext)
 (uSeq (uSet 3 (uOp ixD (aa 2) (uC (.int 0))))
 (uSeq (uSet 4 (uOp ixD (aa 2) (uC (.int 1))))
 (uSeq (uDrop (jf aW Ex (uCons (uC (.str "side")) (uCons (uCall c5 (uCons (uCall bK (uCons (uVar 0) (uCons (uVar 1) uNil))) (uCons (uVar 4) uNil))) uNil))))
 (uSeq (uDrop (jf aW Ex (uCons (uC (.str "tie")) (uCons (uCall cu (uCons (uCall gF (uCons (uVar 0) uNil)) (uCons (uVar 3) (uCons (uCall dY (uCons (uVar 0) (uCons (uVar 4) uNil))) uNil)))) uNil))))
 (uRet (uTup (uCons (uOp addD (uCall c6 (uCons (uVar 4) uNil)) (uOp mulD (aa 3) (uCall dW (uCons (uVar 0) (uCons (uCall ip (uCons (uVar 0) uNil)) uNil))))) (uCons (uVar 3) uNil)))))))))
def bP:UF:=mkF 5 3 (dZ)
def eK:US:=(uSeq (uSet 2 (uOp ixD (uL (uCons (uC (.int 0)) (uCons (uC (.int 1)) (uCons (uC (.int 2)) (uCons (uC (.int 3)) (uCons (uC (.int 5)) (uCons (uC (.int 7)) (uCons (uUn negD (uC (.int 1))) (uCons (uUn negD (uC (.int 2))) (uCons (uUn negD (uC (.int 3))) (uCons (uC (.int 99)) (uCons (uUn negD (uC (.int 99))) (uCons (uC (.int 1)) uNil))))))))))))) (uCall aD (uCons (uC (.int 12)) uNil))))
 (uRet (uIf (uTst (uVar 1)) (uCB absD (uCons (aa 2) uNil)) (uVar 2))))
def c7:UF:=mkFF 3 2 (λ _=>eK)
def iq:US:=(uSeq (uSet 4 (uOp addD (uC (.int 1)) (uCall aD (uCons (uVar 1) uNil))))
 (uSeq (uNew 5 uNil)
 (uSeq (uFor (uIr (uOp mulD (uCall aD (uCons (uOp addD (aa 2) (uC (.int 1))) uNil)) (uCB intD (uCons (uOp gtD (aa 4) (uC (.int 1))) uNil)))) (uNm 6)
 (uSeq (uSet 7 (uCall aD (uCons (uVar 4) uNil)))
 (uSeq (uSet 8 (uOp modD (uOp addD (uOp addD (aa 7) (uC (.int 1))) (uCall aD (uCons (uOp subD (aa 4) (uC (.int 1))) uNil))) (aa 4)))
 (uSeq (uMeth 5 eE (uCons (uTup (uCons (uCB min2D (uCons (aa 7) (uCons (aa 8) uNil))) (uCons (uCB max2D (uCons (aa 7) (uCons (aa 8) uNil))) (uCons (uCall c7 (uCons (uVar 3) uNil)) uNil)))) uNil))
 (uIfS (uAnd (uTst (uOp eqD (uCall aD (uCons (uC (.int 8)) uNil)) (uC (.int 0)))) (uTst (uOp ltD (uCB lenD' (uCons (aa 5) uNil)) (aa 2)))) (uMeth 5 eE (uCons (uOp ixD (aa 5) (uUn negD (uC (.int 1)))) uNil)) uNext)))))
 (uRet (uTup (uCons (uVar 4) (uCons (uCB a4 (uCons (uSl (aa 5) uNo (uSo (uVar 2))) uNil)) uNil)))))))
def fc:UF:=mkFF 9 4 (λ _=>iq)
def cA:US:=(uSeq (uSet 2 (uOp addD (uL (uComp (uJt (aa 0)) [none,some 1] (uNm 0) (uTst (uOp ninD (aa 0) (aa 1))) (uVar 0))) (uL (uComp (uJt (aa 1)) [none,some 0] (uNm 0) (uTst (uOp ninD (aa 0) (aa 1))) (uVar 0)))))
 (uRet (uCB a4 (uCons (uL (uSrtA (aa 2))) uNil))))
def aN:UF:=mkF 3 2 (λ _=>cA)
def fH:US:=(uSeq (uSet 2 (uTup uNil))
 (uSeq (uFor (uItV 1) (uNm 3)
 (uSet 2 (uCall aN (uCons (uVar 2) (uCons (uSl (uOp ixD (uOp ixD (aa 0) (uC (.int 1))) (aa 3)) uNo (uSo (uC (.int 2)))) uNil)))))
 (uRet (uVar 2))))
def cP:UF:=mkF 4 2 (λ _=>fH)
def cB:US:=(uRet (uCB sumAD (uCons (uL (uComp (uJt (aa 1)) [none,some 0] (uNm 0) uYes (uOp ixD (uOp ixD (uOp ixD (aa 1) (uC (.int 1))) (aa 0)) (uC (.int 2))))) uNil)))
def bw:UF:=mkF 2 2 (λ _=>cB)
def c8:US:=(uRet (uCB a4 (uCons (uL (uComp (uJr (uCB lenD' (uCons (uOp ixD (aa 1) (uC (.int 1))) uNil))) [none,some 0] (uNm 0) (uTst (uOp eqD (uCall aD (uCons (uC (.int 2)) uNil)) (uC (.int 0)))) (uVar 0))) uNil)))
def bM:UF:=mkFF 2 2 (λ _=>c8)
def cC:US:=(uRet (uCB a4 (uCons (uL (uComp (uJr (uOp ixD (aa 1) (uC (.int 0)))) [none,some 0] (uNm 0) (uTst (uOp eqD (uCall aD (uCons (uC (.int 2)) uNil)) (uC (.int 0)))) (uVar 0))) uNil)))
def aO:UF:=mkFF 2 2 (λ _=>cC)
def fJ:US:=(uSeq (uIfS (uTst (uOp gtD (uCall aD (uCons (uC (.int 4)) uNil)) (uC (.int 0)))) (uRet (uCall cP (uCons (uVar 1) (uCons (uCall bM (uCons (uVar 1) uNil)) uNil)))) uNext)
 (uRet (uCall aO (uCons (uVar 1) uNil))))
def d4:UF:=mkFF 2 2 (λ _=>fJ)
def eL:US:=(uRet (uCB a4 (uCons (uL (uComp (uJe (uOp ixD (aa 0) (uC (.int 1)))) [none,none] (uTp [(uNm 0),(uNm 1)]) (uTst (uOp ltD (uOp ixD (aa 1) (uC (.int 2))) (uC (.int 0)))) (uVar 0))) uNil)))
def bZ:UF:=mkF 1 1 (λ _=>eL)
def cD:US:=(uRet (uCall aN (uCons (uVar 1) (uCons (uCall cP (uCons (uVar 0) (uCons (uCall bZ (uCons (uVar 0) uNil)) uNil))) uNil))))
def a5:UF:=mkF 2 2 (λ _=>cD)
def ir:US:=(uRet (uCB a4 (uCons (uL (uComp (uJe (uOp ixD (aa 0) (uC (.int 1)))) [none,none,some 1] (uTp [(uNm 0),(uNm 1)]) (uTst (uOp neD (uOp inD (uOp ixD (aa 1) (uC (.int 0))) (aa 2)) (uOp inD (uOp ixD (aa 1) (uC (.int 1))) (aa 2)))) (uVar 0))) uNil)))
def dE:UF:=mkF 2 2 (λ _=>ir)
def dF:US:=(uRet (uOp eqD (uOp modD (uCB lenD' (uCons (uL (uComp (uJt (aa 1)) [none,some 0] (uNm 0) (uTst (uOp inD (aa 0) (aa 1))) (uVar 0))) uNil)) (uC (.int 2))) (uC (.int 1))))
def bE:UF:=mkF 2 2 (λ _=>dF)
def eM:US:=(uRet (uAndV (uIsi "int" (aa 0)) (uAndV (uNotV (uIsi "bool" (aa 0))) (uOp geD (aa 0) (aa 1)))))
def br:UF:=mkF 2 2 (λ _=>eM)
def b4:US:=(uSeq (uIfS (uOr (uNot (uTst (uIsi "tuple" (aa 0)))) (uTst (uOp inD (uC (.bool false)) (uL (uComp (uJt (aa 0)) [none] (uNm 0) uYes (uCall br (uCons (uVar 0) (uCons (uC (.int 0)) uNil)))))))) (uRet (uC (.bool false))) uNext)
 (uRet (uAndV (uOp eqD (uL (uSeqL (aa 0))) (uL (uf (aa 0)))) (uOp eqD (uL (uComp (uJt (aa 0)) [none,some 1] (uNm 0) (uTst (uOp geD (aa 0) (aa 1))) (uVar 0))) (uL uNil)))))
def aU:UF:=mkF 2 2 (λ _=>b4)
def cE:US:=(uSeq (uIfS (uNot (uTst (uIsi "tuple" (aa 1)))) (uRet (uC (.bool false))) uNext)
 (uSeq (uFor (uItV 1) (uNm 2)
 (uSeq (uIfS (uOr (uNot (uTst (uIsi "tuple" (aa 2)))) (uTst (uOp neD (uCB lenD' (uCons (aa 2) uNil)) (uC (.int 2))))) (uRet (uC (.bool false))) uNext)
 (uIfS (uOr (uNot (uTst (uCall aU (uCons (uOp ixD (aa 2) (uC (.int 0))) (uCons (uOp ixD (aa 0) (uC (.int 0))) uNil))))) (uNot (uTst (uCall br (uCons (uOp ixD (aa 2) (uC (.int 1))) (uCons (uC (.int 1)) uNil)))))) (uRet (uC (.bool false))) uNext)))
 (uRet (uC (.bool true)))))
def bA:UF:=mkF 3 2 (λ _=>cE)
def bF:US:=(uSeq (uSet 4 (uCall a5 (uCons (uVar 0) (uCons (uVar 1) uNil))))
 (uSeq (uFor (uIr (uCB lenD' (uCons (aa 3) uNil))) (uNm 5)
 (uIfS (uNot (uTst (uCall bE (uCons (uOp ixD (uOp ixD (aa 3) (aa 5)) (uC (.int 0))) (uCons (uVar 4) uNil))))) (uRet (uTup (uCons (uC (.str "side")) (uCons (uVar 5) uNil)))) uNext))
 (uSeq (uFor (uIr (uCB lenD' (uCons (uOp ixD (aa 0) (uC (.int 1))) uNil))) (uNm 6)
 (uSeq (uSet 7 (uCB sumAD (uCons (uL (uComp (uJt (aa 3)) [none,none,some 6,some 0] (uTp [(uNm 1),(uNm 0)]) (uTst (uOp inD (aa 2) (uCall dE (uCons (uVar 3) (uCons (uVar 1) uNil))))) (uVar 0))) uNil)))
 (uIfS (uTst (uOp gtD (aa 7) (uOp mulD (aa 2) (uCB absD (uCons (uOp ixD (uOp ixD (uOp ixD (aa 0) (uC (.int 1))) (aa 6)) (uC (.int 2))) uNil))))) (uRet (uTup (uCons (uC (.str "tie")) (uCons (uVar 6) uNil)))) uNext)))
 (uRet (uC .none)))))
def bc:UF:=mkF 8 4 (λ _=>bF)
def eN:US:=(uRet (uOp addD (uCB sumAD (uCons (uL (uComp (uJt (aa 2)) [none,none] (uTp [(uNm 1),(uNm 0)]) uYes (uVar 0))) uNil)) (uOp mulD (aa 1) (uCall bw (uCons (uVar 0) (uCons (uCall bZ (uCons (uVar 0) uNil)) uNil))))))
def c9:UF:=mkF 3 3 (λ _=>eN)
def b8:US:=(uSeq (uSet 4 (uCall a5 (uCons (uVar 1) (uCons (uVar 2) uNil))))
 (uSeq (uSet 5 (uL (uComp (uJt (uOp ixD (aa 1) (uC (.int 1)))) [none,some 3] (uNm 0) uYes (uOp mulD (aa 1) (uCB absD (uCons (uOp ixD (aa 0) (uC (.int 2))) uNil))))))
 (uSeq (uNew 6 uNil)
 (uSeq (uFor (uIr (uOp addD (uC (.int 1)) (uCall aD (uCons (uC (.int 6)) uNil)))) (uNm 7)
 (uSeq (uSet 8 (uCall aO (uCons (uVar 1) uNil)))
 (uSeq (uSet 9 (uCall dE (uCons (uVar 1) (uCons (uVar 8) uNil))))
 (uIfS (uAnd (uTst (uCall bE (uCons (uVar 8) (uCons (uVar 4) uNil)))) (uAnd (uTst (uOp neD (aa 9) (uTup uNil))) (uTst (uOp gtD (uCB min1D (uCons (uL (uComp (uJt (aa 9)) [none,some 5] (uNm 0) uYes (uOp ixD (aa 1) (aa 0)))) uNil)) (uC (.int 0)))))) (uSeq (uSet 10 (uCB min1D (uCons (uL (uComp (uJt (aa 9)) [none,some 5] (uNm 0) uYes (uOp ixD (aa 1) (aa 0)))) uNil)))
 (uSeq (uSet 11 (uOp ixD (uL (uCons (uVar 10) (uCons (uOp addD (uC (.int 1)) (uCall aD (uCons (uVar 10) uNil))) uNil))) (uCall aD (uCons (uC (.int 2)) uNil))))
 (uSeq (uMeth 6 eE (uCons (uTup (uCons (uVar 8) (uCons (uVar 11) uNil))) uNil))
 (uSet 5 (uL (uComp (uJr (uCB lenD' (uCons (aa 5) uNil))) [none,some 5,some 11,some 9] (uNm 0) uYes (uOp subD (uOp ixD (aa 1) (aa 0)) (uOp mulD (aa 2) (uCB intD (uCons (uOp inD (aa 0) (aa 3)) uNil)))))))))) uNext))))
 (uRet (uCB a4 (uCons (aa 6) uNil)))))))
def aG:UF:=mkFF 12 4 (λ _=>b8)
def b9:US:=(uSeq (uIfS (uTst (uIsi "int" (aa 1))) (uRet (uOp ixD (uL (uCons (uOp addB (aa 1) (uC (.int 1))) (uCons (uOp subB (aa 1) (uC (.int 1))) (uCons (uOp eqD (aa 1) (uC (.int 1))) (uCons (uCB strB (uCons (aa 1) uNil)) (uCons (uC .none) (uCons (uC (.int 0)) uNil))))))) (uCall aD (uCons (uC (.int 6)) uNil)))) uNext)
 (uRet (uOp ixD (uL (uCons (uC (.int 0)) (uCons (uTup uNil) (uCons (uC (.str "a")) (uCons (uC (.bool false)) uNil))))) (uCall aD (uCons (uC (.int 4)) uNil)))))
def bj:UF:=mkFF 2 2 (λ _=>b9)
def fK (Rc:UF):US:=(uSeq (uIfS (uNot (uTst (uIsi "tuple" (aa 1)))) (uRet (uCall bj (uCons (uVar 1) uNil))) uNext)
 (uCut (uIfS (uAnd (uTst (uOp neD (aa 1) (uTup uNil))) (uTst (uOp gtD (uCall aD (uCons (uC (.int 5)) uNil)) (uC (.int 0))))) (uSeq (uSet 2 (uCall aD (uCons (uCB lenD' (uCons (aa 1) uNil)) uNil)))
 (uRet (uOp addD (uOp addD (uSl (aa 1) uNo (uSo (uVar 2))) (uTup (uCons (uCall Rc (uCons (uOp ixD (aa 1) (aa 2)) uNil)) uNil))) (uSl (aa 1) (uSo (uOp addD (aa 2) (uC (.int 1)))) uNo)))) uNext)
 (uSeq (uSet 2 (uCall aD (uCons (uOp addD (uCB lenD' (uCons (aa 1) uNil)) (uC (.int 1))) uNil)))
 (uSeq (uSet 3 (uCall aD (uCons (uC (.int 6)) uNil)))
 (uSeq (uIfS (uTst (uOp eqD (aa 3) (uC (.int 0)))) (uRet (uL (uSeqL (aa 1)))) uNext)
 (uSeq (uIfS (uTst (uOp eqD (aa 3) (uC (.int 1)))) (uRet (uOp addD (uSl (aa 1) uNo (uSo (uVar 2))) (uSl (aa 1) (uSo (uOp addD (aa 2) (uC (.int 1)))) uNo))) uNext)
 (uSeq (uIfS (uTst (uOp eqD (aa 3) (uC (.int 2)))) (uRet (uOp addD (uSl (aa 1) uNo (uSo (uVar 2))) (uSl (aa 1) (uSo (uCB max2D (uCons (uC (.int 0)) (uCons (uOp subD (aa 2) (uC (.int 1))) uNil)))) uNo))) uNext)
 (uSeq (uIfS (uTst (uOp eqD (aa 3) (uC (.int 3)))) (uRet (uUn revAD (aa 1))) uNext)
 (uSeq (uIfS (uTst (uOp eqD (aa 3) (uC (.int 4)))) (uRet (uOp addD (uOp addD (uSl (aa 1) uNo (uSo (uVar 2))) (uTup (uCons (uOp ixD (uL (uCons (uC .none) (uCons (uC (.int 0)) (uCons (uTup uNil) (uCons (uTup (uCons (uC (.int 0)) uNil)) (uCons (uC (.bool true)) uNil)))))) (uCall aD (uCons (uC (.int 5)) uNil))) uNil))) (uSl (aa 1) (uSo (uVar 2)) uNo))) uNext)
 (uRet (uOp ixD (uL (uCons (uC .none) (uCons (uC (.bool true)) (uCons (uC (.str "")) (uCons (uC (.int 0)) uNil))))) (uCall aD (uCons (uC (.int 4)) uNil)))))))))))))
def fL (Rc:UF):UF:=mkFF 4 2 (λ _=>fK Rc)
def cb:Nat->UF
 | 0=>F_no
 | d+1=>fL (cb d)
def bQ:UF:=cb 10
def dG:US:=(uSeq (uIfS (uOr (uTst (uIsxT 0 EXC ["NoLine", "NoText", "NoTie", "NoTurns", "NoWalk", "TooMany"])) (uNot (uTst (uIsxV 0 EXC)))) (uRet (uTup (uCons (uC (.str "other")) (uCons (uC (.int 0)) uNil)))) uNext)
 (uRet (uIf (uTst (uIsx 0 EXC "NoPaper")) (uTup (uCons (uFlx 0 EXC FL "word") (uCons (uFlx 0 EXC FL "number") uNil))) (uTup (uCons (uC (.str "other")) (uCons (uC (.int 0)) uNil))))))
def cv:UE:=mkE 1 dG
def d5:US:=(uSeq (uSet 3 (uTup (uCons (uC (.str "none")) (uCons (uC (.int 0)) uNil))))
 (uSeq (uTryA 3 4 bP "JoinError" EXC (uCons (uVar 0) (uCons (uVar 1) (uCons (uVar 2) uNil)))
 (uSet 3 (jk cv 4)))
 (uRet (uVar 3))))
def bu:UF:=mkF 5 3 (λ _=>d5)
def iu:US:=(uSeq (uIfS (uOr (uNot (uTst (uIsi "tuple" (aa 2)))) (uOr (uTst (uOp neD (uCB lenD' (uCons (aa 2) uNil)) (uC (.int 2)))) (uNot (uTst (uCall br (uCons (uOp ixD (aa 2) (uC (.int 0))) (uCons (uC (.int 1)) uNil))))))) (uRet (uTup (uCons (uC (.str "shape")) (uCons (uC (.int 0)) uNil)))) uNext)
 (uSeq (uIfS (uNot (uTst (uCall bA (uCons (uVar 0) (uCons (uOp ixD (aa 2) (uC (.int 1))) uNil))))) (uRet (uTup (uCons (uC (.str "shape")) (uCons (uC (.int 0)) uNil)))) uNext)
 (uSeq (uSet 3 (uCall bc (uCons (uVar 0) (uCons (uVar 1) (uCons (uOp ixD (aa 2) (uC (.int 0))) (uCons (uOp ixD (aa 2) (uC (.int 1))) uNil))))))
 (uRet (uIf (uTst (uOp isD (aa 3) (uC .none))) (uTup (uCons (uCall c9 (uCons (uVar 0) (uCons (uOp ixD (aa 2) (uC (.int 0))) (uCons (uOp ixD (aa 2) (uC (.int 1))) uNil)))) (uCons (uOp ixD (aa 2) (uC (.int 0))) uNil))) (uVar 3))))))
def dH:UF:=mkF 4 3 (λ _=>iu)
def u_law:US:=(uSeq (uFor (uIr (uC (.int 2))) (uNm 2)
 (uSeq (uSet 3 (uCall fc (uCons (uC (.int 5)) (uCons (uC (.int 8)) (uCons (uC (.bool false)) uNil)))))
 (uSeq (uSet 4 (uCall d4 (uCons (uVar 3) uNil)))
 (uSeq (uSet 5 (uTup (uCons (uOp addD (uC (.int 1)) (uCall aD (uCons (uC (.int 3)) uNil))) (uCons (uCall aG (uCons (uVar 3) (uCons (uVar 4) (uCons (uC (.int 1)) uNil)))) uNil))))
 (uSeq (uSet 6 (uL (uCons (uC .none) (uCons (uC (.bool true)) (uCons (uC (.int 0)) (uCons (uC (.str "least")) (uCons (uTup uNil) (uCons (uTup (uCons (uC (.int 1)) uNil)) (uCons (uTup (uCons (uC (.int 1)) (uCons (uTup uNil) uNil))) (uCons (uTup (uCons (uC (.int 0)) (uCons (uTup uNil) uNil))) (uCons (uTup (uCons (uC (.bool true)) (uCons (uTup uNil) uNil))) (uCons (uTup (uCons (uC (.int 1)) (uCons (uL uNil) uNil))) uNil))))))))))))
 (uSeq (uSet 6 (uOp addD (aa 6) (uL (uCons (uTup (uCons (uC (.int 1)) (uCons (uTup (uCons (uTup uNil) (uCons (uTup uNil) uNil))) uNil))) (uCons (uTup (uCons (uC (.int 1)) (uCons (uTup (uCons (uTup (uCons (uTup uNil) (uCons (uC (.int 1)) uNil))) uNil)) uNil))) (uCons (uTup (uCons (uC (.int 1)) (uCons (uTup (uCons (uTup uNil) (uCons (uC (.int 1)) uNil))) uNil))) (uCons (uTup (uCons (uC (.int 1)) (uCons (uTup (uCons (uTup (uCons (uTup (uCons (uC (.int 0)) uNil)) (uCons (uC (.bool true)) uNil))) uNil)) uNil))) (uCons (uOp addD (aa 5) (uTup (uCons (uC (.int 0)) uNil))) uNil))))))))
 (uSeq (uFor (uIr (uC (.int 8))) (uNm 7)
 (uSeq (uSet 8 (uCall bQ (uCons (uVar 5) uNil)))
 (uSet 6 (uOp addD (aa 6) (uL (uCons (uVar 8) (uCons (uCall bQ (uCons (uVar 8) uNil)) uNil)))))))
 (uFor (uItV 6) (uNm 9)
 (uSeq (uSet 10 (uRepr (uVar 9)))
 (uSeq (uSet 11 (uCall dH (uCons (uVar 3) (uCons (uVar 4) (uCons (uVar 9) uNil)))))
 (uSeq (uIfS (uTst (uOp nesD (uRepr (uCall bu (uCons (uVar 3) (uCons (uVar 4) (uCons (uVar 9) uNil))))) (uRepr (uVar 11)))) (uRet (uC (.bool false))) uNext)
 (uIfS (uTst (uOp nesD (uRepr (uVar 9)) (aa 10))) (uRet (uC (.bool false))) uNext))))))))))))
 (uRet (uC (.bool true))))
def top (i:Nat):Stmt:=PySem.Challenge.pw_oddjoins_k20_things_that_are_no_bound_pa.main.body.getD i (.Pass ⟨0,0,0,0⟩)
structure BtA (mg:Str->Option xK):Prop where
 ValueError:mg "ValueError" = none
 abs:mg "abs" = none
 all:mg "all" = none
 bool:mg "bool" = none
 enumerate:mg "enumerate" = none
 int:mg "int" = none
 isinstance:mg "isinstance" = none
 len:mg "len" = none
 list:mg "list" = none
 max:mg "max" = none
 min:mg "min" = none
 range:mg "range" = none
 repr:mg "repr" = none
 set:mg "set" = none
 sorted:mg "sorted" = none
 str:mg "str" = none
 sum:mg "sum" = none
 tuple:mg "tuple" = none
abbrev N0:List Str:=["word", "numbers"]
abbrev N1:List Str:=["thing"]
abbrev N2:List Str:=["thing", "least"]
abbrev N3:List Str:=["thing", "count"]
abbrev N4:List Str:=["thing", "ahead", "number"]
abbrev N5:List Str:=["thing", "bound"]
abbrev N8:List Str:=["web", "thing"]
abbrev N9:List Str:=["one", "other"]
abbrev N10:List Str:=["web", "some", "ends", "number"]
abbrev N11:List Str:=["number", "web"]
abbrev N12:List Str:=["web", "some"]
abbrev N13:List Str:=["number", "tie", "side"]
abbrev N14:List Str:=["web", "side"]
abbrev N15:List Str:=["place", "told"]
abbrev N16:List Str:=["told", "side"]
abbrev N17:List Str:=["number", "tie"]
abbrev N18:List Str:=["web"]
abbrev N19:List Str:=["high", "low", "price"]
abbrev N20:List Str:=["web", "told"]
abbrev N21:List Str:=["row", "web"]
abbrev N22:List Str:=["web", "told", "thing", "bottom", "rows"]
abbrev N23:List Str:=["row"]
abbrev N24:List Str:=["rows"]
abbrev N25:List Str:=["index", "row", "told"]
abbrev N26:List Str:=["told", "rows"]
abbrev N27:List Str:=["web", "rows"]
abbrev N28:List Str:=["number", "tie", "loads", "bottom"]
abbrev N29:List Str:=["web", "bottom", "rows", "loads", "row", "number"]
abbrev N30:List Str:=["_law_feed_here", "_law_is_plain", "_law_price_here"]
abbrev N31:List Str:=["_law_feed_here", "_law_most", "_law_many_ties", "_law_is_plain", "_law_many", "_law_ties", "_law_k", "_law_a", "_law_b"]
abbrev N32:List Str:=["_law_thing", "_law_other"]
abbrev N33:List Str:=["_law_one", "_law_other", "_law_both"]
abbrev N34:List Str:=["_law_thing", "_law_one"]
abbrev N35:List Str:=["_law_web_here", "_law_some", "_law_found", "_law_number"]
abbrev N36:List Str:=["_law_number", "_law_web_here"]
abbrev N37:List Str:=["_law_web_here", "_law_some"]
abbrev N38:List Str:=["_law_number", "_law_feed_here"]
abbrev N39:List Str:=["_law_feed_here", "_law_web_here"]
abbrev N40:List Str:=["_law_place", "_law_feed_here"]
abbrev N41:List Str:=["_law_number", "_law_tie"]
abbrev N42:List Str:=["_law_web_here"]
abbrev N43:List Str:=["_law_web_here", "_law_told_here"]
abbrev N44:List Str:=["_law_number", "_law_tie", "_law_side"]
abbrev N45:List Str:=["_law_web_here", "_law_side"]
abbrev N46:List Str:=["_law_place", "_law_side"]
abbrev N47:List Str:=["_law_side", "_law_told_here"]
abbrev N48:List Str:=["_law_thing", "_law_least"]
abbrev N49:List Str:=["_law_one", "_law_many"]
abbrev N50:List Str:=["_law_thing", "_law_many"]
abbrev N51:List Str:=["_law_one"]
abbrev N52:List Str:=["_law_web_here", "_law_thing", "_law_row"]
abbrev N53:List Str:=["_law_share", "_law_side", "_law_number", "_law_web_here"]
abbrev N54:List Str:=["_law_web_here", "_law_told_here", "_law_bottom", "_law_rows", "_law_odd_told_here", "_law_k", "_law_number", "_law_laid"]
abbrev N55:List Str:=["_law_share", "_law_side"]
abbrev N56:List Str:=["_law_web_here", "_law_bottom", "_law_rows"]
abbrev N57:List Str:=["_law_number", "_law_left"]
abbrev N58:List Str:=["_law_feed_here", "_law_web_here", "_law_told_here", "_law_bottom", "_law_odd_told_here", "_law_left", "_law_rows", "_law_turn", "_law_side", "_law_cut_here", "_law_most", "_law_share"]
abbrev N59:List Str:=["_law_number", "_law_left", "_law_share", "_law_cut_here"]
abbrev N60:List Str:=["_law_tie", "_law_bottom"]
abbrev N61:List Str:=["_law_feed_here", "_law_thing"]
abbrev N62:List Str:=["_law_feed_here", "_law_thing", "_law_at", "_law_way"]
abbrev N63:List Str:=["_law_e"]
abbrev N64:List Str:=["_law_web_here", "_law_told_here", "_law_thing", "_law_found", "_law_e"]
abbrev N65:List Str:=["_law_web_here", "_law_told_here", "_law_thing", "_law_fault"]
abbrev N66:List Str:=["_law_script", "_law_feed_here", "_law_k", "_law_web_here", "_law_told_here", "_law_paper", "_law_things", "_law_turn", "_law_bent_here", "_law_thing", "_law_kept", "_law_due_here"]
section
variable (P:yk)(w:World)(K:W.Frag)(mg:Str->Option xK)(base:Heap)(cl:Str->Addr)(Y:Fam)
abbrev dc:Prop:=DefX P w K mg base 3 "refuse_some" ["word", "numbers"] (spU (XC cl) aW)
abbrev d6:Prop:=DefOk P w K mg base 1 "is_whole" ["thing"] (spU (XC cl) bO)
abbrev bn:Prop:=DefOk P w K mg base 2 "is_whole_from" ["thing", "least"] (spU (XC cl) aS)
abbrev bN:Prop:=DefOk P w K mg base 1 "is_tuple_of" ["thing", "count"] (spU (XC cl) bi)
abbrev eO:Prop:=DefOk P w K mg base 2 "is_rising" ["thing"] (spU (XC cl) cW)
abbrev bv:Prop:=DefOk P w K mg base 3 "is_rising_below" ["thing", "bound"] (spU (XC cl) aX)
abbrev fM:Prop:=DefOk P w K mg base 1 "odd_ones" ["row"] (spU (XC cl) aM)
abbrev iw:Prop:=DefOk P w K mg base 4 "is_side" ["web", "thing"] (spU (XC cl) e9)
abbrev fN:Prop:=DefOk P w K mg base 2 "by_turns" ["one", "other"] (spU (XC cl) dU)
abbrev ix:Prop:=DefOk P w K mg base 2 "odds_of" ["web", "some"] (spU (XC cl) fb)
abbrev fO:Prop:=DefOk P w K mg base 1 "price_of" ["web", "some"] (spU (XC cl) dW)
abbrev jT:Prop:=DefOk P w K mg base 1 "cut_of" ["web", "side"] (spU (XC cl) gE)
abbrev dI:Prop:=DefOk P w K mg base 1 "is_odd_for" ["told", "side"] (spU (XC cl) cr)
abbrev jU:Prop:=DefOk P w K mg base 1 "below" ["web"] (spU (XC cl) ip)
abbrev jV:Prop:=DefOk P w K mg base 1 "turned" ["web"] (spU (XC cl) gF)
abbrev de:Prop:=DefOk P w K mg base 3 "turned_told" ["web", "told"] (spU (XC cl) bK)
abbrev df:Prop:=DefOk P w K mg base 5 "is_row_kind" ["web", "thing"] (spU (XC cl) bL)
abbrev cc:Prop:=DefOk P w K mg base 6 "is_bound_kind" ["web", "thing"] (spU (XC cl) aT)
abbrev fP:Prop:=DefX P w K mg base 7 "bound_by" ["web", "told", "thing"] (spU (XC cl) bP)
abbrev eP:Prop:=DefOk P w K mg base 1 "share_sum" ["rows"] (spU (XC cl) c6)
abbrev eQ:Prop:=DefOk P w K mg base 2 "even_rows" ["told", "rows"] (spU (XC cl) c5)
abbrev fQ:Prop:=DefOk P w K mg base 2 "cut_rows" ["web", "rows"] (spU (XC cl) dY)
abbrev dJ:Prop:=DefOk P w K mg base 1 "heavy_ties" ["web", "bottom", "rows"] (spU (XC cl) cu)
abbrev ay:Prop:=DefOk P w K mg base 1 "_law_take" ["_law_feed_here", "_law_many"] (spUF Y aD)
abbrev eR:Prop:=DefOk P w K mg base 2 "_law_price" ["_law_feed_here", "_law_is_plain"] (spUF Y c7)
abbrev iy:Prop:=DefOk P w K mg base 3 "_law_web" ["_law_feed_here", "_law_most", "_law_many_ties", "_law_is_plain"] (spUF Y fc)
abbrev bB:Prop:=DefOk P w K mg base 1 "_law_by_turns" ["_law_one", "_law_other"] (spU (XC cl) aN)
abbrev d7:Prop:=DefOk P w K mg base 2 "_law_odds" ["_law_web_here", "_law_some"] (spU (XC cl) cP)
abbrev cF:Prop:=DefOk P w K mg base 1 "_law_price_of" ["_law_web_here", "_law_some"] (spU (XC cl) bw)
abbrev dg:Prop:=DefOk P w K mg base 2 "_law_any_set" ["_law_feed_here", "_law_web_here"] (spUF Y bM)
abbrev bC:Prop:=DefOk P w K mg base 2 "_law_any_side" ["_law_feed_here", "_law_web_here"] (spUF Y aO)
abbrev fR:Prop:=DefOk P w K mg base 3 "_law_told" ["_law_feed_here", "_law_web_here"] (spUF Y d4)
abbrev dh:Prop:=DefOk P w K mg base 1 "_law_under" ["_law_web_here"] (spU (XC cl) bZ)
abbrev bD:Prop:=DefOk P w K mg base 3 "_law_odd_told" ["_law_web_here", "_law_told_here"] (spU (XC cl) a5)
abbrev ff:Prop:=DefOk P w K mg base 1 "_law_cut" ["_law_web_here", "_law_side"] (spU (XC cl) dE)
abbrev cw:Prop:=DefOk P w K mg base 1 "_law_is_odd" ["_law_side", "_law_told_here"] (spU (XC cl) bE)
abbrev ce:Prop:=DefOk P w K mg base 1 "_law_whole" ["_law_thing", "_law_least"] (spU (XC cl) br)
abbrev cf:Prop:=DefOk P w K mg base 2 "_law_is_rising" ["_law_thing", "_law_many"] (spU (XC cl) aU)
abbrev cG:Prop:=DefOk P w K mg base 3 "_law_are_rows" ["_law_web_here", "_law_thing"] (spU (XC cl) bA)
abbrev bG:Prop:=DefOk P w K mg base 4 "_law_rows_fault" ["_law_web_here", "_law_told_here", "_law_bottom", "_law_rows"] (spU (XC cl) bc)
abbrev eS:Prop:=DefOk P w K mg base 2 "_law_shown" ["_law_web_here", "_law_bottom", "_law_rows"] (spU (XC cl) c9)
abbrev cg:Prop:=DefOk P w K mg base 4 "_law_some_rows" ["_law_feed_here", "_law_web_here", "_law_told_here", "_law_bottom"] (spUF Y aG)
abbrev aV:Prop:=DefOk P w K mg base 2 "_law_leaf_bent" ["_law_feed_here", "_law_thing"] (spUF Y bj)
abbrev fS:Prop:=DefOk P w K mg base 13 "_law_bent" ["_law_feed_here", "_law_thing"] (spUF Y bQ)
abbrev dL:Prop:=DefH P w K mg base 1 "_law_caught" ["_law_e"] (spE (XC cl) cv)
abbrev fU:Prop:=DefOk P w K mg base 8 "_law_said" ["_law_web_here", "_law_told_here", "_law_thing"] (spU (XC cl) bu)
abbrev iz:Prop:=DefOk P w K mg base 5 "_law_due" ["_law_web_here", "_law_told_here", "_law_thing"] (spU (XC cl) dH)
end
end Odj
namespace L2
open PySem PySem.Spec PyProof.Rows
theorem SqL.new {K:W.Frag}{H:Hp}{a p:Addr}{xs:List V}{o:HO}(h:SqL K H a xs)(hp:H p=none):SqL K (upd H p o) a xs:=by
 rcases h with h | h
 ·refine .inl ?_
  rcases h with h | ⟨u,h⟩
  ·exact .inl (by rw[ag (aj h hp)]; exact h)
  ·exact .inr ⟨u,by rw[ag (aj h hp)]; exact h⟩
 ·exact .inr h
def rEqS (K:W.Frag):R2:=λ x y H Q=>∃(a b:Addr) (ns:List Int),x=.ref a/\y=.ref b/\SqL K H a (ns.map V.int)/\H b=some (.lst [])/\xH.canLayAll0 (ns.map xH.int)=true/\(xH.list (ns.map xH.int)).depth<=60/\Q (.bl (xH.eqv (.list (ns.map .int)) (.list []))) H
theorem xw {X:Cx}{k:Nat}(K:W.Frag)(hr:Room k X.A)(hk:X.K=K:=by rfl):OpR X (compareOp .Eq) (rEqS K):=by
 subst hk
 intro pins s σ H x y v u Q I rx ry h
 obtain⟨a,b,ns,rfl,rfl,ha,hb,c1,d1,q⟩:=h
 cases rx
 obtain⟨its,rv,⟨o,n,e,hc,_,hd⟩,_⟩:=I.list ha
 obtain⟨as,ra⟩:=Reps.reads (S:=[]) I.hok (.ints ns) rv
 obtain⟨bs,rb⟩:=(Rep.lst (S:=[]) hb (by simp) .nil).reads I.hok ry
 have hun:=hr.units
 exact SeqAt.compareEq_reads (.list e hc hd (by simpa using ra)) rb c1 rfl (by omega) ⟨.bl _,H,I,rfl,q⟩
end L2
namespace Odj
open PySem L2
theorem me (ns:List Int):xH.canLayAll0 (ns.map xH.int)=true:=by
 induction ns with
 | nil=>rfl
 | cons n ns ih=>simpa [xH.canLayAll0,xH.canLay0] using ih
theorem oy (ns:List Int):xH.depthAll (ns.map xH.int)=0:=by
 induction ns with
 | nil=>rfl
 | cons n ns ih=>simpa [xH.depthAll,xH.depth] using ih
structure Feed (H:Hp) (fa sa:Addr) (n:Int):Prop where
 ex:∃(k:Int) (ns:List Int) (i c:Int),H fa=some (.lst [.ref sa,.int i,.int c])/\H sa=some (.lst ((k::ns).map V.int))/\0<=i/\i<=n
 ne:sa≠fa
 lo:0<=n
theorem Feed.ext {S:List Addr}{H H':Hp}{fa sa:Addr}{n:Int}(f:Feed H fa sa n)(x:Ext S H H')(h1:fa ∉ S)(h2:sa ∉ S):Feed H' fa sa n:=by
 obtain⟨k,ns,i,c,e1,e2,e3⟩:=f.ex
 exact⟨⟨k,ns,i,c,x.keep _ _ h1 e1,x.keep _ _ h2 e2,e3⟩,f.ne,f.lo⟩
theorem Feed.put {H:Hp}{fa sa:Addr}{n:Int}(f:Feed H fa sa n)(i c n':Int)(h0:0<=i)(h:i<=n'):Feed (upd H fa (.lst [.ref sa,.int i,.int c])) fa sa n'/\Ext [fa] H (upd H fa (.lst [.ref sa,.int i,.int c])):=by
 obtain⟨k,ns,i0,c0,e1,e2,_⟩:=f.ex
 exact⟨⟨⟨k,ns,i,c,af,by rw[ag f.ne]; exact e2,h0,h⟩,f.ne,by omega⟩,.set (by simp) e1⟩
def famY:Fam where
 Feed:=Feed
 ext:=λ f x h1 h2=>f.ext x h1 h2
 fa:=λ f=>let ⟨_,_,_,_,e,_⟩:=f.ex; by rw[e]; simp
 sa:=λ f=>let ⟨_,_,_,_,_,e,_⟩:=f.ex; by rw[e]; simp
 nx:=λ f φ=>let ⟨_,_,_,_,e,_⟩:=f.ex; by rw[e]; simp
abbrev xx (K:W.Frag):Sp:=jL famY K
abbrev xy:Sp:=qO famY
section
variable {P:yk}{w:World}{K:W.Frag}{mg:Str->Option xK}{base:Heap}{f:Addr}{fd:yM}
theorem xz (F:Fun K "_law_feed" "_law_feed" (top 37) f fd)(hm:mg "_law_feed" = some (.ref f))(B:BtA mg):DefOk P w K mg base 1 "_law_feed" ["_law_script"] (xx K):=by
 refine⟨f,fd,?_,hm,F.kp,F.binds λ _ _ _ _ _ _ us hl=>by obtain⟨_,rfl⟩:=len1 hl; rfl⟩
 have sc:FnScope ["_law_script"] ["_law_script"] (ac (top 37)):=⟨rfl,rfl,rfl,by decide +kernel,rfl,by decide +kernel,by decide +kernel⟩
 refine F.okQ sc (λ vs H Q E h=>?_) (λ cdv A outer s H vs Q E hr h=>?_)
 ·obtain⟨a,ns,rfl,_⟩:=h
  rfl
 ·obtain⟨a,ns,rfl,hs,q⟩:=h
  refine⟨_,(cy (gP (mL (qa_c (qe_op tJ (mM (slL K) (qv 0) pP (pQ aw)) (qe_op pC (mL (qa_c aw aC)) (cI ki (by rfl) B.int (by decide +kernel) (qa_c (pL (xw K hr) (qv 0) (mL aC) (i7 _)) aC)))) (qa_c aw (qa_c aw aC)))))),?_⟩
  refine⟨_,rfl,63,rfl,a,_,rfl,hs,λ p hp=>⟨by show 1<=xV; decide,λ p1 hp1=>⟨_,rfl,yY _,λ p2 hp2=>⟨a,p2,ns,rfl,rfl,((hs.new hp).new hp1).new hp2,af,me ns,by simp[xH.depth,oy],.inr ⟨_,rfl,?_⟩⟩⟩⟩⟩
  obtain⟨cs,hcs,hcl,hc0⟩:∃cs:List Int,cutV (ns.map V.int) none (some 63)=cs.map V.int/\cs.length<=63/\(cs=[]->ns=[]):=by
   refine⟨(ns.drop (HT.sIx (ns.map V.int).length 0 none)).take (HT.sIx (ns.map V.int).length (ns.map V.int).length (some 63) - HT.sIx (ns.map V.int).length 0 none),?_,?_,?_⟩
   ·unfold cutV
    rw[List.map_take,List.map_drop]
   ·rw[HT.sIx_none,show (63:Int)=((63:Nat):Int) from rfl,HT.sIx_nat]
    simp only[yO]
    omega
   ·rw[HT.sIx_none,show (63:Int)=((63:Nat):Int) from rfl,HT.sIx_nat]
    cases ns with
    | nil=>intro _; rfl
    | cons z zs=>intro h; simp at h
  rw[hcs] at hp1 hp2 ⊢
  have y1:Ext [] H (upd H p (.lst (cs.map V.int))):=.new hp
  have ep:(upd H p (.lst (cs.map V.int))) p=some (.lst (cs.map V.int)):=af
  generalize upd H p (.lst (cs.map V.int))=H1 at y1 ep hp1 hp2 ⊢
  have y2:Ext [] H1 (upd H1 p1 (.lst [.int 0])):=.new hp1
  have ep1:(upd H1 p1 (.lst [.int 0])) p1=some (.lst [.int 0]):=af
  generalize upd H1 p1 (.lst [.int 0])=H2 at y2 ep1 hp2 ⊢
  have y3:Ext [] H2 (upd H2 p2 (.lst [])):=.new hp2
  generalize upd H2 p2 (.lst [])=H3 at y3 ⊢
  have z1:=y3.keep _ _ (by simp) ep1
  have z0:=y3.keep _ _ (by simp) (y2.keep _ _ (by simp) ep)
  have y13:=(y1.trans y2).trans y3
  generalize hb:xH.eqv (.list (ns.map .int)) (.list [])=b
  have hbn:ns=[]->b=true:=λ z=>by rw[<- hb,z]; rfl
  refine⟨p1,_,_,rfl,rfl,z1,by cases b <;> decide,by cases b <;> decide,by cases b <;> decide,λ p3 hp3=>?_⟩
  have y4:Ext [] H3 (upd H3 p3 (.lst (List.replicate (if b=true then (1:Int) else 0).toNat [V.int 0]).flatten)):=.new hp3
  have z3:(upd H3 p3 (.lst (List.replicate (if b=true then (1:Int) else 0).toNat [V.int 0]).flatten)) p3=some (.lst (List.replicate (if b=true then (1:Int) else 0).toNat [V.int 0]).flatten):=af
  generalize upd H3 p3 (.lst (List.replicate (if b=true then (1:Int) else 0).toNat [V.int 0]).flatten)=H4 at y4 z3 ⊢
  have hs6:xV=16777216:=by decide
  refine⟨p,p3,_,_,rfl,rfl,y4.keep _ _ (by simp) z0,z3,by rw[lS,xQ]; cases b <;> simp <;> omega,λ p4 hp4=>?_⟩
  obtain⟨k,ks,hk⟩:∃(k:Int) (ks:List Int),cs.map V.int++(List.replicate (if b=true then (1:Int) else 0).toNat [V.int 0]).flatten=(k::ks).map V.int:=by
   cases cs with
   | nil=>rw[hbn (hc0 rfl)]; exact⟨0,[],rfl⟩
   | cons z zs =>
    cases b with
    | true=>exact⟨z,zs++[0],by simp⟩
    | false=>exact⟨z,zs,by simp⟩
  rw[hk]
  refine⟨by show 3<=xV; decide,λ fa hfa=>?_⟩
  have y5:Ext [] H4 (upd H4 p4 (.lst ((k::ks).map V.int))):=.new hp4
  have z4:(upd H4 p4 (.lst ((k::ks).map V.int))) p4=some (.lst ((k::ks).map V.int)):=af
  have hp40:H p4=none:=(y13.trans y4).fresh (by simp) hp4
  generalize upd H4 p4 (.lst ((k::ks).map V.int))=H5 at y5 z4 hfa ⊢
  have y15:=(y13.trans y4).trans y5
  have hne:p4≠fa:=λ z=>by rw[z,hfa] at z4; cases z4
  exact q fa p4 _ ⟨⟨k,ks,0,0,af,by rw[ag hne]; exact z4,by decide,by decide⟩,hne,by decide⟩ (y15.trans (.new hfa)) (y15.fresh (by simp) hfa) hp40
theorem xA (F:Fun K "_law_take" "_law_take" (top 38) f fd)(hm:mg "_law_take" = some (.ref f))(B:BtA mg):DefOk P w K mg base 1 "_law_take" ["_law_feed_here", "_law_many"] xy:=by
 refine⟨f,fd,?_,hm,F.kp,F.binds λ _ _ _ _ _ _ us hl=>by obtain⟨_,_,rfl⟩:=len2 hl; rfl⟩
 have sc:FnScope ["_law_feed_here", "_law_many", "_law_found", "_law_spot", "_law_cell", "_law_mixed"] ["_law_feed_here", "_law_many"] (ac (top 38)):=⟨rfl,rfl,rfl,by decide +kernel,rfl,by decide +kernel,by decide +kernel⟩
 refine F.okQ sc (λ vs H Q E h=>?_) (λ cdv A outer s H vs Q E hr h=>?_)
 ·obtain⟨fa,sa,n,many,rfl,_⟩:=h
  rfl
 ·obtain⟨fa,sa,n,many,rfl,fe,m0,m1,nm,q⟩:=h
  have hmo:mostN=1099511627776:=rfl
  refine⟨_,(az (qs_if (jy op_gt (qe_ix (ixL K) (qv 0) aw (λ _ _=>rfl)) aw (i7 _)) (az (ek (i:=2) sc.nd rfl (Or.inl rfl) (qe_op eU (qe_ix (ixL K) (qv 0) aw (λ _ _=>rfl)) (qv 1)))
   (az (pU (qe_op o9 (qe_ix (ixL K) (qv 0) aw (λ _ _=>rfl)) (qv 1)) (pR (qv 0) aw gx))
   (cy (gP (qv 2))))) qss_nil)
   (az (ek (i:=3) sc.nd rfl (Or.inl rfl) (qe_ix (ixL K) (qv 0) aw (λ _ _=>rfl)))
   (az (pU (qe_op op_add (qv 3) aw) (pR (qv 0) aw gx))
   (az (ek (i:=4) sc.nd rfl (Or.inl rfl) (qe_ix (ixL K) (qe_ix (ixL K) (qv 0) aw (λ _ _=>rfl)) (qe_op eU (qv 3) (a8 (lenK K) (by rfl) B.len (by decide +kernel) (qa_c (qe_ix (ixL K) (qv 0) aw (λ _ _=>rfl)) aC))) (λ _ _=>rfl)))
   (vf (qs_if (QW.pt (tM (jy op_ge (qv 4) (qe_op wu aw aw) (i7 _)) (pN (jy op_lt (qv 3) (a8 (lenK K) (by rfl) B.len (by decide +kernel) (qa_c (qe_ix (ixL K) (qv 0) aw (λ _ _=>rfl)) aC)) (i7 _))))) (az (pU (qe_op o9 (qv 4) (qv 1)) (pR (qv 0) aw gx))
   (cy (gP (qe_op eU (qv 4) (qv 1))))) qss_nil)
   (az (ek (i:=5) sc.nd rfl (Or.inl rfl) (qe_op eU (qe_op op_mul (qe_op op_add (qe_op op_add (qe_op op_add (qe_op eU (qv 4) aw) (qe_op op_mul (qe_op op_mul aw (qv 3)) (qv 3))) (qe_op op_mul aw (qv 3))) aw) aw) aw))
   (az (ek (i:=5) sc.nd rfl (Or.inl rfl) (qe_op eU (qe_op op_add (qe_op op_add (qe_op op_mul (qv 5) (qv 5)) (qe_op op_mul aw (qv 3))) aw) aw))
   (cy (gP (qe_op eU (qe_op eU (qe_op op_add (qe_op op_mul (qv 5) aw) (qv 3)) aw) (qv 1))))))))))),?_⟩
  obtain⟨k,ns,i,c,e1,e2,i0,i1⟩:=fe.ex
  have n0:=fe.lo
  refine⟨_,rfl,fa,_,2,_,rfl,rfl,SqL.of e1,rfl,c,0,rfl,rfl,_,rfl,ite2 (λ hc=>?_) (λ hc=>?_)⟩
  ·refine⟨_,rfl,fa,_,2,_,rfl,rfl,SqL.of e1,rfl,_,rfl,c,many,rfl,rfl,m0,?_⟩
   refine⟨_,rfl,fa,_,2,_,rfl,rfl,SqL.of e1,rfl,_,rfl,c,many,rfl,rfl,⟨m0,m1⟩,_,rfl,fa,_,2,2,rfl,rfl,e1,rfl,?_⟩
   obtain⟨f2,x2⟩:=fe.put i (c / many) (n+1) i0 (by omega)
   exact⟨_,rfl,q _ _ (zP _ (by omega)) (zJ _ m0) f2 x2⟩
  ·refine⟨_,rfl,fa,_,1,_,rfl,rfl,SqL.of e1,rfl,?_⟩
   obtain⟨f2,x2⟩:=fe.put (i+1) c (n+1) (by omega) (by omega)
   refine⟨_,rfl,i,1,rfl,rfl,_,rfl,fa,_,1,1,rfl,rfl,e1,rfl,?_⟩
   have g1:(upd H fa (.lst [.ref sa,.int (i+1),.int c])) fa=some (.lst [.ref sa,.int (i+1),.int c]):=af
   have g2:(upd H fa (.lst [.ref sa,.int (i+1),.int c])) sa=some (.lst ((k::ns).map V.int)):=by rw[ag fe.ne]; exact e2
   dsimp only [zq,zg]
   generalize upd H fa (.lst [.ref sa,.int (i+1),.int c])=H1 at f2 x2 g1 g2 ⊢
   have hl:(0:Int)<(((k::ns).map V.int).length:Nat):=by simp
   obtain⟨v,hv,hv2⟩:=wF (xs:=(k::ns).map V.int) (zP i (by omega)) (zJ i hl)
   obtain⟨cell,rfl⟩:∃z,v=V.int z:=by
    rw[yg] at hv2
    cases e:(k::ns)[(i % (((k::ns).map V.int).length:Nat)).toNat]? with
    | none=>rw[e] at hv2; cases hv2
    | some z=>rw[e] at hv2; exact⟨z,(Option.some.inj hv2).symm⟩
   refine⟨_,rfl,fa,_,0,_,rfl,rfl,SqL.of g1,rfl,_,rfl,_,rfl,fa,_,0,_,rfl,rfl,SqL.of g1,rfl,sa,_,rfl,.inl (SqL.of g2),i,_,rfl,rfl,hl,sa,_,_,_,rfl,rfl,SqL.of g2,hv,?_⟩
   have ib:-(2 ^ 64)<i/\i<2 ^ 64:=by constructor <;> omega
   refine⟨λ σ' H'=>σ'=[some (.ref fa),some (.int many),none,some (.int i),some (.int cell),none]/\H'=H1,?_,?_⟩
   ·refine⟨_,rfl,10,18,rfl,rfl,⟨by decide,by decide,by decide⟩,cell,_,rfl,rfl,_,rfl,ite2 (λ hb=>?_) (λ hb=>iteF ⟨rfl,rfl⟩)⟩
    refine⟨_,rfl,_,rfl,fa,_,0,_,rfl,rfl,SqL.of g1,rfl,sa,_,rfl,.inl (SqL.of g2),_,_,rfl,rfl,_,rfl,ite2 (λ hd=>?_) (λ hd=>⟨rfl,rfl⟩)⟩
    refine⟨_,rfl,_,rfl,cell,many,rfl,rfl,⟨m0,m1⟩,_,rfl,fa,_,2,2,rfl,rfl,g1,rfl,?_⟩
    obtain⟨f4,x4⟩:=f2.put (i+1) (cell / many) (n+1) (by omega) (by omega)
    exact⟨_,rfl,_,rfl,cell,many,rfl,rfl,m0,q _ _ (zP _ (by omega)) (zJ _ m0) f4 (x2.trans x4)⟩
   ·rintro σ' H3 ⟨rfl,rfl⟩
    refine⟨_,rfl,_,_,rfl,rfl,(by show (0:Int)<1000003; decide),_,rfl,_,_,rfl,rfl,.inl ⟨by decide,by decide⟩,_,rfl,_,_,rfl,rfl,.inr ib,_,_,rfl,rfl,_,rfl,_,_,rfl,rfl,.inl ⟨by decide,by decide⟩,_,_,rfl,rfl,_,_,rfl,rfl,_,_,rfl,rfl,.inr ⟨by decide,by decide⟩,_,_,rfl,rfl,(by show (0:Int)<2147483629; decide),?_⟩
    generalize hM:(cell % 1000003+37 * i * i+11 * i+5) * 48271 % 2147483629=M
    have hM0:0<=M:=by rw[<- hM]; exact zP _ (by decide)
    have hM1:M<2147483629:=by rw[<- hM]; exact zJ _ (by decide)
    dsimp only
    rw[hM]
    refine⟨_,rfl,_,rfl,M,M,rfl,rfl,.inl ⟨by omega,by omega⟩,_,rfl,_,_,rfl,rfl,.inl ⟨by decide,by decide⟩,_,_,rfl,rfl,_,_,rfl,rfl,_,_,rfl,rfl,(by show (0:Int)<2147483587; decide),?_⟩
    exact⟨_,rfl,_,_,rfl,rfl,.inr ⟨by decide,by decide⟩,_,rfl,_,_,rfl,rfl,_,_,rfl,rfl,(by show (0:Int)<999979; decide),_,rfl,_,_,rfl,rfl,m0,q _ _ (zP _ (by omega)) (zJ _ m0) f2 x2⟩
end
end Odj
namespace L2
open PySem
theorem Ext.put {S:List Addr}{H0 H:Hp}{p:Addr}{o:HO}(a:Ext S H0 H)(h0:H0 p=none):Ext S H0 (upd H p o) :=
 ⟨λ b u hb e=>by rw[ag (λ z=>by rw[z,h0] at e; cases e)]; exact a.keep b u hb e,λ b ys e=>by rw[ag (λ z=>by rw[z,h0] at e; cases e)]; exact a.tup b ys e⟩
end L2
namespace Odj
open PySem L2
def a6 (o:Odd):List (Key × V):=o.map λ p=>((Sum.inl p.1:Key),V.bl p.2)
theorem lp (o:Odd)(k:Int):valV (a6 o) (Sum.inl k)=((o.find? λ p=>decide (p.1=k)).map (·.2)).map V.bl:=by
 induction o with
 | nil=>rfl
 | cons p o ih =>
  have e:a6 (p::o)=((Sum.inl p.1:Key),V.bl p.2)::a6 o:=rfl
  by_cases h:p.1=k
  ·rw[e,ba (by rw[h]),zv]
   simp[h]
  ·rw[e,bb (λ z=>h (Sum.inl.inj z)),ih,zv]
   simp[h]
theorem gG (o:Odd)(k:Int):(valV (a6 o) (Sum.inl k)).getD (.bl false)=.bl (isOdd o k):=by
 rw[lp]
 unfold isOdd
 cases (o.find? λ p=>decide (p.1=k)) <;> rfl
theorem qZ {o:Odd}(h:(aF o).Nodup){i:Nat}{p:Int × Bool}(hp:o[i]? = some p):valV (a6 o) (Sum.inl p.1)=some (.bl p.2):=by
 have e:=uv h hp
 rw[lp]
 unfold isOdd at e
 cases hf:(o.find? λ q=>decide (q.1=p.1)) with
 | none =>
  have:=List.find?_eq_none.mp hf p (zt hp)
  simp at this
 | some q =>
  rw[hf] at e
  have e':q.2=p.2:=e
  simp[e']
theorem jW (o:Odd)(k:Int):putK (a6 o) (Sum.inl k) (.bl (!isOdd o k))=a6 (aR o k):=by
 have ha:((a6 o).any λ kv=>decide (kv.1=Sum.inl k))=o.any λ p=>decide (p.1=k):=by
  unfold a6
  rw[List.any_map]
  congr 1
  funext p
  show decide ((Sum.inl p.1:Key)=Sum.inl k)=decide (p.1=k)
  by_cases h:p.1=k
  ·simp[h]
  ·have:¬ (Sum.inl p.1:Key)=Sum.inl k:=λ z=>h (Sum.inl.inj z)
   simp[h]
 unfold putK aR
 rw[ha]
 split
 ·unfold a6
  rw[yS,yS]
  apply List.map_congr_left
  intro p _
  simp only[Function.comp]
  by_cases h:p.1=k
  ·simp[h]
  ·have:¬ (Sum.inl p.1:Key)=Sum.inl k:=λ z=>h (Sum.inl.inj z)
   simp[h]
 ·unfold a6
  rw[yU]
  rfl
theorem gH (o:Odd):(a6 o).length=o.length:=by unfold a6; rw[xQ]
theorem lq (row:List Int)(k:Int):ao (row++[k])=aR (ao row) k:=by
 unfold ao
 rw[List.foldl_append]
 rfl
def vP (row ns:List Int):Prop:=ns.Perm (trues (ao row))/\ns.Pairwise (·<=·)
theorem oz (o:Odd)(k j:Int):isOdd (aR o k) j=if j=k then !isOdd o k else isOdd o j:=by
 have e:=gG (aR o k) j
 rw[<- jW,sm] at e
 by_cases h:j=k
 ·subst h
  rw[if_pos rfl] at e
  rw[if_pos rfl]
  exact (V.bl.inj e).symm
 ·rw[if_neg (λ z=>h (Sum.inl.inj z)),gG] at e
  rw[if_neg h]
  exact (V.bl.inj e).symm
theorem jm (k:Int):∀(row:List Int) (o:Odd),isOdd (row.foldl aR o) k=(isOdd o k != decide (row.count k % 2=1))
 | [],o=>by simp
 | x::row,o=>by
  rw[List.foldl_cons,jm k row,oz,List.count_cons]
  by_cases h:k=x
  ·subst h
   rw[if_pos rfl]
   have h2:=Ae (row.count k)
   rcases h2 with z | z
   ·have e1:(row.count k+if (k == k)=true then 1 else 0) % 2=1:=by simp; omega
    simp only[e1,z]
    cases isOdd o k <;> rfl
   ·have e1:(row.count k+if (k == k)=true then 1 else 0) % 2=0:=by simp; omega
    simp only[e1,z]
    cases isOdd o k <;> rfl
  ·rw[if_neg h]
   have e1:(x == k)=false:=by
    rw[beq_eq_false_iff_ne]
    exact λ z=>h z.symm
   simp[e1]
theorem iA (row:List Int)(k:Int):isOdd (ao row) k=decide (row.count k % 2=1):=by
 unfold ao
 rw[jm]
 have:isOdd [] k=false:=rfl
 rw[this]
 cases decide (row.count k % 2=1) <;> rfl
theorem jo:∀(row:List Int) (o:Odd),(aF o).Nodup->(aF (row.foldl aR o)).Nodup
 | [],o,h=>h
 | x::row,o,h=>jo row _ (ou h)
theorem d8 (row:List Int):(aF (ao row)).Nodup:=jo row [] (by simp[aF])
theorem jp:∀(row:List Int) (o:Odd),(row.foldl aR o).length<=o.length+row.length
 | [],o=>by simp
 | x::row,o=>by
  rw[List.foldl_cons,xP]
  have:=jp row (aR o x)
  have:=sS o x
  omega
theorem fV (row:List Int):(ao row).length<=row.length:=by
 have:=jp row []
 unfold ao
 simpa using this
theorem vQ {o:Odd}{k:Int}(h:isOdd o k=true):k∈aF o:=by
 unfold isOdd at h
 cases hf:(o.find? λ p=>decide (p.1=k)) with
 | none=>rw[hf] at h; cases h
 | some p=>exact yI.mpr ⟨p,List.mem_of_find?_eq_some hf,by simpa using List.find?_some hf⟩
theorem sX {o:Odd}(hn:(aF o).Nodup):trues o=(aF o).filter (isOdd o):=by
 unfold trues aF
 rw[List.filter_map]
 congr 1
 apply List.filter_congr
 intro p hp
 obtain⟨i,hi⟩:=List.getElem?_of_mem hp
 exact (uv hn hi).symm
theorem jX {row ns:List Int}(h:vP row ns):OddSet row ns/\ns.length<=row.length:=by
 have hn:=d8 row
 have ht:=sX hn
 have hnd:ns.Nodup:=h.1.symm.nodup (by rw[ht]; exact hn.filter _)
 refine⟨⟨?_,λ k=>?_⟩,?_⟩
 ·have:=h.2.and hnd
  exact this.imp λ z=>by
   have h1:=z.1
   have h2:=z.2
   omega
 ·rw[h.1.mem_iff,ht,yV,iA]
  constructor
  ·intro z; exact of_decide_eq_true z.2
  ·intro z
   exact⟨vQ (by rw[iA]; exact decide_eq_true z),decide_eq_true z⟩
 ·rw[h.1.length_eq]
  unfold trues
  rw[xQ]
  exact yv (zd _ _) (fV row)
def q8:Sp:=λ vs H Q _=>∃(a:Addr) (row:List Int),vs=[.ref a]/\(H a=some (.lst (row.map V.int))\/H a=some (.tup (row.map V.int)))/\(ao row).length<=60/\row.length<=100000 /\
 ∀(ns:List Int) (p:Addr) (H':Hp),OddSet row ns->ns.length<=row.length->H' p=some (.tup (ns.map V.int))->Ext [] H H'->Q (.ref p) H'
section
variable {P:yk}{w:World}{K:W.Frag}{mg:Str->Option xK}{base:Heap}{f:Addr}{fd:yM}
theorem mf (F:Fun K "odd_ones" "odd_ones" (top 16) f fd)(hm:mg "odd_ones" = some (.ref f))(B:BtA mg):DefOk P w K mg base 1 "odd_ones" ["row"] q8:=by
 refine⟨f,fd,?_,hm,F.kp,F.binds λ _ _ _ _ _ _ us hl=>by obtain⟨_,rfl⟩:=len1 hl; rfl⟩
 have sc:FnScope ["row", "odd", "number"] ["row"] (ac (top 16)):=⟨rfl,rfl,rfl,by decide +kernel,rfl,by decide +kernel,by decide +kernel⟩
 refine F.okQ sc (λ vs H Q E h=>?_) (λ cdv A outer s H vs Q E hr h=>?_)
 ·obtain⟨a,row,rfl,_⟩:=h
  rfl
 ·obtain⟨a,row,rfl,ha,hb,hrl,q⟩:=h
  have hsz:xV=16777216:=by decide
  have hu:=hu_of hr
  rcases ha with ha | ha
  ·skip
   refine⟨_,(az (ek (i:=1) sc.nd rfl (Or.inr rfl) mP)
   (az (pV PassesOwn.never rfl (sk K (qv 0)) (gO (i:=2) sc.nd rfl (Or.inl rfl)) (cy (p8 hu (qv 1) (qv 2) (pO (mQ hu (qv 1) (qv 2) qe_bl ⟨rfl,rfl,rfl,rfl⟩)))))
   (cy (gP (cI (pW K) (by rfl) B.tuple (by decide +kernel) (qa_c (a8 (dz K) (by rfl) B.sorted (by decide +kernel) (qa_c (lT (N:=["number", "odd"]) (mp:=[none,some 1]) rfl (qb (qv 1)) rfl (by show eV ["row", "odd", "number"] (ac (top 16)) _ _ _=true; decide +kernel) λ _ _ _ _ _=>⟨(gO (i:=0) (by show List.Nodup [("number" : Str),("odd" : Str)]; decide +kernel) rfl (Or.inl rfl)),(pS (pM (p7 hu (qv 1) (qv 0) (λ _ _=>rfl)))),(qv 0)⟩) aC)) aC)))))),?_⟩
   intro d hd
   have had:a≠d:=aj ha hd
   refine⟨_,rfl,a,rfl,⟨_,SqL.of (by rw[ag had]; exact ha)⟩,rW (xs:=row.map V.int) (λ i σ' H'=>(∃y,σ'=[some (.ref a),some (.ref d),y])/\H' d=some (.dK (a6 (ao (row.take i))))/\Ext [] H H')
    ⟨⟨none,rfl⟩,af,.new hd⟩ (λ i σ' H' _ h=>SqL.of (h.2.2.keep _ _ (by simp) ha)) ?_ ?_⟩
   ·rintro i x σ' H' hx ⟨⟨y,rfl⟩,hD,x1⟩
    rw[yg] at hx
    cases hk:row[i]? with
    | none=>rw[hk] at hx; cases hx
    | some k =>
     rw[hk] at hx
     cases hx
     have ol:=fV (row.take i)
     rw[yO] at ol
     refine⟨_,rfl,d,rfl,.inl ⟨_,.inl hD⟩,_,rfl,_,DGet.k (k:=Sum.inl k) hD,_,gG _ _,_,rfl,_,rfl,d,_,rfl,DPut.k (k:=Sum.inl k) hD (by rw[gH]; omega),⟨_,rfl⟩,?_,x1.put hd⟩
     rw[af,jW,zT,hk]
     show _=some (HO.dK (a6 (ao (row.take i++[k]))))
     rw[lq]
   ·rintro σ' H' ⟨⟨y,rfl⟩,hD,x1⟩
    rw[zm (by rw[xQ]; exact xL _)] at hD
    have ol:(ao row).length<=60/\(aF (ao row)).Nodup:=⟨hb,d8 row⟩
    refine⟨_,rfl,d,_,rfl,hD,λ o=>kH (λ i ys σ' H2=>(∃y,σ'=[y,some (.ref d)])/\H2=upd H' d (.frz o (.dK (a6 (ao row))))/\ys=(((ao row).take i).filter (·.2)).map λ p=>V.int p.1) ⟨⟨none,rfl⟩,rfl,rfl⟩
     (λ i ys σ' H2 h=>by rw[h.2.1]; exact af) ?_ ?_⟩
    ·rintro i k v ys σ' H2 hkv ⟨⟨y,rfl⟩,rfl,rfl⟩
     unfold a6 at hkv
     rw[yg] at hkv
     cases hp:(ao row)[i]? with
     | none=>rw[hp] at hkv; cases hkv
     | some p =>
      rw[hp] at hkv
      cases hkv
      have hl:((((ao row).take i).filter (·.2)).map λ p=>V.int p.1).length<xV:=by
       rw[xQ]
       have:=zd (·.2) ((ao row).take i)
       rw[yO] at this
       omega
      refine⟨hl,_,rfl,_,rfl,d,.bl p.2,rfl,.inl ⟨_,Sum.inl p.1,.inr ⟨o,af⟩,rfl,(qZ ol.2 hp).symm⟩,_,rfl,?_⟩
      have et:(ao row).take (i+1)=(ao row).take i++[p]:=by rw[zT,hp]; rfl
      cases hb2:p.2 with
      | true=>exact iteT ⟨_,rfl,⟨_,rfl⟩,rfl,by rw[et,zQ,yU]; simp[zO,hb2]; rfl⟩
      | false=>exact iteF ⟨⟨_,rfl⟩,rfl,by rw[et,zQ,yU]; simp[zO,hb2]⟩
    ·rintro ys σ' H2 ⟨⟨y,rfl⟩,rfl,rfl⟩
     rw[zm (by rw[gH]; exact xL _)]
     have e:((ao row).filter (·.2)).map (λ p=>V.int p.1)=(trues (ao row)).map V.int:=by unfold trues; rw[yS]; rfl
     rw[e]
     have hl:(trues (ao row)).length<=60:=by
      unfold trues
      rw[xQ]
      have:=zd (·.2) (ao row)
      omega
     refine⟨by rw[xQ]; omega,λ D hDn=>⟨D,trues (ao row),rfl,SqL.of af,by omega,λ l ms p1 p2 hl2=>⟨l,_,rfl,.inl ⟨SqL.of af,λ t ht=>q ms t _ (jX ⟨p1,p2⟩).1 (jX ⟨p1,p2⟩).2 af ?_⟩⟩⟩⟩
     exact (((x1.put hd).trans (.new hDn)).trans (.new hl2)).trans (.new ht)
  ·skip
   refine⟨_,(az (ek (i:=1) sc.nd rfl (Or.inr rfl) mP)
   (az (pV PassesOwn.never rfl (vg K (qv 0)) (gO (i:=2) sc.nd rfl (Or.inl rfl)) (cy (p8 hu (qv 1) (qv 2) (pO (mQ hu (qv 1) (qv 2) qe_bl ⟨rfl,rfl,rfl,rfl⟩)))))
   (cy (gP (cI (pW K) (by rfl) B.tuple (by decide +kernel) (qa_c (a8 (dz K) (by rfl) B.sorted (by decide +kernel) (qa_c (lT (N:=["number", "odd"]) (mp:=[none,some 1]) rfl (qb (qv 1)) rfl (by show eV ["row", "odd", "number"] (ac (top 16)) _ _ _=true; decide +kernel) λ _ _ _ _ _=>⟨(gO (i:=0) (by show List.Nodup [("number" : Str),("odd" : Str)]; decide +kernel) rfl (Or.inl rfl)),(pS (pM (p7 hu (qv 1) (qv 0) (λ _ _=>rfl)))),(qv 0)⟩) aC)) aC)))))),?_⟩
   intro d hd
   have had:a≠d:=aj ha hd
   refine⟨_,rfl,a,rfl,⟨_,SqT.of (by rw[ag had]; exact ha)⟩,uO (K:=K) (a:=a) (xs:=row.map V.int) (λ i σ' H'=>(∃y,σ'=[some (.ref a),some (.ref d),y])/\H' d=some (.dK (a6 (ao (row.take i))))/\Ext [] H H')
    ⟨⟨none,rfl⟩,af,.new hd⟩ (λ i σ' H' _ h=>SqT.of (h.2.2.tup _ _ ha)) ?_ ?_⟩
   ·rintro i x σ' H' hx ⟨⟨y,rfl⟩,hD,x1⟩
    rw[yg] at hx
    cases hk:row[i]? with
    | none=>rw[hk] at hx; cases hx
    | some k =>
     rw[hk] at hx
     cases hx
     have ol:=fV (row.take i)
     rw[yO] at ol
     refine⟨_,rfl,d,rfl,.inl ⟨_,.inl hD⟩,_,rfl,_,DGet.k (k:=Sum.inl k) hD,_,gG _ _,_,rfl,_,rfl,d,_,rfl,DPut.k (k:=Sum.inl k) hD (by rw[gH]; omega),⟨_,rfl⟩,?_,x1.put hd⟩
     rw[af,jW,zT,hk]
     show _=some (HO.dK (a6 (ao (row.take i++[k]))))
     rw[lq]
   ·rintro σ' H' ⟨⟨y,rfl⟩,hD,x1⟩
    rw[zm (by rw[xQ]; exact xL _)] at hD
    have ol:(ao row).length<=60/\(aF (ao row)).Nodup:=⟨hb,d8 row⟩
    refine⟨_,rfl,d,_,rfl,hD,λ o=>kH (λ i ys σ' H2=>(∃y,σ'=[y,some (.ref d)])/\H2=upd H' d (.frz o (.dK (a6 (ao row))))/\ys=(((ao row).take i).filter (·.2)).map λ p=>V.int p.1) ⟨⟨none,rfl⟩,rfl,rfl⟩
     (λ i ys σ' H2 h=>by rw[h.2.1]; exact af) ?_ ?_⟩
    ·rintro i k v ys σ' H2 hkv ⟨⟨y,rfl⟩,rfl,rfl⟩
     unfold a6 at hkv
     rw[yg] at hkv
     cases hp:(ao row)[i]? with
     | none=>rw[hp] at hkv; cases hkv
     | some p =>
      rw[hp] at hkv
      cases hkv
      have hl:((((ao row).take i).filter (·.2)).map λ p=>V.int p.1).length<xV:=by
       rw[xQ]
       have:=zd (·.2) ((ao row).take i)
       rw[yO] at this
       omega
      refine⟨hl,_,rfl,_,rfl,d,.bl p.2,rfl,.inl ⟨_,Sum.inl p.1,.inr ⟨o,af⟩,rfl,(qZ ol.2 hp).symm⟩,_,rfl,?_⟩
      have et:(ao row).take (i+1)=(ao row).take i++[p]:=by rw[zT,hp]; rfl
      cases hb2:p.2 with
      | true=>exact iteT ⟨_,rfl,⟨_,rfl⟩,rfl,by rw[et,zQ,yU]; simp[zO,hb2]; rfl⟩
      | false=>exact iteF ⟨⟨_,rfl⟩,rfl,by rw[et,zQ,yU]; simp[zO,hb2]⟩
    ·rintro ys σ' H2 ⟨⟨y,rfl⟩,rfl,rfl⟩
     rw[zm (by rw[gH]; exact xL _)]
     have e:((ao row).filter (·.2)).map (λ p=>V.int p.1)=(trues (ao row)).map V.int:=by unfold trues; rw[yS]; rfl
     rw[e]
     have hl:(trues (ao row)).length<=60:=by
      unfold trues
      rw[xQ]
      have:=zd (·.2) (ao row)
      omega
     refine⟨by rw[xQ]; omega,λ D hDn=>⟨D,trues (ao row),rfl,SqL.of af,by omega,λ l ms p1 p2 hl2=>⟨l,_,rfl,.inl ⟨SqL.of af,λ t ht=>q ms t _ (jX ⟨p1,p2⟩).1 (jX ⟨p1,p2⟩).2 af ?_⟩⟩⟩⟩
     exact (((x1.put hd).trans (.new hDn)).trans (.new hl2)).trans (.new ht)
theorem lr:∀(row:List Int) (o:Odd) (k:Int),k∈aF (row.foldl aR o)->k∈aF o\/k∈row
 | [],o,k,h=>.inl h
 | x::row,o,k,h=>by
  rcases lr row _ k h with h | h
  ·rcases sU h with h | h
   ·exact .inr (by rw[h]; exact ya ..)
   ·exact .inl h
  ·exact .inr (xT _ h)
theorem q9 (row:List Int)(k:Int)(h:k∈aF (ao row)):k∈row:=by
 rcases lr row [] k h with h | h
 ·simp[aF] at h
 ·exact h
theorem dM {S:List Addr}{H:Hp}:∀ns:List Int,Reps S H (ns.map .int) (ns.map V.int)
 | []=>.nil
 | n::ns=>.cons (.int n) (dM ns)
theorem uw {row ns:List Int}(h:OddSet row ns):ns=oddI row:=by
 refine fC h.1 (cN _) λ k=>?_
 unfold oddI
 rw[h.2,mem_usortI,yV]
 constructor
 ·intro z
  exact⟨Ad.mp (by omega),decide_eq_true z⟩
 ·intro z
  exact of_decide_eq_true z.2
theorem lu (row:List Int):(ao row).length<=(onceI row).length:=by
 have h:=cK (d8 row) (ns:=onceI row) λ k hk=>mem_onceI.mpr ?_
 ·unfold aF at h
  rwa [xQ] at h
 ·exact q9 row k hk
theorem oA (F:Fun K "odd_ones" "odd_ones" (top 16) f fd)(hm:mg "odd_ones" = some (.ref f))(B:BtA mg){C:Xc}:DefOk P w K mg base 1 "odd_ones" ["row"] (spU C aM) :=
 (mf F hm B).imp λ vs H Q E ⟨S,ds,n,Qp,Xp,r,has,hF,hq,_⟩=>by
  unfold aM at hF
  split at hF
  ·rename_i es
   obtain⟨row,e,⟨h1,h2⟩,q⟩:=hF
   obtain⟨v,t,rfl,rv,rn⟩:=r.of_cons
   cases rn.of_nil
   obtain⟨a,xs,rfl,ha,_,rs⟩:=rv.of_lst
   rw[bW e] at rs
   rw[bf rs] at ha
   refine⟨a,row,rfl,.inl ha,yv (lu row) h1,h2,λ ns p H' ho _ hp x=>hq _ _ H' (.tup hp (dM _)) x ?_⟩
   rw[uw ho]
   exact q
  ·rename_i es
   obtain⟨row,e,⟨h1,h2⟩,q⟩:=hF
   obtain⟨v,t,rfl,rv,rn⟩:=r.of_cons
   cases rn.of_nil
   obtain⟨a,xs,rfl,ha,rs⟩:=rv.of_tup
   rw[bW e] at rs
   rw[bf rs] at ha
   refine⟨a,row,rfl,.inr ha,yv (lu row) h1,h2,λ ns p H' ho _ hp x=>hq _ _ H' (.tup hp (dM _)) x ?_⟩
   rw[uw ho]
   exact q
  ·exact hF.elim
end
end Odj
namespace Odj
open PySem PySem.Spec L2
section
variable {P:yk}{w:World}{K:W.Frag}{mg:Str->Option xK}{base:Heap}{f:Addr}{fd:yM}{cl:Str->Addr}{Y:Fam}
theorem re {C J:Addr}(F:Fun K "__init__" "NoPaper.__init__" (clsFn (top 2) 0) f fd)(r:RF K C J f)(j:JOk K J)(m:mg "NoPaper" = some (.ref C))(n0:W.findIn K (.ref C) "word" = some none)(n1:W.findIn K (.ref C) "number" = some none):RaiseOk P w K mg base "NoPaper" C (spX2 C "word" "number"):=by
 have sc:FnScope ["self", "word", "number"] ["self", "word", "number"] (ac (clsFn (top 2) 0)):=⟨rfl,rfl,rfl,by decide +kernel,rfl,by decide +kernel,by decide +kernel⟩
 refine sG r j m (ps:=["self", "word", "number"]) (F.okQ (k:=0) sc (λ vs H Q E h=>?_) (λ cdv A outer s H vs Q E hr h=>?_)) (F.binds λ _ _ _ _ _ _ us hl=>match us,hl with | [_,_,_],_=>rfl)
 ·obtain⟨x,a,b,rfl,_⟩:=h
  rfl
 ·obtain⟨x,a,b,rfl,hx,q⟩:=h
  exact⟨_,(az (qy K C (qv 0) (qv 1)) (cy (qy K C (qv 0) (qv 2)))),_,rfl,_,rfl,x,rfl,(r.mk' j).ec,n0,.inl ⟨hx,λ d hd hdx=>⟨_,rfl,_,rfl,x,rfl,(r.mk' j).ec,n1,.inr ⟨d,[("word",a)],(by rw[ag hdx.symm,af]),af,(by simp),q d hd hdx⟩⟩⟩⟩
end
section
variable {P:yk}{w:World}{K:W.Frag}{mg:Str->Option xK}{base:Heap}{f:Addr}{fd:yM}{cl:Str->Addr}{Y:Fam}
theorem jY (F:FM K mg "refuse_some" (top 9))(B:BtA mg)(R_NoPaper:RaiseOk P w K mg base "NoPaper" (cl "NoPaper") (spX2 (cl "NoPaper") "word" "number")) :
  dc P w K mg base cl :=
 defX2 cU N0 F λ sc f cdv A outer s H E n0 S has Ex hx hr hu hlv =>
 (ae (s_if (b_cmp o_gt (KE.loose (k_cB c_len B.len (kal_c (k_l 1) ah))) (KE.loose k_int)) (ae (nq E Ex (XC cl) R_NoPaper (show FL "NoPaper" = (["word", "number"]:List Str) by decide +kernel) (λ _ _=>rfl) (RM hr) hlv rfl hx (ka_c (k_v 0) (ka_c (k_ix (k_l 1) (KE.loose k_int)) ad)))) av))
theorem oB (F:FM K mg "is_whole" (top 11))(B:BtA mg) :
  d6 P w K mg base cl :=
 defU2 fD N1 F λ sc f cdv A outer s H E n0 S has hr hu =>
 (ae (s_ret (k_and (k_isi B.isinstance B.int (k_l 0)) (k_one (k_not (k_isi B.isinstance B.bool (k_l 0)))))))
theorem iB (F:FM K mg "is_whole_from" (top 12))(B:BtA mg)(D_is_whole:d6 P w K mg base cl) :
  bn P w K mg base cl :=
 defU2 bX N2 F λ sc f cdv A outer s H E n0 S has hr hu =>
 (ae (s_ret (k_and (ak D_is_whole (RM hr) (ka_c (k_v 0) ad)) (k_one (k_cmp o_ge (k_l 0) (k_l 1))))))
theorem jZ (F:FM K mg "is_tuple_of" (top 13))(B:BtA mg) :
  bN P w K mg base cl :=
 defU2 cV N3 F λ sc f cdv A outer s H E n0 S has hr hu =>
 (ae (s_ret (k_and (k_isi B.isinstance B.tuple (k_l 0)) (k_one (k_cmp (o_eq hu) (KE.loose (k_cB c_len B.len (kal_c (k_l 0) ah))) (k_l 1))))))
theorem mh (F:FM K mg "is_rising" (top 14))(B:BtA mg)(D_is_whole:d6 P w K mg base cl) :
  eO P w K mg base cl :=
 defU2 eG N4 F λ sc f cdv A outer s H E n0 S has hr hu =>
 (kss_c (s_if (b_not (b_val (k_isi B.isinstance B.tuple (k_l 0)))) (ae (s_ret k_bl)) av)
 (kss_c (s_st 1 sc.nd (k_neg k_int))
 (kss_c (s_for PassesOwn.never rfl (i_var 0) (g_m 2 sc.nd)
 (kss_c (s_if (KW.kb (w_or (b_not (b_val (ak D_is_whole (RM hr) (ka_c (k_v 2) ad)))) (w_or1 (b_cmp o_le (k_l 2) (k_l 1))))) (ae (s_ret k_bl)) av)
 (ae (s_st 1 sc.nd (k_v 2)))))
 (ae (s_ret k_bl)))))
theorem fW (F:FM K mg "is_rising_below" (top 15))(B:BtA mg)(D_is_rising:eO P w K mg base cl) :
  bv P w K mg base cl :=
 defU2 bq N5 F λ sc f cdv A outer s H E n0 S has hr hu =>
 (ae (s_ret (k_and (ak D_is_rising (RM hr) (ka_c (k_v 0) ad)) (k_one (k_or (k_cmp (o_eq hu) (KE.loose (k_cB c_len B.len (kal_c (k_l 0) ah))) (KE.loose k_int)) (k_one (k_cmp o_lt (KE.loose (k_ix (k_l 0) (KE.loose (k_neg k_int)))) (k_l 1))))))))
end
section
variable {P:yk}{w:World}{K:W.Frag}{mg:Str->Option xK}{base:Heap}{f:Addr}{fd:yM}{cl:Str->Addr}{Y:Fam}
theorem rf (F:FM K mg "is_side" (top 18))(B:BtA mg)(D_is_rising_below:bv P w K mg base cl) :
  iw P w K mg base cl :=
 defU2 ik N8 F λ sc f cdv A outer s H E n0 S has hr hu =>
 (ae (s_ret (ak D_is_rising_below (RM hr) (ka_c (k_v 1) (ka_c (k_ix (k_l 0) (KE.loose k_int)) ad)))))
theorem oE (F:FM K mg "by_turns" (top 19))(B:BtA mg)(D_odd_ones:fM P w K mg base cl) :
  fN P w K mg base cl :=
 defU2 fE N9 F λ sc f cdv A outer s H E n0 S has hr hu =>
 (ae (s_ret (ak D_odd_ones (RM hr) (ka_c (k_op o_add (k_l 0) (k_l 1)) ad))))
theorem rg (F:FM K mg "odds_of" (top 20))(B:BtA mg)(D_odd_ones:fM P w K mg base cl) :
  ix P w K mg base cl :=
 defU2 io N10 F λ sc f cdv A outer s H E n0 S has hr hu =>
 (kss_c (s_nw 2 sc.nd (bT ad))
 (kss_c (s_for PassesOwn.never rfl (i_var 1) (g_m 3 sc.nd)
 (ae (nk 2 PySem.F.plainAttrs_list PySem.F.slot_list_extend PySem.F.type_list_extend (sK) (ka_c (k_sl (KE.loose (k_ix (KE.loose (k_ix (k_l 0) (KE.loose k_int))) (k_l 3))) bU (bV k_int)) ad))))
 (ae (s_ret (vF D_odd_ones (RM hr) (kal_c (k_l 2) ah))))))
theorem oF (F:FM K mg "price_of" (top 21))(B:BtA mg) :
  fO P w K mg base cl :=
 defU2 fF N12 F λ sc f cdv A outer s H E n0 S has hr hu =>
 (ae (s_ret (k_cB (k8 rfl) B.sum (kal_c (KE.loose (KN.data (aI [] (N:=N11) (mp:=[none,some 0]) rfl (j_seq (k_l 1)) rfl (co N12 (ac (top 21))) (λ _ _ _ _ _=>⟨(g_m 0 (nd N11)),dn,(k_ix (KE.loose (k_ix (KE.loose (k_ix (k_l 1) (KE.loose k_int))) (k_l 0))) (KE.loose k_int))⟩) (hfd:=fd0)))) ah))))
theorem sY (F:FM K mg "cut_of" (top 22))(B:BtA mg) :
  jT P w K mg base cl :=
 defU2 jR N14 F λ sc f cdv A outer s H E n0 S has hr hu =>
 (ae (s_ret (k_cT cz B.tuple (kal_c (KE.loose (KN.data (aI [] (N:=N13) (mp:=[none,none,some 1]) rfl (je B.enumerate (KE.loose (k_ix (k_l 0) (KE.loose k_int)))) rfl (co N14 (ac (top 22))) (λ _ _ _ _ _=>⟨(g_t (n':=2) rfl (gs_c (g_m 0 (nd N13)) (gs_c (g_m 1 (nd N13)) eW)) (nxs [0,1]) rfl),(cm (b_cmp (o_ne hu) (KE.loose (k_cmp (o_in hu) (KE.loose (k_ix (k_l 1) (KE.loose k_int))) (k_l 2))) (KE.loose (k_cmp (o_in hu) (KE.loose (k_ix (k_l 1) (KE.loose k_int))) (k_l 2))))),(k_v 0)⟩) (hfd:=fd0)))) ah))))
theorem lv (F:FM K mg "is_odd_for" (top 23))(B:BtA mg) :
  dI P w K mg base cl :=
 defU2 dC N16 F λ sc f cdv A outer s H E n0 S has hr hu =>
 (ae (s_ret (k_cmp (o_eq hu) (KE.loose (k_op o_mod (KE.loose (k_cB c_len B.len (kal_c (KE.loose (KN.data (aI [] (N:=N15) (mp:=[none,some 0]) rfl (j_seq (k_l 1)) rfl (co N16 (ac (top 23))) (λ _ _ _ _ _=>⟨(g_m 0 (nd N15)),(cm (b_cmp (o_in hu) (k_l 0) (k_l 1))),(k_v 0)⟩) (hfd:=fd0)))) ah))) (KE.loose k_int))) (KE.loose k_int))))
end
section
variable {P:yk}{w:World}{K:W.Frag}{mg:Str->Option xK}{base:Heap}{f:Addr}{fd:yM}{cl:Str->Addr}{Y:Fam}
theorem vR (F:FM K mg "below" (top 25))(B:BtA mg) :
  jU P w K mg base cl :=
 defU2 ma N18 F λ sc f cdv A outer s H E n0 S has hr hu =>
 (ae (s_ret (k_cT cz B.tuple (kal_c (KE.loose (KN.data (aI [] (N:=N17) (mp:=[none,none]) rfl (je B.enumerate (KE.loose (k_ix (k_l 0) (KE.loose k_int)))) rfl (co N18 (ac (top 25))) (λ _ _ _ _ _=>⟨(g_t (n':=2) rfl (gs_c (g_m 0 (nd N17)) (gs_c (g_m 1 (nd N17)) eW)) (nxs [0,1]) rfl),(cm (b_cmp o_lt (KE.loose (k_ix (k_l 1) (KE.loose k_int))) (KE.loose k_int))),(k_v 0)⟩) (hfd:=fd0)))) ah))))
theorem sZ (F:FM K mg "turned" (top 26))(B:BtA mg) :
  jV P w K mg base cl :=
 defU2 jS N18 F λ sc f cdv A outer s H E n0 S has hr hu =>
 (ae (s_ret (k_tup (ka_c (k_ix (k_l 0) (KE.loose k_int)) (ka_c (k_cT cz B.tuple (kal_c (KE.loose (KN.data (aI [] (N:=N19) (mp:=[none,none,none]) rfl (j_seq (KE.loose (k_ix (k_l 0) (KE.loose k_int)))) rfl (co N18 (ac (top 26))) (λ _ _ _ _ _=>⟨(g_t (n':=3) rfl (gs_c (g_m 1 (nd N19)) (gs_c (g_m 0 (nd N19)) (gs_c (g_m 2 (nd N19)) eW))) (nxs [1,0,2]) rfl),dn,(k_tup (ka_c (k_v 1) (ka_c (k_v 0) (ka_c (k_cB c_abs B.abs (kal_c (k_l 2) ah)) ad))))⟩) (hfd:=fd0)))) ah)) ad)))))
theorem j3 (F:FM K mg "turned_told" (top 27))(B:BtA mg)(D_by_turns:fN P w K mg base cl)(D_odds_of:ix P w K mg base cl)(D_below:jU P w K mg base cl) :
  de P w K mg base cl :=
 defU2 cY N20 F λ sc f cdv A outer s H E n0 S has hr hu =>
 (ae (s_ret (ak D_by_turns (RM hr) (ka_c (k_v 1) (ka_c (ak D_odds_of (RM hr) (ka_c (k_v 0) (ka_c (ak D_below (RM hr) (ka_c (k_v 0) ad)) ad))) ad)))))
theorem j4 (F:FM K mg "is_row_kind" (top 29))(B:BtA mg)(D_is_whole_from:bn P w K mg base cl)(D_is_side:iw P w K mg base cl)(D_is_tuple_of:bN P w K mg base cl) :
  df P w K mg base cl :=
 defU2 cZ N8 F λ sc f cdv A outer s H E n0 S has hr hu =>
 (ae (s_ret (k_and (ak D_is_tuple_of (RM hr) (ka_c (k_v 1) (ka_c k_int ad))) (k_and (ak D_is_side (RM hr) (ka_c (k_v 0) (ka_c (k_ix (k_l 1) (KE.loose k_int)) ad))) (k_one (ak D_is_whole_from (RM hr) (ka_c (k_ix (k_l 1) (KE.loose k_int)) (ka_c k_int ad))))))))
theorem iC (F:FM K mg "is_bound_kind" (top 30))(B:BtA mg)(D_is_row_kind:df P w K mg base cl)(D_is_whole_from:bn P w K mg base cl)(D_is_tuple_of:bN P w K mg base cl) :
  cc P w K mg base cl :=
 defU2 bY N8 F λ sc f cdv A outer s H E n0 S has hr hu =>
 (kss_c (s_if (KW.kb (w_or (b_not (b_val (ak D_is_tuple_of (RM hr) (ka_c (k_v 1) (ka_c k_int ad))))) (w_or (b_not (b_val (ak D_is_whole_from (RM hr) (ka_c (k_ix (k_l 1) (KE.loose k_int)) (ka_c k_int ad))))) (w_or1 (b_not (b_val (k_isi B.isinstance B.tuple (KE.loose (k_ix (k_l 1) (KE.loose k_int)))))))))) (ae (s_ret k_bl)) av)
 (ae (s_ret (k_cB (c_all rfl) B.all (kal_c (KE.loose (KN.data (aI [] (N:=N21) (mp:=[none,some 0]) rfl (j_seq (KE.loose (k_ix (k_l 1) (KE.loose k_int)))) rfl (co N8 (ac (top 30))) (λ _ _ _ _ _=>⟨(g_m 0 (nd N21)),dn,(ak D_is_row_kind (RM hr) (ka_c (k_v 1) (ka_c (k_v 0) ad)))⟩) (hfd:=fd0)))) ah)))))
theorem oG (F:FM K mg "bound_by" (top 31))(B:BtA mg)(D_share_sum:eP P w K mg base cl)(D_price_of:fO P w K mg base cl)(D_below:jU P w K mg base cl)(D_refuse_some:dc P w K mg base cl)(D_heavy_ties:dJ P w K mg base cl)(D_cut_rows:fQ P w K mg base cl)(D_turned:jV P w K mg base cl)(D_even_rows:eQ P w K mg base cl)(D_turned_told:de P w K mg base cl)(D_is_bound_kind:cc P w K mg base cl)(R_NoPaper:RaiseOk P w K mg base "NoPaper" (cl "NoPaper") (spX2 (cl "NoPaper") "word" "number")) :
  fP P w K mg base cl :=
 defX2 dZ N22 F λ sc f cdv A outer s H E n0 S has Ex hx hr hu hlv =>
 (kss_c (s_if (b_not (b_val (ak D_is_bound_kind (RM hr) (ka_c (k_v 0) (ka_c (k_v 2) ad))))) (ae (nq E Ex (XC cl) R_NoPaper (show FL "NoPaper" = (["word", "number"]:List Str) by decide +kernel) (λ _ _=>rfl) (RM hr) hlv rfl hx (ka_c k_str (ka_c k_int ad)))) av)
 (kss_c (s_st 3 sc.nd (k_ix (k_l 2) (KE.loose k_int)))
 (kss_c (s_st 4 sc.nd (k_ix (k_l 2) (KE.loose k_int)))
 (kss_c (t6 (qK E Ex D_refuse_some (RM hr) hlv hx (ka_c k_str (ka_c (ak D_even_rows (RM hr) (ka_c (ak D_turned_told (RM hr) (ka_c (k_v 0) (ka_c (k_v 1) ad))) (ka_c (k_v 4) ad))) ad))))
 (kss_c (t6 (qK E Ex D_refuse_some (RM hr) hlv hx (ka_c k_str (ka_c (ak D_heavy_ties (RM hr) (ka_c (ak D_turned (RM hr) (ka_c (k_v 0) ad)) (ka_c (k_v 3) (ka_c (ak D_cut_rows (RM hr) (ka_c (k_v 0) (ka_c (k_v 4) ad))) ad)))) ad))))
 (ae (s_ret (k_tup (ka_c (k_op o_add (KE.loose (ak D_share_sum (RM hr) (ka_c (k_v 4) ad))) (KE.loose (k_op o_mul (k_l 3) (KE.loose (ak D_price_of (RM hr) (ka_c (k_v 0) (ka_c (ak D_below (RM hr) (ka_c (k_v 0) ad)) ad))))))) (ka_c (k_v 3) ad))))))))))
end
section
variable {P:yk}{w:World}{K:W.Frag}{mg:Str->Option xK}{base:Heap}{f:Addr}{fd:yM}{cl:Str->Addr}{Y:Fam}
theorem mn (F:FM K mg "share_sum" (top 32))(B:BtA mg) :
  eP P w K mg base cl :=
 defU2 eJ N24 F λ sc f cdv A outer s H E n0 S has hr hu =>
 (ae (s_ret (k_cB (k8 rfl) B.sum (kal_c (KE.loose (KN.data (aI [] (N:=N23) (mp:=[none]) rfl (j_seq (k_l 0)) rfl (co N24 (ac (top 32))) (λ _ _ _ _ _=>⟨(g_m 0 (nd N23)),dn,(k_ix (k_l 0) (KE.loose k_int))⟩) (hfd:=fd0)))) ah))))
theorem mo (F:FM K mg "even_rows" (top 33))(B:BtA mg)(D_is_odd_for:dI P w K mg base cl) :
  eQ P w K mg base cl :=
 defU2 eI N26 F λ sc f cdv A outer s H E n0 S has hr hu =>
 (ae (s_ret (KN.data (aI [] (N:=N25) (mp:=[none,none,some 0]) rfl (je B.enumerate (k_l 1)) rfl (co N26 (ac (top 33))) (λ _ _ _ _ _=>⟨(g_t (n':=2) rfl (gs_c (g_m 0 (nd N25)) (gs_c (g_m 1 (nd N25)) eW)) (nxs [0,1]) rfl),(cm (b_not (b_val (ak D_is_odd_for (RM hr) (ka_c (k_v 2) (ka_c (k_ix (k_l 1) (KE.loose k_int)) ad)))))),(k_v 0)⟩) (hfd:=fd0)))))
theorem oH (F:FM K mg "cut_rows" (top 34))(B:BtA mg)(D_cut_of:jT P w K mg base cl) :
  fQ P w K mg base cl :=
 defU2 fG N27 F λ sc f cdv A outer s H E n0 S has hr hu =>
 (ae (s_ret (KN.data (aI [] (N:=N21) (mp:=[none,some 0]) rfl (j_seq (k_l 1)) rfl (co N27 (ac (top 34))) (λ _ _ _ _ _=>⟨(g_m 0 (nd N21)),dn,(k_tup (ka_c (ak D_cut_of (RM hr) (ka_c (k_v 1) (ka_c (k_ix (k_l 0) (KE.loose k_int)) ad))) (ka_c (k_ix (k_l 0) (KE.loose k_int)) ad)))⟩) (hfd:=fd0)))))
theorem lw (F:FM K mg "heavy_ties" (top 35))(B:BtA mg) :
  dJ P w K mg base cl :=
 defU2 dD N29 F λ sc f cdv A outer s H E n0 S has hr hu =>
 (kss_c (s_nw 3 sc.nd (n_mul (KE.loose (KN.data (bT (ka_c k_int ad)))) (KE.loose (k_cB c_len B.len (kal_c (KE.loose (k_ix (k_l 0) (KE.loose k_int))) ah)))) (Or.inr rfl))
 (kss_c (s_for PassesOwn.never rfl (i_var 2) (g_m 4 sc.nd)
 (ae (s_for PassesOwn.never rfl (i_seq (k_ix (k_l 4) (KE.loose k_int))) (g_m 5 sc.nd)
 (ae (w6 3 wm (k_v 5) (k_ix (k_l 4) (KE.loose k_int)))))))
 (ae (s_ret (KN.data (aI [] (N:=N28) (mp:=[none,none,some 3,some 1]) rfl (je B.enumerate (KE.loose (k_ix (k_l 0) (KE.loose k_int)))) rfl (co N29 (ac (top 35))) (λ _ _ _ _ _=>⟨(g_t (n':=2) rfl (gs_c (g_m 0 (nd N28)) (gs_c (g_m 1 (nd N28)) eW)) (nxs [0,1]) rfl),(cm (b_cmp o_gt (KE.loose (k_ix (k_l 2) (k_l 0))) (KE.loose (k_op o_mul (k_l 3) (KE.loose (k_ix (k_l 1) (KE.loose k_int))))))),(k_v 0)⟩) (hfd:=fd0)))))))
theorem mq (F:FM K mg "_law_price" (top 39))(B:BtA mg)(D_law_take:ay P w K mg base Y) :
  eR P w K mg base Y :=
 defF2 (C:=XC λ _=>0) eK N30 F λ sc f cdv A outer s H E fa sa n0 S hf hS has hr hu =>
 (kss_c (s_st 2 sc.nd (k_ix (KE.loose (KN.data (bT (ka_c k_int (ka_c k_int (ka_c k_int (ka_c k_int (ka_c k_int (ka_c k_int (ka_c (k_neg k_int) (ka_c (k_neg k_int) (ka_c (k_neg k_int) (ka_c k_int (ka_c (k_neg k_int) (ka_c k_int ad))))))))))))))) (KE.loose (aq 0 D_law_take (RM hr) (ka_c k_int ad) (hfd:=(by decide:0∈[0]))))))
 (ae (s_ret (k_if (b_val (k_v 1)) (k_cB c_abs B.abs (kal_c (k_l 2) ah)) (k_v 2)))))
theorem rh (F:FM K mg "_law_web" (top 40))(B:BtA mg)(D_law_take:ay P w K mg base Y)(D_law_price:eR P w K mg base Y) :
  iy P w K mg base Y :=
 defF2 (C:=XC λ _=>0) iq N31 F λ sc f cdv A outer s H E fa sa n0 S hf hS has hr hu =>
 (kss_c (s_st 4 sc.nd (k_op o_add (KE.loose k_int) (KE.loose (aq 0 D_law_take (RM hr) (ka_c (k_v 1) ad) (hfd:=(by decide:0∈[0]))))))
 (kss_c (s_nw 5 sc.nd (bT ad))
 (kss_c (s_for PassesOwn.never rfl (fw B.range (k_op o_mul (KE.loose (aq 0 D_law_take (RM hr) (ka_c (k_op o_add (k_l 2) (KE.loose k_int)) ad) (hfd:=(by decide:0∈[0])))) (KE.loose (k_cT c_int B.int (kal_c (KE.loose (k_cmp o_gt (k_l 4) (KE.loose k_int))) ah))))) (g_m 6 sc.nd)
 (kss_c (s_st 7 sc.nd (aq 0 D_law_take (RM hr) (ka_c (k_v 4) ad) (hfd:=(by decide:0∈[0]))))
 (kss_c (s_st 8 sc.nd (k_op o_mod (KE.loose (k_op o_add (KE.loose (k_op o_add (k_l 7) (KE.loose k_int))) (KE.loose (aq 0 D_law_take (RM hr) (ka_c (k_op o_sub (k_l 4) (KE.loose k_int)) ad) (hfd:=(by decide:0∈[0])))))) (k_l 4)))
 (kss_c (nk 5 PySem.F.plainAttrs_list PySem.F.slot_list_append PySem.F.type_list_append (jK) (ka_c (k_tup (ka_c (k_cB (wZ rfl) B.min (kal_c (k_l 7) (kal_c (k_l 8) ah))) (ka_c (k_cB (tY rfl) B.max (kal_c (k_l 7) (kal_c (k_l 8) ah))) (ka_c (aq 0 D_law_price (RM hr) (ka_c (k_v 3) ad) (hfd:=(by decide:0∈[0]))) ad)))) ad))
 (ae (s_if (KW.kb (w_and (b_cmp (o_eq hu) (KE.loose (aq 0 D_law_take (RM hr) (ka_c k_int ad) (hfd:=(by decide:0∈[0])))) (KE.loose k_int)) (qF (b_cmp o_lt (KE.loose (k_cB c_len B.len (kal_c (k_l 5) ah))) (k_l 2))))) (ae (nk 5 PySem.F.plainAttrs_list PySem.F.slot_list_append PySem.F.type_list_append (jK) (ka_c (k_ix (k_l 5) (KE.loose (k_neg k_int))) ad))) av))))))
 (ae (s_ret (k_tup (ka_c (k_v 4) (ka_c (k_cT cz B.tuple (kal_c (KE.loose (k_sl (k_l 5) bU (bV (k_v 2)))) ah)) ad))))))))
end
section
variable {P:yk}{w:World}{K:W.Frag}{mg:Str->Option xK}{base:Heap}{f:Addr}{fd:yM}{cl:Str->Addr}{Y:Fam}
theorem iU (F:FM K mg "_law_by_turns" (top 41))(B:BtA mg) :
  bB P w K mg base cl :=
 defU2 cA N33 F λ sc f cdv A outer s H E n0 S has hr hu =>
 (kss_c (s_st 2 sc.nd (k_op o_add (KE.loose (KN.data (aI [] (N:=N32) (mp:=[none,some 1]) rfl (j_seq (k_l 0)) rfl (co N33 (ac (top 41))) (λ _ _ _ _ _=>⟨(g_m 0 (nd N32)),(cm (b_cmp (o_nin hu) (k_l 0) (k_l 1))),(k_v 0)⟩) (hfd:=fd0)))) (KE.loose (KN.data (aI [] (N:=N34) (mp:=[none,some 0]) rfl (j_seq (k_l 1)) rfl (co N33 (ac (top 41))) (λ _ _ _ _ _=>⟨(g_m 0 (nd N34)),(cm (b_cmp (o_nin hu) (k_l 0) (k_l 1))),(k_v 0)⟩) (hfd:=fd0))))))
 (ae (s_ret (k_cT cz B.tuple (kal_c (KE.loose (KN.data (vM B.sorted (k_l 2)))) ah)))))
theorem oI (F:FM K mg "_law_odds" (top 42))(B:BtA mg)(D_law_by_turns:bB P w K mg base cl) :
  d7 P w K mg base cl :=
 defU2 fH N35 F λ sc f cdv A outer s H E n0 S has hr hu =>
 (kss_c (s_st 2 sc.nd (k_tup ad))
 (kss_c (s_for PassesOwn.never rfl (i_var 1) (g_m 3 sc.nd)
 (ae (s_st 2 sc.nd (ak D_law_by_turns (RM hr) (ka_c (k_v 2) (ka_c (k_sl (KE.loose (k_ix (KE.loose (k_ix (k_l 0) (KE.loose k_int))) (k_l 3))) bU (bV k_int)) ad))))))
 (ae (s_ret (k_v 2)))))
theorem iV (F:FM K mg "_law_price_of" (top 43))(B:BtA mg) :
  cF P w K mg base cl :=
 defU2 cB N37 F λ sc f cdv A outer s H E n0 S has hr hu =>
 (ae (s_ret (k_cB (k8 rfl) B.sum (kal_c (KE.loose (KN.data (aI [] (N:=N36) (mp:=[none,some 0]) rfl (j_seq (k_l 1)) rfl (co N37 (ac (top 43))) (λ _ _ _ _ _=>⟨(g_m 0 (nd N36)),dn,(k_ix (KE.loose (k_ix (KE.loose (k_ix (k_l 1) (KE.loose k_int))) (k_l 0))) (KE.loose k_int))⟩) (hfd:=fd0)))) ah))))
theorem j5 (F:FM K mg "_law_any_set" (top 44))(B:BtA mg)(D_law_take:ay P w K mg base Y) :
  dg P w K mg base Y :=
 defF2 (C:=XC λ _=>0) c8 N39 F λ sc f cdv A outer s H E fa sa n0 S hf hS has hr hu =>
 (ae (s_ret (k_cT cz B.tuple (kal_c (KE.loose (KN.data (aI [1] (N:=N38) (mp:=[none,some 0]) rfl (l4 B.range (k_cB c_len B.len (kal_c (KE.loose (k_ix (k_l 1) (KE.loose k_int))) ah))) rfl (co N39 (ac (top 44))) (λ _ _ _ _ _=>⟨(g_m 0 (nd N38)),(cm (b_cmp (o_eq hu) (KE.loose (aq 1 D_law_take (RM hr) (ka_c k_int ad) (hfd:=(by decide:1∈[1])))) (KE.loose k_int))),(k_v 0)⟩) (hfd:=(fd1 (i:=0) rfl))))) ah))))
theorem iW (F:FM K mg "_law_any_side" (top 45))(B:BtA mg)(D_law_take:ay P w K mg base Y) :
  bC P w K mg base Y :=
 defF2 (C:=XC λ _=>0) cC N39 F λ sc f cdv A outer s H E fa sa n0 S hf hS has hr hu =>
 (ae (s_ret (k_cT cz B.tuple (kal_c (KE.loose (KN.data (aI [1] (N:=N40) (mp:=[none,some 0]) rfl (l4 B.range (k_ix (k_l 1) (KE.loose k_int))) rfl (co N39 (ac (top 45))) (λ _ _ _ _ _=>⟨(g_m 0 (nd N40)),(cm (b_cmp (o_eq hu) (KE.loose (aq 1 D_law_take (RM hr) (ka_c k_int ad) (hfd:=(by decide:1∈[1])))) (KE.loose k_int))),(k_v 0)⟩) (hfd:=(fd1 (i:=0) rfl))))) ah))))
theorem oJ (F:FM K mg "_law_told" (top 46))(B:BtA mg)(D_law_any_side:bC P w K mg base Y)(D_law_take:ay P w K mg base Y)(D_law_odds:d7 P w K mg base cl)(D_law_any_set:dg P w K mg base Y) :
  fR P w K mg base Y :=
 defF2 (C:=XC λ _=>0) fJ N39 F λ sc f cdv A outer s H E fa sa n0 S hf hS has hr hu =>
 (kss_c (s_if (b_cmp o_gt (KE.loose (aq 0 D_law_take (RM hr) (ka_c k_int ad) (hfd:=(by decide:0∈[0])))) (KE.loose k_int)) (ae (s_ret (ak D_law_odds (RM hr) (ka_c (k_v 1) (ka_c (aq 0 D_law_any_set (RM hr) (ka_c (k_v 1) ad) (hfd:=(by decide:0∈[0]))) ad))))) av)
 (ae (s_ret (aq 0 D_law_any_side (RM hr) (ka_c (k_v 1) ad) (hfd:=(by decide:0∈[0]))))))
end
section
variable {P:yk}{w:World}{K:W.Frag}{mg:Str->Option xK}{base:Heap}{f:Addr}{fd:yM}{cl:Str->Addr}{Y:Fam}
theorem mr (F:FM K mg "_law_under" (top 47))(B:BtA mg) :
  dh P w K mg base cl :=
 defU2 eL N42 F λ sc f cdv A outer s H E n0 S has hr hu =>
 (ae (s_ret (k_cT cz B.tuple (kal_c (KE.loose (KN.data (aI [] (N:=N41) (mp:=[none,none]) rfl (je B.enumerate (KE.loose (k_ix (k_l 0) (KE.loose k_int)))) rfl (co N42 (ac (top 47))) (λ _ _ _ _ _=>⟨(g_t (n':=2) rfl (gs_c (g_m 0 (nd N41)) (gs_c (g_m 1 (nd N41)) eW)) (nxs [0,1]) rfl),(cm (b_cmp o_lt (KE.loose (k_ix (k_l 1) (KE.loose k_int))) (KE.loose k_int))),(k_v 0)⟩) (hfd:=fd0)))) ah))))
theorem iX (F:FM K mg "_law_odd_told" (top 48))(B:BtA mg)(D_law_by_turns:bB P w K mg base cl)(D_law_odds:d7 P w K mg base cl)(D_law_under:dh P w K mg base cl) :
  bD P w K mg base cl :=
 defU2 cD N43 F λ sc f cdv A outer s H E n0 S has hr hu =>
 (ae (s_ret (ak D_law_by_turns (RM hr) (ka_c (k_v 1) (ka_c (ak D_law_odds (RM hr) (ka_c (k_v 0) (ka_c (ak D_law_under (RM hr) (ka_c (k_v 0) ad)) ad))) ad)))))
theorem rj (F:FM K mg "_law_cut" (top 49))(B:BtA mg) :
  ff P w K mg base cl :=
 defU2 ir N45 F λ sc f cdv A outer s H E n0 S has hr hu =>
 (ae (s_ret (k_cT cz B.tuple (kal_c (KE.loose (KN.data (aI [] (N:=N44) (mp:=[none,none,some 1]) rfl (je B.enumerate (KE.loose (k_ix (k_l 0) (KE.loose k_int)))) rfl (co N45 (ac (top 49))) (λ _ _ _ _ _=>⟨(g_t (n':=2) rfl (gs_c (g_m 0 (nd N44)) (gs_c (g_m 1 (nd N44)) eW)) (nxs [0,1]) rfl),(cm (b_cmp (o_ne hu) (KE.loose (k_cmp (o_in hu) (KE.loose (k_ix (k_l 1) (KE.loose k_int))) (k_l 2))) (KE.loose (k_cmp (o_in hu) (KE.loose (k_ix (k_l 1) (KE.loose k_int))) (k_l 2))))),(k_v 0)⟩) (hfd:=fd0)))) ah))))
theorem lx (F:FM K mg "_law_is_odd" (top 50))(B:BtA mg) :
  cw P w K mg base cl :=
 defU2 dF N47 F λ sc f cdv A outer s H E n0 S has hr hu =>
 (ae (s_ret (k_cmp (o_eq hu) (KE.loose (k_op o_mod (KE.loose (k_cB c_len B.len (kal_c (KE.loose (KN.data (aI [] (N:=N46) (mp:=[none,some 0]) rfl (j_seq (k_l 1)) rfl (co N47 (ac (top 50))) (λ _ _ _ _ _=>⟨(g_m 0 (nd N46)),(cm (b_cmp (o_in hu) (k_l 0) (k_l 1))),(k_v 0)⟩) (hfd:=fd0)))) ah))) (KE.loose k_int))) (KE.loose k_int))))
theorem mt (F:FM K mg "_law_whole" (top 51))(B:BtA mg) :
  ce P w K mg base cl :=
 defU2 eM N48 F λ sc f cdv A outer s H E n0 S has hr hu =>
 (ae (s_ret (k_and (k_isi B.isinstance B.int (k_l 0)) (k_and (k_not (k_isi B.isinstance B.bool (k_l 0))) (k_one (k_cmp o_ge (k_l 0) (k_l 1)))))))
theorem iD (F:FM K mg "_law_is_rising" (top 52))(B:BtA mg)(D_law_whole:ce P w K mg base cl) :
  cf P w K mg base cl :=
 defU2 b4 N50 F λ sc f cdv A outer s H E n0 S has hr hu =>
 (kss_c (s_if (KW.kb (w_or (b_not (b_val (k_isi B.isinstance B.tuple (k_l 0)))) (w_or1 (b_cmp (o_in hu) (KE.loose k_bl) (KE.loose (KN.data (aI [] (N:=N51) (mp:=[none]) rfl (j_seq (k_l 0)) rfl (co N50 (ac (top 52))) (λ _ _ _ _ _=>⟨(g_m 0 (nd N51)),dn,(ak D_law_whole (RM hr) (ka_c (k_v 0) (ka_c k_int ad)))⟩) (hfd:=fd0)))))))) (ae (s_ret k_bl)) av)
 (ae (s_ret (k_and (k_cmp (o_eq hu) (KE.loose (KN.data (ud B.list (k_l 0)))) (KE.loose (KN.data (vG B.sorted B.set rfl (k_l 0))))) (k_one (k_cmp (o_eq hu) (KE.loose (KN.data (aI [] (N:=N49) (mp:=[none,some 1]) rfl (j_seq (k_l 0)) rfl (co N50 (ac (top 52))) (λ _ _ _ _ _=>⟨(g_m 0 (nd N49)),(cm (b_cmp o_ge (k_l 0) (k_l 1))),(k_v 0)⟩) (hfd:=fd0)))) (KE.loose (KN.data (bT ad)))))))))
end
section
variable {P:yk}{w:World}{K:W.Frag}{mg:Str->Option xK}{base:Heap}{f:Addr}{fd:yM}{cl:Str->Addr}{Y:Fam}
theorem iY (F:FM K mg "_law_are_rows" (top 53))(B:BtA mg)(D_law_whole:ce P w K mg base cl)(D_law_is_rising:cf P w K mg base cl) :
  cG P w K mg base cl :=
 defU2 cE N52 F λ sc f cdv A outer s H E n0 S has hr hu =>
 (kss_c (s_if (b_not (b_val (k_isi B.isinstance B.tuple (k_l 1)))) (ae (s_ret k_bl)) av)
 (kss_c (s_for PassesOwn.never rfl (i_var 1) (g_m 2 sc.nd)
 (kss_c (s_if (KW.kb (w_or (b_not (b_val (k_isi B.isinstance B.tuple (k_l 2)))) (w_or1 (b_cmp (o_ne hu) (KE.loose (k_cB c_len B.len (kal_c (k_l 2) ah))) (KE.loose k_int))))) (ae (s_ret k_bl)) av)
 (ae (s_if (KW.kb (w_or (b_not (b_val (ak D_law_is_rising (RM hr) (ka_c (k_ix (k_l 2) (KE.loose k_int)) (ka_c (k_ix (k_l 0) (KE.loose k_int)) ad))))) (w_or1 (b_not (b_val (ak D_law_whole (RM hr) (ka_c (k_ix (k_l 2) (KE.loose k_int)) (ka_c k_int ad)))))))) (ae (s_ret k_bl)) av))))
 (ae (s_ret k_bl))))
theorem gr (F:FM K mg "_law_rows_fault" (top 54))(B:BtA mg)(D_law_cut:ff P w K mg base cl)(D_law_is_odd:cw P w K mg base cl)(D_law_odd_told:bD P w K mg base cl) :
  bG P w K mg base cl :=
 defU2 bF N54 F λ sc f cdv A outer s H E n0 S has hr hu =>
 (kss_c (s_st 4 sc.nd (ak D_law_odd_told (RM hr) (ka_c (k_v 0) (ka_c (k_v 1) ad))))
 (kss_c (s_for PassesOwn.never rfl (fw B.range (k_cB c_len B.len (kal_c (k_l 3) ah))) (g_m 5 sc.nd)
 (ae (s_if (b_not (b_val (ak D_law_is_odd (RM hr) (ka_c (k_ix (KE.loose (k_ix (k_l 3) (k_l 5))) (KE.loose k_int)) (ka_c (k_v 4) ad))))) (ae (s_ret (k_tup (ka_c k_str (ka_c (k_v 5) ad))))) av)))
 (kss_c (s_for PassesOwn.never rfl (fw B.range (k_cB c_len B.len (kal_c (KE.loose (k_ix (k_l 0) (KE.loose k_int))) ah))) (g_m 6 sc.nd (Or.inr rfl))
 (kss_c (s_st 7 sc.nd (k_cB (k8 rfl) B.sum (kal_c (KE.loose (KN.data (aI [] (N:=N53) (mp:=[none,none,some 6,some 0]) rfl (j_seq (k_l 3)) rfl (co N54 (ac (top 54))) (λ _ _ _ _ _=>⟨(g_t (n':=2) rfl (gs_c (g_m 1 (nd N53)) (gs_c (g_m 0 (nd N53)) eW)) (nxs [1,0]) rfl),(cm (b_cmp (o_in hu) (k_l 2) (KE.loose (ak D_law_cut (RM hr) (ka_c (k_v 3) (ka_c (k_v 1) ad)))))),(k_v 0)⟩) (hfd:=fd0)))) ah)))
 (ae (s_if (b_cmp o_gt (k_l 7) (KE.loose (k_op o_mul (k_l 2) (KE.loose (k_cB c_abs B.abs (kal_c (KE.loose (k_ix (KE.loose (k_ix (KE.loose (k_ix (k_l 0) (KE.loose k_int))) (k_l 6))) (KE.loose k_int))) ah)))))) (ae (s_ret (k_tup (ka_c k_str (ka_c (k_v 6) ad))))) av))))
 (ae (s_ret k_non)))))
theorem mw (F:FM K mg "_law_shown" (top 55))(B:BtA mg)(D_law_price_of:cF P w K mg base cl)(D_law_under:dh P w K mg base cl) :
  eS P w K mg base cl :=
 defU2 eN N56 F λ sc f cdv A outer s H E n0 S has hr hu =>
 (ae (s_ret (k_op o_add (KE.loose (k_cB (k8 rfl) B.sum (kal_c (KE.loose (KN.data (aI [] (N:=N55) (mp:=[none,none]) rfl (j_seq (k_l 2)) rfl (co N56 (ac (top 55))) (λ _ _ _ _ _=>⟨(g_t (n':=2) rfl (gs_c (g_m 1 (nd N55)) (gs_c (g_m 0 (nd N55)) eW)) (nxs [1,0]) rfl),dn,(k_v 0)⟩) (hfd:=fd0)))) ah))) (KE.loose (k_op o_mul (k_l 1) (KE.loose (ak D_law_price_of (RM hr) (ka_c (k_v 0) (ka_c (ak D_law_under (RM hr) (ka_c (k_v 0) ad)) ad)))))))))
theorem iE (F:FM K mg "_law_some_rows" (top 56))(B:BtA mg)(D_law_take:ay P w K mg base Y)(D_law_is_odd:cw P w K mg base cl)(D_law_cut:ff P w K mg base cl)(D_law_any_side:bC P w K mg base Y)(D_law_odd_told:bD P w K mg base cl) :
  cg P w K mg base Y :=
 defF2 (C:=XC λ _=>0) b8 N58 F λ sc f cdv A outer s H E fa sa n0 S hf hS has hr hu =>
 (kss_c (s_st 4 sc.nd (ak D_law_odd_told (RM hr) (ka_c (k_v 1) (ka_c (k_v 2) ad))))
 (kss_c (s_st 5 sc.nd (KN.data (aI [] (N:=N60) (mp:=[none,some 3]) rfl (j_seq (KE.loose (k_ix (k_l 1) (KE.loose k_int)))) rfl (co N58 (ac (top 56))) (λ _ _ _ _ _=>⟨(g_m 0 (nd N60)),dn,(k_op o_mul (k_l 1) (KE.loose (k_cB c_abs B.abs (kal_c (KE.loose (k_ix (k_l 0) (KE.loose k_int))) ah))))⟩) (hfd:=fd0))) (Or.inr rfl))
 (kss_c (s_nw 6 sc.nd (bT ad))
 (kss_c (s_for PassesOwn.never rfl (fw B.range (k_op o_add (KE.loose k_int) (KE.loose (aq 0 D_law_take (RM hr) (ka_c k_int ad) (hfd:=(by decide:0∈[0])))))) (g_m 7 sc.nd)
 (kss_c (s_st 8 sc.nd (aq 0 D_law_any_side (RM hr) (ka_c (k_v 1) ad) (hfd:=(by decide:0∈[0]))))
 (kss_c (s_st 9 sc.nd (ak D_law_cut (RM hr) (ka_c (k_v 1) (ka_c (k_v 8) ad))) (Or.inr rfl))
 (ae (s_if (KW.kb (w_and (b_val (ak D_law_is_odd (RM hr) (ka_c (k_v 8) (ka_c (k_v 4) ad)))) (w_and (b_cmp (o_ne hu) (k_l 9) (KE.loose (k_tup ad))) (qF (b_cmp o_gt (KE.loose (k_cB (uu rfl hu) B.min (kal_c (KE.loose (KN.data (aI [] (N:=N57) (mp:=[none,some 5]) rfl (j_seq (k_l 9)) rfl (co N58 (ac (top 56))) (λ _ _ _ _ _=>⟨(g_m 0 (nd N57)),dn,(k_ix (k_l 1) (k_l 0))⟩) (hfd:=fd0)))) ah))) (KE.loose k_int)))))) (kss_c (s_st 10 sc.nd (k_cB (uu rfl hu) B.min (kal_c (KE.loose (KN.data (aI [] (N:=N57) (mp:=[none,some 5]) rfl (j_seq (k_l 9)) rfl (co N58 (ac (top 56))) (λ _ _ _ _ _=>⟨(g_m 0 (nd N57)),dn,(k_ix (k_l 1) (k_l 0))⟩) (hfd:=fd0)))) ah)))
 (kss_c (s_st 11 sc.nd (k_ix (KE.loose (KN.data (bT (ka_c (k_v 10) (ka_c (k_op o_add (KE.loose k_int) (KE.loose (aq 0 D_law_take (RM hr) (ka_c (k_v 10) ad) (hfd:=(by decide:0∈[0]))))) ad))))) (KE.loose (aq 0 D_law_take (RM hr) (ka_c k_int ad) (hfd:=(by decide:0∈[0]))))) (Or.inr rfl))
 (kss_c (nk 6 PySem.F.plainAttrs_list PySem.F.slot_list_append PySem.F.type_list_append (jK) (ka_c (k_tup (ka_c (k_v 8) (ka_c (k_v 11) ad))) ad))
 (ae (s_st 5 sc.nd (KN.data (aI [] (N:=N59) (mp:=[none,some 5,some 11,some 9]) rfl (l4 B.range (k_cB c_len B.len (kal_c (k_l 5) ah))) rfl (co N58 (ac (top 56))) (λ _ _ _ _ _=>⟨(g_m 0 (nd N59)),dn,(k_op o_sub (KE.loose (k_ix (k_l 1) (k_l 0))) (KE.loose (k_op o_mul (k_l 2) (KE.loose (k_cT c_int B.int (kal_c (KE.loose (k_cmp (o_in hu) (k_l 0) (k_l 3))) ah))))))⟩) (hfd:=fd0))) (Or.inr rfl)))))) av)))))
 (ae (s_ret (k_cT cz B.tuple (kal_c (k_l 6) ah))))))))
theorem iF (F:FM K mg "_law_leaf_bent" (top 57))(B:BtA mg)(D_law_take:ay P w K mg base Y) :
  aV P w K mg base Y :=
 defF2 (C:=XC λ _=>0) b9 N61 F λ sc f cdv A outer s H E fa sa n0 S hf hS has hr hu =>
 (kss_c (s_if (b_val (k_isi B.isinstance B.int (k_l 1))) (ae (s_ret (k_ix (KE.loose (KN.data (bT (ka_c (k_op xt (k_l 1) (KE.loose k_int)) (ka_c (k_op xu (k_l 1) (KE.loose k_int)) (ka_c (k_cmp (o_eq hu) (k_l 1) (KE.loose k_int)) (ka_c (k_cT xv B.str (kal_c (k_l 1) ah)) (ka_c k_non (ka_c k_int ad))))))))) (KE.loose (aq 0 D_law_take (RM hr) (ka_c k_int ad) (hfd:=(by decide:0∈[0]))))))) av)
 (ae (s_ret (k_ix (KE.loose (KN.data (bT (ka_c k_int (ka_c (k_tup ad) (ka_c k_str (ka_c k_bl ad))))))) (KE.loose (aq 0 D_law_take (RM hr) (ka_c k_int ad) (hfd:=(by decide:0∈[0]))))))))
theorem oK {kk:Nat}(Rc:UF)(hkk:2<=kk)(F:FM K mg "_law_bent" (top 58))(B:BtA mg)(D_law_take:ay P w K mg base Y)(D_law_leaf_bent:aV P w K mg base Y)(D_law_bent:DefOk P w K mg base kk "_law_bent" ["_law_feed_here", "_law_thing"] (spUF Y Rc)) :
  DefOk P w K mg base (kk+1) "_law_bent" ["_law_feed_here", "_law_thing"] (spUF Y (fL Rc)) :=
 defF2 (C:=XC λ _=>0) (fK Rc) N62 F λ sc f cdv A outer s H E fa sa n0 S hf hS has hr hu =>
 (kss_c (s_if (b_not (b_val (k_isi B.isinstance B.tuple (k_l 1)))) (ae (s_ret (aq 0 D_law_leaf_bent (hr.mono (by omega)) (ka_c (k_v 1) ad) (hfd:=(by decide:0∈[0]))))) av)
 (kss_x (s_if (KW.kb (w_and (b_cmp (o_ne hu) (k_l 1) (KE.loose (k_tup ad))) (qF (b_cmp o_gt (KE.loose (aq 0 D_law_take (hr.mono (by omega)) (ka_c k_int ad) (hfd:=(by decide:0∈[0])))) (KE.loose k_int))))) (kss_c (s_st 2 sc.nd (aq 0 D_law_take (hr.mono (by omega)) (ka_c (k_cB c_len B.len (kal_c (k_l 1) ah)) ad) (hfd:=(by decide:0∈[0]))))
 (ae (s_ret (k_op o_add (KE.loose (k_op o_add (KE.loose (k_sl (k_l 1) bU (bV (k_v 2)))) (KE.loose (k_tup (ka_c (aq 0 D_law_bent (hr.mono (by omega)) (ka_c (k_ix (k_l 1) (k_l 2)) ad) (hfd:=(by decide:0∈[0]))) ad))))) (KE.loose (k_sl (k_l 1) (bV (k_op o_add (k_l 2) (KE.loose k_int))) bU)))))) av)
 (kss_c (s_st 2 sc.nd (aq 0 D_law_take (hr.mono (by omega)) (ka_c (k_op o_add (KE.loose (k_cB c_len B.len (kal_c (k_l 1) ah))) (KE.loose k_int)) ad) (hfd:=(by decide:0∈[0]))))
 (kss_c (s_st 3 sc.nd (aq 0 D_law_take (hr.mono (by omega)) (ka_c k_int ad) (hfd:=(by decide:0∈[0]))))
 (kss_c (s_if (b_cmp (o_eq hu) (k_l 3) (KE.loose k_int)) (ae (s_ret (KN.data (ud B.list (k_l 1))))) av)
 (kss_c (s_if (b_cmp (o_eq hu) (k_l 3) (KE.loose k_int)) (ae (s_ret (k_op o_add (KE.loose (k_sl (k_l 1) bU (bV (k_v 2)))) (KE.loose (k_sl (k_l 1) (bV (k_op o_add (k_l 2) (KE.loose k_int))) bU))))) av)
 (kss_c (s_if (b_cmp (o_eq hu) (k_l 3) (KE.loose k_int)) (ae (s_ret (k_op o_add (KE.loose (k_sl (k_l 1) bU (bV (k_v 2)))) (KE.loose (k_sl (k_l 1) (bV (k_cB (tY rfl) B.max (kal_c (KE.loose k_int) (kal_c (KE.loose (k_op o_sub (k_l 2) (KE.loose k_int))) ah)))) bU))))) av)
 (kss_c (s_if (b_cmp (o_eq hu) (k_l 3) (KE.loose k_int)) (ae (s_ret (xl (k_l 1)))) av)
 (kss_c (s_if (b_cmp (o_eq hu) (k_l 3) (KE.loose k_int)) (ae (s_ret (k_op o_add (KE.loose (k_op o_add (KE.loose (k_sl (k_l 1) bU (bV (k_v 2)))) (KE.loose (k_tup (ka_c (k_ix (KE.loose (KN.data (bT (ka_c k_non (ka_c k_int (ka_c (k_tup ad) (ka_c (k_tup (ka_c k_int ad)) (ka_c k_bl ad)))))))) (KE.loose (aq 0 D_law_take (hr.mono (by omega)) (ka_c k_int ad) (hfd:=(by decide:0∈[0]))))) ad))))) (KE.loose (k_sl (k_l 1) (bV (k_v 2)) bU))))) av)
 (ae (s_ret (k_ix (KE.loose (KN.data (bT (ka_c k_non (ka_c k_bl (ka_c k_str (ka_c k_int ad))))))) (KE.loose (aq 0 D_law_take (hr.mono (by omega)) (ka_c k_int ad) (hfd:=(by decide:0∈[0]))))))))))))))))
theorem iG (F:FM K mg "_law_bent" (top 58))(B:BtA mg)(D_law_take:ay P w K mg base Y)(D_law_leaf_bent:aV P w K mg base Y):∀d:Nat,DefOk P w K mg base (3+d) "_law_bent" ["_law_feed_here", "_law_thing"] (spUF Y (cb d))
 | 0=>let ⟨_,_,F,hm⟩:=F.ex; def0F F hm (F.binds λ _ _ _ _ _ _ us hl=>by obtain⟨_,_,rfl⟩:=len2 hl; rfl)
 | d+1=>oK (kk:=3+d) _ (by omega) F B D_law_take D_law_leaf_bent (iG F B D_law_take D_law_leaf_bent d)
theorem oM (F:FM K mg "_law_bent" (top 58))(B:BtA mg)(D_law_take:ay P w K mg base Y)(D_law_leaf_bent:aV P w K mg base Y):fS P w K mg base Y:=iG F B D_law_take D_law_leaf_bent 10
end
section
variable {P:yk}{w:World}{K:W.Frag}{mg:Str->Option xK}{base:Heap}{f:Addr}{fd:yM}{cl:Str->Addr}{Y:Fam}
theorem ly (F:FM K mg "_law_caught" (top 59))(B:BtA mg)(xf:XF K mg (XC cl) EXC ALLC) :
  dL P w K mg base cl:=by
 obtain⟨f,fd,F,hm⟩:=F.ex
 have sc:FnScope N63 ["_law_e"] (ac (top 59)):=scm
 exact defE (C:=XC cl) (u:=dG) F hm sc (F.binds λ _ _ _ _ _ _ us hl=>by obtain⟨_,rfl⟩:=len1 hl; rfl) (by decide) λ cdv A outer s H E n0 S has=>(kss_c (s_if (KW.kb (w_or (b_val (xh 0 rfl xf (by decide +kernel) B.isinstance (cs_c xf (by decide +kernel) (cs_c xf (by decide +kernel) (cs_c xf (by decide +kernel) (cs_c xf (by decide +kernel) (cs_c xf (by decide +kernel) (cs_c xf (by decide +kernel) xg)))))))) (w_or1 (b_not (b_val (xb 0 rfl xf B.isinstance B.ValueError)))))) (ae (s_ret (k_tup (ka_c k_str (ka_c k_int ad))))) av)
 (ae (s_ret (k_if (b_val (k_isx 0 rfl xf (by decide +kernel) B.isinstance)) (k_tup (ka_c (k_flx 0 rfl xf) (ka_c (k_flx 0 rfl xf) ad))) (k_tup (ka_c k_str (ka_c k_int ad)))))))
theorem oN (F:FM K mg "_law_said" (top 60))(B:BtA mg)(D_bound_by:fP P w K mg base cl)(D_law_caught:dL P w K mg base cl)(xf:XF K mg (XC cl) EXC ALLC) :
  fU P w K mg base cl :=
 defU2 d5 N64 F λ sc f cdv A outer s H E n0 S has hr hu =>
 (kss_c (s_st 3 sc.nd (k_tup (ka_c k_str (ka_c k_int ad))))
 (kss_c (xa (i:=3) (j:=4) rfl xf (by decide +kernel) D_bound_by (RM hr) sc.nd (Or.inl rfl) (λ _=>(ka_c (k_v 0) (ka_c (k_v 1) (ka_c (k_v 2) ad)))) (λ _=>(ae (s_st 3 sc.nd (vN 4 rfl D_law_caught ((RM hr).h _))))) (nf 3 []) (nf 4 []))
 (ae (s_ret (k_v 3)))))
theorem rk (F:FM K mg "_law_due" (top 61))(B:BtA mg)(D_law_shown:eS P w K mg base cl)(D_law_rows_fault:bG P w K mg base cl)(D_law_are_rows:cG P w K mg base cl)(D_law_whole:ce P w K mg base cl) :
  iz P w K mg base cl :=
 defU2 iu N65 F λ sc f cdv A outer s H E n0 S has hr hu =>
 (kss_c (s_if (KW.kb (w_or (b_not (b_val (k_isi B.isinstance B.tuple (k_l 2)))) (w_or (b_cmp (o_ne hu) (KE.loose (k_cB c_len B.len (kal_c (k_l 2) ah))) (KE.loose k_int)) (w_or1 (b_not (b_val (ak D_law_whole (RM hr) (ka_c (k_ix (k_l 2) (KE.loose k_int)) (ka_c k_int ad))))))))) (ae (s_ret (k_tup (ka_c k_str (ka_c k_int ad))))) av)
 (kss_c (s_if (b_not (b_val (ak D_law_are_rows (RM hr) (ka_c (k_v 0) (ka_c (k_ix (k_l 2) (KE.loose k_int)) ad))))) (ae (s_ret (k_tup (ka_c k_str (ka_c k_int ad))))) av)
 (kss_c (s_st 3 sc.nd (ak D_law_rows_fault (RM hr) (ka_c (k_v 0) (ka_c (k_v 1) (ka_c (k_ix (k_l 2) (KE.loose k_int)) (ka_c (k_ix (k_l 2) (KE.loose k_int)) ad))))))
 (ae (s_ret (k_if (b_cmp o_is (k_l 3) (KE.loose k_non)) (k_tup (ka_c (ak D_law_shown (RM hr) (ka_c (k_v 0) (ka_c (k_ix (k_l 2) (KE.loose k_int)) (ka_c (k_ix (k_l 2) (KE.loose k_int)) ad)))) (ka_c (k_ix (k_l 2) (KE.loose k_int)) ad))) (k_v 3)))))))
end
section
variable {P:yk}{w:World}{K:W.Frag}{mg:Str->Option xK}{base:Heap}{f:Addr}{fd:yM}{cl:Str->Addr}{Y:Fam}
theorem d_law (F:Fun K "law" "law" (top 62) f fd)(B:BtA mg)(D_law_feed:DefOk P w K mg base 1 "_law_feed" ["_law_script"] (jL Y K))(D_law_said:fU P w K mg base cl)(D_law_due:iz P w K mg base cl)(D_law_bent:fS P w K mg base Y)(D_law_some_rows:cg P w K mg base Y)(D_law_take:ay P w K mg base Y)(D_law_told:fR P w K mg base Y)(D_law_web:iy P w K mg base Y)(hu0:u_law { nx:=λ _ _=>False,rt:=λ d _=>d=.bool true } (List.replicate 12 none) 0) :
  FnOk P w K mg base CX0 20 f fd ["_law_script"] (spLaw K):=by
 have sc:FnScope N66 ["_law_script"] (ac (top 62)):=scm
 refine lawU (C:=XC cl) (Y:=Y) (k:=19) (u:=u_law) F sc (by decide) (λ cdv A outer s H E hr=>⟨ek (i:=1) sc.nd rfl (Or.inl rfl) (gA D_law_feed (RM hr) (qa_c (qv 0) aC)),λ fa sa n0 S H1 hf hS has=>?_⟩) rfl hu0
 have hu:=hr.units
 unfold u_law
 exact (kss_c (s_for PassesOwn.never rfl (fw B.range k_int) (g_m 2 sc.nd)
 (kss_c (s_st 3 sc.nd (aq 1 D_law_web (RM hr) (ka_c k_int (ka_c k_int (ka_c k_bl ad))) (hfd:=(by decide:1∈[1]))))
 (kss_c (s_st 4 sc.nd (aq 1 D_law_told (RM hr) (ka_c (k_v 3) ad) (hfd:=(by decide:1∈[1]))))
 (kss_c (s_st 5 sc.nd (k_tup (ka_c (k_op o_add (KE.loose k_int) (KE.loose (aq 1 D_law_take (RM hr) (ka_c k_int ad) (hfd:=(by decide:1∈[1]))))) (ka_c (aq 1 D_law_some_rows (RM hr) (ka_c (k_v 3) (ka_c (k_v 4) (ka_c k_int ad))) (hfd:=(by decide:1∈[1]))) ad))))
 (kss_c (s_st 6 sc.nd (KN.data (bT (ka_c k_non (ka_c k_bl (ka_c k_int (ka_c k_str (ka_c (k_tup ad) (ka_c (k_tup (ka_c k_int ad)) (ka_c (k_tup (ka_c k_int (ka_c (k_tup ad) ad))) (ka_c (k_tup (ka_c k_int (ka_c (k_tup ad) ad))) (ka_c (k_tup (ka_c k_bl (ka_c (k_tup ad) ad))) (ka_c (k_tup (ka_c k_int (ka_c (KN.data (bT ad)) ad))) ad)))))))))))))
 (kss_c (s_st 6 sc.nd (k_op o_add (k_l 6) (KE.loose (KN.data (bT (ka_c (k_tup (ka_c k_int (ka_c (k_tup (ka_c (k_tup ad) (ka_c (k_tup ad) ad))) ad))) (ka_c (k_tup (ka_c k_int (ka_c (k_tup (ka_c (k_tup (ka_c (k_tup ad) (ka_c k_int ad))) ad)) ad))) (ka_c (k_tup (ka_c k_int (ka_c (k_tup (ka_c (k_tup ad) (ka_c k_int ad))) ad))) (ka_c (k_tup (ka_c k_int (ka_c (k_tup (ka_c (k_tup (ka_c (k_tup (ka_c k_int ad)) (ka_c k_bl ad))) ad)) ad))) (ka_c (k_op o_add (k_l 5) (KE.loose (k_tup (ka_c k_int ad)))) ad))))))))))
 (kss_c (s_for PassesOwn.never rfl (fw B.range k_int) (g_m 7 sc.nd)
 (kss_c (s_st 8 sc.nd (aq 1 D_law_bent (RM hr) (ka_c (k_v 5) ad) (hfd:=(by decide:1∈[1]))))
 (ae (s_st 6 sc.nd (k_op o_add (k_l 6) (KE.loose (KN.data (bT (ka_c (k_v 8) (ka_c (aq 1 D_law_bent (RM hr) (ka_c (k_v 8) ad) (hfd:=(by decide:1∈[1]))) ad))))))))))
 (ae (s_for PassesOwn.never rfl (i_var 6) (g_m 9 sc.nd)
 (kss_c (s_st 10 sc.nd (nu hr B.repr (k_v 9)))
 (kss_c (s_st 11 sc.nd (ak D_law_due (RM hr) (ka_c (k_v 3) (ka_c (k_v 4) (ka_c (k_v 9) ad)))))
 (kss_c (s_if (b_cmp o_nes (KE.loose (nu hr B.repr (ak D_law_said (RM hr) (ka_c (k_v 3) (ka_c (k_v 4) (ka_c (k_v 9) ad)))))) (KE.loose (nu hr B.repr (k_v 11)))) (ae (s_ret k_bl)) av)
 (ae (s_if (b_cmp o_nes (KE.loose (nu hr B.repr (k_v 9))) (k_l 10)) (ae (s_ret k_bl)) av))))))))))))))
 (ae (s_ret k_bl)))
end
end Odj
namespace Odj
open PySem L2
local macro_rules | `(tactic| simp! [$ls,*]) => do let ex <- ("mkF mkFF envOf List.length_cons List.length_nil List.map_cons List.map_nil List.cons_append List.nil_append List.append_nil List.replicate_succ List.replicate_zero Nat.reduceSub Nat.reduceAdd true_and and_true uSeq uNext uIfS uRet uRetO uRetN uSet uNew uAsg uDrop uPar uVar aa uC uNil uCons uTup uL uTupL uOp uTst ai uAnd uOr uNot uAndV uOrV uNotV uIf uUn uCB uIsi uCall jf qJ uChn qL uMeth uSetI uAugI uAug uFor uItV uIt uIe uIr uIr2 uComp uJt uJe uJr uJr2 uYes uSl uNo uSo uSlL uCat uMul uSeqL uRngL uSort uf uSrt uSrtA uShr xF uCnt xk uRepr xE uNm uTp uTps seedP am xD seqD ixD_t ixD_l List.getElem?_cons_zero List.getElem?_cons_succ List.set_cons_zero List.set_cons_succ Option.join_some Option.join_none if_true if_false Bool.not_true Bool.not_false Bool.true_eq_false Bool.false_eq_true reduceIte".splitOn " ").toArray.mapM λ s => `(Lean.Parser.Tactic.simpLemma| $(Lean.mkIdent s.toName):ident); `(tactic| simp only[$ls,*, $ex,*])
abbrev Tie:=Int × Int × Int
def tieD (t:Tie):xH:=.tuple [.int t.1,.int t.2.1,.int t.2.2]
def webD (many:Int)(ts:List Tie):xH:=.tuple [.int many,.tuple (ts.map tieD)]
def intsD (ns:List Int):xH:=.tuple (ns.map .int)
theorem subII (i j:Int):subD (.int i) (.int j)=some (.int (i - j)):=by simp only[subD]
theorem addII (i j:Int):addD (.int i) (.int j)=some (.int (i+j)):=by simp only[addD]
def fX (d:xH):Bool:=match d with | .int _=>true | _=>false
section
variable {n:Int}{Q:xH->Int->Prop}{X:XQ}
theorem iH (d:xH):bO [d] n Q X=Q (.bool (fX d)) n:=by
 simp! [bO,fD]
 cases d <;> simp[isiD,fX]
def tupOf (k:Int)(d:xH):Bool:=match d with | .tuple ds=>decide ((ds.length:Int)=k) | _=>false
theorem eC (d:xH)(k:Int):bi [d,.int k] n Q X=Q (.bool (tupOf k d)) n:=by
 simp! [bi,cV]
 cases d <;> simp[isiD,lenD',bg,tupOf]
def a7:Int->List xH->Bool
 | _,[]=>true
 | a,.int i::ds=>decide (a<i) && a7 i ds
 | _,_::_=>false
def iI (d:xH):Bool:=match d with | .tuple ds=>a7 (-1) ds | _=>false
theorem lz (d:xH):cW [d] n Q X=Q (.bool (iI d)) n:=by
 simp! [cW,eG]
 cases d with
 | tuple ds =>
  simp! [isiD,iI,za,yt,if_false,if_true,negD]
  have key:∀(ds:List xH) (a:Int) (t:xH) (x:Option Ent),uLoop (uNm 2) (uSeq (uIfS (uOr (uNot (uTst (uCall bO (uCons (uVar 2) uNil)))) (uTst (uOp leD (aa 2) (aa 1)))) (uRet (uC (.bool false))) uNext) (uSet 1 (uVar 2)))
    { nx:=λ _ n=>Q (.bool true) n,rt:=Q } ds [some (.s t),some (.s (.int a)),x] n=Q (.bool (a7 a ds)) n:=by
   intro ds
   induction ds with
   | nil=>intro a t x; simp[uLoop,a7]
   | cons d ds ih =>
    intro a t x
    simp! [uLoop,iH]
    cases d with
    | int i =>
     simp! [fX,leD,a7,ih]
     by_cases h:a<i
     ·have h':¬ i<=a:=by omega
      simp[h,h']
     ·have h':i<=a:=by omega
      simp[h,h']
    | _=>simp[fX,a7]
  exact key ds (-1) _ _
 | _=>simp[isiD,iI]
def cQ (b:Int)(ds:List xH):Bool:=match ds.getLast? with | some (.int i)=>decide (i<b) | some _=>false | none=>true
def aH (b:Int)(d:xH):Bool:=match d with | .tuple ds=>a7 (-1) ds && cQ b ds | _=>false
theorem fY:∀{ds:List xH} {a:Int},a7 a ds=true->∀d∈ds,∃i,d=.int i/\a<i
 | [],_,_,d,hd=>by cases hd
 | .int i::ds,a,h,d,hd=>by
  simp only[a7,yD,decide_eq_true_eq] at h
  rcases xR.mp hd with rfl | hd
  ·exact⟨i,rfl,h.1⟩
  ·obtain⟨j,e,hj⟩:=fY h.2 d hd
   exact⟨j,e,by omega⟩
 | .none::_,_,h,_,_=>by simp[a7] at h
 | .bool _::_,_,h,_,_=>by simp[a7] at h
 | .str _::_,_,h,_,_=>by simp[a7] at h
 | .list _::_,_,h,_,_=>by simp[a7] at h
 | .tuple _::_,_,h,_,_=>by simp[a7] at h
 | .dict _::_,_,h,_,_=>by simp[a7] at h
theorem fg (d:xH)(b:Int):aX [d,.int b] n Q X=Q (.bool (aH b d)) n:=by
 simp! [aX,bq,lz]
 cases d with
 | tuple ds =>
  simp only[iI,aH]
  by_cases hr:a7 (-1) ds=true
  ·simp! [hr,lenD',bg,negD,Ai]
   cases hl:ds.getLast? with
   | none =>
    have:ds=[]:=by simpa using hl
    subst this
    simp[cQ]
   | some e =>
    obtain⟨i,rfl,_⟩:=fY hr e (List.mem_of_getLast? hl)
    have hne:ds≠[]:=λ z=>by subst z; cases hl
    have h0:¬ ((ds.length:Int)=0):=by
     have:0<ds.length:=List.length_pos_iff.mpr hne
     omega
    simp[hne,qU hl,ltD,cQ,hl]
  ·have:a7 (-1) ds=false:=by simpa using hr
   simp[this]
 | _=>simp[iI,aH]
theorem oO (many:Int)(ts:List Tie)(d:xH):e9 [webD many ts,d] n Q X=Q (.bool (aH many d)) n:=by
 simp! [e9,ik,webD,atI_0,fg]
theorem iK {ts:List Tie}{i:Int}(h0:0<=i)(h1:i<(ts.length:Int)):∃t,ts[i.toNat]? = some t/\t∈ts/\atI (ts.map tieD) i=some (tieD t):=by
 have hl:i.toNat<ts.length:=by omega
 refine⟨ts[i.toNat],by simp[hl],zp _,?_⟩
 rw[eB h0 (by simpa using h1),yg]
 simp[hl]
end
def endsK (ts:List Tie)(k:Int):List Int:=[(ts.getD k.toNat (0,0,0)).1,(ts.getD k.toNat (0,0,0)).2.1]
def endsR (ts:List Tie)(ks:List Int):List Int:=(ks.map (endsK ts)).flatten
abbrev NumOk (ts:List Tie)(ks:List Int):Prop:=∀k∈ks,0<=k/\k<(ts.length:Int)
theorem fZ (ts:List Tie)(k:Int)(ks:List Int):endsR ts (k::ks)=endsK ts k++endsR ts ks:=rfl
theorem lA (ts:List Tie)(a b:List Int):endsR ts (a++b)=endsR ts a++endsR ts b:=by
 unfold endsR
 rw[yU,List.flatten_append]
def stp (ts:List Tie)(x k q:Int):Prop:=∃t,0<=k/\ts[k.toNat]? = some t/\((t.1=x/\t.2.1=q)\/(t.2.1=x/\t.1=q))
def wkp (ts:List Tie):Int->List (Int × Int)->Int->Prop
 | x,[],y=>x=y
 | x,s::ss,y=>stp ts x s.1 s.2/\wkp ts s.2 ss y
def prc (ts:List Tie)(k:Int):Int:=(ts.getD k.toNat (0,0,0)).2.2
def cost (ts:List Tie)(ks:List Int):Int:=(ks.map (prc ts)).sum
theorem j6 {l:List Int}(h:l.Nodup)(k:Int):l.count k=if k∈l then 1 else 0:=List.Nodup.count h
theorem mem_oddI {row:List Int}{v:Int}:v∈oddI row↔row.count v % 2=1:=by
 unfold oddI
 rw[mem_usortI,yV]
 constructor
 ·intro z
  exact of_decide_eq_true z.2
 ·intro z
  exact⟨Ad.mp (by omega),decide_eq_true z⟩
theorem iL (row:List Int):(oddI row).Pairwise (· < ·):=cN _
theorem lt_nd {l:List Int}(h:l.Pairwise (· < ·)):l.Nodup:=h.imp λ h z=>by omega
theorem di (row:List Int):(oddI row).Nodup:=lt_nd (iL row)
theorem rq {a b:List Int}(ha:a.Nodup)(hb:b.Nodup){k:Int}:k∈oddI (a++b)↔¬ (k∈a↔k∈b):=by
 rw[mem_oddI,List.count_append,j6 ha,j6 hb]
 by_cases h1:k∈a <;> by_cases h2:k∈b <;> simp[h1,h2]
theorem oP {a s:List Int}(ha:a.Nodup)(hs:s.Nodup):(oddI (a++s)).Perm ((a.filter λ k=>!decide (k∈s))++(s.filter λ k=>!decide (k∈a))):=by
 refine (zB (di _) (Ag.mpr ⟨ha.filter _,hs.filter _,λ x hx y hy e=>?_⟩)).mpr λ k=>?_
 ·subst e
  have h1:=(yV.mp hx).1
  have h2:=(yV.mp hy).2
  simp[h1] at h2
 ·rw[rq ha hs,yQ,yV,yV]
  by_cases h1:k∈a <;> by_cases h2:k∈s <;> simp[h1,h2]
theorem rA {a s:List Int}(ha:a.Nodup)(hs:s.Nodup):(a.filter λ k=>decide (k∈s)).Perm (s.filter λ k=>decide (k∈a)):=by
 refine (zB (ha.filter _) (hs.filter _)).mpr λ k=>?_
 rw[yV,yV]
 simp[and_comm]
theorem aY {α:Type}(l:List α):l.filter (λ _=>true)=l:=by simp
abbrev PrOk (ts:List Tie):Prop:=∀t∈ts,t.2.2.natAbs<=99
theorem j7 {ts:List Tie}{k:Int}(h:0<=k/\k<(ts.length:Int)):atI (ts.map tieD) k=some (tieD (ts.getD k.toNat (0,0,0))):=by
 obtain⟨t,h1,_,h2⟩:=iK h.1 h.2
 rw[h2,yi,h1]
 rfl
theorem ux {ts:List Tie}(hp:PrOk ts){k:Int}(h:0<=k/\k<(ts.length:Int)):(prc ts k).natAbs<=99:=by
 obtain⟨t,h1,h3,_⟩:=iK h.1 h.2
 unfold prc
 rw[yi,h1]
 exact hp t h3
theorem lB {ts:List Tie}{ks:List Int}(hp:PrOk ts)(hk:NumOk ts ks):sumAD [.list ((ks.map (prc ts)).map .int)]=some (.int (cost ts ks)):=by
 simp only[sumAD,sumD,bp,zY]
 rw[if_pos λ n hn=>by
  obtain⟨k,hk',rfl⟩:=yI.mp hn
  have:=ux hp (hk k hk')
  omega]
 rfl
theorem rB (row:List Int):(onceI row).length<=row.length:=cK (cS row) λ k hk=>mem_onceI.mp hk
theorem rC {a b:List Int}(ha:a.Pairwise (· < ·))(hb:b.Pairwise (·<=·))(h:b.Perm a):b=a:=fy h hb (ha.imp λ h=>by omega)
section
variable {n:Int}{X:XQ}{Q:xH->Int->Prop}
theorem mx {many:Int}{ts:List Tie}{ks:List Int}(hp:PrOk ts)(hk:NumOk ts ks):dW [webD many ts,intsD ks] n Q X=Q (.int (cost ts ks)) n:=by
 rw[intsD]
 simp! [dW,fF]
 rw[bh (λ k=>.int (prc ts k)) (λ _=>true) _ _ _ _ (λ k hk' n Q=>by
  rw[webD]
  simp! [atI_1,j7 (hk k hk'),tieD,atI_2,prc]) (λ k _ n Q=>by simp! [uSeq])]
 have e:([]++(ks.filter λ _=>true).map λ k=>xH.int (prc ts k))=(ks.map (prc ts)).map .int:=by rw[aY,yf,yS]; rfl
 rw[e]
 simp! [lB hp hk]
theorem oQ {row:List Int}(h1:(onceI row).length<=60)(h2:row.length<=100000):aM [.tuple (row.map .int)] n Q X=Q (intsD (oddI row)) n:=by
 simp only[aM,bp,am,h1,h2,true_and,intsD,and_self]
theorem my {a b:List Int}(h:a.length+b.length<=60):dU [intsD a,intsD b] n Q X=Q (intsD (oddI (a++b))) n:=by
 have e:addD (.tuple (a.map .int)) (.tuple (b.map .int))=some (.tuple ((a++b).map .int)):=by rw[kY (by rw[xQ,xQ]; omega),yU]
 have hl:(a++b).length<=60:=by rw[yB]; exact h
 simp! [dU,fE]
 rw[intsD,intsD]
 simp! [e,oQ (yv (rB (a++b)) hl) (by omega)]
end
structure TieF (many:Int) (t:Tie):Prop where
 a0:0<=t.1
 ab:t.1<t.2.1
 bm:t.2.1<many
 pl:t.2.2.natAbs<=99
structure WebF (many:Int) (ts:List Tie):Prop where
 m0:1<=many
 m1:many<=9
 ok:∀t∈ts,TieF many t
structure SetR (ts:List Tie) (a:List Int):Prop where
 lt:a.Pairwise (· < ·)
 ok:NumOk ts a
 len:a.length<=16
theorem SetR.nd {ts:List Tie}{a:List Int}(h:SetR ts a):a.Nodup:=lt_nd h.lt
theorem nE {many:Int}{ts:List Tie}(w:WebF many ts):PrOk ts:=λ t ht=>(w.ok t ht).pl
theorem lC (x:Str):nesD (.str x) (.str x)=some (.bool false):=by simp[nesD]
theorem rD {ts:List Tie}(hp:PrOk ts):∀{ks:List Int},NumOk ts ks->(cost ts ks).natAbs<=99 * ks.length
 | [],_=>xL _
 | k::ks,h=>by
  have ih:=rD hp (ks:=ks) λ i hi=>h i (xT _ hi)
  have h1:=ux hp (h k (ya ..))
  have e:cost ts (k::ks)=prc ts k+cost ts ks:=rfl
  rw[e,xP]
  omega
theorem fh {uc:UT}{Q:List xH->Int->Prop}(hc:∀(d:xH) (n:Int) (Q:Bool->Int->Prop),n+1<=mostN->(∀b,Q b (n+1))->uc [some (.s d),none] n Q):∀(xs acc:List Int) (x:Option Ent) (n:Int),n+xs.length<=mostN->(∀sub:List Int,sub.Sublist xs->Q ((acc++sub).map .int) (n+xs.length))->aL (uNm 0) uc (uVar 0) Q (xs.map .int) (acc.map .int) [x,none] n
 | [],acc,x,n,hn,h=>by
  have:=h [] (List.Sublist.refl _)
  rw[y0] at this
  simpa [aL] using this
 | k::xs,acc,x,n,hn,h=>by
  rw[xP] at hn
  simp only[xY,aL,uNm,zg]
  refine hc _ _ _ (by omega) λ b=>?_
  have e1:n+1+(xs.length:Int)=n+((xs.length+1:Nat):Int):=by omega
  cases b with
  | true =>
   simp only[if_true,uVar,ye]
   have e2:acc.map xH.int++[.int k]=(acc++[k]).map .int:=by rw[yU]; rfl
   rw[e2]
   refine fh hc xs (acc++[k]) _ (n+1) (by omega) λ sub hs=>?_
   have:=h (k::sub) (hs.cons_cons k)
   rw[zM,e1]
   exact this
  | false =>
   simp only[yt,if_false]
   refine fh hc xs acc _ (n+1) (by omega) λ sub hs=>?_
   have:=h sub (hs.cons k)
   rw[e1]
   exact this
theorem rE (m:Nat):(rngI 0 m).Pairwise (· < ·):=by
 unfold rngI
 exact List.pairwise_map.mpr (List.pairwise_lt_range.imp λ h=>by omega)
theorem aZ {α:Type}(I:PEnv->Prop)(g f:α->xH)(p:α->Bool){ug:UG}{uc:UT}{ue:UX}{Q:List xH->Int->Prop}{n:Int}:∀(xs:List α) (acc:List xH) (env:PEnv),(∀k∈xs,∀env,I env->∃env',I env'/\(∀K,ug (g k) env K=K env')/\(∀n Q,uc env' n Q=Q (p k) n)/\(∀n Q,ue env' n Q=Q (f k) n))->I env ->
  aL ug uc ue Q (xs.map g) acc env n=Q (acc++(xs.filter p).map f) n
 | [],acc,env,_,_=>by simp[aL]
 | a::xs,acc,env,h,hi=>by
  obtain⟨env',hi',h1,h2,h3⟩:=h a (ya ..) env hi
  have ih:=λ acc=>aZ I g f p (ug:=ug) (uc:=uc) (ue:=ue) (Q:=Q) (n:=n) xs acc env' (λ k hk=>h k (xT _ hk)) hi'
  rw[xY,aL,h1,h2]
  cases hp:p a with
  | true =>
   rw[if_pos rfl,h3,ih,List.filter_cons_of_pos hp,xY,zM]
   rfl
  | false=>rw[if_neg (by decide),ih,List.filter_cons_of_neg (by simp[hp])]
theorem rF {s:List Int}(hs:s.Pairwise (· < ·)):hW s=s:=rC hs ((cN s).imp λ h=>by omega) ((zB (lt_nd (cN s)) (lt_nd hs)).mpr λ k=>mem_usortI)
section
variable {n:Int}{Q:xH->Int->Prop}{X:XQ}
theorem lD {b:Bool}(hn:n+1<=mostN)(h:∀p:Int,p.natAbs<=99->(b=true->0<=p)->Q (.int p) (n+1)):c7 [.bool b] n Q X:=by
 simp! [c7,eK,negD]
 refine aE (by decide) (by decide) (by omega) λ r h0 h1=>?_
 obtain⟨x,hx,hm⟩:=gD (xs:=[xH.int 0,.int 1,.int 2,.int 3,.int 5,.int 7,.int (-1),.int (-2),.int (-3),.int 99,.int (-99),.int 1]) h0 (by simpa using h1)
 simp! [ixD_l,hx]
 obtain⟨p,rfl,hp⟩:∃p:Int,x=.int p/\p.natAbs<=99:=by
  simp only[xR,yE,or_false] at hm
  rcases hm with rfl | rfl | rfl | rfl | rfl | rfl | rfl | rfl | rfl | rfl | rfl | rfl <;> exact⟨_,rfl,by decide⟩
 cases b with
 | true =>
  simp! [absD]
  exact h _ (by omega) λ _=>by omega
 | false =>
  simp! [uSeq]
  exact h p hp (by simp)
theorem oR {m k:Int}{pl:Bool}(hm:1<=m)(hm9:m<=9)(hk:0<=k)(hk16:k<=16)(hn:n+200<=mostN)(h:∀(many:Int) (ts:List Tie) (n':Int),WebF many ts->many<=m->(ts.length:Int)<=k->(pl=true->∀t∈ts,0<=t.2.2)->n<=n'->n'<=n+200->Q (webD many ts) n'):fc [.int m,.int k,.bool pl] n Q X:=by
 have hmost:mostN=1099511627776:=by decide
 unfold fc iq
 simp only[mkF,mkFF,envOf,xY,yN,xP,yn,Nat.reduceSub,Nat.reduceAdd,yj,yz,yy,yf]
 generalize hbd:uSeq (uSet 7 _) _=bd
 generalize hte:uRet _=te
 simp! [uSeq]
 refine aE (by omega) (by omega) (by omega) λ r r0 r1=>?_
 simp! [addII]
 refine aE (by omega) (by omega) (by omega) λ c c0 c1=>?_
 simp! [gtD,intD,nD]
 generalize hmany:1+r=many
 have k0:1<=many:=by omega
 have k1:many<=m:=by omega
 have hj:0<=(if decide (1<many)=true then c else 0)/\(if decide (1<many)=true then c else 0)<=k:=by split <;> omega
 have hj1:0<(if decide (1<many)=true then c else 0)->1<many:=by
  split
  ·rename_i hh; intro _; exact of_decide_eq_true hh
  ·intro z; omega
 generalize (if decide (1<many)=true then c else 0)=j at hj hj1 ⊢
 refine⟨by omega,by omega,bJ (λ pre post env n'=>∃ts x6 x7 x8,env=[none,some (.s (.int m)),some (.s (.int k)),some (.s (.bool pl)),some (.s (.int many)),some (.o (ts.map tieD)),x6,x7,x8]/\(∀t∈ts,TieF many t/\(pl=true->0<=t.2.2))/\ts.length<=2 * pre.length/\n+2<=n'/\n'<=n+2+4 * pre.length/\pre.length+post.length=j.toNat) _ [] _ _ ?_ ⟨[],none,none,none,rfl,by simp,by simp,by omega,by simp; omega,by simp[rngD]⟩ ?_⟩
 ·rintro pre d post env n' E' hE ⟨ts,x6,x7,x8,rfl,hts,hl,hn3,hn4,hp⟩ hnx
  rw[xP] at hp
  have hm1:1<many:=hj1 (by omega)
  subst hbd
  generalize hif:uIfS _ _ _=tif
  simp! [uSeq]
  refine aE (by omega) (by omega) (by omega) λ a a0 a1=>?_
  simp! [subII,addII]
  refine aE (by omega) (by omega) (by omega) λ b b0 b1=>?_
  simp! [subII,addII,l7 (show 0<many by omega)]
  have q0:0<=(a+1+b) % many:=zP _ (by omega)
  have q1:(a+1+b) % many<many:=zJ _ (by omega)
  have q2:(a+1+b) % many≠a:=λ z=>by
   have e:=Int.emod_add_mul_ediv (a+1+b) many
   rw[z] at e
   have h1:many * ((a+1+b) / many)=1+b:=by omega
   rcases Int.lt_or_le ((a+1+b) / many) 1 with h2 | h2
   ·have:many * ((a+1+b) / many)<=many * 0:=z7 (by omega) (by omega)
    omega
   ·have:many * 1<=many * ((a+1+b) / many):=z7 h2 (by omega)
    omega
  generalize (a+1+b) % many=b' at q0 q1 q2
  simp! [min2D,max2D]
  refine lD (by omega) λ p hp' hpl=>?_
  rw[fB (by rw[xQ]; omega)]
  obtain⟨x,hx,hxF⟩:∃x:Tie,xH.tuple [.int (if b' < a then b' else a),.int (if a<b' then b' else a),.int p]=tieD x/\(TieF many x/\(pl=true->0<=x.2.2)):=by
   refine⟨(if b' < a then b' else a,if a<b' then b' else a,p),rfl,⟨?_,?_,?_,hp'⟩,hpl⟩
   ·show 0<=(if b' < a then b' else a); split <;> omega
   ·show (if b' < a then b' else a)<(if a<b' then b' else a); split <;> split <;> omega
   ·show (if a<b' then b' else a)<many; split <;> omega
  simp! [uSeq]
  rw[hx]
  have hts2:∀t∈ts++[x],TieF many t/\(pl=true->0<=t.2.2):=λ t ht=>by
   rcases yQ.mp ht with ht | ht
   ·exact hts t ht
   ·rw[yh.mp ht]; exact hxF
  subst hif
  simp! [uSeq]
  refine aE (by omega) (by omega) (by omega) λ z z0 z1=>?_
  simp! [bg]
  by_cases hz:z=0
  ·simp! [hz,decide_true]
   simp! [lenD',ltD]
   split
   ·simp! [negD,sM]
    rw[fB (by rw[yB,xQ]; simp; omega)]
    simp! [uSeq]
    refine hnx _ _ ⟨ts++[x]++[x],_,_,_,(by rw[yU,yU]; rfl),λ t ht=>?_,by simp; omega,by omega,by simp; omega,by simp; omega⟩
    rcases yQ.mp ht with ht | ht
    ·exact hts2 t ht
    ·rw[yh.mp ht]; exact hxF
   ·exact hnx _ _ ⟨ts++[x],_,_,_,(by rw[yU]; rfl),hts2,by simp; omega,by omega,by simp; omega,by simp; omega⟩
  ·simp! [hz,decide_false]
   exact hnx _ _ ⟨ts++[x],_,_,_,(by rw[yU]; rfl),hts2,by simp; omega,by omega,by simp; omega,by simp; omega⟩
 ·rintro pre env n' ⟨ts,x6,x7,x8,rfl,hts,hl,hn3,hn4,hp⟩
  subst hte
  simp! [slD,fA _ k hk,a4,<- List.map_take]
  exact h many (ts.take k.toNat) n' ⟨k0,by omega,λ t ht=>(hts t (zj ht)).1⟩ k1 (by rw[yO]; omega) (λ z t ht=>(hts t (zj ht)).2 z) (by omega) (by simp at hp; omega)
end
theorem s9 (row:List Int)(v:Int):(oddI row).count v % 2=row.count v % 2:=by
 rw[j6 (di row)]
 by_cases h:v∈oddI row
 ·rw[if_pos h,mem_oddI.mp h]
 ·rw[if_neg h]
  have:¬ row.count v % 2=1:=λ z=>h (mem_oddI.mpr z)
  omega
theorem tf {a b:List Int}(h:∀v,a.count v % 2=b.count v % 2):oddI a=oddI b :=
 rC (iL b) ((iL a).imp λ h=>by omega) ((zB (di a) (di b)).mpr λ v=>by rw[mem_oddI,mem_oddI,h v])
theorem rG (row e:List Int):oddI (oddI row++e)=oddI (row++e):=tf λ v=>by
 rw[List.count_append,List.count_append,Nat.add_mod,s9,<- Nat.add_mod]
theorem uy {many:Int}{ts:List Tie}(w:WebF many ts){k:Int}(h:0<=k/\k<(ts.length:Int)):TieF many (ts.getD k.toNat (0,0,0)):=by
 obtain⟨t,h1,h2,_⟩:=iK h.1 h.2
 rw[yi,h1]
 exact w.ok t h2
theorem rH {many:Int}{ts:List Tie}(w:WebF many ts):∀{s:List Int},NumOk ts s->∀v∈endsR ts s,0<=v/\v<many
 | [],_,v,hv=>by simp[endsR] at hv
 | k::s,h,v,hv=>by
  rw[fZ] at hv
  have ht:=uy w (h k (ya ..))
  have a0:=ht.a0
  have ab:=ht.ab
  have bm:=ht.bm
  rcases yQ.mp hv with hv | hv
  ·unfold endsK at hv
   rcases xR.mp hv with rfl | hv
   ·omega
   ·rw[yh.mp hv]; omega
  ·exact rH w (λ i hi=>h i (xT _ hi)) v hv
theorem rJ {many:Int}{ts:List Tie}(w:WebF many ts){s:List Int}(h:NumOk ts s):∀v∈oddI (endsR ts s),0<=v/\v<many:=λ v hv =>
 rH w h v (Ad.mp (by have:=mem_oddI.mp hv; omega))
theorem j8 {many:Int}{ts:List Tie}(w:WebF many ts){s:List Int}(h:NumOk ts s):(oddI (endsR ts s)).length<=9:=by
 have:=cK (di (endsR ts s)) (ns:=rngI 0 many.toNat) λ v hv=>mem_rngI.mpr (by have:=rJ w h v hv; omega)
 rw[cq] at this
 have:=w.m1
 omega
theorem sl2 (t:Tie):slD (tieD t) none (some 2)=some (.tuple [.int t.1,.int t.2.1]):=by
 simp only[tieD,slD,fA _ 2 (by decide)]
 rfl
theorem fi {ts:List Tie}{k:Int}{t:Tie}(h:ts[k.toNat]? = some t):endsK ts k=[t.1,t.2.1]:=by
 unfold endsK
 rw[yi,h]
 rfl
def allD (ts:List Tie)(s:List Int):xH:=.tuple [intsD s,intsD (oddI (endsR ts s)),.int (cost ts s)]
section
variable {n:Int}{X:XQ}{Q:xH->Int->Prop}
theorem dN {a b:List Int}(h:a.length+b.length<=60)(ha:a.Nodup)(hb:b.Nodup):aN [intsD a,intsD b] n Q X=Q (intsD (oddI (a++b))) n:=by
 have e1:intsD a=.tuple (a.map .int):=rfl
 have e2:intsD b=.tuple (b.map .int):=rfl
 simp! [aN,cA,e1,e2]
 rw[bh (λ k=>.int k) (λ k=>!decide (k∈b)) _ _ _ _ (λ k _ n Q=>by simp! [uSeq]) (λ k _ n Q=>by simp! [jj]),
  bh (λ k=>.int k) (λ k=>!decide (k∈a)) _ _ _ _ (λ k _ n Q=>by simp! [uSeq]) (λ k _ n Q=>by simp! [jj])]
 have l1:=zd (λ k=>!decide (k∈b)) a
 have l2:=zd (λ k=>!decide (k∈a)) b
 have e3:addD (.list ([]++(a.filter λ k=>!decide (k∈b)).map λ k=>xH.int k)) (.list ([]++(b.filter λ k=>!decide (k∈a)).map λ k=>xH.int k))=some (.list (((a.filter λ k=>!decide (k∈b))++(b.filter λ k=>!decide (k∈a))).map .int)):=by
  rw[yf,yf,qV (by rw[xQ,xQ]; omega),yU]
 have hl:((a.filter λ k=>!decide (k∈b))++(b.filter λ k=>!decide (k∈a))).length<64:=by rw[yB]; omega
 have es:sortI ((a.filter λ k=>!decide (k∈b))++(b.filter λ k=>!decide (k∈a)))=oddI (a++b):=rC (iL _) (cp _) ((cM _).trans (oP ha hb).symm)
 generalize []++(a.filter λ k=>!decide (k∈b)).map (λ k=>xH.int k)=l at e3 ⊢
 generalize []++(b.filter λ k=>!decide (k∈a)).map (λ k=>xH.int k)=l' at e3 ⊢
 simp! [e3,bp,hl,es,a4,intsD]
theorem tj {many:Int}{ts:List Tie}(w:WebF many ts){s:List Int}(h:NumOk ts s){k:Int}{t:Tie}(hk:0<=k/\k<(ts.length:Int))(ht:ts[k.toNat]? = some t):aN [intsD (oddI (endsR ts s)),.tuple [.int t.1,.int t.2.1]] n Q X=Q (intsD (oddI (endsR ts (s++[k])))) n:=by
 have htf:=uy w hk
 rw[yi,ht] at htf
 have ab:t.1<t.2.1:=htf.ab
 have e:xH.tuple [.int t.1,.int t.2.1]=intsD (endsK ts k):=by rw[fi ht]; rfl
 have:=j8 w h
 rw[e,dN (by rw[fi ht]; simp; omega) (di _) (by rw[fi ht]; simp; omega),rG,lA,fZ]
 simp[endsR]
theorem iM {many:Int}{ts:List Tie}(w:WebF many ts){s:List Int}(h:NumOk ts s)(hq:Q (intsD (oddI (endsR ts s))) n):cP [webD many ts,intsD s] n Q X:=by
 have e0:webD many ts=.tuple [.int many,.tuple (ts.map tieD)]:=rfl
 have es:intsD s=.tuple (s.map .int):=rfl
 unfold cP fH
 simp only[mkF,mkFF,envOf,xY,yN,xP,yn,Nat.reduceSub,Nat.reduceAdd,yj,yz,yy,yf]
 rw[es]
 simp! [uSeq]
 refine bJ (λ pre post env n'=>∃(a b:List Int) (x3:Option Ent),env=[some (.s (webD many ts)),some (.s (.tuple (s.map .int))),some (.s (intsD (oddI (endsR ts a)))),x3]/\a++b=s/\post=b.map .int/\n'=n) _ [] _ _ ?_ ⟨[],s,none,rfl,rfl,rfl,rfl⟩ ?_
 ·rintro pre d post env n' E' hE ⟨a,b,x3,rfl,hab,hpost,rfl⟩ hnx
  cases b with
  | nil=>cases hpost
  | cons k b =>
   rw[xY] at hpost
   injection hpost with h1 h2
   subst h1
   have hk:k∈s:=by rw[<- hab]; simp
   obtain⟨t,ht,_,hat⟩:=iK (h k hk).1 (h k hk).2
   rw[e0]
   simp! [atI_1,hat,sl2]
   rw[tj w (λ i hi=>h i (by rw[<- hab]; exact zZ _ hi)) (h k hk) ht]
   exact hnx _ _ ⟨a++[k],b,_,rfl,by rw[<- hab]; simp,h2,rfl⟩
 ·rintro pre env n' ⟨a,b,x3,rfl,hab,hpost,rfl⟩
  have hb:b=[]:=by cases b with | nil=>rfl | cons _ _=>cases hpost
  subst hb
  rw[y0] at hab
  subst hab
  simp! [uSeq]
  exact hq
theorem iN {many:Int}{ts:List Tie}{ks:List Int}(hp:PrOk ts)(hk:NumOk ts ks):bw [webD many ts,intsD ks] n Q X=Q (.int (cost ts ks)) n:=by
 rw[intsD]
 simp! [bw,cB]
 rw[bh (λ k=>.int (prc ts k)) (λ _=>true) _ _ _ _ (λ k hk' n Q=>by
  rw[webD]
  simp! [atI_1,j7 (hk k hk'),tieD,atI_2,prc]) (λ k _ n Q=>by simp! [uSeq])]
 have e:([]++(ks.filter λ _=>true).map λ k=>xH.int (prc ts k))=(ks.map (prc ts)).map .int:=by rw[aY,yf,yS]; rfl
 rw[e]
 simp! [lB hp hk]
theorem iZ {many:Int}{ts:List Tie}(hl:ts.length<=16)(hn:n+16<=mostN)(h:∀s:List Int,s.Sublist (rngI 0 ts.length)->Q (intsD s) (n+ts.length)):bM [webD many ts] n Q X:=by
 have e0:webD many ts=.tuple [.int many,.tuple (ts.map tieD)]:=rfl
 have hmost:mostN=1099511627776:=by decide
 unfold bM c8
 simp only[mkF,mkFF,envOf,xY,yN,xP,yn,Nat.reduceSub,Nat.reduceAdd,yj,yz,yy,yf]
 rw[e0]
 simp! [atI_1,lenD',xQ]
 refine⟨⟨by omega,by omega⟩,?_⟩
 rw[yR,ig]
 refine fh (λ d n Q hn hq=>?_) _ [] _ _ (by rw[cq]; omega) λ s hs=>?_
 ·simp! [uSeq]
  refine aE (by decide) (by decide) (by omega) λ r r0 r1=>?_
  simp! [bg]
  exact hq _
 rw[yf,cq]
 simp! [a4]
 exact h s hs
end
theorem iO:∀{l:List Int} {a:Int},l.Pairwise (· < ·)->(∀k∈l,a<k)->a7 a (l.map .int)=true
 | [],_,_,_=>rfl
 | k::l,a,h,ha=>by
  obtain⟨h1,h2⟩:=zo.mp h
  rw[xY,a7,iO h2 h1,Bool.and_true]
  exact decide_eq_true (ha k (ya ..))
theorem jq {l:List Int}{b:Int}(h:l.Pairwise (· < ·))(h0:∀k∈l,0<=k/\k<b):aH b (intsD l)=true:=by
 rw[intsD,aH,iO h λ k hk=>by have:=h0 k hk; omega,Ai,cQ,List.getLast?_map]
 cases e:l.getLast? with
 | none=>rfl
 | some k =>
  have:=h0 k (List.mem_of_getLast? e)
  exact decide_eq_true this.2
theorem oS (ns:List Int):noLst (intsD ns)=true:=by
 have:∀ns:List Int,noLsts (ns.map .int)=true:=by
  intro ns
  induction ns with
  | nil=>rfl
  | cons a ns ih=>simpa [noLsts,noLst] using ih
 exact this _
section
variable {n:Int}{X:XQ}{Q:xH->Int->Prop}
theorem oU {row:List Int}(h1:(onceI row).length<=60)(h2:row.length<=100000):aM [.list (row.map .int)] n Q X=Q (intsD (oddI row)) n:=by
 simp only[aM,bp,am,h1,h2,true_and,intsD,and_self]
theorem oV {many:Int}{ts:List Tie}{ks:List Int}(hk:NumOk ts ks)(hl:2 * ks.length<=60):fb [webD many ts,intsD ks] n Q X=Q (intsD (oddI (endsR ts ks))) n:=by
 simp! [fb,io,intsD]
 have hsz:xV=16777216:=by decide
 have key:∀(us ps:List Int) (x1 x3:Option Ent),NumOk ts us->ps.length+2 * us.length<=60->uLoop (uNm 3) (uMeth 2 dB (uCons (uSl (uOp ixD (uOp ixD (aa 0) (uC (.int 1))) (aa 3)) uNo (uSo (uC (.int 2)))) uNil))
   { nx:=uRet (qJ aM (uCons (aa 2) uNil)) { nx:=λ x n'=>Q xH.none n',rt:=Q },rt:=Q } (us.map .int) [some (.s (webD many ts)),x1,some (.o (ps.map .int)),x3] n=Q (intsD (oddI (ps++endsR ts us))) n:=by
  intro us
  induction us with
  | nil =>
   intro ps x1 x3 _ hl
   have h60:ps.length<=60:=by simp at hl; omega
   simp! [uLoop,yN,oU (yv (rB ps) h60) (by omega:ps.length<=100000),oS]
   simp[endsR]
  | cons k us ih =>
   intro ps x1 x3 hu hl
   rw[xP] at hl
   obtain⟨t,ht,_,ha⟩:=iK (hu k (ya ..)).1 (hu k (ya ..)).2
   have ex:dB (ps.map .int) [.tuple [.int t.1,.int t.2.1]]=some ((ps++endsK ts k).map .int):=by
    simp only[dB]
    rw[if_pos (by rw[xQ,hsz]; simp; omega),fi ht,yU]
    rfl
   have:=ih (ps++endsK ts k) x1 (some (.s (.int k))) (λ j hj=>hu j (xT _ hj)) (by rw[yB,fi ht]; simp; omega)
   rw[webD] at this ⊢
   simp! [uLoop,atI_1,ha,sl2,ex]
   rw[this,zM,<- fZ]
 exact key ks [] _ _ hk (by simp only[yn]; omega)
def cH (w:Str)(ns:List Int)(q:Prop)(X:XQ):Prop:=match ns with | []=>q | v::_=>X "NoPaper" [.str w,.int v]
theorem fj (w:Str)(ns:List Int):aW [.str w,.list (ns.map .int)] n Q X=cH w ns (Q .none n) X:=by
 simp! [aW,cU,lenD',xQ,gtD]
 cases ns with
 | nil=>simp[cH]
 | cons v l =>
  simp! [xY,atI_0,cH,xP]
  rw[if_pos (decide_eq_true (by omega))]
end
section
variable {n:Int}{Q:xH->Int->Prop}
theorem dj {w:Str}{v:Int}:cv "NoPaper" [.str w,.int v] n Q=Q (.tuple [.str w,.int v]) n:=by
 have h1:("NoPaper" : Str)∈EXC:=by decide +kernel
 have h2:(["NoLine", "NoText", "NoTie", "NoTurns", "NoWalk", "TooMany"]:List Str).any (λ h=>decide (h=("NoPaper" : Str)\/h = "JoinError"))=false:=by decide +kernel
 have h3:decide (("NoPaper" : Str)=("NoPaper" : Str)\/("NoPaper" : Str) = "JoinError")=true:=by decide +kernel
 have f0:FL "NoPaper" = (["word", "number"]:List Str):=by decide +kernel
 have f1:("word" : Str)∈FL "NoPaper" := by decide +kernel
 have f2:("number" : Str)∈FL "NoPaper" := by decide +kernel
 have l1:((FL "NoPaper").zip [xH.str w,.int v]).lookup ("word" : Str)=some (.str w):=by rw[f0]; rfl
 have l2:((FL "NoPaper").zip [xH.str w,.int v]).lookup ("number" : Str)=some (.int v):=by rw[f0]; rfl
 simp! [cv,mkE,dG,uIsxT,uIsxV,uIsx,uFlx,h1,h2,f1,f2,l1,l2]
 rw[if_pos (by simp)]
end
def idxI (m:Nat)(p:Int->Bool):List Int:=(rngI 0 m).filter p
theorem lE {m:Nat}{p:Int->Bool}{k:Int}(h:k∈idxI m p):0<=k/\k<(m:Int):=by have:=mem_rngI.mp (yV.mp h).1; omega
theorem xB (m:Nat)(p:Int->Bool):(idxI m p).Pairwise (· < ·):=(rE m).sublist List.filter_sublist
theorem mz (m:Nat)(p:Int->Bool):(idxI m p).length<=m:=by have:=zd p (rngI 0 m); rwa [cq] at this
theorem d9 {α:Type}(f:α->xH)(d:α)(xs:List α):enumP (xs.map f)=(rngI 0 xs.length).map λ k=>.tuple [.int k,f (xs.getD k.toNat d)]:=by
 refine zS λ i=>?_
 unfold enumP rngI
 rw[yg,List.getElem?_zipIdx,yg,yg,yg]
 by_cases hi:i<xs.length
 ·rw[yC hi,yC (by simpa using hi)]
  simp[yi,hi]
 ·rw[yG (by omega),yG (by simp; omega)]
  rfl
def tieAt (ts:List Tie)(k:Int):Tie:=ts.getD k.toNat (0,0,0)
def bI (ts:List Tie):List Int:=idxI ts.length λ k=>decide (prc ts k<0)
def cutI (ts:List Tie)(side:List Int):List Int:=idxI ts.length λ k=>!(decide ((tieAt ts k).1∈side) == decide ((tieAt ts k).2.1∈side))
def absT (t:Tie):Tie:=(t.1,t.2.1,if t.2.2<0 then -t.2.2 else t.2.2)
def tOdd (ts:List Tie)(told:List Int):List Int:=oddI (told++oddI (endsR ts (bI ts)))
def dq (told side:List Int):Bool:=decide ((side.filter λ v=>decide (v∈told)).length % 2=1)
def rowD (r:List Int × Int):xH:=.tuple [intsD r.1,.int r.2]
def evenI (told:List Int)(rows:List (List Int × Int)):List Int:=idxI rows.length λ k=>!dq told (rows.getD k.toNat ([],0)).1
def loadI (rows:List (List Int × Int))(k:Int):Int:=((rows.filter λ r=>decide (k∈r.1)).map (·.2)).sum
def du (ts:List Tie)(bottom:Int)(rows:List (List Int × Int)):List Int:=idxI ts.length λ k=>decide (bottom * prc ts k<loadI rows k)
def cutR (ts:List Tie)(rows:List (List Int × Int)):List (List Int × Int):=rows.map λ r=>(cutI ts r.1,r.2)
structure RowsR (many:Int) (rows:List (List Int × Int)):Prop where
 lt:∀r∈rows,r.1.Pairwise (· < ·)
 pl:∀r∈rows,∀v∈r.1,0<=v/\v<many
 sh:∀r∈rows,1<=r.2/\r.2<=100000
 len:rows.length<=600
theorem nF {many:Int}{side:List Int}(h:side.Pairwise (· < ·))(hp:∀v∈side,0<=v/\v<many)(hm:many<=9):side.length<=9:=by
 have:=cK (lt_nd h) (ns:=rngI 0 many.toNat) λ v hv=>mem_rngI.mpr (by have:=hp v hv; omega)
 rw[cq] at this
 omega
theorem iP {ns:List Int}(h:∀i∈ns,0<=i/\i<=100000):sumAD [.list (ns.map .int)]=some (.int ns.sum):=by
 simp only[sumAD,sumD,bp,zY]
 rw[if_pos λ n hn=>by
  have:=h n hn
  omega]
section
variable {n:Int}{X:XQ}{Q:xH->Int->Prop}
theorem nG {many:Int}{ts:List Tie}:ip [webD many ts] n Q X=Q (intsD (bI ts)) n:=by
 rw[webD]
 simp! [ip,ma,atI_1,uJe,d9 tieD (0,0,0)]
 rw[aZ (λ env=>∃x y,env=[x,y]) _ (λ k=>.int k) (λ k=>decide (prc ts k<0)) _ _ _ (λ k hk env ⟨x,y,he⟩=>by
  subst he
  exact⟨[some (.s (.int k)),some (.s (tieD (ts.getD k.toNat (0,0,0))))],⟨_,_,rfl⟩,λ K=>by simp! [uSeq],λ n Q=>by rw[tieD]; simp! [atI_2,ltD]; rfl,λ n Q=>by simp! [uSeq]⟩) ⟨_,_,rfl⟩]
 simp! [a4]
 rfl
theorem gk {many:Int}{ts:List Tie}:bZ [webD many ts] n Q X=Q (intsD (bI ts)) n:=by
 rw[webD]
 simp! [bZ,eL,atI_1,uJe,d9 tieD (0,0,0)]
 rw[aZ (λ env=>∃x y,env=[x,y]) _ (λ k=>.int k) (λ k=>decide (prc ts k<0)) _ _ _ (λ k hk env ⟨x,y,he⟩=>by
  subst he
  exact⟨[some (.s (.int k)),some (.s (tieD (ts.getD k.toNat (0,0,0))))],⟨_,_,rfl⟩,λ K=>by simp! [uSeq],λ n Q=>by rw[tieD]; simp! [atI_2,ltD]; rfl,λ n Q=>by simp! [uSeq]⟩) ⟨_,_,rfl⟩]
 simp! [a4]
 rfl
theorem rK {many:Int}{ts:List Tie}{side:List Int}:gE [webD many ts,intsD side] n Q X=Q (intsD (cutI ts side)) n:=by
 rw[webD]
 simp! [gE,jR,atI_1,uJe,d9 tieD (0,0,0)]
 rw[aZ (λ env=>∃x y,env=[x,y,some (.s (intsD side))]) _ (λ k=>.int k) (λ k=>!(decide ((tieAt ts k).1∈side) == decide ((tieAt ts k).2.1∈side))) _ _ _ (λ k hk env ⟨x,y,he⟩=>by
  subst he
  exact⟨[some (.s (.int k)),some (.s (tieD (ts.getD k.toNat (0,0,0)))),some (.s (intsD side))],⟨_,_,rfl⟩,λ K=>by simp! [uSeq],λ n Q=>by rw[tieD,intsD]; simp! [atI_0,atI_1,cO,nB]; rfl,λ n Q=>by simp! [uSeq]⟩) ⟨_,_,rfl⟩]
 simp! [a4]
 rfl
theorem jr {many:Int}{ts:List Tie}{side:List Int}:dE [webD many ts,intsD side] n Q X=Q (intsD (cutI ts side)) n:=by
 rw[webD]
 simp! [dE,ir,atI_1,uJe,d9 tieD (0,0,0)]
 rw[aZ (λ env=>∃x y,env=[x,y,some (.s (intsD side))]) _ (λ k=>.int k) (λ k=>!(decide ((tieAt ts k).1∈side) == decide ((tieAt ts k).2.1∈side))) _ _ _ (λ k hk env ⟨x,y,he⟩=>by
  subst he
  exact⟨[some (.s (.int k)),some (.s (tieD (ts.getD k.toNat (0,0,0)))),some (.s (intsD side))],⟨_,_,rfl⟩,λ K=>by simp! [uSeq],λ n Q=>by rw[tieD,intsD]; simp! [atI_0,atI_1,cO,nB]; rfl,λ n Q=>by simp! [uSeq]⟩) ⟨_,_,rfl⟩]
 simp! [a4]
 rfl
theorem rL {many:Int}{ts:List Tie}:gF [webD many ts] n Q X=Q (webD many (ts.map absT)) n:=by
 have e0:webD many ts=.tuple [.int many,.tuple (ts.map tieD)]:=rfl
 rw[e0]
 simp! [gF,jS,atI_0,atI_1]
 rw[aZ (λ env=>∃x y z,env=[x,y,z]) tieD (λ t=>tieD (absT t)) (λ _=>true) _ _ _ (λ t ht env ⟨x,y,z,he⟩=>by
  subst he
  refine⟨[some (.s (.int t.2.1)),some (.s (.int t.1)),some (.s (.int t.2.2))],⟨_,_,_,rfl⟩,λ K=>by rw[tieD]; simp! [uSeq],λ n Q=>by simp! [uSeq],λ n Q=>by simp! [absD,absT,tieD]⟩) ⟨_,_,_,rfl⟩]
 rw[aY,yf]
 simp! [a4]
 rw[webD,yS]
 rfl
theorem cj (ts:List Tie):NumOk ts (bI ts):=λ k hk=>lE hk
theorem i3 {many:Int}{ts:List Tie}(w:WebF many ts)(hl:ts.length<=16){told:List Int}(ht:told.length<=20):bK [webD many ts,intsD told] n Q X=Q (intsD (tOdd ts told)) n:=by
 have hb:=mz ts.length λ k=>decide (prc ts k<0)
 have h9:=j8 w (cj ts)
 unfold bK cY
 simp only[mkF,mkFF,envOf,xY,yN,xP,yn,Nat.reduceSub,Nat.reduceAdd,yj,yz,yy,yf]
 simp only[uRet,uCall,uCons,uVar,uNil,true_and,ye,xZ]
 rw[nG,oV (cj ts) (show 2 * (bI ts).length<=60 by unfold bI; omega),my (show told.length+(oddI (endsR ts (bI ts))).length<=60 by omega)]
 rfl
theorem dO {many:Int}{ts:List Tie}(w:WebF many ts){told:List Int}(ht:told.length<=20)(hn:told.Nodup)(h:Q (intsD (tOdd ts told)) n):a5 [webD many ts,intsD told] n Q X:=by
 have h9:=j8 w (cj ts)
 unfold a5 cD
 simp only[mkF,mkFF,envOf,xY,yN,xP,yn,Nat.reduceSub,Nat.reduceAdd,yj,yz,yy,yf]
 simp only[uRet,uCall,uCons,uVar,uNil,true_and,ye,xZ]
 rw[gk]
 refine iM w (cj ts) ?_
 rw[dN (by omega) hn (di _)]
 exact h
theorem j9 {told side:List Int}:cr [intsD told,intsD side] n Q X=Q (.bool (dq told side)) n:=by
 rw[intsD,intsD]
 simp! [cr,dC]
 rw[bh (λ k=>.int k) (λ k=>decide (k∈told)) _ _ _ _ (λ k _ n Q=>by simp! [uSeq]) (λ k _ n Q=>by simp! [cO])]
 simp! [lenD',yf,xQ,l7 (show (0:Int)<2 by decide),bg]
 have e:decide (((side.filter λ k=>decide (k∈told)).length:Int) % 2=1)=dq told side:=by unfold dq; exact decide_eq_decide.mpr (by omega)
 rw[e]
theorem fk {told side:List Int}(h1:told.Nodup)(h2:side.Nodup):bE [intsD side,intsD told] n Q X=Q (.bool (dq told side)) n:=by
 rw[intsD,intsD]
 simp! [bE,dF]
 rw[bh (λ k=>.int k) (λ k=>decide (k∈side)) _ _ _ _ (λ k _ n Q=>by simp! [uSeq]) (λ k _ n Q=>by simp! [cO])]
 simp! [lenD',yf,xQ,l7 (show (0:Int)<2 by decide),bg]
 have e:decide (((told.filter λ k=>decide (k∈side)).length:Int) % 2=1)=dq told side:=by
  unfold dq
  rw[(rA h1 h2).length_eq]
  exact decide_eq_decide.mpr (by omega)
 rw[e]
theorem lF {told:List Int}{rows:List (List Int × Int)}:c5 [intsD told,.tuple (rows.map rowD)] n Q X=Q (.list ((evenI told rows).map .int)) n:=by
 simp! [c5,eI,uJe,d9 rowD ([],0)]
 rw[aZ (λ env=>∃x y,env=[x,y,some (.s (intsD told))]) _ (λ k=>.int k) (λ k=>!dq told (rows.getD k.toNat ([],0)).1) _ _ _ (λ k hk env ⟨x,y,he⟩=>by
  subst he
  exact⟨[some (.s (.int k)),some (.s (rowD (rows.getD k.toNat ([],0)))),some (.s (intsD told))],⟨_,_,rfl⟩,λ K=>by simp! [uSeq],λ n Q=>by rw[rowD]; simp! [atI_0,j9],λ n Q=>by simp! [uSeq]⟩) ⟨_,_,rfl⟩]
 rw[yf]
 rfl
theorem mB {many:Int}{ts:List Tie}{rows:List (List Int × Int)}:dY [webD many ts,.tuple (rows.map rowD)] n Q X=Q (.list ((cutR ts rows).map rowD)) n:=by
 simp! [dY,fG]
 rw[aZ (λ env=>∃x,env=[x,some (.s (webD many ts))]) rowD (λ r=>rowD (cutI ts r.1,r.2)) (λ _=>true) _ _ _ (λ r hr env ⟨x,he⟩=>by
  subst he
  exact⟨[some (.s (rowD r)),some (.s (webD many ts))],⟨_,rfl⟩,λ K=>by simp! [uSeq],λ n Q=>by simp! [uSeq],λ n Q=>by rw[rowD]; simp! [atI_0,atI_1,rK,rowD]⟩) ⟨_,rfl⟩]
 rw[aY,yf,cutR,yS]
 rfl
theorem lG {many:Int}{rows:List (List Int × Int)}(hr:RowsR many rows):c6 [.tuple (rows.map rowD)] n Q X=Q (.int (rows.map (·.2)).sum) n:=by
 simp! [c6,eJ]
 rw[aZ (λ env=>∃x,env=[x]) rowD (λ r=>.int r.2) (λ _=>true) _ _ _ (λ r hr env ⟨x,he⟩=>by
  subst he
  exact⟨[some (.s (rowD r))],⟨_,rfl⟩,λ K=>by simp! [uSeq],λ n Q=>by simp! [uSeq],λ n Q=>by rw[rowD]; simp! [atI_1]⟩) ⟨_,rfl⟩]
 rw[aY,yf]
 have e:(rows.map λ r=>xH.int r.2)=(rows.map (·.2)).map .int:=by rw[yS]; rfl
 rw[e]
 simp! [iP (ns:=rows.map (·.2)) (λ i hi=>by obtain⟨r,h1,rfl⟩:=yI.mp hi; have:=hr.sh r h1; exact⟨by omega,this.2⟩)]
end
def byI (m:Nat)(L:Int->Int):List xH:=(rngI 0 m).map λ k=>.int (L k)
theorem ka (m:Nat)(L:Int->Int):(byI m L).length=m:=by simp[byI,rngI]
theorem kc {m:Nat}{L:Int->Int}{k:Int}(h:0<=k/\k<(m:Int)):(byI m L)[k.toNat]? = some (.int (L k)):=by
 unfold byI rngI
 rw[yg,yg,z8 (by omega)]
 have:(0:Int)+((k.toNat:Nat):Int)=k:=by omega
 show some (xH.int (L (0+((k.toNat:Nat):Int))))=_
 rw[this]
theorem vS {m:Nat}{L:Int->Int}{k x:Int}(h:0<=k/\k<(m:Int)):(byI m L).set k.toNat (.int x)=byI m λ j=>if j=k then x else L j:=by
 refine zS λ i=>?_
 by_cases hi:i<m
 ·have e:(byI m λ j=>if j=k then x else L j)[i]? = some (.int (if (i:Int)=k then x else L i)):=by
   have:=kc (m:=m) (L:=λ j=>if j=k then x else L j) (k:=(i:Int)) ⟨by omega,by omega⟩
   simpa using this
  have e2:(byI m L)[i]? = some (.int (L i)):=by
   have:=kc (m:=m) (L:=L) (k:=(i:Int)) ⟨by omega,by omega⟩
   simpa using this
  rw[e]
  by_cases hk:k.toNat=i
  ·rw[hk,zx (by rw[ka]; exact hi),if_pos (by omega)]
  ·rw[yq hk,e2,if_neg (by omega)]
 ·rw[yG (by rw[yL,ka]; omega),yG (by rw[ka]; omega)]
theorem xC {m:Nat}{L:Int->Int}{k:Int}(h:0<=k/\k<(m:Int)):atI (byI m L) k=some (.int (L k)):=by rw[eB h.1 (by rw[ka]; exact h.2),kc h]
theorem oW (rows:List (List Int × Int))(r:List Int × Int)(k:Int):loadI (rows++[r]) k=loadI rows k+if k∈r.1 then r.2 else 0:=by
 unfold loadI
 rw[zQ,yU,List.sum_append]
 by_cases h:k∈r.1 <;> simp[h]
theorem vT (ts:List Tie)(k:Int):prc (ts.map absT) k=if prc ts k<0 then -prc ts k else prc ts k:=by
 unfold prc
 rw[yi,yi,yg]
 cases ts[k.toNat]? <;> simp[absT]
section
variable {n:Int}{X:XQ}{Q:xH->Int->Prop}
theorem tm {many bottom:Int}{us:List Tie}{rows:List (List Int × Int)}(hb0:0<=bottom)(hb:bottom<=100000)(hm:us.length<=1000)(hok:∀r∈rows,NumOk us r.1)(hnd:∀r∈rows,r.1.Nodup)(hq:Q (.list ((du us bottom rows).map .int)) n):cu [webD many us,.int bottom,.list (rows.map rowD)] n Q X:=by
 have e0:webD many us=.tuple [.int many,.tuple (us.map tieD)]:=rfl
 have hsz:xV=16777216:=by decide
 unfold cu dD
 simp only[mkF,mkFF,envOf,xY,yN,xP,yn,Nat.reduceSub,Nat.reduceAdd,yj,yz,yy,yf]
 with_reducible generalize hte:uRet _=te
 with_reducible generalize hbd:uFor (uIt _) _ _=bd
 rw[e0]
 simp! [atI_1,lenD',xQ,uMul]
 rw[<- e0]
 have er:(List.replicate (Int.toNat (us.length:Int)) [xH.int 0]).flatten=byI us.length λ k=>loadI [] k:=by
  rw[yR]
  unfold byI rngI
  refine zS λ i=>?_
  have e1:∀m:Nat,(List.replicate m [xH.int 0]).flatten=List.replicate m (.int 0):=λ m=>by
   induction m with
   | zero=>rfl
   | succ m ih=>rw[yj,zE,ih,yj]; rfl
  rw[e1,yS,yg,y7]
  by_cases hi:i<us.length
  ·rw[if_pos hi,z8 hi]; simp[loadI]
  ·rw[if_neg hi,yG (by simp; omega)]; rfl
 refine⟨⟨by omega,by omega,by simp; omega⟩,?_⟩
 rw[er]
 refine bJ (λ pre post env n'=>∃(a b:List (List Int × Int)) (x4 x5:Option Ent),env=[some (.s (webD many us)),some (.s (.int bottom)),some (.s (.list (rows.map rowD))),some (.o (byI us.length λ k=>loadI a k)),x4,x5]/\a++b=rows/\post=b.map rowD/\n'=n) _ [] _ _ ?_ ⟨[],rows,_,_,rfl,rfl,rfl,rfl⟩ ?_
 ·rintro pre d post env n3 E' hE ⟨a,b,x4,x5,rfl,hab,hpost,rfl⟩ hnx
  cases b with
  | nil=>cases hpost
  | cons r b =>
   rw[xY] at hpost
   injection hpost with h1 h2
   subst h1
   have hr:r∈rows:=by rw[<- hab]; simp
   subst hbd
   rw[rowD,intsD]
   simp! [atI_0]
   refine bJ (λ pre2 post2 env n2=>∃(p q:List Int) (x5:Option Ent),env=[some (.s (webD many us)),some (.s (.int bottom)),some (.s (.list (rows.map rowD))),some (.o (byI us.length λ k=>loadI a k+if k∈p then r.2 else 0)),some (.s (.tuple [.tuple (r.1.map .int),.int r.2])),x5]/\p++q=r.1/\post2=q.map .int/\n2=n3) _ [] _ _ ?_ ⟨[],r.1,x5,by simp only[yE,if_false,Int.add_zero],rfl,rfl,rfl⟩ ?_
   ·rintro pre2 d2 post2 env n4 E2 hE2 ⟨p,q,x5,rfl,hpq,hpost2,rfl⟩ hnx2
    cases q with
    | nil=>cases hpost2
    | cons k q =>
     rw[xY] at hpost2
     injection hpost2 with h3 h4
     subst h3
     have hk:=hok r hr k (by rw[<- hpq]; simp)
     have hkp:k ∉ p:=λ z=>by
      have:=hnd r hr
      rw[<- hpq] at this
      exact (Ag.mp this).2.2 k z k (ya ..) rfl
     simp! [uAugI,kc hk,atI_1]
     refine⟨hk.1,?_⟩
     rw[vS hk]
     have e:(byI us.length λ j=>if j=k then (loadI a k+if k∈p then r.2 else 0)+r.2 else loadI a j+if j∈p then r.2 else 0)=byI us.length λ j=>loadI a j+if j∈p++[k] then r.2 else 0:=by
      refine congrArg (byI us.length) (funext λ j=>?_)
      by_cases hj:j=k
      ·subst hj
       rw[if_pos rfl,if_neg hkp,if_pos (by simp)]
       omega
      ·rw[if_neg hj]
       congr 1
       by_cases hp:j∈p <;> simp[hp,hj]
     rw[e]
     exact hnx2 _ _ ⟨p++[k],q,_,rfl,by rw[<- hpq]; simp,h4,rfl⟩
   ·rintro pre2 env n4 ⟨p,q,x5,rfl,hpq,hpost2,rfl⟩
    have hb:q=[]:=by cases q with | nil=>rfl | cons _ _=>cases hpost2
    subst hb
    rw[y0] at hpq
    subst hpq
    have e:(byI us.length λ k=>loadI a k+if k∈r.1 then r.2 else 0)=byI us.length λ k=>loadI (a++[r]) k:=by simp only[oW]
    rw[e]
    exact hnx _ _ ⟨a++[r],b,_,_,rfl,by rw[<- hab]; simp,h2,rfl⟩
 ·rintro pre env n3 ⟨a,b,x4,x5,rfl,hab,hpost,rfl⟩
  have hb:b=[]:=by cases b with | nil=>rfl | cons _ _=>cases hpost
  subst hb
  rw[y0] at hab
  subst hab
  subst hte
  rw[e0]
  simp! [atI_1,uJe,d9 tieD (0,0,0)]
  rw[aZ (λ env=>∃x y,env=[x,y,some (.o (byI us.length λ k=>loadI a k)),some (.s (.int bottom))]) _ (λ k=>.int k) (λ k=>decide (bottom * prc us k<loadI a k)) _ _ _ (λ k hk env ⟨x,y,he⟩=>by
   subst he
   have hk':0<=k/\k<(us.length:Int):=by have:=mem_rngI.mp hk; omega
   have hmul:∀z:Int,mulD (.int bottom) (.int z)=some (.int (bottom * z)):=λ z=>eF (.inl ⟨by omega,by omega⟩)
   exact⟨[some (.s (.int k)),some (.s (tieD (us.getD k.toNat (0,0,0)))),some (.o (byI us.length λ k=>loadI a k)),some (.s (.int bottom))],⟨_,_,rfl⟩,λ K=>by simp! [uSeq],λ n Q=>by rw[tieD]; simp! [atI_2,xC hk',hmul,gtD]; rfl,λ n Q=>by simp! [uSeq]⟩) ⟨_,_,rfl⟩]
  rw[yf]
  exact hq
end
def aQ (m:Int)(d:xH):Bool:=match d with | .int i=>decide (m<=i) | _=>false
def ax (many:Int)(d:xH):Bool:=match d with | .tuple [a,b]=>aH many a && aQ 1 b | _=>false
def ar (many:Int)(d:xH):Bool:=match d with | .tuple [b,.tuple rs]=>aQ 1 b && rs.all (ax many) | _=>false
theorem tup2 {d:xH}(h:tupOf 2 d=true):∃a b,d=.tuple [a,b]:=by
 unfold tupOf at h
 split at h
 ·rename_i ds
  have:=of_decide_eq_true h
  match ds,(show ds.length=2 by omega) with
  | [a,b],_=>exact⟨a,b,rfl⟩
 ·cases h
theorem nH {d:xH}(h:tupOf 2 d=false):∀a b,d≠.tuple [a,b]:=λ a b e=>by rw[e] at h; simp[tupOf] at h
theorem f6 {ug:UG}{ub:US}{E:UEnds}{n:Int}(I:PEnv->Prop)(p:Int->Bool)(f:Int->xH):∀(ks:List Int) (env:PEnv),(∀k∈ks,∀env (E':UEnds),I env->E'.rt=E.rt->(p k=true->E'.rt (f k) n)->(p k=false->∀env',I env'->E'.nx env' n)->ug (.int k) env λ e1=>ub E' e1 n)->I env ->
  (match ks.filter p with | k::_=>E.rt (f k) n | []=>∀env',I env'->E.nx env' n)->uLoop ug ub E (ks.map .int) env n
 | [],env,_,hi,h=>h env hi
 | k::ks,env,hb,hi,h=>by
  rw[xY]
  refine hb k (ya ..) env { nx:=uLoop ug ub E (ks.map .int),rt:=E.rt } hi rfl (λ hp=>?_) λ hp env' hi'=>?_
  ·rw[List.filter_cons_of_pos hp] at h
   exact h
  ·rw[List.filter_cons_of_neg (by simp[hp])] at h
   exact f6 I p f ks env' (λ j hj=>hb j (xT _ hj)) hi' h
def gm (bottom:Int)(rows:List (List Int × Int)):xH:=.tuple [.int bottom,.tuple (rows.map rowD)]
def lH (ts:List Tie)(bottom:Int)(rows:List (List Int × Int)):Int:=(rows.map (·.2)).sum+bottom * cost ts (bI ts)
def iQ (ts:List Tie)(told:List Int)(bottom:Int)(rows:List (List Int × Int)):xH:=match evenI (tOdd ts told) rows with
 | v::_=>.tuple [.str "side",.int v]
 | []=>match du (ts.map absT) bottom (cutR ts rows) with
  | v::_=>.tuple [.str "tie",.int v]
  | []=>.tuple [.int (lH ts bottom rows),.int bottom]
theorem tq {many:Int}{rows:List (List Int × Int)}(hr:RowsR many rows):(rows.map rowD).all (ax many)=true:=by
 rw[zX]
 intro d hd
 obtain⟨r,h,rfl⟩:=yI.mp hd
 simp only[rowD,ax,jq (hr.lt r h) (hr.pl r h),aQ,decide_eq_true (hr.sh r h).1,Bool.and_self]
section
variable {n:Int}{X:XQ}{Q:xH->Int->Prop}
theorem dv (d:xH)(m:Int):aS [d,.int m] n Q X=Q (.bool (aQ m d)) n:=by
 simp! [aS,bX,iH]
 cases d with
 | int i=>simp! [fX,geD,aQ]
 | _=>simp! [fX,aQ]
theorem i5 (many:Int)(ts:List Tie)(d:xH):bL [webD many ts,d] n Q X=Q (.bool (ax many d)) n:=by
 unfold bL cZ
 simp only[mkF,mkFF,envOf,xY,yN,xP,yn,Nat.reduceSub,Nat.reduceAdd,yj,yz,yy,yf]
 simp only[uRet,uAndV,uCall,uCons,uVar,uC,uNil,true_and,ye,xZ]
 rw[eC]
 cases h:tupOf 2 d with
 | true =>
  obtain⟨a,b,rfl⟩:=tup2 h
  simp only[ai,if_true,uOp,aa,uC,ye,xZ,ixD_t,atI_0,am]
  rw[oO]
  cases h2:aH many a with
  | true=>simp only[ai,if_true,atI_1,dv,ax,h2,Ai,am]
  | false=>simp only[ai,yt,if_false,ax,h2,Bool.false_and]
 | false =>
  have:ax many d=false:=by
   unfold ax
   split
   ·exact absurd rfl (nH h _ _)
   ·rfl
  rw[this]
  simp only[ai,yt,if_false]
theorem dw (many:Int)(ts:List Tie)(d:xH):aT [webD many ts,d] n Q X=Q (.bool (ar many d)) n:=by
 unfold aT bY
 simp only[mkF,mkFF,envOf,xY,yN,xP,yn,Nat.reduceSub,Nat.reduceAdd,yj,yz,yy,yf]
 with_reducible generalize hte:uRet (uCB _ _)=te
 simp only[uSeq,uIfS,uOr,uNot,uTst,uCall,uCons,uVar,uC,uNil,true_and,ye,xZ]
 rw[eC]
 cases h:tupOf 2 d with
 | false =>
  have:ar many d=false:=by
   unfold ar
   split
   ·exact absurd rfl (nH h _ _)
   ·rfl
  rw[this]
  simp only[ai,zn,if_true,uRet,uC]
 | true =>
  obtain⟨a,b,rfl⟩:=tup2 h
  simp only[ai,za,yt,if_false,uOp,aa,uC,ye,xZ,ixD_t,atI_0,am]
  rw[dv]
  cases h2:aQ 1 a with
  | false =>
   have:ar many (.tuple [a,b])=false:=by unfold ar; split <;> simp_all
   rw[this]
   simp only[ai,zn,if_true,uRet,uC]
  | true =>
   cases b with
   | tuple rs =>
    simp only[ai,za,yt,if_false,uIsi,isiD,uOp,aa,uC,ye,xZ,ixD_t,atI_1,am,uNext]
    subst hte
    simp! [atI_1]
    rw[jP (λ d=>.bool (ax many d)) _ _ _ _ (λ d _ n Q=>by simp! [i5])]
    rw[yf,show (rs.map λ d=>xH.bool (ax many d))=(rs.map (ax many)).map .bool by rw[yS]; rfl]
    simp! [L2.allD,l5,zD,ar,h2,Ai]
    rw[show (rs.map (ax many)).all id=rs.all (ax many) by rw[List.all_map]; rfl]
   | _=>simp only[ai,za,zn,yt,if_false,if_true,uIsi,isiD,uOp,aa,uC,ye,xZ,ixD_t,atI_1,am,uRet,ar]; exact if_pos (by rfl)
theorem lI {many bottom:Int}{ts:List Tie}{rows:List (List Int × Int)}(w:WebF many ts)(hb0:0<=bottom)(hb:bottom<=100000)(hr:RowsR many rows)(h:Q (.int (lH ts bottom rows)) n):c9 [webD many ts,.int bottom,.tuple (rows.map rowD)] n Q X:=by
 have hp:=nE w
 unfold c9 eN
 simp only[mkF,mkFF,envOf,xY,yN,xP,yn,Nat.reduceSub,Nat.reduceAdd,yj,yz,yy,yf]
 simp! [uSeq]
 rw[aZ (λ env=>∃x y,env=[x,y]) rowD (λ r=>.int r.2) (λ _=>true) _ _ _ (λ r hr env ⟨x,y,he⟩=>by
  subst he
  exact⟨[some (.s (.int r.2)),some (.s (intsD r.1))],⟨_,_,rfl⟩,λ K=>by rw[rowD]; simp! [uSeq],λ n Q=>by simp! [uSeq],λ n Q=>by simp! [uSeq]⟩) ⟨_,_,rfl⟩]
 rw[aY,yf,show (rows.map λ r=>xH.int r.2)=(rows.map (·.2)).map .int by rw[yS]; rfl]
 simp! [iP (ns:=rows.map (·.2)) (λ i hi=>by obtain⟨r,h1,rfl⟩:=yI.mp hi; have:=hr.sh r h1; exact⟨by omega,this.2⟩)]
 rw[gk,iN hp (cj ts)]
 have hmul:mulD (.int bottom) (.int (cost ts (bI ts)))=some (.int (bottom * cost ts (bI ts))):=eF (.inl ⟨by omega,by omega⟩)
 simp! [hmul,addII]
 exact h
theorem mD {many bottom:Int}{ts:List Tie}{told:List Int}{rows:List (List Int × Int)}(w:WebF many ts)(hl:ts.length<=16)(ht:told.length<=20)(hb0:1<=bottom)(hb:bottom<=100000)(hr:RowsR many rows)
  (h:cH "side" (evenI (tOdd ts told) rows) (cH "tie" (du (ts.map absT) bottom (cutR ts rows)) (Q (.tuple [.int (lH ts bottom rows),.int bottom]) n) X) X):bP [webD many ts,intsD told,gm bottom rows] n Q X:=by
 have hp:=nE w
 have hk:∀n Q X,aT [webD many ts,gm bottom rows] n Q X=Q (.bool true) n:=λ n Q X=>by
  rw[dw]
  simp only[gm,ar,aQ,decide_eq_true hb0,tq hr,Bool.and_self]
 unfold bP dZ
 simp only[mkF,mkFF,envOf,xY,yN,xP,yn,Nat.reduceSub,Nat.reduceAdd,yj,yz,yy,yf]
 with_reducible generalize ht1:uSeq (uSet 3 _) _=t1
 simp only[true_and,uSeq,uIfS,uNot,uTst,uCall,uCons,uVar,uNil,ye,xZ]
 rw[hk]
 simp only[ai,za,yt,if_false,uNext]
 subst ht1
 with_reducible generalize ht2:uSeq (uDrop _) _=t2
 rw[gm]
 simp! [atI_0,atI_1]
 subst ht2
 with_reducible generalize ht3:uSeq (uDrop (jf aW _ (uCons (uC (.str "tie")) _))) _=t3
 simp only[uSeq,uDrop,jf,uCall,uCons,uVar,uC,uNil,ye,xZ]
 rw[i3 w hl ht,lF,fj]
 cases e1:evenI (tOdd ts told) rows with
 | cons v l=>rw[e1] at h; exact h
 | nil =>
  rw[e1] at h
  simp only[cH] at h ⊢
  subst ht3
  with_reducible generalize ht4:uRet _=t4
  simp only[uSeq,uDrop,jf,uCall,uCons,uVar,uC,uNil,ye,xZ]
  rw[rL,mB]
  refine tm (by omega) hb (by rw[xQ]; omega) (λ r hr'=>?_) (λ r hr'=>?_) ?_
  ·obtain⟨q,_,rfl⟩:=yI.mp hr'
   intro k hk'
   have:=lE hk'
   rw[xQ]
   exact this
  ·obtain⟨q,_,rfl⟩:=yI.mp hr'
   exact lt_nd (xB _ _)
  ·rw[fj]
   cases e2:du (ts.map absT) bottom (cutR ts rows) with
   | cons v l=>rw[e2] at h; exact h
   | nil =>
    rw[e2] at h
    simp only[cH] at h ⊢
    subst ht4
    have hmul:mulD (.int bottom) (.int (cost ts (bI ts)))=some (.int (bottom * cost ts (bI ts))):=eF (.inl ⟨by omega,by omega⟩)
    simp! [lG hr,nG,mx hp (cj ts),hmul,addII]
    exact h
theorem vU {ts:List Tie}{rows:List (List Int × Int)}(k:Int):((rows.filter λ r=>decide (k∈cutI ts r.1)).map (·.2)).sum=loadI (cutR ts rows) k:=by
 unfold loadI cutR
 rw[List.filter_map,yS]
 rfl
theorem kd {many bottom:Int}{ts:List Tie}{told:List Int}{rows:List (List Int × Int)}(w:WebF many ts)(hl:ts.length<=16)(ht:told.length<=20)(hn:told.Nodup)(hb0:0<=bottom)(hb:bottom<=100000)(hr:RowsR many rows)
  (h:match evenI (tOdd ts told) rows with | v::_=>Q (.tuple [.str "side",.int v]) n | []=>match du (ts.map absT) bottom (cutR ts rows) with | v::_=>Q (.tuple [.str "tie",.int v]) n | []=>Q .none n):bc [webD many ts,intsD told,.int bottom,.tuple (rows.map rowD)] n Q X:=by
 have e0:webD many ts=.tuple [.int many,.tuple (ts.map tieD)]:=rfl
 have hlr:=hr.len
 unfold bc bF
 simp only[mkF,mkFF,envOf,xY,yN,xP,yn,Nat.reduceSub,Nat.reduceAdd,yj,yz,yy,yf]
 with_reducible generalize ht1:uSeq (uFor _ _ _) _=t1
 simp! [uSeq]
 refine dO w ht hn ?_
 subst ht1
 with_reducible generalize ht2:uSeq (uFor (uIr (uCB lenD' (uCons (uOp _ _ _) _))) _ _) _=t2
 with_reducible generalize hb1:uIfS _ _ _=b1
 simp! [lenD',xQ]
 refine⟨by omega,by omega,?_⟩
 rw[yR,ig]
 refine f6 (λ env=>∃x5,env=[some (.s (webD many ts)),some (.s (intsD told)),some (.s (.int bottom)),some (.s (.tuple (rows.map rowD))),some (.s (intsD (tOdd ts told))),x5,none,none]) (λ k=>!dq (tOdd ts told) (rows.getD k.toNat ([],0)).1) (λ k=>.tuple [.str "side",.int k]) _ _ (λ k hk env E' ⟨x5,he⟩ hE h1 h2=>?_) ⟨_,rfl⟩ ?_
 ·subst he
  have hk':0<=k/\k<(rows.length:Int):=by have:=mem_rngI.mp hk; omega
  obtain⟨r,hrg⟩:∃r,rows[k.toNat]? = some r:=⟨rows[k.toNat]'(by omega),by simp⟩
  have hrm:r∈rows:=zt hrg
  have hat:atI (rows.map rowD) k=some (.tuple [intsD r.1,.int r.2]):=by rw[eB hk'.1 (by simpa using hk'.2),yg,hrg]; rfl
  have hgd:rows.getD k.toNat ([],0)=r:=by rw[yi,hrg]; rfl
  rw[hgd] at h1 h2
  subst hb1
  simp only[uNm,zg,zq,uIfS,uNot,uTst,uCall,uCons,uVar,uNil,uOp,aa,uC,ye,xZ,ixD_t,hat,am,atI_0]
  rw[fk (told:=tOdd ts told) (di _) (lt_nd (hr.lt r hrm))]
  cases ho:dq (tOdd ts told) r.1 with
  | true =>
   simp only[ai,za,yt,if_false,uNext]
   exact h2 (by rw[ho]; rfl) _ ⟨_,rfl⟩
  | false =>
   simp! [ai,zn,if_true]
   exact h1 (by rw[ho]; rfl)
 ·have ee:(rngI 0 rows.length).filter (λ k=>!dq (tOdd ts told) (rows.getD k.toNat ([],0)).1)=evenI (tOdd ts told) rows:=rfl
  rw[ee]
  cases e1:evenI (tOdd ts told) rows with
  | cons v l=>rw[e1] at h; exact h
  | nil =>
   rw[e1] at h
   rintro env' ⟨x5,rfl⟩
   subst ht2
   with_reducible generalize hb2:uSeq (uSet 7 _) _=b2
   rw[e0]
   simp! [atI_1,lenD',xQ]
   rw[<- e0]
   refine⟨by omega,by omega,?_⟩
   rw[yR,ig]
   refine f6 (λ env=>∃x6 x7,env=[some (.s (webD many ts)),some (.s (intsD told)),some (.s (.int bottom)),some (.s (.tuple (rows.map rowD))),some (.s (intsD (tOdd ts told))),x5,x6,x7]) (λ k=>decide (bottom * prc (ts.map absT) k<loadI (cutR ts rows) k)) (λ k=>.tuple [.str "tie",.int k]) _ _ (λ k hk env E' ⟨x6,x7,he⟩ hE h1 h2=>?_) ⟨_,_,rfl⟩ ?_
   ·subst he
    have hk':0<=k/\k<(ts.length:Int):=by have:=mem_rngI.mp hk; omega
    have hpr:prc ts k=(ts.getD k.toNat (0,0,0)).2.2:=rfl
    have hmul:∀z:Int,mulD (.int bottom) (.int z)=some (.int (bottom * z)):=λ z=>eF (.inl ⟨by omega,by omega⟩)
    subst hb2
    with_reducible generalize hb3:uIfS _ _ _=b3
    simp! [uSeq]
    rw[aZ (λ env=>∃x y,env=[x,y,some (.s (.int k)),some (.s (webD many ts))]) rowD (λ r=>.int r.2) (λ r=>decide (k∈cutI ts r.1)) _ _ _ (λ r hr env ⟨x,y,he⟩=>by
     subst he
     exact⟨[some (.s (.int r.2)),some (.s (intsD r.1)),some (.s (.int k)),some (.s (webD many ts))],⟨_,_,rfl⟩,λ K=>by rw[rowD]; simp! [uSeq],λ n Q=>by
      simp! [jr]
      rw[intsD]
      simp! [cO],λ n Q=>by simp! [uSeq]⟩) ⟨_,_,rfl⟩]
    rw[yf,show ((rows.filter λ r=>decide (k∈cutI ts r.1)).map λ r=>xH.int r.2)=((rows.filter λ r=>decide (k∈cutI ts r.1)).map (·.2)).map .int by rw[yS]; rfl]
    simp! [iP (ns:=(rows.filter λ r=>decide (k∈cutI ts r.1)).map (·.2)) (λ i hi=>by obtain⟨r,h3,rfl⟩:=yI.mp hi; have:=hr.sh r (yV.mp h3).1; exact⟨by omega,this.2⟩),vU]
    subst hb3
    rw[vT,hpr] at h1 h2
    rw[e0]
    by_cases hc:bottom * (if (ts.getD k.toNat (0,0,0)).2.2<0 then -(ts.getD k.toNat (0,0,0)).2.2 else (ts.getD k.toNat (0,0,0)).2.2)<loadI (cutR ts rows) k
    ·have hg:gtD (.int (loadI (cutR ts rows) k)) (.int (bottom * (if (ts.getD k.toNat (0,0,0)).2.2<0 then -(ts.getD k.toNat (0,0,0)).2.2 else (ts.getD k.toNat (0,0,0)).2.2)))=some (.bool true):=by simp only[gtD]; rw[decide_eq_true hc]
     simp! [atI_1,j7 hk',tieD,atI_2,absD,hmul,hg]
     exact h1 (decide_eq_true hc)
    ·have hg:gtD (.int (loadI (cutR ts rows) k)) (.int (bottom * (if (ts.getD k.toNat (0,0,0)).2.2<0 then -(ts.getD k.toNat (0,0,0)).2.2 else (ts.getD k.toNat (0,0,0)).2.2)))=some (.bool false):=by simp only[gtD]; rw[decide_eq_false hc]
     simp! [atI_1,j7 hk',tieD,atI_2,absD,hmul,hg]
     exact h2 (decide_eq_false hc) _ ⟨_,_,rfl⟩
   ·have eh:(rngI 0 ts.length).filter (λ k=>decide (bottom * prc (ts.map absT) k<loadI (cutR ts rows) k))=du (ts.map absT) bottom (cutR ts rows):=by unfold du idxI; rw[xQ]
    rw[eh]
    cases e2:du (ts.map absT) bottom (cutR ts rows) with
    | cons v l=>rw[e2] at h; exact h
    | nil =>
     rw[e2] at h
     rintro env' ⟨x6,x7,rfl⟩
     simp! [uSeq]
     exact h
end
structure SideR (many:Int) (s:List Int):Prop where
 lt:s.Pairwise (· < ·)
 pl:∀v∈s,0<=v/\v<many
theorem tu {many:Int}{s:List Int}(h:s.Sublist (rngI 0 many.toNat))(h0:0<=many):SideR many s:=⟨(rE _).sublist h,λ v hv=>by have:=mem_rngI.mp (h.subset hv); omega⟩
structure RowsQ (many:Int) (L:Nat) (B:Int) (rows:List (List Int × Int)):Prop where
 sd:∀r∈rows,SideR many r.1
 sh:∀r∈rows,1<=r.2/\r.2<=B
 len:rows.length<=L
theorem RowsQ.r {many:Int}{L:Nat}{B:Int}{rows:List (List Int × Int)}(h:RowsQ many L B rows)(hL:L<=600)(hB:B<=100000):RowsR many rows:=⟨λ r hr=>(h.sd r hr).lt,λ r hr=>(h.sd r hr).pl,λ r hr=>⟨(h.sh r hr).1,Int.le_trans (h.sh r hr).2 hB⟩,yv h.len hL⟩
theorem rM {xs:List Int}(h:xs≠[]):∃m∈xs,lg false [.list (xs.map .int)]=some (.int m):=by
 cases xs with
 | nil=>exact absurd rfl h
 | cons a xs =>
  have hc:Cmpb false ((a::xs).map .int):=λ x hx=>by
   obtain⟨i,_,rfl⟩:=yI.mp hx
   refine⟨⟨rfl,by simp[xH.depth]⟩,λ y hy=>?_⟩
   obtain⟨j,_,rfl⟩:=yI.mp hy
   rfl
  have hm:bestV false (.int a) (xs.map .int)∈(a::xs).map xH.int:=le false (.int a) (xs.map .int)
  obtain⟨m,hm1,e⟩:=yI.mp hm
  refine⟨m,hm1,?_⟩
  rw[xY] at hc ⊢
  unfold lg
  simp only[]
  rw[if_pos hc,<- e]
section
variable {n:Int}{X:XQ}{Q:xH->Int->Prop}
theorem dP {many:Int}{ts:List Tie}(w:WebF many ts)(hn:n+9<=mostN)(h:∀s:List Int,SideR many s->Q (intsD s) (n+many.toNat)):aO [webD many ts] n Q X:=by
 have e0:webD many ts=.tuple [.int many,.tuple (ts.map tieD)]:=rfl
 have hmost:mostN=1099511627776:=by decide
 have m0:=w.m0
 have m1:=w.m1
 unfold aO cC
 simp only[mkF,mkFF,envOf,xY,yN,xP,yn,Nat.reduceSub,Nat.reduceAdd,yj,yz,yy,yf]
 rw[e0]
 simp! [atI_0]
 refine⟨⟨by omega,by omega⟩,?_⟩
 rw[ig]
 refine fh (λ d n Q hn hq=>?_) _ [] _ _ (by rw[cq]; omega) λ s hs=>?_
 ·simp! [uSeq]
  refine aE (by decide) (by decide) (by omega) λ r r0 r1=>?_
  simp! [bg]
  exact hq _
 rw[yf,cq]
 simp! [a4]
 exact h s (tu hs (by omega))
theorem mE {many:Int}{ts:List Tie}(w:WebF many ts)(hl:ts.length<=16)(hn:n+20<=mostN)(h:∀(s:List Int) (n':Int),SideR many s->n<=n'->n'<=n+20->Q (intsD s) n'):d4 [webD many ts] n Q X:=by
 have hmost:mostN=1099511627776:=by decide
 have m0:=w.m0
 have m1:=w.m1
 unfold d4 fJ
 simp only[mkF,mkFF,envOf,xY,yN,xP,yn,Nat.reduceSub,Nat.reduceAdd,yj,yz,yy,yf]
 with_reducible generalize hte:uRet (uCall aO _)=te
 simp! [uSeq]
 refine aE (by decide) (by decide) (by omega) λ r r0 r1=>?_
 simp! [gtD]
 by_cases hr:r > 0
 ·simp! [hr,decide_true,ai,if_true]
  refine iZ hl (by omega) λ s hs=>?_
  have hok:NumOk ts s:=λ i hi=>by have:=mem_rngI.mp (hs.subset hi); omega
  refine iM w hok ?_
  exact h _ _ ⟨iL _,rJ w hok⟩ (by omega) (by omega)
 ·simp only[hr,decide_false,ai,yt,if_false,uNext]
  subst hte
  simp! [uSeq]
  refine dP w (by omega) λ s hs=>?_
  exact h _ _ hs (by omega) (by omega)
theorem lK {many bottom:Int}{ts:List Tie}{told:List Int}(w:WebF many ts)(hl:ts.length<=16)(ht:told.length<=20)(hnt:told.Nodup)(hb0:1<=bottom)(hb:bottom<=5)(hn:n+100<=mostN)(h:∀(rows:List (List Int × Int)) (n':Int),RowsQ many 6 1000 rows->n<=n'->n'<=n+100->Q (.tuple (rows.map rowD)) n'):aG [webD many ts,intsD told,.int bottom] n Q X:=by
 have e0:webD many ts=.tuple [.int many,.tuple (ts.map tieD)]:=rfl
 have hmost:mostN=1099511627776:=by decide
 have m0:=w.m0
 have m1:=w.m1
 have hp:=nE w
 unfold aG b8
 simp only[mkF,mkFF,envOf,xY,yN,xP,yn,Nat.reduceSub,Nat.reduceAdd,yj,yz,yy,yf]
 with_reducible generalize hte:uRet _=te
 with_reducible generalize hbd:uSeq (uSet 8 _) _=bd
 with_reducible generalize ht1:uSeq (uSet 5 _) _=t1
 simp! [uSeq]
 refine dO w ht hnt ?_
 subst ht1
 rw[e0]
 simp! [atI_1]
 have hmul:∀z:Int,mulD (.int bottom) (.int z)=some (.int (bottom * z)):=λ z=>eF (.inl ⟨by omega,by omega⟩)
 rw[aZ (λ env=>∃x,env=[x,some (.s (.int bottom))]) tieD (λ t=>.int (bottom * (if t.2.2<0 then -t.2.2 else t.2.2))) (λ _=>true) _ _ _ (λ t ht env ⟨x,he⟩=>by
  subst he
  exact⟨[some (.s (tieD t)),some (.s (.int bottom))],⟨_,rfl⟩,λ K=>by simp! [uSeq],λ n Q=>by simp! [uSeq],λ n Q=>by rw[tieD]; simp! [atI_2,absD,hmul]⟩) ⟨_,rfl⟩]
 rw[aY,yf,<- e0,show (ts.map λ t=>xH.int (bottom * (if t.2.2<0 then -t.2.2 else t.2.2)))=(ts.map λ t=>bottom * (if t.2.2<0 then -t.2.2 else t.2.2)).map .int by rw[yS]; rfl]
 have hlf:∀x∈ts.map (λ t=>bottom * (if t.2.2<0 then -t.2.2 else t.2.2)),x<=1000:=λ x hx=>by
  obtain⟨t,ht,rfl⟩:=yI.mp hx
  have:=hp t ht
  have h1:(if t.2.2<0 then -t.2.2 else t.2.2)<=99:=by split <;> omega
  have:=z7 h1 (by omega:(0:Int)<=bottom)
  omega
 have hll:(ts.map (λ t=>bottom * (if t.2.2<0 then -t.2.2 else t.2.2))).length=ts.length:=xQ ..
 generalize ts.map (λ t=>bottom * (if t.2.2<0 then -t.2.2 else t.2.2))=lf at hlf hll
 refine aE (by decide) (by decide) (by omega) λ c c0 c1=>?_
 simp! [addII]
 refine⟨by omega,by omega,?_⟩
 refine bJ (λ pre post env n'=>∃(lf:List Int) (rows:List (List Int × Int)) (x7 x8 x9 x10 x11:Option Ent),env=[none,some (.s (webD many ts)),some (.s (intsD told)),some (.s (.int bottom)),some (.s (intsD (tOdd ts told))),some (.s (.list (lf.map .int))),some (.o (rows.map rowD)),x7,x8,x9,x10,x11]/\(∀x∈lf,x<=1000)/\lf.length=ts.length/\RowsQ many pre.length 1000 rows/\n+1<=n'/\n'<=n+1+12 * pre.length/\pre.length+post.length=(1+c).toNat) _ [] _ _ ?_ ⟨lf,[],_,_,_,_,_,rfl,hlf,hll,⟨by simp,by simp,by simp⟩,by omega,by simp,by simp[rngD]⟩ ?_
 ·clear hlf hll
  rintro pre d post env n' E' hE ⟨lf,rows,x7,x8,x9,x10,x11,rfl,hlf,hll,hq,hn1,hn2,hpp⟩ hnx
  rw[xP] at hpp
  have hend:∀(lf:List Int) (rows:List (List Int × Int)) (x7 x8 x9 x10 x11:Option Ent) (n2:Int),(∀x∈lf,x<=1000)->lf.length=ts.length->RowsQ many (pre.length+1) 1000 rows->n'<=n2->n2<=n' + 12->E'.nx [none,some (.s (webD many ts)),some (.s (intsD told)),some (.s (.int bottom)),some (.s (intsD (tOdd ts told))),some (.s (.list (lf.map .int))),some (.o (rows.map rowD)),x7,x8,x9,x10,x11] n2:=λ lf rows x7 x8 x9 x10 x11 n2 g1 g2 g3 g4 g5=>hnx _ _ ⟨lf,rows,_,_,_,_,_,rfl,g1,g2,by simpa using g3,by omega,by simp; omega,by simp; omega⟩
  have hqs:RowsQ many (pre.length+1) 1000 rows:=⟨hq.sd,hq.sh,Nat.le_succ_of_le hq.len⟩
  subst hbd
  with_reducible generalize hif:uIfS _ _ _=tif
  simp! [uSeq]
  refine dP w (by omega) λ side hs=>?_
  rw[jr]
  simp! [uSeq]
  have hcut:∀k∈cutI ts side,0<=k/\k<(lf.length:Int):=λ k hk=>by have:=lE hk; omega
  have hcl:=mz ts.length λ k=>!(decide ((tieAt ts k).1∈side) == decide ((tieAt ts k).2.1∈side))
  subst hif
  with_reducible generalize hyes:uSeq (uSet 10 _) _=yes
  simp only[uIfS,uAnd,uTst,uCall,uCons,uVar,uNil,ye,xZ]
  rw[fk (told:=tOdd ts told) (di _) (lt_nd hs.lt)]
  cases ho:dq (tOdd ts told) side with
  | false =>
   simp only[ai,yt,if_false,uNext]
   exact hend _ _ _ _ _ _ _ _ hlf hll hqs (by omega) (by omega)
  | true =>
   simp only[ai,if_true,uOp,aa,uTup,uNil,ye,xZ]
   rw[show intsD (cutI ts side)=.tuple ((cutI ts side).map .int) from rfl,sP]
   by_cases hc0:cutI ts side=[]
   ·rw[decide_eq_true hc0]
    simp only[za,am,ai,yt,if_false,uNext]
    exact hend _ _ _ _ _ _ _ _ hlf hll hqs (by omega) (by omega)
   ·rw[decide_eq_false hc0]
    simp only[zn,am,ai,if_true]
    have hgetm:∀{n:Int} {Q:List xH->Int->Prop},aL (uNm 0) uYes (uOp ixD (aa 1) (aa 0)) Q ((cutI ts side).map .int) [] [none,some (.s (.list (lf.map .int)))] n=Q (((cutI ts side).map λ k=>lf.getD k.toNat 0).map .int) n:=λ {n Q}=>by
     rw[bh (λ k=>.int (lf.getD k.toNat 0)) (λ _=>true) _ _ _ _ (λ k hk n Q=>by
      have hk':=hcut k hk
      have:atI (lf.map xH.int) k=some (.int (lf.getD k.toNat 0)):=by
       rw[eB hk'.1 (by simpa using hk'.2),yg,yi,yC (by omega)]
       rfl
      simp! [ixD_l,this]) (λ k _ n Q=>by simp! [uSeq])]
     rw[aY,yf,yS]
     rfl
    obtain⟨m,hm,hbest⟩:=rM (xs:=(cutI ts side).map λ k=>lf.getD k.toNat 0) (by simpa using hc0)
    have hm1:m<=1000:=by
     obtain⟨k,hk,rfl⟩:=yI.mp hm
     have hk':=hcut k hk
     rw[yi,yC (by omega)]
     exact hlf _ (zp _)
    have hmin:min1D [.list (((cutI ts side).map λ k=>lf.getD k.toNat 0).map .int)]=some (.int m):=hbest
    simp only[uCB,uCons,uL,uComp,uJt,aa,uNil,uC,ye,xZ,seqD,am,seedP,xY,yN,Option.join_some,Option.join_none]
    rw[hgetm]
    simp only[hmin,am,gtD]
    by_cases hm0:0<m
    ·simp only[hm0,decide_true,am,ai,if_true]
     subst hyes
     with_reducible generalize hy3:uSeq (uMeth 6 _ _) _=y3
     with_reducible generalize hy2:uSeq (uSet 11 _) _=y2
     simp! [uSeq]
     rw[hgetm]
     simp only[hmin,am]
     subst hy2
     simp! [uSeq]
     refine aE (by omega) (by omega) (by omega) λ a a0 a1=>?_
     simp! [addII]
     refine aE (by decide) (by decide) (by omega) λ b b0 b1=>?_
     obtain⟨sh,hsh,hsh0,hsh1⟩:∃sh:Int,atI [xH.int m,.int (1+a)] b=some (.int sh)/\1<=sh/\sh<=1000:=by
      rcases (show b=0\/b=1 by omega) with rfl | rfl
      ·exact⟨m,atI_0 _ _,by omega,hm1⟩
      ·exact⟨1+a,atI_1 _ _ _,by omega,by omega⟩
     simp! [ixD_l,hsh]
     subst hy3
     have ap:=fB (ds:=rows.map rowD) (d:=rowD (side,sh)) (by rw[xQ]; have:=hq.len; omega)
     have ep:rows.map rowD++[rowD (side,sh)]=(rows++[(side,sh)]).map rowD:=by rw[yU]; rfl
     rw[ep,show rowD (side,sh)=.tuple [intsD side,.int sh] from rfl] at ap
     simp! [ap,lenD',xQ]
     refine⟨⟨by omega,by omega⟩,?_⟩
     rw[yR,ig]
     rw[bh (λ k=>.int (lf.getD k.toNat 0 - (if decide (k∈cutI ts side)=true then sh else 0))) (λ _=>true) _ _ _ _ (λ k hk n Q=>by
      have hk':0<=k/\k<(lf.length:Int):=by have:=mem_rngI.mp hk; omega
      have hat:atI (lf.map xH.int) k=some (.int (lf.getD k.toNat 0)):=by
       rw[eB hk'.1 (by simpa using hk'.2),yg,yi,yC (by omega)]
       rfl
      simp! [ixD_l,hat,cO,intD,nD,subII]) (λ k _ n Q=>by simp! [uSeq])]
     rw[aY,yf,show ((rngI 0 lf.length).map λ k=>xH.int (lf.getD k.toNat 0 - (if decide (k∈cutI ts side)=true then sh else 0)))=((rngI 0 lf.length).map λ k=>lf.getD k.toNat 0 - (if decide (k∈cutI ts side)=true then sh else 0)).map .int by rw[yS]; rfl]
     refine hend _ _ _ _ _ _ _ _ (λ x hx=>?_) (by rw[xQ,cq,hll]) ⟨λ r hr=>?_,λ r hr=>?_,by rw[yB,zV]; have:=hq.len; omega⟩ (by omega) (by omega)
     ·obtain⟨k,hk,rfl⟩:=yI.mp hx
      have hk':0<=k/\k<(lf.length:Int):=by have:=mem_rngI.mp hk; omega
      have:lf.getD k.toNat 0<=1000:=by
       rw[yi,yC (by omega)]
       exact hlf _ (zp _)
      split <;> omega
     ·rcases yQ.mp hr with hr | hr
      ·exact hq.sd r hr
      ·rw[yh.mp hr]; exact hs
     ·rcases yQ.mp hr with hr | hr
      ·exact hq.sh r hr
      ·rw[yh.mp hr]; exact⟨hsh0,hsh1⟩
    ·simp only[hm0,decide_false,am,ai,yt,if_false,uNext]
     exact hend _ _ _ _ _ _ _ _ hlf hll hqs (by omega) (by omega)
 ·rintro pre env n' ⟨lf,rows,x7,x8,x9,x10,x11,rfl,hlf2,hll2,hq,hn1,hn2,hpp⟩
  subst hte
  simp! [a4]
  have:pre.length<=6:=by simp at hpp; omega
  exact h rows n' ⟨hq.sd,hq.sh,yv hq.len this⟩ (by omega) (by omega)
end
mutual
def Wl (k:Nat):xH->Prop
 | .tuple ds=>ds.length<=k/\WlL k ds
 | .list ds=>ds.length<=k/\WlL k ds
 | _=>True
def WlL (k:Nat):List xH->Prop
 | []=>True
 | d::ds=>Wl k d/\WlL k ds
end
theorem wll_iff {k:Nat}:∀{ds:List xH},WlL k ds↔∀d∈ds,Wl k d
 | []=>by simp[WlL]
 | d::ds=>by rw[WlL,wll_iff (ds:=ds)]; simp
mutual
theorem f9 {k l:Nat}(h:k<=l):∀d:xH,Wl k d->Wl l d
 | .none,_=>trivial
 | .bool _,_=>trivial
 | .int _,_=>trivial
 | .str _,_=>trivial
 | .tuple ds,z=>by rw[Wl] at z ⊢; exact⟨yv z.1 h,wll_mono h ds z.2⟩
 | .list ds,z=>by rw[Wl] at z ⊢; exact⟨yv z.1 h,wll_mono h ds z.2⟩
 | .dict _,_=>trivial
theorem wll_mono {k l:Nat}(h:k<=l):∀ds:List xH,WlL k ds->WlL l ds
 | [],_=>trivial
 | d::ds,z=>⟨f9 h d z.1,wll_mono h ds z.2⟩
end
theorem ck {k:Nat}{ds:List xH}(h:ds.length<=k)(h2:∀d∈ds,Wl k d):Wl k (.tuple ds):=by rw[Wl]; exact⟨h,wll_iff.mpr h2⟩
section
variable {n:Int}{Q:xH->Int->Prop}{X:XQ}
theorem lL {d:xH}{B L:Nat}(hB:2<=B)(hB2:B<=10 ^ 8)(hL:11<=L)(hL2:L<=50)(hd:Gq B L d)(hn:n+1<=mostN)(h:∀d':xH,Sz (B+2) L 170 1 d'->Wl 1 d'->Q d' (n+1)):bj [d] n Q X:=by
 have hb:(10:Nat) ^ 8 * 2+2<=10 ^ 50:=by decide +kernel
 have k0:∀{i:Int},i.natAbs<=B+2->Sz (B+2) L 170 1 (.int i):=λ {i} hi=>(Sz.int hi (by omega)).mono (xL _) (xL _) (by omega) (by omega)
 have ks:∀{x:Str},(x.cps.toList.all (λ c=>decide (c<1114112)) && decide (x.cps.size<=11))=true->Sz (B+2) L 170 1 (.str x):=λ {x} hx=>(Sz.str hx).mono (xL _) (by omega) (by omega) (by omega)
 have kt:Sz (B+2) L 170 1 (.tuple []):=(Sz.tup SzL.nil).mono (xL _) (xL _) (by omega) (by omega)
 have kn:Sz (B+2) L 170 1 .none:=Sz.non.mono (xL _) (xL _) (by omega) (by omega)
 have kb:∀b,Sz (B+2) L 170 1 (.bool b):=λ b=>(Sz.bl b).mono (xL _) (xL _) (by omega) (by omega)
 have pick:∀{l:List xH} {m:Int},(∀d∈l,Sz (B+2) L 170 1 d/\Wl 1 d)->(l.length:Int)=m->0<m->m<100->aD [.int m] n (λ d n1=>bnd (ixD (.list l) d) λ d=>Q d n1) noX:=λ {l m} hl hm h0 h1=>by
  refine aE h0 (by omega) (by omega) λ r r0 r1=>?_
  obtain⟨x,hx,hm⟩:=gD (xs:=l) r0 (by omega)
  simp! [ixD_l,hx]
  exact h x (hl x hm).1 (hl x hm).2
 have wt:Wl 1 (.tuple []):=ck (by simp) (by simp)
 have last:aD [.int 4] n (λ d n1=>bnd (ixD (.list [.int 0,.tuple [],.str "a",.bool false]) d) λ d=>Q d n1) noX:=pick (by simp only[xR,yE,or_false]; rintro d (rfl | rfl | rfl | rfl); exact⟨k0 (by simp),trivial⟩; exact⟨kt,wt⟩; exact⟨ks (by decide +kernel),trivial⟩; exact⟨kb _,trivial⟩) rfl (by decide) (by decide)
 simp! [bj,b9]
 cases d with
 | int i =>
  have hi:i.natAbs<=B:=by simpa only [Gq] using hd
  have h8:(10:Nat) ^ 8<2 ^ 1920:=by decide +kernel
  have hlog:i.natAbs.log2<1920:=by
   by_cases z:i.natAbs=0
   ·rw[z]; decide
   ·exact (Nat.log2_lt z).mpr (by omega)
  have h9:(10:Nat) ^ 8<10 ^ 9:=by decide
  simp! [isiD,addB,subB,strB,addII,subII,bg,strD,hlog]
  refine pick ?_ rfl (by decide) (by decide)
  simp only[xR,yE,or_false]
  rintro d (rfl | rfl | rfl | rfl | rfl | rfl)
  ·exact⟨k0 (by omega),trivial⟩
  ·exact⟨k0 (by omega),trivial⟩
  ·exact⟨kb _,trivial⟩
  ·exact⟨(vI (by omega) hL).mono (xL _) (xL _) (by omega) (by omega),trivial⟩
  ·exact⟨kn,trivial⟩
  ·exact⟨k0 (by simp),trivial⟩
 | bool b =>
  have he:∃c,eqD (.bool b) (.int 1)=some (.bool c):=⟨_,qS rfl rfl (by simp[xH.depth])⟩
  obtain⟨c,he⟩:=he
  simp! [isiD,addB,subB,strB,he]
  refine pick ?_ rfl (by decide) (by decide)
  simp only[xR,yE,or_false]
  rintro d (rfl | rfl | rfl | rfl | rfl | rfl)
  ·exact⟨k0 (by cases b <;> simp <;> omega),trivial⟩
  ·exact⟨k0 (by cases b <;> simp),trivial⟩
  ·exact⟨kb _,trivial⟩
  ·cases b
   ·exact⟨ks (by decide +kernel),trivial⟩
   ·exact⟨ks (by decide +kernel),trivial⟩
  ·exact⟨kn,trivial⟩
  ·exact⟨k0 (by simp),trivial⟩
 | dict l=>simp only[Gq] at hd
 | _=>simp! [isiD]; exact last
end
theorem mF {B L k:Nat}(hk:1<=k)(hB:2<=B)(hB2:B<=10 ^ 8)(hL:11<=L)(hL2:L<=50):∀(fuel:Nat) (d:xH) (n:Int) (Q:xH->Int->Prop) (X:XQ),d.depth<fuel->Gq B L d->Wl k d->d.weight<=100000->d.depth<=50->n+4 * fuel<=mostN ->
  (∀(d':xH) (n':Int),Sz (B+2) L (2 * d.weight+200) (d.depth+2) d'->Wl (k+1) d'->n<=n'->n'<=n+4 * fuel->Q d' n')->cb fuel [d] n Q X
 | 0,d,n,Q,X,hf,_,_,_,_,_,_=>by omega
 | fuel+1,d,n,Q,X,hf,hg,hwl,hw,hdp,hn,h=>by
  have hb:(10:Nat) ^ 8 * 2+2<=10 ^ 50:=by decide +kernel
  simp! [cb,fL,fK]
  cases d with
  | tuple ds =>
   have hg':GqL B L ds:=by simpa only [Gq] using hg
   have hs:SzL (B+2) L (xH.weightAll ds) (xH.depthAll ds) ds:=⟨gql_mono (by omega) (by omega) ds hg',xL _,xL _⟩
   have hlen:=qP ds
   rw[Wl] at hwl
   have hwe:∀d∈ds,Wl (k+1) d:=λ d hd=>f9 (zA k) d (wll_iff.mp hwl.2 d hd)
   simp only[xH.weight] at hw
   simp only[xH.weight,xH.depth] at h hf hdp
   have zero:Sz (B+2) L 168 0 (.int 0):=Sz.int (by simp) (by omega)
   simp! [isiD]
   refine⟨λ env' n'=>env'=[none,some (.s (.tuple ds)),none,none]/\n<=n'/\n'<=n+1,?_,?_⟩
   ·simp! [uSeq]
    rw[nA (x:=.tuple ds) (y:=.tuple []) (by simpa [xH.canLay0] using hs.lay) rfl (by simp only[xH.depth]; omega)]
    simp! [xH.eqv,vJ]
    by_cases he:ds=[]
    ·subst he
     simp! [List.isEmpty_nil]
     exact⟨by omega,by omega⟩
    ·have he':ds.isEmpty=false:=by simpa using he
     have hpos:0<ds.length:=List.length_pos_iff.mpr he
     simp! [he']
     refine aE (by decide) (by decide) (by omega) λ r r0 r1=>?_
     simp! [gtD]
     split
     ·simp! [lenD']
      refine aE (by omega) (by omega) (by omega) λ at' a0 a1=>?_
      have hat:at'.toNat<ds.length:=by omega
      simp! [slD,eB a0 a1,yC hat]
      have hmem:ds[at'.toNat]∈ds:=zp _
      have hwm:=qR hmem
      have hdm:=qQ hmem
      have hsplit:=gC ds at'.toNat
      have hdrop:ds.drop at'.toNat=ds[at'.toNat]::ds.drop (at'.toNat+1):=yX hat
      rw[hdrop] at hsplit
      simp only[xH.weightAll] at hsplit
      refine mF hk hB hB2 hL hL2 fuel _ _ _ _ (by omega) (gql_iff.mp hg' _ hmem) (wll_iff.mp hwl.2 _ hmem) (by omega) (by omega) (by omega) λ d' n' hd' hwd hn1 hn2=>?_
      have t1:SzL (B+2) L (xH.weightAll (ds.take at'.toNat)) (xH.depthAll ds) (ds.take at'.toNat):=⟨(hs.take _).gq,xL _,(hs.take _).dp⟩
      have t2:SzL (B+2) L (xH.weightAll (ds.drop (at'.toNat+1))) (xH.depthAll ds) (ds.drop (at'.toNat+1)):=⟨(hs.drop _).gq,xL _,(hs.drop _).dp⟩
      have t3:=(t1.append (SzL.cons hd' SzL.nil)).append t2
      have hl1:(ds.take at'.toNat).length<=100000:=by rw[yO]; omega
      have hl2:(ds.drop (at'.toNat+1)).length<=100000:=by rw[zh]; omega
      have a1:addD (.tuple (ds.take at'.toNat)) (.tuple [d'])=some (.tuple (ds.take at'.toNat++[d'])):=kY (by simp only[xP,yn]; omega)
      have a2:addD (.tuple (ds.take at'.toNat++[d'])) (.tuple (ds.drop (at'.toNat+1)))=some (.tuple (ds.take at'.toNat++[d']++ds.drop (at'.toNat+1))):=kY (by simp only[yB,xP,yn]; omega)
      simp! [addII,fA _ at' a0,e8 _ (at' + 1) (by omega:0<=at' + 1),show (at' + 1).toNat=at'.toNat+1 by omega,a1,a2]
      exact h _ _ ((Sz.tup t3).mono (xL _) (xL _) (by omega) (by omega)) (ck (by simp only[yB,yO,zh,xP,yn]; omega) λ z hz=>by
       rcases yQ.mp hz with hz | hz
       ·rcases yQ.mp hz with hz | hz
        ·exact hwe z (zj hz)
        ·rw[yh.mp hz]; exact hwd
       ·exact hwe z (z6 hz)) (by omega) (by omega)
     ·exact⟨by omega,by omega⟩
   ·rintro env' n1 ⟨rfl,hn1,hn2⟩
    with_reducible generalize hr1:uSeq (uIfS _ _ _) _=rest1
    simp! [lenD',addII]
    refine aE (by omega) (by omega) (by omega) λ at' a0 a1=>?_
    refine aE (by decide) (by decide) (by omega) λ way w0 w1=>?_
    have hl1:(ds.take at'.toNat).length<=ds.length:=by rw[yO]; omega
    have hl2:∀k,(ds.drop k).length<=ds.length:=λ k=>by rw[zh]; omega
    have hmax:0<=(if at' - 1 > 0 then at' - 1 else 0):=by split <;> omega
    have hcat:∀a b:List xH,a.length<=200000->b.length<=200000->addD (.tuple a) (.tuple b)=some (.tuple (a++b)):=λ a b h1 h2=>kY (by omega)
    have fin:∀(d':xH) (n':Int),Sz (B+2) L (2 * xH.weightAll ds+200) (xH.depthAll ds+1+2) d'->Wl (k+1) d'->n1<=n'->n'<=n1+3->Q d' n':=λ d' n' hz hz2 h1 h2=>h d' n' hz hz2 (by omega) (by omega)
    have wcut:∀a b:Nat,(ds.take a++ds.drop b).length<=k+1->Wl (k+1) (.tuple (ds.take a++ds.drop b)):=λ a b hab=>ck hab λ z hz=>(yQ.mp hz).elim (λ q=>hwe z (zj q)) λ q=>hwe z (z6 q)
    subst hr1
    rcases (show way=0\/way=1\/way=2\/way=3\/way=4\/way=5 by omega) with rfl | rfl | rfl | rfl | rfl | rfl
    ·simp! [bg,decide_true]
     exact fin _ _ ((Sz.lst hs).mono (xL _) (xL _) (by omega) (by omega)) (by rw[Wl]; exact⟨by omega,wll_iff.mpr hwe⟩) (by omega) (by omega)
    ·have e:∀i:Int,i≠1->decide ((1:Int)=i)=false:=λ i hi=>decide_eq_false λ z=>hi z.symm
     simp! [bg,e 0 (by decide),decide_true,slD,addII,fA _ at' a0,e8 _ (at' + 1) (by omega:0<=at' + 1),hcat (ds.take at'.toNat) (ds.drop (at' + 1).toNat) (by omega) (by have:=hl2 (at' + 1).toNat; omega)]
     exact fin _ _ ((Sz.tup ((hs.take _).append (hs.drop _))).mono (xL _) (xL _) (by omega) (by omega)) (wcut _ _ (by simp only[yB,yO,zh]; omega)) (by omega) (by omega)
    ·have e:∀i:Int,i≠2->decide ((2:Int)=i)=false:=λ i hi=>decide_eq_false λ z=>hi z.symm
     simp! [bg,e 0 (by decide),e 1 (by decide),decide_true,slD,subII,max2D,fA _ at' a0,e8 _ _ hmax,hcat (ds.take at'.toNat) (ds.drop (if at' - 1 > 0 then at' - 1 else 0).toNat) (by omega) (by have:=hl2 (if at' - 1 > 0 then at' - 1 else 0).toNat; omega)]
     exact fin _ _ ((Sz.tup ((hs.take _).append (hs.drop _))).mono (xL _) (xL _) (by omega) (by omega)) (wcut _ _ (by simp only[yB,yO,zh]; split <;> omega)) (by omega) (by omega)
    ·have e:∀i:Int,i≠3->decide ((3:Int)=i)=false:=λ i hi=>decide_eq_false λ z=>hi z.symm
     simp! [bg,e 0 (by decide),e 1 (by decide),e 2 (by decide),decide_true,revAD]
     exact fin _ _ ((Sz.tup hs.rev).mono (xL _) (xL _) (by omega) (by omega)) (ck (by rw[List.length_reverse]; omega) λ z hz=>hwe z (List.mem_reverse.mp hz)) (by omega) (by omega)
    ·have e:∀i:Int,i≠4->decide ((4:Int)=i)=false:=λ i hi=>decide_eq_false λ z=>hi z.symm
     simp! [bg,e 0 (by decide),e 1 (by decide),e 2 (by decide),e 3 (by decide),decide_true,slD,fA _ at' a0,e8 _ at' a0]
     refine aE (by decide) (by decide) (by omega) λ r r0 r1=>?_
     obtain⟨x,hx,hm⟩:=gD (xs:=[xH.none,.int 0,.tuple [],.tuple [.int 0],.bool true]) r0 (by simpa using r1)
     have hxw:Wl (k+1) x:=by
      simp only[xR,yE,or_false] at hm
      rcases hm with rfl | rfl | rfl | rfl | rfl
      ·trivial
      ·trivial
      ·exact ck (by simp) (by simp)
      ·exact ck (by simp) (by simp[Wl])
      ·trivial
     have hxs:Sz (B+2) L 170 1 x:=by
      simp only[xR,yE,or_false] at hm
      rcases hm with rfl | rfl | rfl | rfl | rfl
      ·exact Sz.non.mono (xL _) (xL _) (by omega) (by omega)
      ·exact zero.mono (xL _) (xL _) (by omega) (by omega)
      ·exact (Sz.tup SzL.nil).mono (xL _) (xL _) (by omega) (by omega)
      ·exact (Sz.tup (SzL.cons zero SzL.nil)).mono (xL _) (xL _) (by omega) (by omega)
      ·exact (Sz.bl true).mono (xL _) (xL _) (by omega) (by omega)
     have t1:=gC ds at'.toNat
     have u1:SzL (B+2) L (xH.weightAll (ds.take at'.toNat)) (xH.depthAll ds) (ds.take at'.toNat):=⟨(hs.take _).gq,xL _,(hs.take _).dp⟩
     have u2:SzL (B+2) L (xH.weightAll (ds.drop at'.toNat)) (xH.depthAll ds) (ds.drop at'.toNat):=⟨(hs.drop _).gq,xL _,(hs.drop _).dp⟩
     simp! [ixD_l,hx,hcat (ds.take at'.toNat) [x] (by omega) (by simp),hcat (ds.take at'.toNat++[x]) (ds.drop at'.toNat) (by rw[yB,zV]; omega) (by have:=hl2 at'.toNat; omega)]
     exact fin _ _ ((Sz.tup ((u1.append (SzL.cons hxs SzL.nil)).append u2)).mono (xL _) (xL _) (by omega) (by omega)) (ck (by simp only[yB,yO,zh,xP,yn]; omega) λ z hz=>by
      rcases yQ.mp hz with hz | hz
      ·rcases yQ.mp hz with hz | hz
       ·exact hwe z (zj hz)
       ·rw[yh.mp hz]; exact hxw
      ·exact hwe z (z6 hz)) (by omega) (by omega)
    ·have e:∀i:Int,i≠5->decide ((5:Int)=i)=false:=λ i hi=>decide_eq_false λ z=>hi z.symm
     simp! [bg,e 0 (by decide),e 1 (by decide),e 2 (by decide),e 3 (by decide),e 4 (by decide)]
     refine aE (by decide) (by decide) (by omega) λ r r0 r1=>?_
     obtain⟨x,hx,hm⟩:=gD (xs:=[xH.none,.bool true,.str "",.int 0]) r0 (by simpa using r1)
     simp! [ixD_l,hx]
     refine fin _ _ ?_ ?_ (by omega) (by omega)
     rotate_left
     ·simp only[xR,yE,or_false] at hm
      rcases hm with rfl | rfl | rfl | rfl <;> trivial
     simp only[xR,yE,or_false] at hm
     rcases hm with rfl | rfl | rfl | rfl
     ·exact Sz.non.mono (xL _) (xL _) (by omega) (by omega)
     ·exact (Sz.bl true).mono (xL _) (xL _) (by omega) (by omega)
     ·exact (Sz.str (L:=11) (by decide +kernel)).mono (xL _) hL (by omega) (by omega)
     ·exact zero.mono (xL _) (xL _) (by omega) (by omega)
  | _ =>
   simp! [isiD]
   exact lL hB hB2 hL hL2 hg (by omega) λ d' hd' hw'=>h d' _ (hd'.mono (xL _) (xL _) (by omega) (by omega)) (f9 (by omega) d' hw') (by omega) (by omega)
theorem lM:∀{l:List Int} {a:Int},a7 a (l.map .int)=true->l.Pairwise (· < ·)/\∀k∈l,a<k
 | [],_,_=>⟨List.Pairwise.nil,by simp⟩
 | k::l,a,h=>by
  rw[xY,a7,yD] at h
  obtain⟨h1,h2⟩:=lM h.2
  have ha:=of_decide_eq_true h.1
  exact⟨zo.mpr ⟨h2,h1⟩,λ j hj=>by
   rcases xR.mp hj with rfl | hj
   ·exact ha
   ·exact Int.lt_trans ha (h2 j hj)⟩
theorem vV {l:List Int}(h:l.Pairwise (· < ·)){z:Int}(hz:l.getLast? = some z):∀k∈l,k<=z:=by
 rcases List.eq_nil_or_concat l with e | ⟨p,y,e⟩
 ·rw[e]; simp
 ·rw[List.concat_eq_append] at e
  subst e
  rw[List.getLast?_append] at hz
  simp at hz
  subst hz
  intro k hk
  rcases yQ.mp hk with hk | hk
  ·exact Int.le_of_lt ((List.pairwise_append.mp h).2.2 k hk y (by simp))
  ·rw[yh.mp hk]; exact Int.le_refl _
theorem dk {m:Int}{d:xH}(h:aH m d=true):∃l:List Int,d=intsD l/\l.Pairwise (· < ·)/\∀k∈l,0<=k/\k<m:=by
 unfold aH at h
 split at h
 ·rename_i ds
  rw[yD] at h
  obtain⟨l,rfl⟩:∃l:List Int,ds=l.map .int:=by
   have:=fY h.1
   clear h
   induction ds with
   | nil=>exact⟨[],rfl⟩
   | cons d ds ih =>
    obtain⟨i,rfl,_⟩:=this d (ya ..)
    obtain⟨l,rfl⟩:=ih λ e he=>this e (xT _ he)
    exact⟨i::l,rfl⟩
  obtain⟨h1,h2⟩:=lM h.1
  refine⟨l,rfl,h1,λ k hk=>⟨by have:=h2 k hk; omega,?_⟩⟩
  have hl:=h.2
  rw[cQ,List.getLast?_map] at hl
  cases e:l.getLast? with
  | none=>rw[List.getLast?_eq_none_iff.mp e] at hk; cases hk
  | some z =>
   rw[e] at hl
   have:=of_decide_eq_true hl
   have:=vV h1 e k hk
   omega
 ·cases h
theorem oX {ds:List xH}(h:ds.all (aQ 0)=true):∃l:List Int,ds=l.map .int/\∀k∈l,0<=k:=by
 induction ds with
 | nil=>exact⟨[],rfl,by simp⟩
 | cons d ds ih =>
  rw[zr,yD] at h
  obtain⟨l,rfl,hl⟩:=ih h.2
  cases d with
  | int i=>exact⟨i::l,rfl,λ k hk=>by
    rcases xR.mp hk with rfl | hk
    ·exact of_decide_eq_true h.1
    ·exact hl k hk⟩
  | _=>exact absurd h.1 (by simp[aQ])
theorem rN (bs:List Bool):inD (.bool false) (.list (bs.map .bool))=some (.bool (!bs.all id)):=by
 have hl:xH.canLayAll0 (bs.map .bool)=true:=by
  induction bs with
  | nil=>rfl
  | cons b bs ih=>simp only[xY,xH.canLayAll0,xH.canLay0,ih,Bool.and_self]
 have he:((bs.map xH.bool).any λ d=>xH.eqv d (.bool false))=!bs.all id:=by
  clear hl
  induction bs with
  | nil=>rfl
  | cons b bs ih=>rw[xY,zK,ih,zr]; cases b <;> simp[xH.eqv]
 simp only[inD,inL]
 rw[if_pos ⟨rfl,hl,by simp[xH.depth]⟩,he]
 rfl
theorem lO {ug:UG}{ub:US}{E:UEnds}{n:Int}(I:PEnv->Prop)(p:xH->Bool)(f:xH):∀(its:List xH) (env:PEnv),(∀d∈its,∀env (E':UEnds),I env->E'.rt=E.rt->(p d=false->E'.rt f n)->(p d=true->∀env',I env'->E'.nx env' n)->ug d env λ e1=>ub E' e1 n)->I env ->
  (if its.all p=true then ∀env',I env'->E.nx env' n else E.rt f n)->uLoop ug ub E its env n
 | [],env,_,hi,h=>by simp at h; exact h env hi
 | d::ds,env,hb,hi,h=>by
  refine hb d (ya ..) env { nx:=uLoop ug ub E ds,rt:=E.rt } hi rfl (λ hp=>?_) λ hp env' hi'=>?_
  ·rw[zr,hp,Bool.false_and,if_neg (by decide)] at h
   exact h
  ·rw[zr,hp,Ai] at h
   exact lO I p f ds env' (λ j hj=>hb j (xT _ hj)) hi' h
section
variable {n:Int}{X:XQ}{Q:xH->Int->Prop}
theorem dQ (d:xH)(m:Int):br [d,.int m] n Q X=Q (.bool (aQ m d)) n:=by
 simp! [br,eM]
 cases d with
 | int i=>simp! [isiD,geD,aQ]; exact if_pos rfl
 | bool b=>simp! [isiD,aQ]
 | _=>simp! [isiD,aQ]; first | done | exact if_neg (λ z=>by cases z) | exact if_pos rfl | rfl
theorem gu (d:xH)(m:Int){k:Nat}(hk:k<60)(hw:Wl k d):aU [d,.int m] n Q X=Q (.bool (aH m d)) n:=by
 unfold aU b4
 simp only[mkF,mkFF,envOf,xY,yN,xP,yn,Nat.reduceSub,Nat.reduceAdd,yj,yz,yy,yf]
 with_reducible generalize ht:uRet (uAndV _ _)=t
 cases d with
 | tuple ds =>
  simp! [isiD]
  rw[jP (λ d=>.bool (aQ 0 d)) _ _ _ _ (λ d _ n Q=>by simp! [dQ])]
  rw[yf,show (ds.map λ d=>xH.bool (aQ 0 d))=(ds.map (aQ 0)).map .bool by rw[yS]; rfl,rN,show (ds.map (aQ 0)).all id=ds.all (aQ 0) by rw[List.all_map]; rfl]
  cases ha:ds.all (aQ 0) with
  | false =>
   have hf:aH m (.tuple ds)=false:=by
    cases hb:aH m (.tuple ds) with
    | false=>rfl
    | true =>
     obtain⟨l,e,_,h2⟩:=dk hb
     have e':ds=l.map .int:=by injection e
     rw[e',List.all_map,List.all_eq_false] at ha
     obtain⟨i,hi,hi2⟩:=ha
     exact absurd (decide_eq_true (h2 i hi).1) hi2
   rw[hf]
   simp! [zn,am,ai,if_true]
  | true =>
   obtain⟨l,rfl,h0⟩:=oX ha
   have hl:l.length<64:=by rw[Wl,xQ] at hw; omega
   simp only[za,am,ai,yt,if_false,uNext]
   subst ht
   have hmm:∀{n:Int} {Q:List xH->Int->Prop},aL (uNm 0) (uTst (uOp geD (aa 0) (aa 1))) (uVar 0) Q (l.map .int) [] [none,some (.s (.int m))] n=Q ((l.filter λ k=>decide (m<=k)).map .int) n:=λ {n Q}=>by
    rw[bh (λ k=>.int k) (λ k=>decide (m<=k)) _ _ _ _ (λ k _ n Q=>by simp! [uSeq]) (λ k _ n Q=>by simp! [geD])]
    rw[yf]
   by_cases hp:l.Pairwise (· < ·)
   ·simp! [bp,hl,rF hp,hZ,decide_true]
    rw[hmm,sO]
    simp only[am]
    refine congrArg (λ b=>Q (.bool b) n) ?_
    by_cases hm:∀k∈l,k<m
    ·rw[show aH m (.tuple (l.map .int))=true from jq hp λ k hk=>⟨h0 k hk,hm k hk⟩]
     exact decide_eq_true (List.filter_eq_nil_iff.mpr λ k hk=>by have:=hm k hk; simp; omega)
    ·have:aH m (.tuple (l.map .int))=false:=by
      cases hb:aH m (.tuple (l.map .int)) with
      | false=>rfl
      | true =>
       obtain⟨l',e,_,h2⟩:=dk hb
       have e':l.map xH.int=l'.map .int:=by injection e
       have:l=l':=by simpa using congrArg bo e'
       subst this
       exact absurd (λ k hk=>(h2 k hk).2) hm
     rw[this]
     refine decide_eq_false λ z=>hm λ k hk=>?_
     have:=List.filter_eq_nil_iff.mp z k hk
     simp at this
     omega
   ·have hne:¬ l=hW l:=λ z=>hp (by rw[z]; exact cN l)
    have:aH m (.tuple (l.map .int))=false:=by
     cases hb:aH m (.tuple (l.map .int)) with
     | false=>rfl
     | true =>
      obtain⟨l',e,h1,_⟩:=dk hb
      have e':l.map xH.int=l'.map .int:=by injection e
      have:l=l':=by simpa using congrArg bo e'
      subst this
      exact absurd h1 hp
    rw[this]
    simp! [bp,hl,hZ,hne,decide_false]
 | _=>simp! [isiD,aH]; first | done | exact if_pos rfl
theorem nI {ds:List xH}(h:ds.length≠2):∀a b,ds≠[a,b]:=λ a b e=>h (by rw[e]; rfl)
def fm (many:Int)(d:xH):Bool:=match d with | .tuple rs=>rs.all (ax many) | _=>false
theorem iR {many:Int}{ts:List Tie}(d:xH){k:Nat}(hk:k<60)(hw:Wl k d)(h:Q (.bool (fm many d)) n):bA [webD many ts,d] n Q X:=by
 have e0:webD many ts=.tuple [.int many,.tuple (ts.map tieD)]:=rfl
 unfold bA cE
 simp only[mkF,mkFF,envOf,xY,yN,xP,yn,Nat.reduceSub,Nat.reduceAdd,yj,yz,yy,yf]
 with_reducible generalize hb1:uSeq (uIfS (uOr _ _) _ _) _=b1
 cases d with
 | tuple ds =>
  simp! [isiD]
  rw[Wl] at hw
  refine lO (λ env=>∃x,env=[some (.s (webD many ts)),some (.s (.tuple ds)),x]) (ax many) (.bool false) _ _ (λ r hr env E' ⟨x,he⟩ hE h1 h2=>?_) ⟨_,rfl⟩ ?_
  ·subst he
   have hwr:=wll_iff.mp hw.2 r hr
   subst hb1
   with_reducible generalize hb2:uIfS (uOr (uNot (uTst (uCall aU _))) _) _ _=b2
   cases r with
   | tuple rs =>
    rw[Wl] at hwr
    by_cases hl:rs.length=2
    ·match rs,hl with
     | [a,b],_ =>
      simp! [isiD,lenD',xP,yn,jO]
      have hwa:Wl k a:=wll_iff.mp hwr.2 a (by simp)
      subst hb2
      simp only[uIfS,uOr,uNot,uTst,uCall,uCons,uVar,uNil,uOp,aa,uC,ye,xZ,ixD_t,atI_0,am]
      rw[e0]
      simp only[ixD_t,atI_0,am]
      rw[gu a many hk hwa]
      cases ha:aH many a with
      | false =>
       simp only[ai,zn,if_true,uRet,uC]
       exact h1 (by simp[ax,ha])
      | true =>
       simp only[ai,za,yt,if_false,ixD_t,atI_1,am]
       rw[dQ]
       cases hb:aQ 1 b with
       | false =>
        simp only[ai,zn,if_true,uRet,uC]
        exact h1 (by simp[ax,hb])
       | true =>
        simp only[ai,za,yt,if_false,uNext]
        exact h2 (by simp[ax,ha,hb]) _ ⟨_,rfl⟩
    ·have hne:decide (¬ ((rs.length:Int)=2))=true:=decide_eq_true (by omega)
     simp! [isiD,lenD',jO]
     have hp:ax many (.tuple rs)=false:=by
      unfold ax
      split
      ·rename_i he
       injection he with he
       exact absurd he (nI hl _ _)
      ·rfl
     first
     | (rw[if_pos (by simpa using (show ¬ ((rs.length:Int)=2) by omega))]; exact h1 hp)
     | exact h1 hp
   | _=>simp! [isiD]; exact h1 rfl
  ·simp only[fm] at h
   split
   ·rename_i hall
    rw[hall] at h
    rintro env' ⟨x,rfl⟩
    simp! [uSeq]
    exact h
   ·rename_i hall
    rw[Bool.not_eq_true] at hall
    rw[hall] at h
    exact h
 | _=>simp! [isiD]; exact h
end
theorem rO {many:Int}{B L k:Nat}(hB:B<=100000):∀{rs:List xH},rs.all (ax many)=true->GqL B L rs->∃rows:List (List Int × Int),rs=rows.map rowD/\(∀r∈rows,r.1.Pairwise (· < ·))/\(∀r∈rows,∀v∈r.1,0<=v/\v<many)/\(∀r∈rows,1<=r.2/\r.2<=100000)
 | [],_,_=>⟨[],rfl,by simp,by simp,by simp⟩
 | d::rs,h,hg=>by
  rw[zr,yD] at h
  rw[GqL] at hg
  obtain⟨rows,rfl,h1,h2,h3⟩:=rO (k:=k) hB h.2 hg.2
  have hk:=h.1
  unfold ax at hk
  split at hk
  ·rename_i a b
   rw[yD] at hk
   obtain⟨l,rfl,hp,hl⟩:=dk hk.1
   have hb:=hk.2
   cases b with
   | int i =>
    have hi:1<=i:=of_decide_eq_true hb
    have hg1:=hg.1
    simp only[Gq,GqL] at hg1
    have hi2:i.natAbs<=B:=hg1.2.1
    refine⟨(l,i)::rows,rfl,?_,?_,?_⟩
    ·intro r hr
     rcases xR.mp hr with rfl | hr
     ·exact hp
     ·exact h1 r hr
    ·intro r hr
     rcases xR.mp hr with rfl | hr
     ·exact hl
     ·exact h2 r hr
    ·intro r hr
     rcases xR.mp hr with rfl | hr
     ·exact⟨hi,by show i<=100000; omega⟩
     ·exact h3 r hr
   | _=>exact absurd hb (by simp[aQ])
  ·cases hk
theorem tw {many:Int}{B L k:Nat}{d:xH}(hB:B<=100000)(hk:k<=600)(h:ar many d=true)(hg:Gq B L d)(hw:Wl k d):∃(bottom:Int) (rows:List (List Int × Int)),d=gm bottom rows/\1<=bottom/\bottom<=100000/\RowsR many rows:=by
 unfold ar at h
 split at h
 ·rename_i b rs
  rw[yD] at h
  simp only[Gq,GqL] at hg
  rw[Wl,WlL,WlL] at hw
  have hwr:=hw.2.2.1
  rw[Wl] at hwr
  obtain⟨rows,rfl,h1,h2,h3⟩:=rO (k:=k) hB h.2 hg.2.1
  cases b with
  | int i =>
   have hi:1<=i:=of_decide_eq_true h.1
   have hg1:=hg.1
   simp only[Gq] at hg1
   refine⟨i,rows,rfl,hi,by omega,h1,h2,h3,?_⟩
   have:=hwr.1
   rw[xQ] at this
   omega
  | _=>exact absurd h.1 (by simp[aQ])
 ·cases h
def nK:xH:=.tuple [.str "shape",.int 0]
section
variable {n:Int}{X:XQ}{Q:xH->Int->Prop}
theorem oY {many:Int}{ts:List Tie}{told:List Int}{d:xH}(hf:ar many d=false)(h:Q nK n):bu [webD many ts,intsD told,d] n Q X:=by
 have h1:("NoPaper" : Str)∈EXC:=by decide +kernel
 have hbb:∀(n:Int) (Q:xH->Int->Prop) (X:XQ),X "NoPaper" [.str "shape",.int 0]->bP [webD many ts,intsD told,d] n Q X:=λ n Q X hx=>by
  unfold bP dZ
  simp only[mkF,mkFF,envOf,xY,yN,xP,yn,Nat.reduceSub,Nat.reduceAdd,yj,yz,yy,yf]
  with_reducible generalize ht1:uSeq (uSet 3 _) _=t1
  simp only[true_and,uSeq,uIfS,uNot,uTst,uCall,uCons,uVar,uNil,ye,xZ]
  rw[dw,hf]
  simp! [ai,zn,if_true]
  exact hx
 unfold bu d5
 simp only[mkF,mkFF,envOf,xY,yN,xP,yn,Nat.reduceSub,Nat.reduceAdd,yj,yz,yy,yf]
 simp! [uTryA]
 refine hbb _ _ _ ?_
 simp! [jk]
 exact⟨⟨h1,.inr trivial⟩,by rw[dj]; exact h⟩
theorem mG {many bottom:Int}{ts:List Tie}{told:List Int}{rows:List (List Int × Int)}(w:WebF many ts)(hl:ts.length<=16)(ht:told.length<=20)(hb0:1<=bottom)(hb:bottom<=100000)(hr:RowsR many rows)(h:Q (iQ ts told bottom rows) n):bu [webD many ts,intsD told,gm bottom rows] n Q X:=by
 have h1:("NoPaper" : Str)∈EXC:=by decide +kernel
 unfold bu d5
 simp only[mkF,mkFF,envOf,xY,yN,xP,yn,Nat.reduceSub,Nat.reduceAdd,yj,yz,yy,yf]
 simp! [uTryA]
 refine mD w hl ht hb0 hb hr ?_
 unfold iQ at h
 cases e1:evenI (tOdd ts told) rows with
 | cons v l =>
  rw[e1] at h
  simp! [cH,jk]
  exact⟨⟨h1,.inr trivial⟩,by rw[dj]; exact h⟩
 | nil =>
  rw[e1] at h
  cases e2:du (ts.map absT) bottom (cutR ts rows) with
  | cons v l =>
   rw[e2] at h
   simp! [cH,jk]
   exact⟨⟨h1,.inr trivial⟩,by rw[dj]; exact h⟩
  | nil =>
   rw[e2] at h
   simp! [cH]
   exact h
theorem rP {many:Int}{ts:List Tie}{told:List Int}{d:xH}{k:Nat}(hk:k<60)(hw:Wl k d)(w:WebF many ts)(hl:ts.length<=16)(ht:told.length<=20)(hn:told.Nodup)
  (h0:ar many d=false->Q nK n) (h1:ar many d=true->∃(bottom:Int) (rows:List (List Int × Int)),d=gm bottom rows/\1<=bottom/\bottom<=100000/\RowsR many rows/\Q (iQ ts told bottom rows) n):dH [webD many ts,intsD told,d] n Q X:=by
 unfold dH iu
 simp only[mkF,mkFF,envOf,xY,yN,xP,yn,Nat.reduceSub,Nat.reduceAdd,yj,yz,yy,yf]
 with_reducible generalize hte:uSeq (uSet 3 _) _=te
 with_reducible generalize ht2:uSeq (uIfS (uNot _) _ _) _=t2
 cases d with
 | tuple ds =>
  by_cases hln:ds.length=2
  ·match ds,hln with
   | [a,b],_ =>
    rw[Wl,WlL,WlL] at hw
    have hd2:(!decide (((0+1+1:Nat):Int)=2))=false:=by decide
    simp only[uSeq,uIfS,uOr,uNot,uTst,uIsi,isiD,uCall,uCons,uVar,uNil,uOp,aa,uC,uCB,ye,xZ,am,ai,za,yt,if_false,lenD',xP,yn,jO,decide_true,ixD_t,atI_0]
    simp only[hd2,true_and,yt,if_false]
    rw[dQ]
    cases ha:aQ 1 a with
    | false =>
     simp! [ai,zn,if_true]
     exact h0 (by unfold ar; split <;> simp_all)
    | true =>
     simp only[ai,za,yt,if_false,uNext]
     subst ht2
     simp only[uSeq,uIfS,uNot,uTst,uCall,uCons,uVar,uNil,uOp,aa,uC,ye,xZ,am,ixD_t,atI_1]
     refine iR b hk hw.2.2.1 ?_
     cases hb:fm many b with
     | false =>
      simp! [ai,zn,if_true]
      exact h0 (by unfold ar; unfold fm at hb; split <;> simp_all)
     | true =>
      simp only[ai,za,yt,if_false,uNext]
      have hbk:ar many (.tuple [a,b])=true:=by
       unfold fm at hb
       split at hb
       ·simp[ar,ha,hb]
       ·cases hb
      obtain⟨bottom,rows,e,hb0,hb1,hr,h⟩:=h1 hbk
      rw[e]
      rw[gm]
      subst hte
      with_reducible generalize hte:uRet _=te
      simp! [atI_0,atI_1]
      refine kd w hl ht hn (by omega) hb1 hr ?_
      subst hte
      unfold iQ at h
      cases e1:evenI (tOdd ts told) rows with
      | cons v l =>
       rw[e1] at h
       simp! [isD,ft]
       exact h
      | nil =>
       rw[e1] at h
       cases e2:du (ts.map absT) bottom (cutR ts rows) with
       | cons v l =>
        rw[e2] at h
        simp! [isD,ft]
        exact h
       | nil =>
        rw[e2] at h
        simp! [isD,ft,atI_0,atI_1]
        refine lI w (by omega) hb1 hr ?_
        exact h
  ·have hp:ar many (.tuple ds)=false:=by
    unfold ar
    split
    ·rename_i he
     injection he with he
     exact absurd he (nI hln _ _)
    ·rfl
   have hne:(!decide ((ds.length:Int)=2))=true:=by simp; omega
   simp! [isiD,lenD',jO,hne]
   exact h0 hp
 | _=>simp! [isiD]; exact h0 rfl
end
theorem shape_sz:Sz 1000000000 11 400 1 nK:=(Sz.tup (SzL.cons (Sz.str (by decide +kernel)) (SzL.cons (Sz.small (by decide) (by decide)) SzL.nil))).mono (xL _) (xL _) (by decide) (by decide)
theorem tD {many bottom:Int}{ts:List Tie}{told:List Int}{rows:List (List Int × Int)}(w:WebF many ts)(hl:ts.length<=16)(hb0:1<=bottom)(hb:bottom<=100000)(hr:RowsR many rows):Sz 1000000000 11 400 1 (iQ ts told bottom rows):=by
 have key:∀(x:Str) (v:Int),(x.cps.toList.all (λ c=>decide (c<1114112)) && decide (x.cps.size<=11))=true->0<=v->v<1000->Sz 1000000000 11 400 1 (.tuple [.str x,.int v]):=λ x v hx h0 h1=>(Sz.tup (SzL.cons (Sz.str hx) (SzL.cons (Sz.small (by omega:v.natAbs<1024) (by decide)) SzL.nil))).mono (xL _) (xL _) (by decide) (by decide)
 unfold iQ
 cases e1:evenI (tOdd ts told) rows with
 | cons v l =>
  have:=lE (show v∈evenI (tOdd ts told) rows by rw[e1]; exact ya ..)
  have hr:=hr.len
  exact key _ v (by decide +kernel) this.1 (by omega)
 | nil =>
  cases e2:du (ts.map absT) bottom (cutR ts rows) with
  | cons v l =>
   have:=lE (show v∈du (ts.map absT) bottom (cutR ts rows) by rw[e2]; exact ya ..)
   rw[xQ] at this
   exact key _ v (by decide +kernel) this.1 (by omega)
  | nil =>
   simp only[]
   have hs:0<=(rows.map (·.2)).sum/\(rows.map (·.2)).sum<=100000 * rows.length:=by
    have hsh:=hr.sh
    clear e1 e2 hr
    induction rows with
    | nil=>simp
    | cons r rows ih =>
     have:=ih λ r hr=>hsh r (xT _ hr)
     have h1:=hsh r (ya ..)
     rw[xY,List.sum_cons,xP]
     omega
   have hc:=rD (nE w) (cj ts)
   have hbl:=mz ts.length λ k=>decide (prc ts k<0)
   have hlen:=hr.len
   have hc2:(cost ts (bI ts)).natAbs<=1584:=by
    have:(bI ts).length<=16:=by unfold bI; omega
    omega
   have hm:(bottom * cost ts (bI ts)).natAbs<=100000 * 1584:=by
    rw[Int.natAbs_mul]
    exact Nat.mul_le_mul (by omega) hc2
   exact (Sz.tup (SzL.cons (Sz.int (by unfold lH; omega:(lH ts bottom rows).natAbs<=1000000000) (by decide)) (SzL.cons (Sz.int (by omega:bottom.natAbs<=1000000000) (by decide)) SzL.nil))).mono (xL _) (xL _) (by decide) (by decide)
theorem tE {many:Int}{ts:List Tie}{told:List Int}{d:xH}{B L k:Nat}(hB:B<=100000)(hk:k<60)(hg:Gq B L d)(hw:Wl k d)(w:WebF many ts)(hl:ts.length<=16)(ht:told.length<=20)(hn:told.Nodup):∃v:xH,Good v/\(∀(n:Int) (Q:xH->Int->Prop) (X:XQ),Q v n->dH [webD many ts,intsD told,d] n Q X)/\∀(n:Int) (Q:xH->Int->Prop) (X:XQ),Q v n->bu [webD many ts,intsD told,d] n Q X:=by
 cases hbk:ar many d with
 | false=>exact⟨nK,shape_sz.good (by decide +kernel) (by decide) (by decide) (by decide),λ n Q X h=>rP hk hw w hl ht hn (λ _=>h) (λ z=>by rw[hbk] at z; cases z),λ n Q X h=>oY hbk h⟩
 | true =>
  obtain⟨bottom,rows,e,hb0,hb1,hr⟩:=tw hB (by omega) hbk hg hw
  exact⟨iQ ts told bottom rows,(tD w hl hb0 hb1 hr).good (by decide +kernel) (by decide) (by decide) (by decide),λ n Q X h=>rP hk hw w hl ht hn (λ z=>by rw[hbk] at z; cases z) (λ _=>⟨bottom,rows,e,hb0,hb1,hr,h⟩),λ n Q X h=>by rw[e]; exact mG w hl ht hb0 hb1 hr h⟩
def wLv:Nat->Nat
 | 0=>168
 | k+1=>2 * wLv k+2
theorem uz:∀k,168<=wLv k
 | 0=>by decide
 | k+1=>by have:=uz k; rw[wLv]; omega
structure Lv (k:Nat) (d:xH):Prop where
 sz:Sz 3000 11 (wLv k) k d
 wl:Wl 12 d
theorem li (k:Nat){i:Int}(h:i.natAbs<=3000):Lv k (.int i):=⟨(Sz.int h (by decide +kernel)).mono (xL _) (xL _) (uz k) (yY _),trivial⟩
theorem lb (k:Nat)(b:Bool):Lv k (.bool b):=⟨(Sz.bl b).mono (xL _) (xL _) (yY _) (yY _),trivial⟩
theorem ln (k:Nat):Lv k .none:=⟨Sz.non.mono (xL _) (xL _) (yY _) (yY _),trivial⟩
theorem l0 (k:Nat):Lv (k+1) (.tuple []):=⟨(Sz.tup SzL.nil).mono (xL _) (xL _) (yY _) (by omega),ck (by simp) (by simp)⟩
theorem lst0 (k:Nat):Lv (k+1) (.list []):=⟨(Sz.lst SzL.nil).mono (xL _) (xL _) (yY _) (by omega),by rw[Wl]; exact⟨by simp,trivial⟩⟩
theorem l1 {k:Nat}{x:xH}(h:Lv k x):Lv (k+1) (.tuple [x]):=⟨(Sz.tup (SzL.cons h.sz SzL.nil)).mono (xL _) (xL _) (by rw[wLv]; omega) (by omega),ck (by simp) (by simpa using h.wl)⟩
theorem l2 {k:Nat}{x y:xH}(h:Lv k x)(h2:Lv k y):Lv (k+1) (.tuple [x,y]):=⟨(Sz.tup (SzL.cons h.sz (SzL.cons h2.sz SzL.nil))).mono (xL _) (xL _) (by rw[wLv]; omega) (by omega),ck (by simp) (by simpa using ⟨h.wl,h2.wl⟩)⟩
structure TH (d:xH):Prop where
 sz:Sz 3000 11 9000 10 d
 wl:Wl 12 d
theorem Lv.th {d:xH}(h:Lv 5 d):TH d:=⟨h.sz.mono (xL _) (xL _) (by decide) (by decide),h.wl⟩
theorem vW {k:Nat}{l:List Int}(h:l.length<=k):Wl k (intsD l):=ck (by rw[xQ]; exact h) λ d hd=>by obtain⟨i,_,rfl⟩:=yI.mp hd; trivial
theorem vX {many:Int}{rows:List (List Int × Int)}(hm:many<=9)(h:RowsQ many 6 1000 rows):Sz 2000 11 1626 3 (.tuple (rows.map rowD))/\Wl 9 (.tuple (rows.map rowD)):=by
 have h1:∀d∈rows.map rowD,Sz 2000 11 270 2 d/\Wl 9 d:=λ d hd=>by
  obtain⟨r,hr,rfl⟩:=yI.mp hd
  have hs:=h.sh r hr
  have hd:=h.sd r hr
  have hl:=nF hd.lt hd.pl hm
  have hss:Sz 2000 11 99 1 (intsD r.1):=(Sz.tup (SzL.ints (by decide) λ i hi=>by have:=hd.pl i hi; omega)).mono (xL _) (xL _) (by omega) (by decide)
  refine⟨(Sz.tup (SzL.cons hss (SzL.cons (Sz.int (by omega:r.2.natAbs<=2000) (by decide +kernel)) SzL.nil))).mono (xL _) (xL _) (by decide) (by decide),ck (by simp) λ z hz=>?_⟩
  simp only[xR,yE,or_false] at hz
  rcases hz with rfl | rfl
  ·exact vW hl
  ·trivial
 have h2:=SzL.all λ d hd=>(h1 d hd).1
 have hl:=h.len
 rw[xQ] at h2
 exact⟨(Sz.tup h2).mono (xL _) (xL _) (by omega) (by decide),ck (by rw[xQ]; omega) λ d hd=>(h1 d hd).2⟩
section
variable {n:Int}{X:XQ}{Q:xH->Int->Prop}
theorem bend1 {d:xH}(hd:Sz 2000 11 2000 4 d)(hw:Wl 9 d)(hn:n+40<=mostN)(h:∀(d':xH) (n':Int),Sz 2002 11 4200 6 d'->Wl 10 d'->n<=n'->n'<=n+40->Q d' n'):bQ [d] n Q X:=by
 have hwt:=hd.wt
 have hdp:=hd.dp
 exact mF (B:=2000) (L:=11) (k:=9) (by decide) (by decide) (by decide) (by decide) (by decide) 10 d n Q X (by omega) hd.gq hw (by omega) (by omega) (by omega) λ d' n' hd' hw' h1 h2=>h d' n' (hd'.mono (by decide) (by decide) (by omega) (by omega)) hw' h1 (by omega)
theorem bend2 {d:xH}(hd:Sz 2002 11 4200 6 d)(hw:Wl 10 d)(hn:n+40<=mostN)(h:∀(d':xH) (n':Int),TH d'->n<=n'->n'<=n+40->Q d' n'):bQ [d] n Q X:=by
 have hwt:=hd.wt
 have hdp:=hd.dp
 exact mF (B:=2002) (L:=11) (k:=10) (by decide) (by decide) (by decide) (by decide) (by decide) 10 d n Q X (by omega) hd.gq hw (by omega) (by omega) (by omega) λ d' n' hd' hw' h1 h2=>h d' n' ⟨hd'.mono (by decide) (by decide) (by omega) (by omega),f9 (by decide) d' hw'⟩ h1 (by omega)
end
theorem tF:u_law { nx:=λ _ _=>False,rt:=λ d _=>d=.bool true } (List.replicate 12 none) 0:=by
 have hmost:mostN=1099511627776:=by decide
 unfold u_law
 simp only[mkF,mkFF,envOf,xY,yN,xP,yn,Nat.reduceSub,Nat.reduceAdd,yj,yz,yy,yf]
 with_reducible generalize hbd:uSeq (uSet 3 _) _=bd
 simp! [uSeq]
 refine⟨by decide,by decide,?_⟩
 refine bJ (λ pre post env n'=>∃x2 x3 x4 x5 x6 x7 x8 x9 x10 x11,env=[none,none,x2,x3,x4,x5,x6,x7,x8,x9,x10,x11]/\0<=n'/\n'<=2000 * pre.length/\pre.length+post.length=2) _ [] _ _ ?_ ⟨_,_,_,_,_,_,_,_,_,_,rfl,by decide,by simp,by rfl⟩ ?_
 ·rintro pre d post env n E' hE ⟨x2,x3,x4,x5,x6,x7,x8,x9,x10,x11,rfl,hn0,hn1,hp⟩ hnx
  rw[xP] at hp
  subst hbd
  with_reducible generalize htB:uFor (uItV 6) _ _=tB
  with_reducible generalize htA:uSeq (uFor (uIr (uC (.int 8))) _ _) tB=tA
  with_reducible generalize ht62:uSeq (uSet 6 _) tA=t62
  with_reducible generalize ht61:uSeq (uSet 6 _) t62=t61
  with_reducible generalize ht5:uSeq (uSet 5 _) t61=t5
  with_reducible generalize ht4:uSeq (uSet 4 _) t5=t4
  simp! [uSeq]
  refine oR (by decide) (by decide) (by decide) (by decide) (by omega) λ many ts n1 w hmm hl _ hn2 hn3=>?_
  have hl16:ts.length<=16:=by omega
  have m1:=w.m1
  subst ht4
  simp! [uSeq]
  refine mE w hl16 (by omega) λ told n2 htd hn4 hn5=>?_
  have htl:=nF htd.lt htd.pl m1
  have htn:=lt_nd htd.lt
  have hsr:∀(n:Int) (Q:xH->Int->Prop) (X:XQ),n+100<=mostN->(∀(rows:List (List Int × Int)) (n':Int),RowsQ many 6 1000 rows->n<=n'->n'<=n+100->Q (.tuple (rows.map rowD)) n')->aG [webD many ts,intsD told,.int 1] n Q X:=λ n Q X hn h=>lK w hl16 (by omega) htn (by decide) (by decide) hn h
  subst ht5
  generalize aG=G at hsr ⊢
  rw[uSeq,uSet,uTup,uCons,uOp,uC,uCall,uCons,uC,uNil]
  refine aE (by decide) (by decide) (by omega) λ b b0 b1=>?_
  rw[addII,am]
  rw[uCons,uCall]
  rw[uCons,uVar]
  simp only[ye,xZ]
  rw[uCons,uVar]
  simp only[ye,xZ]
  rw[uCons,uC,uNil]
  refine hsr _ _ _ (by omega) λ rows n3 hq hn6 hn7=>?_
  clear hsr
  rw[uNil]
  simp only[zq,zg]
  obtain⟨hrs,hrw⟩:=vX m1 hq
  have hps:Sz 2000 11 2000 4 (.tuple [.int (1+b),.tuple (rows.map rowD)]):=(Sz.tup (SzL.cons (Sz.int (by omega:(1+b).natAbs<=2000) (by decide +kernel)) (SzL.cons hrs SzL.nil))).mono (xL _) (xL _) (by decide) (by decide)
  have hpw:Wl 9 (.tuple [.int (1+b),.tuple (rows.map rowD)]):=ck (by simp) λ z hz=>by
   simp only[xR,yE,or_false] at hz
   rcases hz with rfl | rfl
   ·trivial
   ·exact hrw
  have hp0:TH (.tuple ([.int (1+b),.tuple (rows.map rowD)]++[.int 0])):=⟨(Sz.tup (SzL.append hps.of_tup (SzL.cons (Sz.int (i:=0) (by decide) (by decide +kernel)) SzL.nil))).mono (by decide) (xL _) (by decide) (by decide),ck (by simp) λ z hz=>by
   simp only[yQ,xR,yE,or_false] at hz
   rcases hz with (rfl | rfl) | rfl
   ·trivial
   ·exact f9 (by decide) _ hrw
   ·trivial⟩
  have hadd0:addD (.tuple [.int (1+b),.tuple (rows.map rowD)]) (.tuple [.int 0])=some (.tuple ([.int (1+b),.tuple (rows.map rowD)]++[.int 0])):=kY (by simp)
  generalize xH.tuple ([.int (1+b),.tuple (rows.map rowD)]++[.int 0])=p0 at hp0 hadd0
  generalize xH.tuple [.int (1+b),.tuple (rows.map rowD)]=paper at hps hpw hadd0 ⊢
  subst ht61
  rw[uSeq,uSet,uL]
  repeat first | rw[uCons] | rw[uC] | rw[uTup] | rw[uNil] | rw[uL]
  simp only[zq,zg]
  subst ht62
  rw[uSeq,uSet,uOp,aa]
  simp only[ye,xZ]
  rw[uL]
  repeat first | rw[uCons] | rw[uC] | rw[uTup] | rw[uNil]
  rw[uOp,aa]
  simp only[ye,xZ]
  rw[uTup,uCons,uC,uNil,hadd0,am,uNil,qV (by simp),am]
  simp only[zq,zg]
  have hall:∀t∈([xH.none,.bool true,.int 0,.str "least",.tuple [],.tuple [.int 1],.tuple [.int 1,.tuple []],.tuple [.int 0,.tuple []],.tuple [.bool true,.tuple []],.tuple [.int 1,.list []]]++[xH.tuple [.int 1,.tuple [.tuple [],.tuple []]],.tuple [.int 1,.tuple [.tuple [.tuple [],.int 1]]],.tuple [.int 1,.tuple [.tuple [],.int 1]],.tuple [.int 1,.tuple [.tuple [.tuple [.int 0],.bool true]]],p0]:List xH),TH t:=by
   have i0:∀k,Lv k (.int 0):=λ k=>li k (by decide)
   have i1:∀k,Lv k (.int 1):=λ k=>li k (by decide)
   simp only[yy,yf,xR,yE,or_false]
   rintro t (rfl | rfl | rfl | rfl | rfl | rfl | rfl | rfl | rfl | rfl | rfl | rfl | rfl | rfl | rfl)
   ·exact (ln 5).th
   ·exact (lb 5 _).th
   ·exact (i0 5).th
   ·exact⟨(Sz.str (by decide +kernel)).mono (xL _) (xL _) (by decide) (by decide),trivial⟩
   ·exact (l0 4).th
   ·exact (l1 (i1 4)).th
   ·exact (l2 (i1 4) (l0 3)).th
   ·exact (l2 (i0 4) (l0 3)).th
   ·exact (l2 (lb 4 _) (l0 3)).th
   ·exact (l2 (i1 4) (lst0 3)).th
   ·exact (l2 (i1 4) (l2 (l0 2) (l0 2))).th
   ·exact (l2 (i1 4) (l1 (l2 (l0 1) (i1 2)))).th
   ·exact (l2 (i1 4) (l2 (l0 2) (i1 3))).th
   ·exact (l2 (i1 4) (l1 (l2 (l1 (i0 1)) (lb 2 _)))).th
   ·exact hp0
  have hlen:([xH.none,.bool true,.int 0,.str "least",.tuple [],.tuple [.int 1],.tuple [.int 1,.tuple []],.tuple [.int 0,.tuple []],.tuple [.bool true,.tuple []],.tuple [.int 1,.list []]]++[xH.tuple [.int 1,.tuple [.tuple [],.tuple []]],.tuple [.int 1,.tuple [.tuple [.tuple [],.int 1]]],.tuple [.int 1,.tuple [.tuple [],.int 1]],.tuple [.int 1,.tuple [.tuple [.tuple [.int 0],.bool true]]],p0]:List xH).length=15:=rfl
  generalize ([xH.none,.bool true,.int 0,.str "least",.tuple [],.tuple [.int 1],.tuple [.int 1,.tuple []],.tuple [.int 0,.tuple []],.tuple [.bool true,.tuple []],.tuple [.int 1,.list []]]++[xH.tuple [.int 1,.tuple [.tuple [],.tuple []]],.tuple [.int 1,.tuple [.tuple [.tuple [],.int 1]]],.tuple [.int 1,.tuple [.tuple [],.int 1]],.tuple [.int 1,.tuple [.tuple [.tuple [.int 0],.bool true]]],p0]:List xH)=L0 at hall hlen ⊢
  subst htA
  with_reducible generalize hb8:uSeq (uSet 8 _) _=bd8
  rw[uSeq]
  simp! [uFor,uIr,uC]
  refine⟨by decide,by decide,?_⟩
  refine bJ (λ pre post env n'=>∃(l:List xH) (x7 x8 x9 x10 x11:Option Ent),env=[none,none,some (.s d),some (.s (webD many ts)),some (.s (intsD told)),some (.s paper),some (.s (.list l)),x7,x8,x9,x10,x11]/\(∀t∈l,TH t)/\l.length=15+2 * pre.length/\n<=n'/\n'<=n+500+80 * pre.length/\pre.length+post.length=8) _ [] _ _ ?_ ⟨L0,_,_,_,_,_,rfl,hall,by simpa using hlen,by omega,by simp; omega,by simp[rngD]⟩ ?_
  ·rintro pre2 d2 post2 env n4 E2 hE2 ⟨l,x7,x8,x9,x10,x11,rfl,hth,hll,hn8,hn9,hp2⟩ hnx2
   rw[xP] at hp2
   have hB1:=@bend1
   have hB2:=@bend2
   rw[uNm]
   simp only[zq,zg]
   subst hb8
   generalize bQ=G at hB1 hB2 ⊢
   rw[uSeq,uSet,uCall,uCons,uVar]
   simp only[ye,xZ]
   rw[uNil]
   refine hB1 hps hpw (by omega) λ t1 n5 ht1 hw1 hn10 hn11=>?_
   simp only[zq,zg]
   rw[uSet,uOp,aa]
   simp only[ye,xZ]
   rw[uL,uCons,uVar]
   simp only[ye,xZ]
   rw[uCons,uCall,uCons,uVar]
   simp only[ye,xZ]
   rw[uNil]
   refine hB2 ht1 hw1 (by omega) λ t2 n6 ht2 hn12 hn13=>?_
   have ea:addD (.list l) (.list [t1,t2])=some (.list (l++[t1,t2])):=qV (by simp; omega)
   rw[uNil,ea,am]
   simp only[zq,zg]
   refine hnx2 _ _ ⟨l++[t1,t2],_,_,_,_,_,rfl,λ t ht=>?_,by simp; omega,by omega,by simp; omega,by simp; omega⟩
   rcases yQ.mp ht with ht | ht
   ·exact hth t ht
   ·simp only[xR,yE,or_false] at ht
    rcases ht with rfl | rfl
    ·exact⟨ht1.mono (by decide) (xL _) (by decide) (by decide),f9 (by decide) _ hw1⟩
    ·exact ht2
  ·rintro pre2 env n4 ⟨l,x7,x8,x9,x10,x11,rfl,hth,hll,hn8,hn9,hp2⟩
   have hp4:pre2.length=8:=by simpa using hp2
   subst htB
   with_reducible generalize hb2:uSeq (uSet 10 _) _=b2
   simp! [uSeq]
   refine bJ (λ pre post env n'=>∃(x9 x10 x11:Option Ent),env=[none,none,some (.s d),some (.s (webD many ts)),some (.s (intsD told)),some (.s paper),some (.s (.list l)),x7,x8,x9,x10,x11]/\(∀t∈post,TH t)/\n'=n4) _ [] _ _ ?_ ⟨_,_,_,rfl,hth,rfl⟩ ?_
   ·rintro pre3 d3 post3 env n5 E3 hE3 ⟨x9,x10,x11,rfl,hth3,rfl⟩ hnx3
    have h3:=hth3 d3 (ya ..)
    have hg:Good d3:=h3.sz.good (by decide +kernel) (by decide) (by decide) (by decide)
    obtain⟨v,hgv,hdue,hsaid⟩:=tE (by decide) (by decide) h3.sz.gq h3.wl w hl16 (show told.length<=20 by omega) htn
    subst hb2
    with_reducible generalize ht9:uSeq (uIfS _ _ _) _=t9
    simp! [hg]
    refine hdue _ _ _ ?_
    subst ht9
    with_reducible generalize ht8:uIfS (uTst (uOp nesD _ (aa 10))) _ _=t8
    simp! [uSeq]
    refine hsaid _ _ _ ?_
    simp! [hgv,lC]
    subst ht8
    simp! [hg,lC]
    exact hnx3 _ _ ⟨_,_,_,rfl,λ t ht=>hth3 t (xT _ ht),rfl⟩
   ·rintro pre3 env n5 ⟨x9,x10,x11,rfl,hth3,rfl⟩
    exact hnx _ _ ⟨_,_,_,_,_,_,_,_,_,_,rfl,by omega,by simp; omega,by simp; omega⟩
 ·rintro pre env n ⟨x2,x3,x4,x5,x6,x7,x8,x9,x10,x11,rfl,hn0,hn1,hp⟩
  simp! [uSeq]
theorem all_mk {l:W.OpenLaw}{w:World}{K:W.Frag}{h:Heap}{mg:Str->Option xK}{fa:Addr}{f62:Addr}{od62 an62:Option Addr}{sl62:Array (Option xK)}{oc62 kV62 dc62 pm62 cd62 ct62:xK}{d_JoinError:Addr}{cd_JoinError:ClassData}{d_NoPaper:Addr}{cd_NoPaper:ClassData}{d_NoWalk:Addr}{cd_NoWalk:ClassData}{d_NoText:Addr}{cd_NoText:ClassData}{d_NoTurns:Addr}{cd_NoTurns:ClassData}{d_NoTie:Addr}{cd_NoTie:ClassData}{d_TooMany:Addr}{cd_TooMany:ClassData}{d_NoLine:Addr}{cd_NoLine:ClassData}{jc0 jc1:xK}{jdd jd1:Option Addr}{jcd:ClassData}{jsl jsl1:Array (Option xK)}{jN:Addr}{jes:Array DictEntry}{jn:Nat}{nm_NoPaper qn_NoPaper:Str}{N_NoPaper fi_NoPaper:Addr}{bs_NoPaper sub_NoPaper:List xK}{hd_NoPaper ab_NoPaper:Bool}{sn_NoPaper:List Str}{col_NoPaper:Option Bool}{dd_NoPaper od_NoPaper an_NoPaper:Option Addr}{k0_NoPaper k1_NoPaper k2_NoPaper k3_NoPaper k5_NoPaper:Option xK}{oc_NoPaper kV_NoPaper dc_NoPaper pm_NoPaper cD_NoPaper ct_NoPaper:xK}{sl_NoPaper:Array (Option xK)}(X:K.In h)(G:h.Ns yp mg)(hfa:mg "law" = some (.ref fa))
  (a62:W.nsIn K yp "law" = some (some (.ref f62)))
  (l62:K.lookup f62=some ⟨oc62,od62,.func (W.fnOf "law" "law" (cR (top 62)) (aB (top 62)) (ac (top 62)) .none kV62 dc62 pm62 an62 cd62 ct62),sl62⟩)
  (c62:W.codeIn K cd62 "law" = true)
  (k62:W.keepIn K (.ref f62)=true)
  (AF0:AllF K top [("refuse_some",9),("is_whole",11),("is_whole_from",12),("is_tuple_of",13),("is_rising",14),("is_rising_below",15),("odd_ones",16),("is_side",18),("by_turns",19),("odds_of",20),("price_of",21),("cut_of",22),("is_odd_for",23),("below",25),("turned",26),("turned_told",27),("is_row_kind",29),("is_bound_kind",30),("bound_by",31),("share_sum",32),("even_rows",33),("cut_rows",34),("heavy_ties",35),("_law_feed",37),("_law_take",38),("_law_price",39),("_law_web",40),("_law_by_turns",41),("_law_odds",42),("_law_price_of",43)])
  (AF1:AllF K top [("_law_any_set",44),("_law_any_side",45),("_law_told",46),("_law_under",47),("_law_odd_told",48),("_law_cut",49),("_law_is_odd",50),("_law_whole",51),("_law_is_rising",52),("_law_are_rows",53),("_law_rows_fault",54),("_law_shown",55),("_law_some_rows",56),("_law_leaf_bent",57),("_law_bent",58),("_law_caught",59),("_law_said",60),("_law_due",61)])
  (z_ValueError:W.nsIn K yp "ValueError" = some none)
  (z_abs:W.nsIn K yp "abs" = some none)
  (z_all:W.nsIn K yp "all" = some none)
  (z_bool:W.nsIn K yp "bool" = some none)
  (z_enumerate:W.nsIn K yp "enumerate" = some none)
  (z_int:W.nsIn K yp "int" = some none)
  (z_isinstance:W.nsIn K yp "isinstance" = some none)
  (z_len:W.nsIn K yp "len" = some none)
  (z_list:W.nsIn K yp "list" = some none)
  (z_max:W.nsIn K yp "max" = some none)
  (z_min:W.nsIn K yp "min" = some none)
  (z_range:W.nsIn K yp "range" = some none)
  (z_repr:W.nsIn K yp "repr" = some none)
  (z_set:W.nsIn K yp "set" = some none)
  (z_sorted:W.nsIn K yp "sorted" = some none)
  (z_str:W.nsIn K yp "str" = some none)
  (z_sum:W.nsIn K yp "sum" = some none)
  (z_tuple:W.nsIn K yp "tuple" = some none)
  (na_JoinError:W.nsIn K yp "JoinError" = some (some (.ref d_JoinError)))
  (ty_JoinError:W.typeIn K (.ref d_JoinError)=some (.type "type"))
  (cl_JoinError:W.clsIn K d_JoinError=some cd_JoinError)
  (na_NoPaper:W.nsIn K yp "NoPaper" = some (some (.ref d_NoPaper)))
  (ty_NoPaper:W.typeIn K (.ref d_NoPaper)=some (.type "type"))
  (cl_NoPaper:W.clsIn K d_NoPaper=some cd_NoPaper)
  (na_NoWalk:W.nsIn K yp "NoWalk" = some (some (.ref d_NoWalk)))
  (ty_NoWalk:W.typeIn K (.ref d_NoWalk)=some (.type "type"))
  (cl_NoWalk:W.clsIn K d_NoWalk=some cd_NoWalk)
  (na_NoText:W.nsIn K yp "NoText" = some (some (.ref d_NoText)))
  (ty_NoText:W.typeIn K (.ref d_NoText)=some (.type "type"))
  (cl_NoText:W.clsIn K d_NoText=some cd_NoText)
  (na_NoTurns:W.nsIn K yp "NoTurns" = some (some (.ref d_NoTurns)))
  (ty_NoTurns:W.typeIn K (.ref d_NoTurns)=some (.type "type"))
  (cl_NoTurns:W.clsIn K d_NoTurns=some cd_NoTurns)
  (na_NoTie:W.nsIn K yp "NoTie" = some (some (.ref d_NoTie)))
  (ty_NoTie:W.typeIn K (.ref d_NoTie)=some (.type "type"))
  (cl_NoTie:W.clsIn K d_NoTie=some cd_NoTie)
  (na_TooMany:W.nsIn K yp "TooMany" = some (some (.ref d_TooMany)))
  (ty_TooMany:W.typeIn K (.ref d_TooMany)=some (.type "type"))
  (cl_TooMany:W.clsIn K d_TooMany=some cd_TooMany)
  (na_NoLine:W.nsIn K yp "NoLine" = some (some (.ref d_NoLine)))
  (ty_NoLine:W.typeIn K (.ref d_NoLine)=some (.type "type"))
  (cl_NoLine:W.clsIn K d_NoLine=some cd_NoLine)
  (lJ:K.lookup d_JoinError=some ⟨jc0,jdd,.cls jcd,jsl⟩)
  (nJ:jcd.ns=jN)
  (lN:K.lookup jN=some ⟨jc1,jd1,.dict jes jn,jsl1⟩)
  (sJ:m6 jes=true)
  (iJ:nsFind jes "__init__" = none)
  (xJ:W.mroIn K d_JoinError (.type "BaseException")=some true)
  (o_NoPaper:K.lookup d_NoPaper=some (PySem.excClassObj nm_NoPaper qn_NoPaper d_NoPaper N_NoPaper bs_NoPaper (.ref d_JoinError::L2.veMro) hd_NoPaper sn_NoPaper sub_NoPaper ab_NoPaper col_NoPaper dd_NoPaper k0_NoPaper k1_NoPaper k2_NoPaper k3_NoPaper k5_NoPaper "ValueError.__new__"))
  (fiNoPaper:W.findIn K (.ref d_NoPaper) "__init__" = some (some (.ref fi_NoPaper)))
  (fnNoPaper:W.isFn K (.ref fi_NoPaper)=true)
  (kpNoPaper:W.keepIn K (.ref d_NoPaper)=true)
  (gaNoPaper:W.findIn K (.ref d_NoPaper) "__getattribute__" = some (some (.builtin "BaseException.__getattribute__")))
  (ghNoPaper:W.findIn K (.ref d_NoPaper) "__getattr__" = some none)
  (saNoPaper:W.findIn K (.ref d_NoPaper) "__setattr__" = some (some (.builtin "object.__setattr__")))
  (hdNoPaper:W.hasDictIn K d_NoPaper=true)
  (bxNoPaper:W.mroIn K d_NoPaper (.type "BaseException")=some true)
  (obNoPaper:W.mroIn K d_NoPaper (.type "object")=some true)
  (hcNoPaper:W.findIn K (.ref d_NoPaper) "__class__" = some (some (.builtin "object.__class__")))
  (hgNoPaper:W.specialIn K (.builtin "object.__class__") "__get__" = some (some (.builtin "getset_descriptor.__get__")))
  (tkNoPaper:W.takesIn K (.builtin "object.__class__")=some true)
  (owNoPaper:W.mroIn K d_NoPaper (.ref d_NoPaper)=some true)
  (veNoPaper:W.mroIn K d_NoPaper (.type "ValueError")=some true)
  (upNoPaper:W.mroIn K d_NoPaper (.ref d_JoinError)=some true)
  (no_NoPaper_NoWalk:W.mroIn K d_NoPaper (.ref d_NoWalk)=some false)
  (no_NoPaper_NoText:W.mroIn K d_NoPaper (.ref d_NoText)=some false)
  (no_NoPaper_NoTurns:W.mroIn K d_NoPaper (.ref d_NoTurns)=some false)
  (no_NoPaper_NoTie:W.mroIn K d_NoPaper (.ref d_NoTie)=some false)
  (no_NoPaper_TooMany:W.mroIn K d_NoPaper (.ref d_TooMany)=some false)
  (no_NoPaper_NoLine:W.mroIn K d_NoPaper (.ref d_NoLine)=some false)
  (lINoPaper:K.lookup fi_NoPaper=some ⟨oc_NoPaper,od_NoPaper,.func (W.fnOf "__init__" "NoPaper.__init__" (cR (clsFn (top 2) 0)) (aB (clsFn (top 2) 0)) (ac (clsFn (top 2) 0)) .none kV_NoPaper dc_NoPaper pm_NoPaper an_NoPaper cD_NoPaper ct_NoPaper),sl_NoPaper⟩)
  (cINoPaper:W.codeIn K cD_NoPaper "NoPaper.__init__" = true)
  (kINoPaper:W.keepIn K (.ref fi_NoPaper)=true)
  (fd_NoPaper_word:W.findIn K (.ref d_NoPaper) "word" = some none)
  (fd_NoPaper_number:W.findIn K (.ref d_NoPaper) "number" = some none) :
  ∃fd:yM,(∀(s:xO) (v:xK),BindsTo s fd ⟨[v],[]⟩ [("_law_script",v)])/\∀base:Heap,K.In base->base.Ns yp mg->FnOk l.prog w K mg base CX0 20 fa fd ["_law_script"] (spLaw K):=by
 have e:=hfa.symm.trans (W.mg_of X G a62)
 cases e
 have F62:=pF (st:=top 62) l62 c62 k62
 obtain⟨a9,a11,a12,a13,a14,a15,a16,a18,a19,a20,a21,a22,a23,a25,a26,a27,a29,a30,a31,a32,a33,a34,a35,a37,a38,a39,a40,a41,a42,a43,_⟩:=AF0
 obtain⟨a44,a45,a46,a47,a48,a49,a50,a51,a52,a53,a54,a55,a56,a57,a58,a59,a60,a61,_⟩:=AF1
 refine⟨W.fnOf "law" "law" (cR (top 62)) (aB (top 62)) (ac (top 62)) .none kV62 dc62 pm62 an62 cd62 ct62,λ s v=>.of_eq rfl,λ base _ _=>?_⟩
 have O_JoinError:=gj X G na_JoinError ty_JoinError cl_JoinError
 have O_NoPaper:=gj X G na_NoPaper ty_NoPaper cl_NoPaper
 have O_NoWalk:=gj X G na_NoWalk ty_NoWalk cl_NoWalk
 have O_NoText:=gj X G na_NoText ty_NoText cl_NoText
 have O_NoTurns:=gj X G na_NoTurns ty_NoTurns cl_NoTurns
 have O_NoTie:=gj X G na_NoTie ty_NoTie cl_NoTie
 have O_TooMany:=gj X G na_TooMany ty_TooMany cl_TooMany
 have O_NoLine:=gj X G na_NoLine ty_NoLine cl_NoLine
 subst nJ
 have jok:JOk K d_JoinError:=⟨_,_,_,_,_,_,_,_,_,lJ,lN,on sJ,iJ⟩
 have X_NoPaper:ExcI K d_NoPaper d_JoinError:=⟨⟨⟨gaNoPaper,ghNoPaper,saNoPaper,hdNoPaper,bxNoPaper,obNoPaper⟩,hcNoPaper,hgNoPaper,tkNoPaper⟩,owNoPaper,veNoPaper,upNoPaper,xJ⟩
 have RF_NoPaper:RF K d_NoPaper d_JoinError fi_NoPaper:=⟨⟨_,_,_,_,_,_,_,_,_,_,_,_,_,_,_,o_NoPaper⟩,fiNoPaper,fnNoPaper,kpNoPaper,X_NoPaper⟩
 have FI_NoPaper:=pF (st:=clsFn (top 2) 0) lINoPaper cINoPaper kINoPaper
 let cl:Str->Addr:=λ c=>(([("JoinError",d_JoinError),("NoPaper",d_NoPaper),("NoWalk",d_NoWalk),("NoText",d_NoText),("NoTurns",d_NoTurns),("NoTie",d_NoTie),("TooMany",d_TooMany),("NoLine",d_NoLine)]:List (Str × Addr)).lookup c).getD 0
 have e_JoinError:cl "JoinError" = d_JoinError:=rfl
 have e_NoPaper:cl "NoPaper" = d_NoPaper:=rfl
 have e_NoWalk:cl "NoWalk" = d_NoWalk:=rfl
 have e_NoText:cl "NoText" = d_NoText:=rfl
 have e_NoTurns:cl "NoTurns" = d_NoTurns:=rfl
 have e_NoTie:cl "NoTie" = d_NoTie:=rfl
 have e_TooMany:cl "TooMany" = d_TooMany:=rfl
 have e_NoLine:cl "NoLine" = d_NoLine:=rfl
 have xf:XF K mg (XC cl) EXC ALLC:=by
  refine⟨λ c hc=>?_,λ c hc h hh=>?_,λ c hc h hh=>?_,λ c hc=>?_,λ c hc=>?_,λ c hc f hf=>?_⟩
  ·have hq:=hc
   simp only[ALLC,xR,yE,or_false] at hq
   rcases hq with rfl | rfl | rfl | rfl | rfl | rfl | rfl | rfl
   ·exact O_JoinError.nm
   ·exact O_NoPaper.nm
   ·exact O_NoWalk.nm
   ·exact O_NoText.nm
   ·exact O_NoTurns.nm
   ·exact O_NoTie.nm
   ·exact O_TooMany.nm
   ·exact O_NoLine.nm
  ·have hq:=hc
   simp only[EXC,xR,yE,or_false] at hq
   subst hq
   rcases hh with rfl | rfl
   ·exact X_NoPaper.exmS O_NoPaper bxNoPaper
   ·exact X_NoPaper.exm O_JoinError
  ·have hq:=hc
   simp only[EXC,xR,yE,or_false] at hq
   subst hq
   have hq:=hh
   simp only[ALLC,xR,yE,or_false] at hq
   rcases hq with rfl | rfl | rfl | rfl | rfl | rfl | rfl | rfl
   ·exact X_NoPaper.one O_JoinError X_NoPaper.up
   ·exact X_NoPaper.one O_NoPaper X_NoPaper.own
   ·exact X_NoPaper.one O_NoWalk no_NoPaper_NoWalk
   ·exact X_NoPaper.one O_NoText no_NoPaper_NoText
   ·exact X_NoPaper.one O_NoTurns no_NoPaper_NoTurns
   ·exact X_NoPaper.one O_NoTie no_NoPaper_NoTie
   ·exact X_NoPaper.one O_TooMany no_NoPaper_TooMany
   ·exact X_NoPaper.one O_NoLine no_NoPaper_NoLine
  ·have hq:=hc
   simp only[EXC,xR,yE,or_false] at hq
   subst hq
   exact X_NoPaper.isVal
  ·have hq:=hc
   simp only[EXC,xR,yE,or_false] at hq
   subst hq
   exact X_NoPaper.ci
  ·have hq:=hc
   simp only[EXC,xR,yE,or_false] at hq
   subst hq
   have hf2:f∈(["word", "number"]:List Str):=hf
   have hq:=hf2
   simp only[xR,yE,or_false] at hq
   rcases hq with rfl | rfl
   ·exact fd_NoPaper_word
   ·exact fd_NoPaper_number
 have R_NoPaper:RaiseOk l.prog w K mg base "NoPaper" (cl "NoPaper") (spX2 (cl "NoPaper") "word" "number"):=re FI_NoPaper RF_NoPaper jok O_NoPaper.nm fd_NoPaper_word fd_NoPaper_number
 have B:BtA mg:=⟨W.mg_none_of X G z_ValueError,W.mg_none_of X G z_abs,W.mg_none_of X G z_all,W.mg_none_of X G z_bool,W.mg_none_of X G z_enumerate,W.mg_none_of X G z_int,W.mg_none_of X G z_isinstance,W.mg_none_of X G z_len,W.mg_none_of X G z_list,W.mg_none_of X G z_max,W.mg_none_of X G z_min,W.mg_none_of X G z_range,W.mg_none_of X G z_repr,W.mg_none_of X G z_set,W.mg_none_of X G z_sorted,W.mg_none_of X G z_str,W.mg_none_of X G z_sum,W.mg_none_of X G z_tuple⟩
 obtain⟨_,_,F37,m37⟩:=(a37.m X G).ex
 have D_law_feed:DefOk l.prog w K mg base 1 "_law_feed" ["_law_script"] (jL famY K):=xz F37 m37 B
 obtain⟨_,_,F38,m38⟩:=(a38.m X G).ex
 have D_law_take:ay l.prog w K mg base famY:=(xA F38 m38 B).draw.up (by decide)
 have D_law_any_set:dg l.prog w K mg base famY:=j5 (a44.m X G) B D_law_take
 have D_law_any_side:bC l.prog w K mg base famY:=iW (a45.m X G) B D_law_take
 have D_law_whole:ce l.prog w K mg base cl:=mt (a51.m X G) B
 have D_law_is_rising:cf l.prog w K mg base cl:=iD (a52.m X G) B D_law_whole
 have D_law_are_rows:cG l.prog w K mg base cl:=iY (a53.m X G) B D_law_whole D_law_is_rising
 have D_law_leaf_bent:aV l.prog w K mg base famY:=iF (a57.m X G) B D_law_take
 have D_law_bent:fS l.prog w K mg base famY:=oM (a58.m X G) B D_law_take D_law_leaf_bent
 have D_law_by_turns:bB l.prog w K mg base cl:=iU (a41.m X G) B
 have D_law_caught:dL l.prog w K mg base cl:=ly (a59.m X G) B xf
 have D_law_cut:ff l.prog w K mg base cl:=rj (a49.m X G) B
 have D_law_is_odd:cw l.prog w K mg base cl:=lx (a50.m X G) B
 have D_law_odds:d7 l.prog w K mg base cl:=oI (a42.m X G) B D_law_by_turns
 have D_law_under:dh l.prog w K mg base cl:=mr (a47.m X G) B
 have D_law_odd_told:bD l.prog w K mg base cl:=iX (a48.m X G) B D_law_by_turns D_law_odds D_law_under
 have D_law_rows_fault:bG l.prog w K mg base cl:=gr (a54.m X G) B D_law_cut D_law_is_odd D_law_odd_told
 have D_law_price_of:cF l.prog w K mg base cl:=iV (a43.m X G) B
 have D_law_shown:eS l.prog w K mg base cl:=mw (a55.m X G) B D_law_price_of D_law_under
 have D_law_due:iz l.prog w K mg base cl:=rk (a61.m X G) B D_law_shown D_law_rows_fault D_law_are_rows D_law_whole
 have D_law_price:eR l.prog w K mg base famY:=mq (a39.m X G) B D_law_take
 have D_below:jU l.prog w K mg base cl:=vR (a25.m X G) B
 have D_cut_of:jT l.prog w K mg base cl:=sY (a22.m X G) B
 have D_cut_rows:fQ l.prog w K mg base cl:=oH (a34.m X G) B D_cut_of
 have D_is_odd_for:dI l.prog w K mg base cl:=lv (a23.m X G) B
 have D_even_rows:eQ l.prog w K mg base cl:=mo (a33.m X G) B D_is_odd_for
 have D_heavy_ties:dJ l.prog w K mg base cl:=lw (a35.m X G) B
 have D_is_whole:d6 l.prog w K mg base cl:=oB (a11.m X G) B
 have D_is_rising:eO l.prog w K mg base cl:=mh (a14.m X G) B D_is_whole
 have D_is_rising_below:bv l.prog w K mg base cl:=fW (a15.m X G) B D_is_rising
 have D_is_side:iw l.prog w K mg base cl:=rf (a18.m X G) B D_is_rising_below
 have D_is_tuple_of:bN l.prog w K mg base cl:=jZ (a13.m X G) B
 have D_is_whole_from:bn l.prog w K mg base cl:=iB (a12.m X G) B D_is_whole
 have D_is_row_kind:df l.prog w K mg base cl:=j4 (a29.m X G) B D_is_whole_from D_is_side D_is_tuple_of
 have D_is_bound_kind:cc l.prog w K mg base cl:=iC (a30.m X G) B D_is_row_kind D_is_whole_from D_is_tuple_of
 have D_price_of:fO l.prog w K mg base cl:=oF (a21.m X G) B
 have D_refuse_some:dc l.prog w K mg base cl:=jY (a9.m X G) B R_NoPaper
 have D_share_sum:eP l.prog w K mg base cl:=mn (a32.m X G) B
 have D_turned:jV l.prog w K mg base cl:=sZ (a26.m X G) B
 obtain⟨_,_,F16,m16⟩:=(a16.m X G).ex
 have D_odd_ones:fM l.prog w K mg base cl:=oA F16 m16 B
 have D_by_turns:fN l.prog w K mg base cl:=oE (a19.m X G) B D_odd_ones
 have D_odds_of:ix l.prog w K mg base cl:=rg (a20.m X G) B D_odd_ones
 have D_turned_told:de l.prog w K mg base cl:=j3 (a27.m X G) B D_by_turns D_odds_of D_below
 have D_bound_by:fP l.prog w K mg base cl:=oG (a31.m X G) B D_share_sum D_price_of D_below D_refuse_some D_heavy_ties D_cut_rows D_turned D_even_rows D_turned_told D_is_bound_kind R_NoPaper
 have D_law_said:fU l.prog w K mg base cl:=oN (a60.m X G) B D_bound_by D_law_caught xf
 have D_law_some_rows:cg l.prog w K mg base famY:=iE (a56.m X G) B D_law_take D_law_is_odd D_law_cut D_law_any_side D_law_odd_told
 have D_law_told:fR l.prog w K mg base famY:=oJ (a46.m X G) B D_law_any_side D_law_take D_law_odds D_law_any_set
 have D_law_web:iy l.prog w K mg base famY:=rh (a40.m X G) B D_law_take D_law_price
 exact d_law F62 B D_law_feed D_law_said D_law_due D_law_bent D_law_some_rows D_law_take D_law_told D_law_web tF
theorem walk {l:W.OpenLaw}{q:yk}{loose:List Str}{XP:(Str->Option xK)->Heap->Prop}{YP:World->Heap->Prop}{d:DefRec}{K:Params->W.Frag}(hn:l.most=some 63)(hdf:d.params.defaults=[])
  (hY:∀(w:World) (h:Heap),YP w h->(K w.params).In h)
  (F:∀(w:World) (mg:Str->Option xK) (fa:Addr) (h:Heap),(K w.params).In h->h.Ns yp mg->mg d.name=some (.ref fa) ->
   ∃fd:yM,(∀(s:xO) (u:xK),BindsTo s fd ⟨[u],[]⟩ [("_law_script",u)])/\∀base:Heap,(K w.params).In base->base.Ns yp mg->FnOk l.prog w (K w.params) mg base CX0 20 fa fd ["_law_script"] (spLaw (K w.params))) :
  W.WalkO q loose XP YP l.row.toRowW d [] (λ f vs=>PySem.call f vs) :=
 L2.walk_of (n:=63) (k:=20) (x := "_law_script") (CX:=λ _=>CX0) (sp:=λ w=>spLaw (K w.params)) hn (by decide) hdf ⟨rfl,by decide,by decide,rfl⟩ hY F (λ _ _ a ns hl _ hS=>⟨a,ns,rfl,hS,hl,λ _=>rfl⟩) λ _ _ _ _ _ z=>z
end Odj
def PySem.W.Fast.tw8892340128724015019:Unit:=()
def PySem.W.Fast.tw15520754281769034664:Unit:=()
def PySem.W.Fast.tw15960032396416961752:Unit:=()
def PySem.W.Fast.tw9388690040765738508:Unit:=()
def PySem.W.Fast.tw4229098464721667898:Unit:=()
def PySem.W.Fast.tw12156937515979976035:Unit:=()
def PySem.W.Fast.tw807712875698162018:Unit:=()
def PySem.W.Fast.tw15630889300520703375:Unit:=()
def PySem.W.Fast.tw14095477703513336476:Unit:=()
def PySem.W.Fast.tw14365965350479730985:Unit:=()
def PySem.W.Fast.tw3046280431627087015:Unit:=()
def PySem.W.Fast.tw6438681986233326216:Unit:=()
def PySem.W.Fast.tw5092453111716086951:Unit:=()
def PySem.W.Fast.tw16940156917895334730:Unit:=()
def PySem.W.Fast.tw5626928611336254504:Unit:=()
def PySem.W.Fast.tw14533791751855075450:Unit:=()
def PySem.W.Fast.tw18432198385627392690:Unit:=()
def PySem.W.Fast.tw753515022739231797:Unit:=()
def PySem.W.Fast.tw3259779014473754451:Unit:=()
def PySem.W.Fast.tw9651933468564363667:Unit:=()
def PySem.W.Fast.tw17079168745475216602:Unit:=()
def PySem.W.Fast.tw15285728451015364771:Unit:=()
def PySem.W.Fast.tw13372720819061733364:Unit:=()
def PySem.W.Fast.tw2193789936313396122:Unit:=()
def PySem.W.Fast.tw13590845617954598482:Unit:=()
def PySem.W.Fast.tw17185522961366650547:Unit:=()
def PySem.W.Fast.tw11803543056415182940:Unit:=()
def PySem.W.Fast.tw13434831744065677099:Unit:=()
def PySem.W.Fast.tw11876470686181542295:Unit:=()
def PySem.W.Fast.tw17383475494842478520:Unit:=()
def PySem.W.Fast.tw9093782232856363499:Unit:=()
def PySem.W.Fast.tw13014930368109934963:Unit:=()
def PySem.W.Fast.tw13726582635901808730:Unit:=()
def PySem.W.Fast.tw13989619621575667097:Unit:=()
def PySem.W.Fast.tw8574632457531865429:Unit:=()
def PySem.W.Fast.tw6833981989953142463:Unit:=()
def PySem.W.Fast.tw14209320787739483923:Unit:=()
def PySem.W.Fast.tw8196870748871429645:Unit:=()
def PySem.W.Fast.tw10985475780780242718:Unit:=()
def PySem.W.Fast.tw2452313188989991684:Unit:=()
def PySem.W.Fast.tw7895039314888762636:Unit:=()
def PySem.W.Fast.tw8981278092728932859:Unit:=()
def PySem.W.Fast.tw6792337165529384931:Unit:=()
def PySem.W.Fast.tw10260429955616734754:Unit:=()
def PySem.W.Fast.tw7387579837218099273:Unit:=()
def PySem.W.Fast.tw5922108157836715780:Unit:=()
def PySem.W.Fast.tw8044139385137837333:Unit:=()
def PySem.W.Fast.tw9512019255947891603:Unit:=()
def PySem.W.Fast.tw9367873903078369879:Unit:=()
def PySem.W.Fast.tw18016884786942616643:Unit:=()
def PySem.W.Fast.tw16856729935121259063:Unit:=()
def PySem.W.Fast.tw15568614403583674247:Unit:=()
def PySem.W.Fast.tw14829072535856308225:Unit:=()
def PySem.W.Fast.tw16427754635749469555:Unit:=()
def PySem.W.Fast.tw13590257056292629339:Unit:=()
def PySem.W.Fast.tw5429571729746657129:Unit:=()
def PySem.W.Fast.tw3768226330533141991:Unit:=()
def PySem.W.Fast.tw2140615980439509720:Unit:=()
def PySem.W.Fast.tw15202466041074375554:Unit:=()
def PySem.W.Fast.tw5518049421190579926:Unit:=()
def PySem.W.Fast.tw11208899673399155564:Unit:=()
def PySem.W.Fast.tw11644423529359200290:Unit:=()
def PySem.W.Fast.tw10943164136130914480:Unit:=()
def PySem.W.Fast.tw11558241632122519199:Unit:=()
def PySem.W.Fast.tw8090222640965773366:Unit:=()
def PySem.W.Fast.tw8364208058943511419:Unit:=()
def PySem.W.Fast.tw9693308124511445434:Unit:=()
def PySem.W.Fast.tw16508371442768209392:Unit:=()
def PySem.W.Fast.tw81789285881923455:Unit:=()
def PySem.W.Fast.tw14902943124760269214:Unit:=()
def PySem.W.Fast.tw18093126025720061644:Unit:=()
def PySem.W.Fast.tw1912010098587592315:Unit:=()
def PySem.W.Fast.tw3799631482789579298:Unit:=()
def PySem.W.Fast.tw10741153100482768605:Unit:=()
def PySem.W.Fast.tw1496555942005080198:Unit:=()
def PySem.W.Fast.tw3171842945113554538:Unit:=()
def PySem.W.Fast.tw11976559645538694328:Unit:=()
def PySem.W.Fast.tw188147413779397589:Unit:=()
def PySem.W.Fast.tw11505242380503456789:Unit:=()
def PySem.W.Fast.tw661869157046355235:Unit:=()
def PySem.W.Fast.tw13487537433562585623:Unit:=()
def PySem.W.Fast.tw135993096361722422:Unit:=()
def PySem.W.Fast.tw2363898194666667314:Unit:=()
def PySem.W.Fast.tw14321795214410410365:Unit:=()
def PySem.W.Fast.tw12875300083576427267:Unit:=()
def PySem.W.Fast.tw4845178329231578413:Unit:=()
def PySem.W.Fast.tw8925701393410951830:Unit:=()
def PySem.W.Fast.tw9723020649456367247:Unit:=()
def PySem.W.Fast.tw17336937406178891222:Unit:=()
def PySem.W.Fast.tw17697361045902940679:Unit:=()
def PySem.W.Fast.tw12693296293113392811:Unit:=()
def PySem.W.Fast.tw7914439904420118747:Unit:=()
def PySem.W.Fast.tw6911670920723166380:Unit:=()
def PySem.W.Fast.tw12583290811119135936:Unit:=()
def PySem.W.Fast.tw15579185065040309396:Unit:=()
def PySem.W.Fast.tw13446023087324522260:Unit:=()
def PySem.W.Fast.tw2860593688660294935:Unit:=()
def PySem.W.Fast.tw4187607778507338434:Unit:=()
def PySem.W.Fast.tw6600677946236841418:Unit:=()
def PySem.W.Fast.tw14149480360803148099:Unit:=()
def PySem.W.Fast.tw16017161682440095889:Unit:=()
def PySem.W.Fast.tw14027608845626768854:Unit:=()
def PySem.W.Fast.tw3005892555983859335:Unit:=()
def PySem.W.Fast.tw14969857035554941464:Unit:=()
def PySem.W.Fast.tw8797382046838212556:Unit:=()
def PySem.W.Fast.tw5942761292812071154:Unit:=()
def PySem.W.Fast.tw6443508743512157673:Unit:=()
def PySem.W.Fast.tw5497124150065286886:Unit:=()
def PySem.W.Fast.tw13536084266799506816:Unit:=()
def PySem.W.Fast.tw8940926506860039346:Unit:=()
def PySem.W.Fast.tw5070717274637376732:Unit:=()
def PySem.W.Fast.tw8374147471460420608:Unit:=()
def PySem.W.Fast.tw16094031590322079269:Unit:=()
def PySem.W.Fast.tw13360352743884998338:Unit:=()
def PySem.W.Fast.tw6035109418767065582:Unit:=()
def PySem.W.Fast.tw9463934919175934808:Unit:=()
def PySem.W.Fast.tw9129822714232001099:Unit:=()
def PySem.W.Fast.tw16790712456284842371:Unit:=()
def PySem.W.Fast.tw16540153277448735583:Unit:=()
def PySem.W.Fast.tw7607237641722042693:Unit:=()
def PySem.W.Fast.tw5228203933302675057:Unit:=()
def PySem.W.Fast.tw14554965909812858865:Unit:=()
def PySem.W.Fast.tw3565183040024824675:Unit:=()
def PySem.W.Fast.tw4080976361483516791:Unit:=()
def PySem.W.Fast.tw3198319999683700019:Unit:=()
def PySem.W.Fast.tw11377630381609003027:Unit:=()
def PySem.W.Fast.tw7487970888536676091:Unit:=()
def PySem.W.Fast.tw11485412578756057522:Unit:=()
def PySem.W.Fast.tw5974611183931322382:Unit:=()
def PySem.W.Fast.tw8851190643138997447:Unit:=()
def PySem.W.Fast.tw2102943814165780462:Unit:=()
def PySem.W.Fast.tw13395175563377704550:Unit:=()
def PySem.W.Fast.tw12706183177204318113:Unit:=()
def PySem.W.Fast.tw12681972540878248118:Unit:=()
def PySem.W.Fast.tw10947176446508131234:Unit:=()
def PySem.W.Fast.tw5582226958420626711:Unit:=()
def PySem.W.Fast.tw9058051471233169137:Unit:=()
def PySem.W.Fast.tw11612269480029664243:Unit:=()
def PySem.W.Fast.tw16045198877684402083:Unit:=()
def PySem.W.Fast.tw16200234326285900786:Unit:=()
def PySem.W.Fast.tw5740187330536525664:Unit:=()
def PySem.W.Fast.tw9326701041726513564:Unit:=()
def PySem.W.Fast.tw5082425043032971285:Unit:=()
def PySem.W.Fast.tw3567493677681259325:Unit:=()
def PySem.W.Fast.tw11904492722705277019:Unit:=()
def PySem.W.Fast.tw12747680427751326333:Unit:=()
def PySem.W.Fast.tw8620645844876001745:Unit:=()
def PySem.W.Fast.tw11586425751535553472:Unit:=()
def PySem.W.Fast.tw168381763658915252:Unit:=()
def PySem.W.Fast.tw166489026565053186:Unit:=()
def PySem.W.Fast.tw15908895239962837011:Unit:=()
def PySem.W.Fast.tw4144091621842267863:Unit:=()
def PySem.W.Fast.tw13001431154024078002:Unit:=()
def PySem.W.Fast.tw11999686041361609869:Unit:=()
def PySem.W.Fast.tw9804757013493536128:Unit:=()
def PySem.W.Fast.tw2367650373504771561:Unit:=()
def PySem.W.Fast.tw4169935054232334146:Unit:=()
def PySem.W.Fast.tw11716262613486670857:Unit:=()
def PySem.W.Fast.tw12697292933861067663:Unit:=()
def PySem.W.Fast.tw1306299631055927735:Unit:=()
def PySem.W.Fast.tw11682736438613461656:Unit:=()
def PySem.W.Fast.tw6797586469105994068:Unit:=()
def PySem.W.Fast.tw8541691291687922507:Unit:=()
def PySem.W.Fast.tw12620071380340044415:Unit:=()
def PySem.W.Fast.tw3905233691595307148:Unit:=()
def PySem.W.Fast.tw1212079183280523866:Unit:=()
def PySem.W.Fast.tw14240275973244073794:Unit:=()
def PySem.W.Fast.tw8316768725003024316:Unit:=()
def PySem.W.Fast.tw10903148124788289949:Unit:=()
def PySem.W.Fast.tw1337888643802357441:Unit:=()
def PySem.W.Fast.tw17423638272710667802:Unit:=()
def PySem.W.Fast.tw15725112765155644076:Unit:=()
def PySem.W.Fast.tw11350492738592869394:Unit:=()
def PySem.W.Fast.tw6749579523718124771:Unit:=()
def PySem.W.Fast.tw10267341952548326474:Unit:=()
def PySem.W.Fast.tw7280782655030430188:Unit:=()
def PySem.W.Fast.tw15147631268748557940:Unit:=()
def PySem.W.Fast.tw1403847583843176064:Unit:=()
def PySem.W.Fast.tw3923720690875578527:Unit:=()
def PySem.W.Fast.tw2289277582668476406:Unit:=()
def PySem.W.Fast.tw1612177219345640869:Unit:=()
def PySem.W.Fast.tw16870315298524768329:Unit:=()
def PySem.W.Fast.tw1571735377741441605:Unit:=()
def PySem.W.Fast.tw3485663048702344522:Unit:=()
def PySem.W.Fast.tw15362313116062944470:Unit:=()
open PySem PySem.W PyProof.Rows
set_option maxRecDepth 100000 in
set_option maxHeartbeats 0 in
theorem PySem.Challenge.cw_oddjoins_k20_things_that_are_no_bound_pa_holds : PySem.Challenge.rw_oddjoins_k20_things_that_are_no_bound_pa.Holds := by
 w_on; o_law; k_head; (case hw=>w_witness2)
 k_fill
 refine Odj.walk (l:=PySem.Challenge.rw_oddjoins_k20_things_that_are_no_bound_pa) rfl rfl (fun w h Y=>W.kIn_of Y) ?F
 case F =>
  intro w mg fa h KX G hmg
  refine' Odj.all_mk KX G hmg ?a62 ?l62 ?c62 ?k62 ?AF0 ?AF1 ?z_ValueError ?z_abs ?z_all ?z_bool ?z_enumerate ?z_int ?z_isinstance ?z_len ?z_list ?z_max ?z_min ?z_range ?z_repr ?z_set ?z_sorted ?z_str ?z_sum ?z_tuple ?na_JoinError ?ty_JoinError ?cl_JoinError ?na_NoPaper ?ty_NoPaper ?cl_NoPaper ?na_NoWalk ?ty_NoWalk ?cl_NoWalk ?na_NoText ?ty_NoText ?cl_NoText ?na_NoTurns ?ty_NoTurns ?cl_NoTurns ?na_NoTie ?ty_NoTie ?cl_NoTie ?na_TooMany ?ty_TooMany ?cl_TooMany ?na_NoLine ?ty_NoLine ?cl_NoLine ?lJ ?nJ ?lN ?sJ ?iJ ?xJ ?o_NoPaper ?fiNoPaper ?fnNoPaper ?kpNoPaper ?gaNoPaper ?ghNoPaper ?saNoPaper ?hdNoPaper ?bxNoPaper ?obNoPaper ?hcNoPaper ?hgNoPaper ?tkNoPaper ?owNoPaper ?veNoPaper ?upNoPaper ?no_NoPaper_NoWalk ?no_NoPaper_NoText ?no_NoPaper_NoTurns ?no_NoPaper_NoTie ?no_NoPaper_TooMany ?no_NoPaper_NoLine ?lINoPaper ?cINoPaper ?kINoPaper ?fd_NoPaper_word ?fd_NoPaper_number
  (case a62=>k_is); (case l62=>k_is); (case c62=>k_is); (case k62=>k_is)
  (case AF0=>repeat' first | exact L2.allF_nil | (refine L2.allF_c ?_ ?_) | (apply L2.FOk.of <;> k_is)); (case AF1=>repeat' first | exact L2.allF_nil | (refine L2.allF_c ?_ ?_) | (apply L2.FOk.of <;> k_is)); (case z_ValueError=>k_is); (case z_abs=>k_is)
  (case z_all=>k_is); (case z_bool=>k_is); (case z_enumerate=>k_is); (case z_int=>k_is)
  (case z_isinstance=>k_is); (case z_len=>k_is); (case z_list=>k_is); (case z_max=>k_is)
  (case z_min=>k_is); (case z_range=>k_is); (case z_repr=>k_is); (case z_set=>k_is)
  (case z_sorted=>k_is); (case z_str=>k_is); (case z_sum=>k_is); (case z_tuple=>k_is)
  (case na_JoinError=>k_is); (case ty_JoinError=>k_is); (case cl_JoinError=>k_is); (case na_NoPaper=>k_is)
  (case ty_NoPaper=>k_is); (case cl_NoPaper=>k_is); (case na_NoWalk=>k_is); (case ty_NoWalk=>k_is)
  (case cl_NoWalk=>k_is); (case na_NoText=>k_is); (case ty_NoText=>k_is); (case cl_NoText=>k_is)
  (case na_NoTurns=>k_is); (case ty_NoTurns=>k_is); (case cl_NoTurns=>k_is); (case na_NoTie=>k_is)
  (case ty_NoTie=>k_is); (case cl_NoTie=>k_is); (case na_TooMany=>k_is); (case ty_TooMany=>k_is)
  (case cl_TooMany=>k_is); (case na_NoLine=>k_is); (case ty_NoLine=>k_is); (case cl_NoLine=>k_is)
  (case lJ=>k_is); (case nJ=>rfl); (case lN=>k_is); (case sJ=>rfl)
  (case iJ=>rfl); (case xJ=>k_is); (case o_NoPaper=>k_is); (case fiNoPaper=>k_is)
  (case fnNoPaper=>k_is); (case kpNoPaper=>k_is); (case gaNoPaper=>k_is); (case ghNoPaper=>k_is)
  (case saNoPaper=>k_is); (case hdNoPaper=>k_is); (case bxNoPaper=>k_is); (case obNoPaper=>k_is)
  (case hcNoPaper=>k_is); (case hgNoPaper=>k_is); (case tkNoPaper=>k_is); (case owNoPaper=>k_is)
  (case veNoPaper=>k_is); (case upNoPaper=>k_is); (case no_NoPaper_NoWalk=>k_is); (case no_NoPaper_NoText=>k_is)
  (case no_NoPaper_NoTurns=>k_is); (case no_NoPaper_NoTie=>k_is); (case no_NoPaper_TooMany=>k_is); (case no_NoPaper_NoLine=>k_is)
  (case lINoPaper=>k_is); (case cINoPaper=>k_is); (case kINoPaper=>k_is); (case fd_NoPaper_word=>k_is)
  (case fd_NoPaper_number=>k_is)
