import PyProof.Rows.All
import Wide.All
import OpenK.AllK
import Wide.FinOn
import Lean
import PyProof.EqAt
import PyProof.EqKinds
import PyProof.TupleCall
import KE.KTryMore
import KE.KRevIter
import PyProof.CollectIter
import PyProof.P3Eq
import PyProof.MinMaxWalk
import PyProof.StrCalls2
import PyProof.FactsAll.set_2
import PyProof.P3Statements
import PySem.Challenge.RW_oddjoins_k73_turns_of_any_thing
set_option Elab.async false
set_option linter.all false
set_option maxRecDepth 100000
set_option maxHeartbeats 8000000
namespace L2
open PySem PySem.Spec PyProof.Rows
abbrev Key:=Sum Int Str
def keyIs:Key->Value->Bool
 | .inl k,v=>Value.isInt k v
 | .inr x,v=>Value.isStrOf x v
def keyH (w:World):Key->Int
 | .inl k=>hashInt k
 | .inr x=>hashStr w x
theorem keyIs_shape:∀ {k:Key} {v:Value},keyIs k v=true->(∃ i t,k=Sum.inl i/\v=Value.int i t)\/(∃ x t,k=Sum.inr x/\v=Value.str x t)
 | .inl i,v,h=>by
  obtain ⟨t,e⟩:=Value.isInt_shape (k:=i) (v:=v) h
  exact .inl ⟨i,t,rfl,e⟩
 | .inr x,v,h=>by
  obtain ⟨t,e⟩:=Value.isStrOf_shape (x:=x) (v:=v) h
  exact .inr ⟨x,t,rfl,e⟩
theorem keyIs_int (i:Int) (t:Tok):keyIs (.inl i) (.int i t)=true:=by simp [keyIs,Value.isInt]
theorem keyIs_str (x:Str) (t:Tok):keyIs (.inr x) (.str x t)=true:=by simp [keyIs,Value.isStrOf]
theorem key_ll (a b:Int):decide ((Sum.inl a:Key)=Sum.inl b)=(a == b):=by
 by_cases e:a=b
 ·subst e; simp
 ·have h:¬ (Sum.inl a:Key)=Sum.inl b:=fun q=>e (Sum.inl.inj q)
  rw [decide_eq_false h]
  exact (beq_eq_false_iff_ne.mpr e).symm
theorem key_rr (a b:Str):decide ((Sum.inr a:Key)=Sum.inr b)=decide (a=b):=by
 by_cases e:a=b
 ·subst e; simp
 ·have h:¬ (Sum.inr a:Key)=Sum.inr b:=fun q=>e (Sum.inr.inj q)
  rw [decide_eq_false h,decide_eq_false e]
theorem key_lr (a:Int) (b:Str):decide ((Sum.inl a:Key)=Sum.inr b)=false:=decide_eq_false (fun q=>nomatch q)
theorem key_rl (a:Str) (b:Int):decide ((Sum.inr a:Key)=Sum.inl b)=false:=decide_eq_false (fun q=>nomatch q)
def mixKind (prog:Program) (w:World):PySem.KeyKind prog w Key where
 is:=keyIs
 hash:=keyH w
 inj:=fun v a b ha hb=>by
  rcases keyIs_shape ha with ⟨i,t,rfl,rfl⟩ | ⟨x,t,rfl,rfl⟩
  ·rcases keyIs_shape hb with ⟨j,u,rfl,e⟩ | ⟨y,u,rfl,e⟩
   ·injection e with e1 _; rw [e1]
   ·exact nomatch e
  ·rcases keyIs_shape hb with ⟨j,u,rfl,e⟩ | ⟨y,u,rfl,e⟩
   ·exact nomatch e
   ·injection e with e1 _; rw [e1]
 byValue:=fun k v h=>by
  rcases keyIs_shape h with ⟨i,t,rfl,rfl⟩ | ⟨x,t,rfl,rfl⟩ <;> rfl
 pyHash:=fun hv h=>by
  rcases keyIs_shape hv with ⟨i,t,rfl,rfl⟩ | ⟨x,t,rfl,rfl⟩
  ·exact wpAny_pyHash_int h
  ·exact wpAny_pyHash_str h
 eqBool:=fun hu hv h=>by
  rcases keyIs_shape hu with ⟨i,t,rfl,rfl⟩ | ⟨x,t,rfl,rfl⟩
  ·rcases keyIs_shape hv with ⟨j,u,rfl,rfl⟩ | ⟨y,u,rfl,rfl⟩
   ·rw [key_ll] at h; exact wpAny_eqBool_int h
   ·rw [key_lr] at h; exact SeqAt.EqAt.int_str i t y u _ _ _ _ h
  ·rcases keyIs_shape hv with ⟨j,u,rfl,rfl⟩ | ⟨y,u,rfl,rfl⟩
   ·rw [key_rl] at h; exact SeqAt.EqAt.str_int x t j u _ _ _ _ h
   ·rw [key_rr] at h; exact wpAny_eqBool_str h
 «strs»:=fun k x t v h=>by
  rcases keyIs_shape h with ⟨i,u,rfl,e⟩ | ⟨y,u,rfl,e⟩
  ·exact nomatch e
  ·injection e with e1 _
   subst e1
   cases v <;> rfl
theorem mixKind_int (prog:Program) (w:World) (i:Int) (t:Tok):(mixKind prog w).is (.inl i) (.int i t)=true:=keyIs_int i t
theorem mixKind_str (prog:Program) (w:World) (x:Str) (t:Tok):(mixKind prog w).is (.inr x) (.str x t)=true:=keyIs_str x t
inductive V where
 | non | bl (b:Bool) | int (i:Int) | str (x:Str) | byt (b:Array UInt8) | flt (b:UInt64) | ref (a:Addr) | ty (n:String)
 deriving DecidableEq
def RelV:V->Value->Prop
 | .non,u=>u=Value.none
 | .bl b,u=>u=Value.bool b
 | .int i,u=>∃ t,u=Value.int i t
 | .str x,u=>∃ t,u=Value.str x t
 | .byt b,u=>∃ t,u=Value.bytes b t
 | .flt b,u=>∃ t,u=Value.float b t
 | .ref a,u=>u=Value.ref a
 | .ty n,u=>u=Value.type n
abbrev Vals:List V->List Value->Prop:=Paired RelV
theorem Vals.length {xs:List V} {us:List Value} (r:Vals xs us):xs.length=us.length:=Paired.length r
theorem Vals.get:∀ {xs:List V} {us:List Value} {i:Nat} {x:V},Vals xs us->xs[i]? = some x->∃ u,us[i]? = some u/\RelV x u
 | _,_,_,_,.nil,e=>by simp at e
 | _,_,0,_,.cons r _,e=>by simp at e; subst e; exact ⟨_,rfl,r⟩
 | _,_,i + 1,x,.cons _ t,e=>by
  obtain ⟨u,h1,h2⟩:=Vals.get (i:=i) (x:=x) t (by simpa using e)
  exact ⟨u,by simpa using h1,h2⟩
theorem Vals.set {x:V} {u:Value} (r:RelV x u):∀ {xs:List V} {us:List Value} (i:Nat),Vals xs us->Vals (xs.set i x) (us.set i u)
 | _,_,_,.nil=>.nil
 | _,_,0,.cons _ t=>.cons r t
 | _,_,i + 1,.cons q t=>.cons q (Vals.set r i t)
theorem Vals.append:∀ {xs ys:List V} {us ws:List Value},Vals xs us->Vals ys ws->Vals (xs++ys) (us++ws)
 | _,_,_,_,.nil,s=>s
 | _,_,_,_,.cons r t,s=>.cons r (Vals.append t s)
theorem Vals.take:∀ {xs:List V} {us:List Value} (n:Nat),Vals xs us->Vals (xs.take n) (us.take n)
 | _,_,0,_=>.nil
 | _,_,_ + 1,.nil=>.nil
 | _,_,n + 1,.cons r t=>.cons r (Vals.take n t)
theorem Vals.drop:∀ {xs:List V} {us:List Value} (n:Nat),Vals xs us->Vals (xs.drop n) (us.drop n)
 | _,_,0,r=>r
 | _,_,_ + 1,.nil=>.nil
 | _,_,n + 1,.cons _ t=>Vals.drop n t
def RelO:Option V->Option Value->Prop
 | some v,some u=>RelV v u
 | none,none=>True
 | _,_=>False
def KV {κ:Type}:List (κ × V)->List (κ × Value)->Prop:=Paired fun (p:κ × V) (q:κ × Value)=>p.1=q.1/\RelV p.2 q.2
def kV:Key->V
 | .inl i=>.int i
 | .inr x=>.str x
inductive HO where
 | lst (xs:List V)
 | tup (xs:List V)
 | dK (kvs:List (Key × V)) | dT (kvs:List (List Key × V))
 | set (S:Int->Bool) (n:Nat)
 | ins (C dx:Addr) (fs:List (Str × V))
 | own (x:Addr)
 | xd (fs:List (Str × V))
 | met (f x:Addr)
 | rng (lo hi:Int)
 | frz (o:Obj) (u:HO)
 | tbl (ps:Array Value)
 | ext (φ:Heap->Prop)
abbrev Hp:=Addr->Option HO
def upd (H:Hp) (a:Addr) (o:HO):Hp:=fun b=>if b=a then some o else H b
theorem upd_same {H:Hp} {a:Addr} {o:HO}:upd H a o a=some o:=by unfold upd; rw [if_pos rfl]
theorem upd_ne {H:Hp} {a b:Addr} {o:HO} (h:b≠a):upd H a o b=H b:=by unfold upd; rw [if_neg h]
theorem ne_of {H:Hp} {a b:Addr} {o u:HO} (h:H a=some o) (h':H b=some u) (d:o≠u):a≠b:=by
 intro e; subst e; rw [h] at h'; exact d (Option.some.inj h')
theorem ne_of_none {H:Hp} {a b:Addr} {o:HO} (h:H a=some o) (h':H b=none):a≠b:=by
 intro e; subst e; rw [h] at h'; cases h'
section
variable (P:Program) (w:World)
def TupN (h:Heap) (a:Addr) (items:Array Value):Prop:=∃ o,h.get? a=some o/\o.cls=.type "tuple" /\ ∃ n,o.data=.seq items n/\o.dict=none
omit P w in
theorem TupN.tup {h:Heap} {a:Addr} {items:Array Value} (p:TupN h a items):IsTup h a items:=let ⟨o,e,c,n,d,_⟩:=p; ⟨o,e,c,n,d⟩
omit P w in
theorem TupN.new (h:Heap) (items:Array Value):TupN (h.push { cls:=.type "tuple",data:=.seq items }) h.objs.size items:=⟨_,Heap.get?_push_size _ rfl,rfl,_,rfl,rfl⟩
def ObjOk (H:Hp) (h:Heap) (a:Addr):HO->Prop
 | .lst xs=>xs.length<=sizeLine/\∃ (its:List Value) (n:Nat),Vals xs its/\h.get? a=some { cls:=.type "list",data:=.seq its.toArray n }
 | .tup xs=>xs.length<=sizeLine/\∃ its:List Value,Vals xs its/\TupN h a its.toArray
 | .dK kvs=>kvs.length<=sizeLine/\(a == sysModules)=false/\∃ vs,KV kvs vs/\h.DictOf (mixKind P w) a vs
 | .dT kvs=>kvs.length<=sizeLine/\(a == sysModules)=false/\∃ xs:List (List Key × Addr × Value),
   Paired (fun (p:List Key × V) (q:List Key × Addr × Value)=>p.1=q.1/\H q.2.1=some (.tup (p.1.map kV))/\RelV p.2 q.2.2) kvs xs /\
   ∃ o es ep,h.get? a=some o/\o.ExactDict/\o.data=.dict es ep/\es.toList=xs.map (entryOfKey (tupleKind (mixKind P w)))/\(xs.map (·.1)).Nodup
 | .set S n=>h.SetOf (intKind P w) a S n
 | .ins C dx fs=>H dx=some (.own a)/\fs.length<=1000/\dx≠a/\h.get? a=some (W.instObj C dx) /\
   ∃ mA,h.Ns1 dx mA/\(∀ f,RelO (fs.lookup f) (mA f))/\PySem.Within mA (fs.map (·.1))
 | .own _=>∃ o,h.get? a=some o
 | .xd fs=>∃ mA,h.Ns1 a mA/\∀ f,RelO (fs.lookup f) (mA f)
 | .rng lo hi=>∃ t u v,h.get? a=some { cls:=.type "range",data:=.fields #[.int lo t,.int hi u,.int 1 v] }
 | .frz o u=>h.get? a=some o/\ObjOk H h a u
 | .tbl ps=>h.get? a=some { cls:=.none,data:=.fields ps }
 | .met f x=>h.get? a=some (W.methodObj (.ref f) (.ref x))
 | .ext φ=>φ h/\(∃ o,h.get? a=some o)/\∀ h1 h2:Heap,φ h1->(∀ o,h1.get? a=some o->h2.get? a=some o)->φ h2
def HOk (H:Hp) (h:Heap):Prop:=∀ a o,H a=some o->ObjOk P w H h a o
end
section
variable {P:Program} {w:World} {H H':Hp} {h h':Heap} {a:Addr} {o:HO}
theorem ObjOk.lt (x:ObjOk P w H h a o):a < h.objs.size:=by
 cases o with
 | lst xs=>obtain ⟨_,_,_,_,e⟩:=x; exact Heap.lt_size e
 | tup xs=>obtain ⟨_,_,_,p⟩:=x; exact p.tup.lt
 | dK kvs=>obtain ⟨_,_,_,_,o,_,_,e,_⟩:=x; exact Heap.lt_size e
 | dT kvs=>obtain ⟨_,_,_,_,o,_,_,e,_⟩:=x; exact Heap.lt_size e
 | set S n=>obtain ⟨o,_,_,_,e,_⟩:=x; exact Heap.lt_size e
 | ins C dx fs=>obtain ⟨_,_,_,e,_⟩:=x; exact Heap.lt_size e
 | own y=>obtain ⟨_,e⟩:=x; exact Heap.lt_size e
 | xd fs=>obtain ⟨_,⟨_,_,_,e,_⟩,_⟩:=x; exact Heap.lt_size e
 | rng lo hi=>obtain ⟨_,_,_,e⟩:=x; exact Heap.lt_size e
 | frz ob u=>obtain ⟨e,_⟩:=x; exact Heap.lt_size e
 | tbl ps=>exact Heap.lt_size (show h.get? a=some _ from x)
 | met f y=>exact Heap.lt_size (show h.get? a=some _ from x)
 | ext φ=>obtain ⟨_,⟨_,e⟩,_⟩:=x; exact Heap.lt_size e
theorem Paired.mapP {α β:Type} {F G:α->β->Prop}:∀ {l₁:List α} {l₂:List β},Paired F l₁ l₂->(∀ a b,F a b->G a b)->Paired G l₁ l₂
 | _,_,.nil,_=>.nil
 | _,_,.cons r t,f=>.cons (f _ _ r) (Paired.mapP t f)
theorem ObjOk.stay (x:ObjOk P w H h a o) (k:∀ b u,(b=a\/H b=some (.own a))->h.get? b=some u->h'.get? b=some u)
  (ho:∀ b,H b=some (.own a)->H' b=some (.own a)) (ht:∀ b xs,H b=some (.tup xs)->H' b=some (.tup xs)):ObjOk P w H' h' a o:=by
 induction o with
 | lst xs=>obtain ⟨z,its,n,r,e⟩:=x; exact ⟨z,its,n,r,k _ _ (.inl rfl) e⟩
 | tup xs=>obtain ⟨z,its,r,ob,e,c⟩:=x; exact ⟨z,its,r,ob,k _ _ (.inl rfl) e,c⟩
 | dK kvs=>obtain ⟨z,y,vs,r,ob,es,ep,e,c⟩:=x; exact ⟨z,y,vs,r,ob,es,ep,k _ _ (.inl rfl) e,c⟩
 | dT kvs =>
  obtain ⟨z,y,xs,r,ob,es,ep,e,c⟩:=x
  exact ⟨z,y,xs,Paired.mapP r fun p q z=>⟨z.1,ht _ _ z.2.1,z.2.2⟩,ob,es,ep,k _ _ (.inl rfl) e,c⟩
 | set S n=>obtain ⟨ob,es,ep,t,e,c⟩:=x; exact ⟨ob,es,ep,t,k _ _ (.inl rfl) e,c⟩
 | ins C dx fs =>
  obtain ⟨d,z,ne,e,mA,⟨od,es,ep,e2,c⟩,r⟩:=x
  exact ⟨ho _ d,z,ne,k _ _ (.inl rfl) e,mA,⟨od,es,ep,k _ _ (.inr d) e2,c⟩,r⟩
 | own y=>obtain ⟨ob,e⟩:=x; exact ⟨ob,k _ _ (.inl rfl) e⟩
 | xd fs=>obtain ⟨mA,⟨od,es,ep,e,c⟩,r⟩:=x; exact ⟨mA,⟨od,es,ep,k _ _ (.inl rfl) e,c⟩,r⟩
 | rng lo hi=>obtain ⟨t,u,v,e⟩:=x; exact ⟨t,u,v,k _ _ (.inl rfl) e⟩
 | frz ob u ih=>obtain ⟨e,q⟩:=x; exact ⟨k _ _ (.inl rfl) e,ih q⟩
 | tbl ps =>
  have e:h.get? a=some { cls:=.none,data:=.fields ps }:=x
  show h'.get? a=some { cls:=.none,data:=.fields ps }
  exact k a _ (.inl rfl) e
 | met f y =>
  have e:h.get? a=some (W.methodObj (.ref f) (.ref y)):=x
  show h'.get? a=some (W.methodObj (.ref f) (.ref y))
  exact k a _ (.inl rfl) e
 | ext φ=>obtain ⟨p,⟨o,e⟩,st⟩:=x; exact ⟨st _ _ p fun o q=>k _ _ (.inl rfl) q,⟨o,k _ _ (.inl rfl) e⟩,st⟩
theorem HOk.lt (x:HOk P w H h) (e:H a=some o):a < h.objs.size:=(x a o e).lt
theorem HOk.fresh (x:HOk P w H h) (e:h.objs.size<=a):H a=none:=by
 cases q:H a with
 | none=>rfl
 | some u=>exact absurd (Nat.lt_of_lt_of_le (x.lt q) e) (Nat.lt_irrefl _)
theorem HOk.kept (x:HOk P w H h) (k:∀ b u,h.get? b=some u->h'.get? b=some u):HOk P w H h':=fun a o e =>
 (x a o e).stay (fun b u _ q=>k b u q) (fun _ q=>q) fun _ _ q=>q
theorem HOk.laid (x:HOk P w H h) (k:∀ b u,h.get? b=some u->h'.get? b=some u) (hp:h.objs.size<=a) (new:ObjOk P w (upd H a o) h' a o):HOk P w (upd H a o) h':=fun b u e=>by
 have hn:=x.fresh hp
 by_cases hb:b=a
 ·subst hb; rw [upd_same] at e; cases e; exact new
 ·rw [upd_ne hb] at e
  exact (x b u e).stay (fun c v _ q=>k c v q) (fun c q=>by rw [upd_ne (ne_of_none q hn)]; exact q) fun c xs q=>by rw [upd_ne (ne_of_none q hn)]; exact q
end
def Rd (H:Hp) (a:Addr) (u:HO):Prop:=H a=some u\/∃ o,H a=some (.frz o u)
theorem Rd.of {H:Hp} {a:Addr} {u:HO} (h:H a=some u):Rd H a u:=.inl h
theorem Rd.ok {P:Program} {w:World} {H:Hp} {h:Heap} {a:Addr} {u:HO} (r:Rd H a u) (x:HOk P w H h):ObjOk P w H h a u:=by
 rcases r with r | ⟨o,r⟩
 ·exact x a u r
 ·obtain ⟨_,q⟩:=x a _ r
  exact q
def Mut:Option HO->Prop
 | some (.lst _)=>True
 | some (.dK _)=>True
 | some (.dT _)=>True
 | some (.set _ _)=>True
 | some (.ins _ _ _)=>True
 | some (.ext _)=>True
 | _=>False
section
variable {P:Program} {w:World} {H:Hp} {h h':Heap} {x e:Addr} {o':HO}
theorem HOk.write (ok:HOk P w H h) (mu:Mut (H x)) (he:e=x\/H e=some (.own x)) (k:∀ b u,b≠e->h.get? b=some u->h'.get? b=some u) (heo:∃ u,h'.get? e=some u)
  (new:ObjOk P w (upd H x o') h' x o'):HOk P w (upd H x o') h':=fun b u q=>by
 have nown:∀ c y,H c=some (.own y)->c≠x:=fun c y r z=>by subst z; rw [r] at mu; exact mu
 have ntup:∀ c xs,H c=some (.tup xs)->c≠x:=fun c xs r z=>by subst z; rw [r] at mu; exact mu
 by_cases hb:b=x
 ·subst hb; rw [upd_same] at q; cases q; exact new
 ·rw [upd_ne hb] at q
  by_cases hbe:b=e
  ·have q':H b=some (.own x):=by
    rcases he with z | z
    ·exact absurd (hbe.trans z) hb
    ·rw [hbe]; exact z
   rw [q] at q'; cases q'
   obtain ⟨v,hv⟩:=heo
   exact ⟨v,by rw [hbe]; exact hv⟩
  ·refine (ok b u q).stay (fun c v hc r=>k c v ?_ r) (fun c r=>by rw [upd_ne (nown c b r)]; exact r) fun c xs r=>by rw [upd_ne (ntup c xs r)]; exact r
   rcases hc with rfl | hc
   ·exact hbe
   ·rintro rfl
    rcases he with z | z
    ·exact nown c b hc z
    ·rw [hc] at z; cases z; exact hb rfl
end
structure Un (fs ex:List Addr) (H H':Hp) (h h':Heap):Prop where
 keep:∀ b o,h.get? b=some o->H b=none->b ∉ fs->b ∉ ex->h'.get? b=some o
 slot:∀ b o,h.get? b=some o->H b=none->b∈fs->b ∉ ex->∃ sl,h'.get? b=some { o with slots:=sl }
 free:∀ b o,h.get? b=some o->H b=none->b ∉ ex->H' b=none
 there:∀ b o,h.get? b=some o->b ∉ ex->∃ o',h'.get? b=some o'
 tups:∀ b xs,H b=some (.tup xs)->H' b=some (.tup xs)
 frzs:∀ b o u,H b=some (.frz o u)->H' b=some (.frz o u)
 tbls:∀ b ps,H b=some (.tbl ps)->∃ more,H' b=some (.tbl (ps++more))
section
variable {fs fs' ex ex':List Addr} {H H1 H2:Hp} {h h1 h2 h':Heap} {a x e:Addr} {o:HO}
theorem Un.any (u:Un fs ex H H1 h h1) {b:Addr} {ob:Obj} (q:h.get? b=some ob) (n:H b=none) (hx:b ∉ ex):∃ sl,h1.get? b=some { ob with slots:=sl }:=by
 by_cases hb:b∈fs
 ·exact u.slot b ob q n hb hx
 ·exact ⟨ob.slots,u.keep b ob q n hb hx⟩
theorem Un.trans (a:Un fs ex H H1 h h1) (b:Un fs ex H1 H2 h1 h2):Un fs ex H H2 h h2 where
 keep:=fun c ob q n hc hx=>b.keep c ob (a.keep c ob q n hc hx) (a.free c ob q n hx) hc hx
 slot:=fun c ob q n hc hx=>by
  obtain ⟨sl,e1⟩:=a.slot c ob q n hc hx
  obtain ⟨sl',e2⟩:=b.slot c _ e1 (a.free c ob q n hx) hc hx
  exact ⟨sl',e2⟩
 free:=fun c ob q n hx=>by
  obtain ⟨o',e1⟩:=a.there c ob q hx
  exact b.free c o' e1 (a.free c ob q n hx) hx
 there:=fun c ob q hx=>by
  obtain ⟨o',e1⟩:=a.there c ob q hx
  exact b.there c o' e1 hx
 tups:=fun c xs q=>b.tups c xs (a.tups c xs q)
 frzs:=fun c ob xs q=>b.frzs c ob xs (a.frzs c ob xs q)
 tbls:=fun c ps q=>by
  obtain ⟨m1,e1⟩:=a.tbls c ps q
  obtain ⟨m2,e2⟩:=b.tbls c _ e1
  exact ⟨m1++m2,by rw [e2,Array.append_assoc]⟩
theorem Un.kept (k:∀ b u,h.get? b=some u->h'.get? b=some u):Un fs ex H H h h' :=
 ⟨fun b ob q _ _ _=>k b ob q,fun b ob q _ _ _=>⟨ob.slots,k b ob q⟩,fun _ _ _ n _=>n,fun b ob q _=>⟨ob,k b ob q⟩,fun _ _ q=>q,fun _ _ _ q=>q,fun _ ps q=>⟨#[],by rw [q]; simp⟩⟩
theorem Un.refl:Un fs ex H H h h:=Un.kept fun _ _ q=>q
theorem Un.laid (k:∀ b u,h.get? b=some u->h'.get? b=some u) (hp:h.objs.size<=a) (hn:H a=none):Un fs ex H (upd H a o) h h' where
 keep:=fun b u q _ _ _=>k b u q
 slot:=fun b u q _ _ _=>⟨u.slots,k b u q⟩
 free:=fun b u q n _=>by rw [upd_ne (Nat.ne_of_lt (Nat.lt_of_lt_of_le (Heap.lt_size q) hp))]; exact n
 there:=fun b u q _=>⟨u,k b u q⟩
 tups:=fun b xs q=>by rw [upd_ne (ne_of_none q hn)]; exact q
 frzs:=fun b u xs q=>by rw [upd_ne (ne_of_none q hn)]; exact q
 tbls:=fun b ps q=>⟨#[],by rw [upd_ne (ne_of_none q hn),q]; simp⟩
theorem Un.write (mu:Mut (H x)) (he:e=x\/H e=some (.own x)) (k:∀ b u,b≠e->h.get? b=some u->h'.get? b=some u) (heo:∃ u,h'.get? e=some u):Un fs ex H (upd H x o) h h':=by
 have hx:∀ b,H b=none->b≠x:=fun b n z=>by subst z; rw [n] at mu; exact mu
 have hb:∀ b,H b=none->b≠e:=fun b n z=>by
  subst z
  rcases he with r | r
  ·exact hx b n r
  ·rw [n] at r; cases r
 have hm:∀ b u,H b=some u->¬ Mut (some u)->b≠x:=fun b u q nm z=>by subst z; rw [q] at mu; exact nm mu
 refine ⟨fun b u q n _ _=>k b u (hb b n) q,fun b u q n _ _=>⟨u.slots,k b u (hb b n) q⟩,fun b u q n _=>by rw [upd_ne (hx b n)]; exact n,fun b u q _=>?_,
  fun b xs q=>by rw [upd_ne (hm b _ q fun z=>z)]; exact q,fun b u xs q=>by rw [upd_ne (hm b _ q fun z=>z)]; exact q,fun b ps q=>⟨#[],by rw [upd_ne (hm b _ q fun z=>z),q]; simp⟩⟩
 by_cases hbe:b=e
 ·subst hbe; exact heo
 ·exact ⟨u,k b u hbe q⟩
theorem Un.mono (u:Un fs ex H H1 h h1) (hs:∀ b∈fs,b∈fs') (hx:∀ b∈ex,b∈ex'):Un fs' ex' H H1 h h1 :=
 ⟨fun b ob q n hb he=>u.keep b ob q n (fun z=>hb (hs b z)) fun z=>he (hx b z),fun _ _ q n _ he=>u.any q n fun z=>he (hx _ z),fun b ob q n he=>u.free b ob q n fun z=>he (hx b z),fun b ob q he=>u.there b ob q fun z=>he (hx b z),u.tups,u.frzs,u.tbls⟩
end
def trk (h:Heap) (H:Hp):List Addr:=(List.range h.objs.size).filter fun a=>(H a).isSome
def hidT (h:Heap) (H:Hp):Heap:=W.hideAll h (trk h H)
theorem hidT_size (h:Heap) (H:Hp):(hidT h H).objs.size=h.objs.size:=W.hideAll_size _ _
theorem hidT_get {h:Heap} {H:Hp} {b:Addr} {o:Obj} (e:h.get? b=some o) (n:H b=none):(hidT h H).get? b=some o :=
 W.hideAll_get _ e fun hm=>by
  have q:(H b).isSome=true:=(List.mem_filter.mp hm).2
  rw [n] at q; simp at q
theorem of_hidT {h:Heap} {H:Hp} {b:Addr} {o:Obj} (e:(hidT h H).get? b=some o):h.get? b=some o/\H b=none:=by
 have e':h.get? b=some o:=W.of_hideAll (trk h H) e
 refine ⟨e',?_⟩
 cases q:H b with
 | none=>rfl
 | some x =>
  have hm:b∈trk h H:=List.mem_filter.mpr ⟨List.mem_range.mpr (Heap.lt_size e'),by simp [q]⟩
  have z:(hidT h H).get? b=none:=W.hideAll_none (trk h H) hm
  rw [z] at e; cases e
def allNews (g h:Heap) (L:Addr):List (Addr × Obj):=(List.range h.objs.size).filterMap fun a=>if a=L\/(g.get? a).isSome=true then none else (h.get? a).map fun o=>(a,o)
def rest (g h:Heap) (L d:Addr):List (Addr × Obj):=(allNews g h L).filter fun p=>decide (p.1≠d)
structure Mod (K:W.Frag) (mg:Str->Option Value) (base:Heap):Prop where
 kin:K.In base
 glob:base.Ns mainGlobals mg
 blt:∃ mb,base.Ns builtinsNs mb/\∀ x:Str,x ≠ "__name__" -> mb x=bootBuiltins x
 nolimit:base.NoLimit
structure Cx where
 prog:Program
 w:World
 K:W.Frag
 mg:Str->Option Value
 base:Heap
 A:Around
 N:List Str
 s₀:Shared
 H₀:Hp
 env:Env
 outer:List Env
 stack:List Env
 ex:List Addr
 fn:Str->Bool
 calm:Bool
 pn:List (Addr × Obj)
 xe:Value->Shared->Prop
def frs (l:List Env):List Addr:=l.filterMap (·.frame)
abbrev Cx.fs (X:Cx):List Addr:=frs X.outer
def Vis (sc:Scope) (x:Str):Prop:=sc.names.lookup x=some .local\/sc.names.lookup x=some .cell\/sc.names.lookup x=some .free
def Loc (sc:Scope) (x:Str):Prop:=sc.names.lookup x=some .local\/sc.names.lookup x=some .cell
def Look (env:Env) (h:Heap) (m:Str->Option Value) (x:Str) (u:Value):Prop :=
 (env.kindOf x=some .local/\m x=some u)\/((env.kindOf x=some .cell\/env.kindOf x=some .free)/\∃ c,env.cells.lookup x=some c/\h.IsCell c (some u))
structure Cx.Ok (X:Cx):Prop where
 mod:Mod X.K X.mg X.base
 kind:X.env.scope.kind=.function
 glob:X.env.globals=mainGlobals
 blt:X.env.builtins=builtinsNs
 above:X.s₀.heap.objs.size<=X.env.locals
 inj:∀ x y c,X.env.cells.lookup x=some c->X.env.cells.lookup y=some c->x=y
 has:∀ x,(X.env.kindOf x=some .cell\/X.env.kindOf x=some .free)->∃ c,X.env.cells.lookup x=some c
 cab:∀ x c,X.fn x=true->X.env.cells.lookup x=some c->X.s₀.heap.objs.size<=c
 hd:X.calm=true->X.A.handled=none
 frames:X.A.frames=some X.stack
 stk:X.stack=X.outer\/(X.stack=X.env::X.outer/\X.env.frame=some X.env.locals)
 exf:∀ b∈X.ex,b≠X.env.locals/\∀ x c,X.env.cells.lookup x=some c->c≠b
 bs:∀ b o,X.base.get? b=some o->X.s₀.heap.get? b=some o/\X.H₀ b=none
 bsz:X.base.objs.size<=X.s₀.heap.objs.size
 noex:∀ b o,X.base.get? b=some o->b ∉ X.ex
 exfs:∀ b∈X.ex,b ∉ X.fs
 funs:X.s₀.heap.FunFrames X.base X.outer
 frf:∀ b∈X.fs,X.H₀ b=none
structure Inv (X:Cx) (pins:List (Addr × Obj)) (σ:List (Option V)) (H:Hp) (s:Shared):Prop where
 ok:X.Ok
 os:s.os=X.s₀.os
 bare:AllBare s.gens
 base:Un X.fs X.ex X.H₀ H X.s₀.heap s.heap
 loc:∃ m,s.heap.Ns X.env.locals m/\∀ (i:Nat) (x:Str) (v:V),X.N[i]? = some x->σ[i]? = some (some v)->Vis X.env.scope x->∃ u,RelV v u/\Look X.env s.heap m x u
 cell:∀ x c,X.env.cells.lookup x=some c->∃ v,s.heap.IsCell c v
 free:H X.env.locals=none
 freeC:∀ x c,X.env.cells.lookup x=some c->H c=none
 pin:∀ p∈X.pn++pins,s.heap.get? p.1=some p.2/\H p.1=none/\p.1≠X.env.locals/\p.1 ∉ X.fs/\∀ v,p.2.data≠.cell v
 hok:HOk X.prog X.w H s.heap
 len:σ.length=X.N.length
section
variable {X:Cx} {pins:List (Addr × Obj)} {σ:List (Option V)} {H H':Hp} {s:Shared} {h':Heap}
theorem Cx.Ok.nofr (ok:X.Ok) {b:Addr} {o:Obj} (e:X.base.get? b=some o):b ∉ X.fs:=fun hb=>by
 have:=(ok.funs.mem hb).1
 rw [e] at this; cases this
theorem Inv.bs (I:Inv X pins σ H s):∀ b o,X.base.get? b=some o->s.heap.get? b=some o/\H b=none:=fun b o e =>
 ⟨I.base.keep b o (I.ok.bs b o e).1 (I.ok.bs b o e).2 (I.ok.nofr e) (I.ok.noex b o e),I.base.free b o (I.ok.bs b o e).1 (I.ok.bs b o e).2 (I.ok.noex b o e)⟩
theorem Inv.bk (I:Inv X pins σ H s):∀ b o,X.base.get? b=some o->s.heap.get? b=some o:=fun b o e=>(I.bs b o e).1
theorem Inv.mod (I:Inv X pins σ H s):Mod X.K X.mg X.base:=I.ok.mod
theorem Inv.kIn (I:Inv X pins σ H s):X.K.In s.heap:=I.ok.mod.kin.keeps I.bk
theorem Inv.nolimit (I:Inv X pins σ H s):s.heap.NoLimit:=I.ok.mod.nolimit.keeps I.bk
theorem Inv.lt (I:Inv X pins σ H s):X.env.locals < s.heap.objs.size:=let ⟨_,hn,_⟩:=I.loc; hn.lt
theorem Inv.sz (I:Inv X pins σ H s):X.s₀.heap.objs.size<=s.heap.objs.size:=Nat.le_trans I.ok.above (Nat.le_of_lt I.lt)
theorem Inv.nofs (I:Inv X pins σ H s) {a:Addr} (h:s.heap.objs.size<=a):a ∉ X.fs:=fun hb=>by
 obtain ⟨_,o,ho,_⟩:=I.ok.funs.mem hb
 exact absurd (Nat.lt_of_lt_of_le (Heap.lt_size ho) (Nat.le_trans I.sz h)) (Nat.lt_irrefl _)
theorem Inv.cne (I:Inv X pins σ H s):∀ x c,X.env.cells.lookup x=some c->c≠X.env.locals:=fun x c e z=>by
 obtain ⟨v,o,ho,hd⟩:=I.cell x c e
 obtain ⟨m,⟨o',es,ep,ho',hd',_⟩,_⟩:=I.loc
 rw [z,ho'] at ho; cases ho; rw [hd'] at hd; cases hd
theorem Inv.funs (I:Inv X pins σ H s):s.heap.FunFrames X.base X.outer:=by
 have all:∀ (l:List Env),(∀ b∈frs l,b∈X.fs)->X.s₀.heap.FunFrames X.base l->s.heap.FunFrames X.base l:=by
  intro l
  induction l with
  | nil=>intro _ _; trivial
  | cons env r ih =>
   intro hs hl
   obtain ⟨hk,⟨L,o,hf,hn,ho,hd⟩,hr⟩:=hl
   have hL:L∈X.fs:=hs L (by unfold frs; rw [List.filterMap_cons,hf]; exact List.mem_cons_self)
   obtain ⟨sl,e⟩:=I.base.slot L o ho (I.ok.frf L hL) hL fun z=>I.ok.exfs L z hL
   exact ⟨hk,⟨L,_,hf,hn,e,hd⟩,ih (fun b hb=>hs b (by unfold frs; rw [List.filterMap_cons,hf]; exact List.mem_cons_of_mem _ hb)) hr⟩
 exact all X.outer (fun _ hb=>hb) I.ok.funs
theorem Inv.stack (I:Inv X pins σ H s):s.heap.FunFrames X.base X.stack:=by
 rcases I.ok.stk with e | ⟨e,hf⟩
 ·rw [e]; exact I.funs
 ·rw [e]
  obtain ⟨m,hn,_⟩:=I.loc
  refine .cons (by rw [I.ok.kind]; decide) hf hn ?_ I.funs
  exact Heap.get?_none_of_le (Nat.le_trans I.ok.bsz I.ok.above)
theorem Inv.stkSub (I:Inv X pins σ H s):∀ b∈frs X.stack,b∈X.env.locals::X.fs:=fun b hb=>by
 rcases I.ok.stk with e | ⟨e,hf⟩
 ·rw [e] at hb; exact List.mem_cons_of_mem _ hb
 ·rw [e] at hb
  unfold frs at hb
  rw [List.filterMap_cons,hf] at hb
  exact hb
theorem Inv.stkFree (I:Inv X pins σ H s):∀ b∈frs X.stack,H b=none:=fun b hb=>by
 rcases List.mem_cons.mp (I.stkSub b hb) with e | hb
 ·rw [e]; exact I.free
 ·obtain ⟨_,o,ho,_⟩:=I.ok.funs.mem hb
  exact I.base.free b o ho (I.ok.frf b hb) fun z=>I.ok.exfs b z hb
theorem Inv.step {g':Array GenState} {t':Nat} {d':Drawn} {ch:List Addr} (I:Inv X pins σ H s)
  (hch:∀ b∈ch,(b∈X.ex\/X.s₀.heap.objs.size<=b)/\b≠X.env.locals/\(∀ x c,X.env.cells.lookup x=some c->c≠b)/\∀ p∈X.pn++pins,p.1≠b)
  (keep:∀ b o,b≠X.env.locals->b ∉ X.fs->b ∉ ch->s.heap.get? b=some o->H b=none->h'.get? b=some o)
  (slot:∀ b o,b≠X.env.locals->b∈X.fs->b ∉ ch->s.heap.get? b=some o->H b=none->∃ sl,h'.get? b=some { o with slots:=sl }) (free:∀ b o,b ∉ ch->s.heap.get? b=some o->H b=none->H' b=none)
  (there:∀ b o,b ∉ ch->s.heap.get? b=some o->∃ o',h'.get? b=some o')
  (tups:∀ b xs,H b=some (.tup xs)->H' b=some (.tup xs)) (frzs:∀ b o u,H b=some (.frz o u)->H' b=some (.frz o u)) (tbls:∀ b ps,H b=some (.tbl ps)->∃ more,H' b=some (.tbl (ps++more)))
  (ns:∀ m,s.heap.Ns X.env.locals m->h'.Ns X.env.locals m) (hok:HOk X.prog X.w H' h') (hg:AllBare g') :
  Inv X pins σ H' { s with heap:=h',gens:=g',drawn:=d',toks:=t' }:=by
 have neL:∀ b o,X.s₀.heap.get? b=some o->b≠X.env.locals:=fun b o e=>Nat.ne_of_lt (Nat.lt_of_lt_of_le (Heap.lt_size e) I.ok.above)
 have neC:∀ b o,X.s₀.heap.get? b=some o->b ∉ X.ex->b ∉ ch:=fun b o e hx hb=>by
  rcases (hch b hb).1 with z | z
  ·exact hx z
  ·exact absurd (Nat.lt_of_lt_of_le (Heap.lt_size e) z) (Nat.lt_irrefl _)
 have cellK:∀ x c,X.env.cells.lookup x=some c->∀ v,s.heap.IsCell c v->h'.IsCell c v:=fun x c e v ⟨o,ho,hd⟩=>by
  have nch:c ∉ ch:=fun z=>(hch c z).2.2.1 x c e rfl
  by_cases hc:c∈X.fs
  ·obtain ⟨sl,q⟩:=slot c o (I.cne x c e) hc nch ho (I.freeC x c e)
   exact ⟨_,q,hd⟩
  ·exact ⟨o,keep c o (I.cne x c e) hc nch ho (I.freeC x c e),hd⟩
 refine ⟨I.ok,I.os,hg,⟨fun b o e n hb hx=>?_,fun b o e n hb hx=>?_,fun b o e n hx=>?_,fun b o e hx=>?_,fun b xs e=>tups b xs (I.base.tups b xs e),fun b o xs e=>frzs b o xs (I.base.frzs b o xs e),fun b ps e=>?_⟩,?_,fun x c e=>?_,?_,fun x c e=>?_,fun p hp=>?_,hok,I.len⟩
 ·exact keep b o (neL b o e) hb (neC b o e hx) (I.base.keep b o e n hb hx) (I.base.free b o e n hx)
 ·obtain ⟨sl,e1⟩:=I.base.slot b o e n hb hx
  obtain ⟨sl',e2⟩:=slot b _ (neL b o e) hb (neC b o e hx) e1 (I.base.free b o e n hx)
  exact ⟨sl',e2⟩
 ·obtain ⟨o',e1⟩:=I.base.there b o e hx
  exact free b o' (neC b o e hx) e1 (I.base.free b o e n hx)
 ·obtain ⟨o',e1⟩:=I.base.there b o e hx
  exact there b o' (neC b o e hx) e1
 ·obtain ⟨m1,e1⟩:=I.base.tbls b ps e
  obtain ⟨m2,e2⟩:=tbls b _ e1
  exact ⟨m1++m2,by rw [e2,Array.append_assoc]⟩
 ·obtain ⟨m,hn,hl⟩:=I.loc
  refine ⟨m,ns m hn,fun i x v e1 e2 e3=>?_⟩
  obtain ⟨u,r,l⟩:=hl i x v e1 e2 e3
  refine ⟨u,r,?_⟩
  rcases l with l | ⟨k,c,e,z⟩
  ·exact .inl l
  ·exact .inr ⟨k,c,e,cellK x c e _ z⟩
 ·obtain ⟨v,z⟩:=I.cell x c e
  exact ⟨v,cellK x c e v z⟩
 ·obtain ⟨m,⟨o,_,_,ho,_⟩,_⟩:=I.loc
  exact free _ o (fun z=>(hch _ z).2.1 rfl) ho I.free
 ·obtain ⟨v,o,ho,hd⟩:=I.cell x c e
  exact free c o (fun z=>(hch c z).2.2.1 x c e rfl) ho (I.freeC x c e)
 ·obtain ⟨e,n,ne,nf,d⟩:=I.pin p hp
  have nch:p.1 ∉ ch:=fun z=>(hch p.1 z).2.2.2 p hp rfl
  exact ⟨keep p.1 p.2 ne nf nch e n,free p.1 p.2 nch e n,ne,nf,d⟩
theorem Inv.un {t':Nat} (I:Inv X pins σ H s) (u:Un X.fs [] H H' s.heap h') (hok:HOk X.prog X.w H' h'):Inv X pins σ H' { s with heap:=h',toks:=t' }:=by
 obtain ⟨m,⟨o,es,ep,ho,r⟩,_⟩:=id I.loc
 obtain ⟨sl,hL⟩:=u.any ho I.free (by simp)
 exact I.step (g':=s.gens) (d':=s.drawn) (ch:=[]) (fun _ z=>nomatch z) (fun b o _ hb _ e n=>u.keep b o e n hb (by simp)) (fun b o _ hb _ e n=>u.slot b o e n hb (by simp)) (fun b o _ e n=>u.free b o e n (by simp)) (fun b o _ e=>u.there b o e (by simp)) u.tups u.frzs u.tbls (fun m' hm=>by
  obtain ⟨o',es',ep',ho',r'⟩:=hm
  rw [ho] at ho'; cases ho'
  exact ⟨_,es',ep',hL,r'⟩) hok I.bare
theorem Inv.call {g':Array GenState} {t':Nat} {d':Drawn} {ch:List Addr} (I:Inv X pins σ H s) (u:Un (frs X.stack) ch H H' s.heap h') (hok:HOk X.prog X.w H' h') (hg:AllBare g')
  (hch:∀ b∈ch,(b∈X.ex\/X.s₀.heap.objs.size<=b)/\b≠X.env.locals/\(∀ x c,X.env.cells.lookup x=some c->c≠b)/\∀ p∈X.pn++pins,p.1≠b) :
  Inv X pins σ H' { s with heap:=h',gens:=g',drawn:=d',toks:=t' }:=by
 obtain ⟨m,⟨o,es,ep,ho,r⟩,_⟩:=id I.loc
 obtain ⟨sl,hL⟩:=u.any ho I.free fun z=>(hch _ z).2.1 rfl
 exact I.step (ch:=ch) hch (fun b o hL hb hc e n=>u.keep b o e n (fun z=>(List.mem_cons.mp (I.stkSub b z)).elim hL hb) hc) (fun b o _ _ hc e n=>u.any e n hc) (fun b o hc e n=>u.free b o e n hc) (fun b o hc e=>u.there b o e hc) u.tups u.frzs u.tbls (fun m' hm=>by
  obtain ⟨o',es',ep',ho',r'⟩:=hm
  rw [ho] at ho'; cases ho'
  exact ⟨_,es',ep',hL,r'⟩) hok hg
theorem Inv.turned {t':Nat} {it:Addr} (I:Inv X pins σ H s) (k:∀ b o,b≠it->s.heap.get? b=some o->h'.get? b=some o) (hn:H it=none) (hL:it≠X.env.locals)
  (h1:it∈X.ex\/X.s₀.heap.objs.size<=it) (h2:∀ x c,X.env.cells.lookup x=some c->c≠it) (h3:∀ p∈X.pn++pins,p.1≠it):Inv X pins σ H { s with heap:=h',toks:=t' }:=by
 have nit:∀ b u,H b=some u->b≠it:=fun b u e z=>by rw [z,hn] at e; cases e
 refine I.step (g':=s.gens) (d':=s.drawn) (ch:=[it]) (fun b hb=>?_) (fun b o _ _ hc e _=>k b o (fun z=>hc (by simp [z])) e) (fun b o _ _ hc e _=>⟨o.slots,k b o (fun z=>hc (by simp [z])) e⟩) (fun _ _ _ _ n=>n)
  (fun b o hc e=>⟨o,k b o (fun z=>hc (by simp [z])) e⟩) (fun _ _ e=>e) (fun _ _ _ e=>e) (fun b ps e=>⟨#[],by rw [e]; simp⟩) (fun m hm=>?_) (fun b u e=>?_) I.bare
 ·have e:b=it:=by simpa using hb
  subst e
  exact ⟨h1,hL,h2,h3⟩
 ·obtain ⟨o,es,ep,ho,r⟩:=hm
  exact ⟨o,es,ep,k _ o (Ne.symm hL) ho,r⟩
 ·refine (I.hok b u e).stay (fun c v hc q=>k c v ?_ q) (fun _ q=>q) fun _ _ q=>q
  rcases hc with z | z
  ·rw [z]; exact nit b u e
  ·exact nit c _ z
theorem Inv.tok (I:Inv X pins σ H s) (t:Nat):Inv X pins σ H { s with toks:=t }:=I.un (h':=s.heap) (t':=t) Un.refl I.hok
theorem Inv.kept {t':Nat} (I:Inv X pins σ H s) (k:∀ b u,s.heap.get? b=some u->h'.get? b=some u):Inv X pins σ H { s with heap:=h',toks:=t' }:=I.un (Un.kept k) (I.hok.kept k)
theorem Inv.laid {a:Addr} {o:HO} {t':Nat} (I:Inv X pins σ H s) (k:∀ b u,s.heap.get? b=some u->h'.get? b=some u) (hp:s.heap.objs.size<=a) (new:ObjOk X.prog X.w (upd H a o) h' a o) :
  Inv X pins σ (upd H a o) { s with heap:=h',toks:=t' }:=I.un (Un.laid k hp (I.hok.fresh hp)) (I.hok.laid k hp new)
theorem Inv.write {x e:Addr} {o:HO} {t':Nat} (I:Inv X pins σ H s) (mu:Mut (H x)) (he:e=x\/H e=some (.own x)) (k:∀ b u,b≠e->s.heap.get? b=some u->h'.get? b=some u) (heo:∃ u,h'.get? e=some u)
  (new:ObjOk X.prog X.w (upd H x o) h' x o):Inv X pins σ (upd H x o) { s with heap:=h',toks:=t' }:=I.un (Un.write mu he k heo) (I.hok.write mu he k heo new)
theorem Inv.pins_of {pins':List (Addr × Obj)} (I:Inv X pins σ H s) (h:∀ p∈pins',s.heap.get? p.1=some p.2/\H p.1=none/\p.1≠X.env.locals/\p.1 ∉ X.fs/\∀ v,p.2.data≠.cell v):Inv X pins' σ H s :=
 ⟨I.ok,I.os,I.bare,I.base,I.loc,I.cell,I.free,I.freeC,fun p hp=>(List.mem_append.mp hp).elim (fun z=>I.pin p (List.mem_append_left _ z)) (h p),I.hok,I.len⟩
theorem nodup_ix {N:List Str} (hN:N.Nodup) {i j:Nat} {x:Str} (a:N[i]? = some x) (b:N[j]? = some x):i=j:=by
 obtain ⟨h1,e1⟩:=List.getElem?_eq_some_iff.mp a
 obtain ⟨h2,e2⟩:=List.getElem?_eq_some_iff.mp b
 exact (List.getElem_inj hN).mp (e1.trans e2.symm)
theorem store_ok2 {M:Model} {A:Around} {E:Value->Shared->Prop} {i:Nat} {x:Str} {v:V} {u:Value} {Q:Unit->Shared->Prop} (I:Inv X pins σ H s) (hN:X.N.Nodup) (hi:X.N[i]? = some x) (hx:Loc X.env.scope x) (r:RelV v u)
  (h:∀ s',Inv X pins (σ.set i (some v)) H s'->(∃ a,Heap.SameBut a s.heap s'.heap/\(a=X.env.locals\/X.env.cells.lookup x=some a))->Q () s') (hf:X.fn x=true\/X.env.scope.names.lookup x=some .local:=by first | exact .inl rfl | exact .inr rfl | assumption):wpAny M A (storeName X.env x u) Q E s:=by
 obtain ⟨m,hn,hl⟩:=id I.loc
 have hcls:(X.env.scope.kind == .class || (X.env.scope.kind == .module && X.env.locals != X.env.globals))=false:=by rw [I.ok.kind]; rfl
 have hiσ:i < σ.length:=by rw [I.len]; exact (List.getElem?_eq_some_iff.mp hi).1
 have cne:=I.cne
 have tracked:∀ {a:Addr} {h':Heap},(∃ o,s.heap.get? a=some o/\H a=none)->Heap.SameBut a s.heap h'->HOk X.prog X.w H h':=fun {a h'} ha hs b ob e=>by
  obtain ⟨_,_,hfree⟩:=ha
  refine (I.hok b ob e).stay (fun c w' hc q=>(hs.2 c ?_).trans q) (fun _ q=>q) fun _ _ q=>q
  rintro rfl
  rcases hc with rfl | hc
  ·rw [hfree] at e; cases e
  ·rw [hfree] at hc; cases hc
 rcases hx with hk | hk
 ·refine wpAny_storeName_local hk hn (fun h' hn' hs=>?_) hcls
  obtain ⟨oL,_,_,hoL,_⟩:=id hn
  refine h _ ⟨I.ok,I.os,I.bare,⟨fun b o e n hb hx=>?_,fun b o e n hb hx=>?_,I.base.free,fun b o e hx=>?_,I.base.tups,I.base.frzs,I.base.tbls⟩,⟨_,hn',fun j y v' e1 e2 e3=>?_⟩,fun y c e=>?_,I.free,I.freeC,fun p hp=>?_,tracked ⟨oL,hoL,I.free⟩ hs,by simpa using I.len⟩ ⟨_,hs,.inl rfl⟩
  ·exact (hs.2 b (Nat.ne_of_lt (Nat.lt_of_lt_of_le (Heap.lt_size e) I.ok.above))).trans (I.base.keep b o e n hb hx)
  ·obtain ⟨sl,e1⟩:=I.base.slot b o e n hb hx
   exact ⟨sl,(hs.2 b (Nat.ne_of_lt (Nat.lt_of_lt_of_le (Heap.lt_size e) I.ok.above))).trans e1⟩
  ·obtain ⟨o',e1⟩:=I.base.there b o e hx
   exact ⟨o',(hs.2 b (Nat.ne_of_lt (Nat.lt_of_lt_of_le (Heap.lt_size e) I.ok.above))).trans e1⟩
  ·by_cases hj:j=i
   ·subst hj
    rw [hi] at e1; cases e1
    rw [List.getElem?_set_self hiσ] at e2
    cases e2
    exact ⟨u,r,.inl ⟨hk,by simp⟩⟩
   ·rw [List.getElem?_set_ne (Ne.symm hj)] at e2
    obtain ⟨u',r',q⟩:=hl j y v' e1 e2 e3
    refine ⟨u',r',?_⟩
    rcases q with ⟨k,e⟩ | ⟨k,c,e,z⟩
    ·refine .inl ⟨k,?_⟩
     have:y≠x:=fun e=>hj (nodup_ix hN e1 (e ▸ hi))
     simp [this,e]
    ·exact .inr ⟨k,c,e,z.sameBut hs (cne y c e)⟩
  ·obtain ⟨w',z⟩:=I.cell y c e
   exact ⟨w',z.sameBut hs (cne y c e)⟩
  ·obtain ⟨e,n,ne,nf,d⟩:=I.pin p hp
   exact ⟨(hs.2 p.1 ne).trans e,n,ne,nf,d⟩
 ·have hfn:X.fn x=true:=by
   rcases hf with z | z
   ·exact z
   ·rw [z] at hk; cases hk
  obtain ⟨c,hc⟩:=I.ok.has x (.inl hk)
  obtain ⟨w',z⟩:=I.cell x c hc
  refine wpAny_storeName_cell I.ok.kind hk hc z (fun h' hc' hs=>?_)
  obtain ⟨oc,hoc,hocd⟩:=id z
  refine h { s with heap:=h' } ⟨I.ok,I.os,I.bare,⟨fun b o e n hb hx=>?_,fun b o e n hb hx=>?_,I.base.free,fun b o e hx=>?_,I.base.tups,I.base.frzs,I.base.tbls⟩,⟨m,hn.sameBut hs (Ne.symm (cne x c hc)),fun j y v' e1 e2 e3=>?_⟩,fun y c' e=>?_,I.free,I.freeC,fun p hp=>?_,tracked ⟨oc,hoc,I.freeC x c hc⟩ hs,by simpa using I.len⟩ ⟨c,hs,.inr hc⟩
  ·exact (hs.2 b (Nat.ne_of_lt (Nat.lt_of_lt_of_le (Heap.lt_size e) (I.ok.cab x c hfn hc)))).trans (I.base.keep b o e n hb hx)
  ·obtain ⟨sl,e1⟩:=I.base.slot b o e n hb hx
   exact ⟨sl,(hs.2 b (Nat.ne_of_lt (Nat.lt_of_lt_of_le (Heap.lt_size e) (I.ok.cab x c hfn hc)))).trans e1⟩
  ·obtain ⟨o',e1⟩:=I.base.there b o e hx
   exact ⟨o',(hs.2 b (Nat.ne_of_lt (Nat.lt_of_lt_of_le (Heap.lt_size e) (I.ok.cab x c hfn hc)))).trans e1⟩
  ·by_cases hj:j=i
   ·subst hj
    rw [hi] at e1; cases e1
    rw [List.getElem?_set_self hiσ] at e2
    cases e2
    exact ⟨u,r,.inr ⟨.inl hk,c,hc,hc'⟩⟩
   ·rw [List.getElem?_set_ne (Ne.symm hj)] at e2
    obtain ⟨u',r',q⟩:=hl j y v' e1 e2 e3
    refine ⟨u',r',?_⟩
    rcases q with q | ⟨k,c',e,z'⟩
    ·exact .inl q
    ·refine .inr ⟨k,c',e,z'.sameBut hs ?_⟩
     rintro rfl
     exact hj (nodup_ix hN e1 (I.ok.inj _ _ _ e hc ▸ hi))
  ·by_cases hcc:c'=c
   ·subst hcc; exact ⟨_,hc'⟩
   ·obtain ⟨w2,z2⟩:=I.cell y c' e
    exact ⟨w2,z2.sameBut hs hcc⟩
  ·obtain ⟨e,n,ne,nf,d⟩:=I.pin p hp
   refine ⟨(hs.2 p.1 ?_).trans e,n,ne,nf,d⟩
   intro q
   rw [q,hoc] at e
   have q':oc=p.2:=Option.some.inj e
   exact d w' (by rw [<- q']; exact hocd)
theorem store_ok {M:Model} {A:Around} {E:Value->Shared->Prop} {i:Nat} {x:Str} {v:V} {u:Value} {Q:Unit->Shared->Prop} (I:Inv X pins σ H s) (hN:X.N.Nodup) (hi:X.N[i]? = some x) (hx:Loc X.env.scope x) (r:RelV v u)
  (h:∀ s',Inv X pins (σ.set i (some v)) H s'->Q () s') (hf:X.fn x=true\/X.env.scope.names.lookup x=some .local:=by first | exact .inl rfl | exact .inr rfl | assumption):wpAny M A (storeName X.env x u) Q E s :=
 store_ok2 I hN hi hx r (fun s' I' _=>h s' I') hf
theorem Inv.call' {s':Shared} {ch:List Addr} (I:Inv X pins σ H s) (ho:s'.os=s.os) (u:Un (frs X.stack) ch H H' s.heap s'.heap) (hok:HOk X.prog X.w H' s'.heap) (hg:AllBare s'.gens)
  (hch:∀ b∈ch,(b∈X.ex\/X.s₀.heap.objs.size<=b)/\b≠X.env.locals/\(∀ x c,X.env.cells.lookup x=some c->c≠b)/\∀ p∈X.pn++pins,p.1≠b):Inv X pins σ H' s':=by
 obtain ⟨h',g',d',t',o'⟩:=s'
 have e:o'=s.os:=ho
 subst e
 exact I.call (g':=g') (t':=t') (d':=d') u hok hg hch
end
abbrev XK:=Value->Option Addr->Hp->Prop
abbrev St:=List (Option V)
abbrev VK:=V->Hp->Prop
abbrev TE:=St->Hp->VK->Prop
abbrev TT:=St->Hp->(Bool->Hp->Prop)->Prop
abbrev TA:=St->Hp->(List V->Hp->Prop)->Prop
structure Ends where
 nx:St->Hp->Prop
 rt:VK
 bk:St->Hp->Prop:=fun _ _=>False
 ct:St->Hp->Prop:=fun _ _=>False
abbrev TS:=Ends->St->Hp->Prop
def EP (X:Cx) (pins:List (Addr × Obj)) (σ:St) (Q:VK) (u:Value) (s':Shared):Prop:=∃ v H',Inv X pins σ H' s'/\RelV v u/\Q v H'
def TP (X:Cx) (pins:List (Addr × Obj)) (σ:St) (Q:Bool->Hp->Prop) (b:Bool) (s':Shared):Prop:=∃ H',Inv X pins σ H' s'/\Q b H'
def AP (X:Cx) (pins:List (Addr × Obj)) (σ:St) (Q:List V->Hp->Prop) (us:List Value) (s':Shared):Prop:=∃ vs H',Inv X pins σ H' s'/\Vals vs us/\Q vs H'
def SP (X:Cx) (pins:List (Addr × Obj)) (D:Ends) (f:Flow) (s':Shared):Prop :=
 match f with
 | .next=>∃ σ' H',Inv X pins σ' H' s'/\D.nx σ' H'
 | .brk=>∃ σ' H',Inv X pins σ' H' s'/\D.bk σ' H'
 | .cont=>∃ σ' H',Inv X pins σ' H' s'/\D.ct σ' H'
 | .ret u=>∃ v σ' H',Inv X pins σ' H' s'/\RelV v u/\D.rt v H'
def PE (X:Cx) (e:Expr) (t:TE):Prop :=
 ∀ (pins:List (Addr × Obj)) (s:Shared) (σ:St) (H:Hp) (Q:VK),Inv X pins σ H s->t σ H Q->wpAny (model X.prog X.w) X.A (eval e X.env) (EP X pins σ Q) X.xe s
def PT (X:Cx) (e:Expr) (t:TT):Prop :=
 ∀ (pins:List (Addr × Obj)) (s:Shared) (σ:St) (H:Hp) (Q:Bool->Hp->Prop),Inv X pins σ H s->t σ H Q->wpAny (model X.prog X.w) X.A (isTrue e X.env (eval e X.env)) (TP X pins σ Q) X.xe s
def PW (X:Cx) (e:Expr) (t:TT):Prop :=
 ∀ (whole:Sem Value) (pins:List (Addr × Obj)) (s:Shared) (σ:St) (H:Hp) (Q:Bool->Hp->Prop),Inv X pins σ H s->t σ H Q->wpAny (model X.prog X.w) X.A (isTrue e X.env whole) (TP X pins σ Q) X.xe s
theorem PW.pt {X:Cx} {e:Expr} {t:TT} (h:PW X e t):PT X e t:=h _
def PA (X:Cx) (es:List Expr) (t:TA):Prop :=
 ∀ (pos:Pos) (pins:List (Addr × Obj)) (s:Shared) (σ:St) (H:Hp) (Q:List V->Hp->Prop),Inv X pins σ H s->t σ H Q->wpAny (model X.prog X.w) X.A (spliced (backTo pos (starEach es X.env))) (AP X pins σ Q) X.xe s
def PS (X:Cx) (st:Stmt) (t:TS):Prop :=
 ∀ (pins:List (Addr × Obj)) (s:Shared) (σ:St) (H:Hp) (D:Ends),Inv X pins σ H s->t D σ H->wpAny (model X.prog X.w) X.A (exec st X.env) (SP X pins D) X.xe s
def PSs (X:Cx) (st:List Stmt) (t:TS):Prop :=
 ∀ (pins:List (Addr × Obj)) (s:Shared) (σ:St) (H:Hp) (D:Ends),Inv X pins σ H s->t D σ H->wpAny (model X.prog X.w) X.A (execs st X.env) (SP X pins D) X.xe s
theorem thn {α:Type} {t:Sem α} {Q Q':α->Shared->Prop} {M:Model} {A:Around} {E:Value->Shared->Prop} {s:Shared} (h:wpAny M A t Q E s) (hQ:∀ a s,Q a s->Q' a s):wpAny M A t Q' E s:=wpAny_mono h hQ fun _ _ x=>x
section
variable {X:Cx}
def tVar (i:Nat):TE:=fun σ H Q=>∃ v,σ[i]? = some (some v)/\Q v H
def tC (v:V):TE:=fun _ H Q=>Q v H
theorem pe_var {i:Nat} {x:Str} {pos:Pos} (hN:X.N[i]? = some x) (hv:Vis X.env.scope x) (hd:(x == ("__debug__" : Str))=false:=by decide) (hcd:(x == ("__classdict__" : Str))=false:=by decide):PE X (.Name x pos) (tVar i):=by
 intro pins s σ H Q I h
 obtain ⟨v,e,h⟩:=h
 obtain ⟨m,hn,hl⟩:=I.loc
 obtain ⟨u,r,l⟩:=hl i x v hN e hv
 have fin:EP X pins σ Q u s:=⟨v,H,I,r,h⟩
 rcases l with ⟨hk,hm⟩ | ⟨hk,c,hc,hcell⟩
 ·exact wpAny_Name (wpAny_loadName_local I.ok.kind hk hn hm fin) hd
 ·rcases hk with hk | hk
  ·exact wpAny_Name (wpAny_loadName_cell I.ok.kind hk hc hcell fin) hd
  ·exact wpAny_Name (wpAny_loadName_free I.ok.kind hk hc hcell fin hcd) hd
theorem pe_int {i j pos}:PE X (.Constant (.int i) j pos) (tC (.int i)):=fun _ _ _ H _ I h=>wpAny_Constant_int ⟨.int i,H,I.tok _,⟨_,rfl⟩,h⟩
theorem pe_bl {b j pos}:PE X (.Constant (.bool b) j pos) (tC (.bl b)):=fun _ _ _ H _ I h=>Constant_bool ⟨.bl b,H,I,rfl,h⟩
theorem pe_non {j pos}:PE X (.Constant .none j pos) (tC .non):=fun _ _ _ H _ I h=>Constant_none ⟨.non,H,I,rfl,h⟩
theorem pe_str {x j pos}:PE X (.Constant (.str x) j pos) (tC (.str x)):=fun _ _ _ H _ I h=>Calls.Constant_str ⟨.str x,H,I.tok _,⟨_,rfl⟩,h⟩
def Gl (X:Cx) (x:Str):Prop:=X.env.kindOf x=some .globalImplicit
theorem ld_glob {E:Value->Shared->Prop} {pins:List (Addr × Obj)} {s:Shared} {σ:St} {H:Hp} {x:Str} {u:Value} {pos:Pos} {Q:Value->Shared->Prop} (I:Inv X pins σ H s) (hg:Gl X x) (hm:X.mg x=some u) (h:Q u s)
  (hd:(x == ("__debug__" : Str))=false:=by decide):wpAny (model X.prog X.w) X.A (eval (.Name x pos) X.env) Q E s :=
 Calls.Name_function_global I.ok.kind hg (Calls.loadGlobal_global (by rw [I.ok.glob]; exact I.mod.glob.keeps I.bk) hm h) hd
theorem ld_blt {E:Value->Shared->Prop} {pins:List (Addr × Obj)} {s:Shared} {σ:St} {H:Hp} {x:Str} {u:Value} {pos:Pos} {Q:Value->Shared->Prop} (I:Inv X pins σ H s) (hg:Gl X x) (hm:X.mg x=none) (hv:bootBuiltins x=some u) (h:Q u s)
  (hn:x ≠ "__name__" := by decide) (hd:(x == ("__debug__" : Str))=false:=by decide):wpAny (model X.prog X.w) X.A (eval (.Name x pos) X.env) Q E s:=by
 obtain ⟨mb,h1,h2⟩:=I.mod.blt
 exact Calls.Name_function_global I.ok.kind hg (Calls.loadGlobal_builtin (by rw [I.ok.glob]; exact I.mod.glob.keeps I.bk) hm (by rw [I.ok.blt]; exact h1.keeps I.bk) ((h2 x hn).trans hv) h) hd
theorem pe_glob {x:Str} {v:V} {u:Value} {pos:Pos} (hg:Gl X x) (hm:X.mg x=some u) (r:RelV v u) (hd:(x == ("__debug__" : Str))=false:=by decide):PE X (.Name x pos) (tC v) :=
 fun _ _ _ H _ I h=>ld_glob I hg hm ⟨v,H,I,r,h⟩ hd
theorem pe_bltn {x:Str} {v:V} {u:Value} {pos:Pos} (hg:Gl X x) (hm:X.mg x=none) (hv:bootBuiltins x=some u) (r:RelV v u) (hn:x ≠ "__name__" := by decide) (hd:(x == ("__debug__" : Str))=false:=by decide):PE X (.Name x pos) (tC v) :=
 fun _ _ _ H _ I h=>ld_blt I hg hm hv ⟨v,H,I,r,h⟩ hn hd
variable {a b:Expr} {ta tb:TE} {pos:Pos}
def tB (t:TE):TT:=fun σ H Q=>t σ H fun x H1=>∃ c,x=.bl c/\Q c H1
theorem pt_val {e:Expr} {t:TE} (h:PE X e t) (he:∀ whole,isTrue e X.env whole=(do let v <- whole; standAt e.pos; holding [v] (truthy v)):=by intro _; rfl):PT X e (tB t):=by
 intro pins s σ H Q I hw
 refine isTrue_plain (thn (h pins s σ H _ I hw) fun v s1 ⟨x,H1,I1,r1,q1⟩=>?_) (he _)
 obtain ⟨d,rfl,q⟩:=q1
 cases r1
 exact wpAny_truthy_bool ⟨H1,I1,q⟩
variable {tA tB':TT} {rest:List Expr}
def tAnd (t u:TT):TT:=fun σ H Q=>t σ H fun c H1=>if c=true then u σ H1 Q else Q false H1
def tOr (t u:TT):TT:=fun σ H Q=>t σ H fun c H1=>if c=true then Q true H1 else u σ H1 Q
def tNot (t:TT):TT:=fun σ H Q=>t σ H fun c H1=>Q (!c) H1
theorem pw_and1 (ha:PT X a tA):PW X (.BoolOp .And [a] pos) tA:=by
 intro wh pins s σ H Q I h
 refine isTrue_and (thn (ha pins s σ H Q I h) fun c s1 e=>?_)
 cases c with
 | true=>exact isTrue_and_nil e
 | false=>exact e
theorem pw_or1 (ha:PT X a tA):PW X (.BoolOp .Or [a] pos) tA:=by
 intro wh pins s σ H Q I h
 refine isTrue_or (thn (ha pins s σ H Q I h) fun c s1 e=>?_)
 cases c with
 | false=>exact isTrue_or_nil e
 | true=>exact e
theorem pw_and (ha:PT X a tA) (hb:PW X (.BoolOp .And (b::rest) pos) tB'):PW X (.BoolOp .And (a::b::rest) pos) (tAnd tA tB'):=by
 intro wh pins s σ H Q I h
 refine isTrue_and (thn (ha pins s σ H _ I h) fun c s1 ⟨H1,I1,q1⟩=>?_)
 cases c with
 | true=>exact hb wh pins s1 σ H1 Q I1 q1
 | false=>exact ⟨H1,I1,q1⟩
theorem pw_or (ha:PT X a tA) (hb:PW X (.BoolOp .Or (b::rest) pos) tB'):PW X (.BoolOp .Or (a::b::rest) pos) (tOr tA tB'):=by
 intro wh pins s σ H Q I h
 refine isTrue_or (thn (ha pins s σ H _ I h) fun c s1 ⟨H1,I1,q1⟩=>?_)
 cases c with
 | true=>exact ⟨H1,I1,q1⟩
 | false=>exact hb wh pins s1 σ H1 Q I1 q1
theorem pt_not (ha:PT X a tA):PT X (.UnaryOp .Not a pos) (tNot tA):=by
 intro pins s σ H Q I h
 exact isTrue_not (ha pins s σ H (fun c H1=>Q (!c) H1) I h)
def tAndV (ta tb:TE):TE:=fun σ H Q=>ta σ H fun x H1=>∃ c,x=.bl c/\if c=true then tb σ H1 Q else Q (.bl false) H1
def tOrV (ta tb:TE):TE:=fun σ H Q=>ta σ H fun x H1=>∃ c,x=.bl c/\if c=true then Q (.bl true) H1 else tb σ H1 Q
def tNotV (ta:TE):TE:=fun σ H Q=>ta σ H fun x H1=>∃ c,x=.bl c/\Q (.bl (!c)) H1
theorem pe_one {op} {t:TE} (h:PE X a t):PE X (.BoolOp op [a] pos) t:=fun pins s σ H Q I hw=>BoolOp_one (h pins s σ H Q I hw)
theorem pe_and (ha:PE X a ta) (hb:PE X (.BoolOp .And (b::rest) pos) tb):PE X (.BoolOp .And (a::b::rest) pos) (tAndV ta tb):=by
 intro pins s σ H Q I h
 refine BoolOp_and (thn (ha pins s σ H _ I h) fun v s1 ⟨x,H1,I1,r1,q1⟩=>?_)
 obtain ⟨c,rfl,q1⟩:=q1
 cases r1
 refine wpAny_truthy_bool ?_
 cases c with
 | true=>exact hb pins s1 σ H1 Q I1 q1
 | false=>exact ⟨.bl false,H1,I1,rfl,q1⟩
theorem pe_or (ha:PE X a ta) (hb:PE X (.BoolOp .Or (b::rest) pos) tb):PE X (.BoolOp .Or (a::b::rest) pos) (tOrV ta tb):=by
 intro pins s σ H Q I h
 refine BoolOp_or (thn (ha pins s σ H _ I h) fun v s1 ⟨x,H1,I1,r1,q1⟩=>?_)
 obtain ⟨c,rfl,q1⟩:=q1
 cases r1
 refine wpAny_truthy_bool ?_
 cases c with
 | false=>exact hb pins s1 σ H1 Q I1 q1
 | true=>exact ⟨.bl true,H1,I1,rfl,q1⟩
theorem pe_not (ha:PE X a ta):PE X (.UnaryOp .Not a pos) (tNotV ta):=by
 intro pins s σ H Q I h
 refine UnaryOp_ (thn (ha pins s σ H _ I h) fun v s1 ⟨x,H1,I1,r1,q1⟩=>?_)
 obtain ⟨c,rfl,q1⟩:=q1
 cases r1
 exact not_of (wpAny_truthy_bool ⟨.bl (!c),H1,I1,rfl,q1⟩)
def tIf (t:TT) (ta tb:TE):TE:=fun σ H Q=>t σ H fun c H1=>if c=true then ta σ H1 Q else tb σ H1 Q
theorem pe_ifExp {c:Expr} (hc:PT X c tA) (ha:PE X a ta) (hb:PE X b tb):PE X (.IfExp c a b pos) (tIf tA ta tb):=by
 intro pins s σ H Q I h
 refine wpAny_IfExp (thn (hc pins s σ H _ I h) fun d s1 ⟨H1,I1,q1⟩=>?_)
 cases d with
 | true=>exact ha pins s1 σ H1 Q I1 q1
 | false=>exact hb pins s1 σ H1 Q I1 q1
end
def SqL (K:W.Frag) (H:Hp) (a:Addr) (xs:List V):Prop :=
 Rd H a (.lst xs) \/
  ∃ (o:Obj) (its:Array Value) (n:Nat),K.lookup a=some o/\o.cls=.type "list" /\ o.dict=none/\o.data=.seq its n/\its.size<=sizeLine/\Vals xs its.toList
def SqT (K:W.Frag) (H:Hp) (a:Addr) (xs:List V):Prop :=
 Rd H a (.tup xs) \/
  ∃ (o:Obj) (its:Array Value) (n:Nat),K.lookup a=some o/\o.cls=.type "tuple" /\ o.data=.seq its n/\its.size<=sizeLine/\Vals xs its.toList
def absV:Value->Option V
 | .none=>some .non
 | .bool b=>some (.bl b)
 | .int i _=>some (.int i)
 | .str x _=>some (.str x)
 | .bytes b _=>some (.byt b)
 | .float b _=>some (.flt b)
 | .ref a=>some (.ref a)
 | .type n=>some (.ty n)
 | _=>none
theorem RelV.abs {x:V} {u:Value} (r:RelV x u):absV u=some x:=by
 cases x with
 | non=>cases r; rfl
 | bl _=>cases r; rfl
 | int _=>obtain ⟨t,rfl⟩:=r; rfl
 | str _=>obtain ⟨t,rfl⟩:=r; rfl
 | byt _=>obtain ⟨t,rfl⟩:=r; rfl
 | flt _=>obtain ⟨t,rfl⟩:=r; rfl
 | ref _=>cases r; rfl
 | ty _=>cases r; rfl
theorem RelV.inj {x y:V} {u:Value} (r:RelV x u) (q:RelV y u):x=y:=Option.some.inj (r.abs.symm.trans q.abs)
theorem Vals.inj:∀ {xs ys:List V} {us:List Value},Vals xs us->Vals ys us->xs=ys
 | _,_,_,.nil,.nil=>rfl
 | _,_,_,.cons r t,.cons r' t'=>by rw [r.inj r',Vals.inj t t']
section
variable {X:Cx} {pins:List (Addr × Obj)} {σ:St} {H:Hp} {s:Shared} {a:Addr} {xs ys:List V}
theorem SqL.of {K:W.Frag} (h:H a=some (.lst xs)):SqL K H a xs:=.inl (.inl h)
theorem SqT.of {K:W.Frag} (h:H a=some (.tup xs)):SqT K H a xs:=.inl (.inl h)
theorem Inv.list (I:Inv X pins σ H s) (h:SqL X.K H a xs):∃ its:List Value,Vals xs its/\PlainL s.heap a its.toArray/\xs.length<=sizeLine:=by
 rcases h with h | ⟨o,its,n,hk,hc,hd,hs,hz,r⟩
 ·obtain ⟨z,its,n,r,e⟩:=h.ok I.hok
  exact ⟨its,r,⟨_,n,e,rfl,rfl,rfl⟩,z⟩
 ·refine ⟨its.toList,r,⟨o,n,I.kIn a o hk,hc,hd,by simpa using hs⟩,?_⟩
  have e:=r.length
  simp only [Array.length_toList] at e
  omega
theorem Inv.tuple (I:Inv X pins σ H s) (h:SqT X.K H a xs):∃ its:List Value,Vals xs its/\IsTup s.heap a its.toArray/\xs.length<=sizeLine:=by
 rcases h with h | ⟨o,its,n,hk,hc,hs,hz,r⟩
 ·obtain ⟨z,its,r,p⟩:=h.ok I.hok
  exact ⟨its,r,p.tup,z⟩
 ·refine ⟨its.toList,r,⟨o,I.kIn a o hk,hc,n,by simpa using hs⟩,?_⟩
  have e:=r.length
  simp only [Array.length_toList] at e
  omega
theorem Inv.list_inj (I:Inv X pins σ H s) (h:SqL X.K H a xs) (h':SqL X.K H a ys):xs=ys:=by
 obtain ⟨its,r,⟨o,n,e,_,_,d⟩,_⟩:=I.list h
 obtain ⟨its',r',⟨o',n',e',_,_,d'⟩,_⟩:=I.list h'
 rw [e] at e'; cases e'
 rw [d] at d'
 injection d' with d1 _
 have:its=its':=by simpa using congrArg Array.toList d1
 subst this
 exact r.inj r'
theorem Inv.tuple_inj (I:Inv X pins σ H s) (h:SqT X.K H a xs) (h':SqT X.K H a ys):xs=ys:=by
 obtain ⟨its,r,⟨o,e,_,n,d⟩,_⟩:=I.tuple h
 obtain ⟨its',r',⟨o',e',_,n',d'⟩,_⟩:=I.tuple h'
 rw [e] at e'; cases e'
 rw [d] at d'
 injection d' with d1 _
 have:its=its':=by simpa using congrArg Array.toList d1
 subst this
 exact r.inj r'
end
abbrev Cx.wish (X:Cx) (E:Value->Shared->Prop):Cx:={ X with xe:=E }
abbrev Cx.nox (X:Cx):Cx:=X.wish fun _ _=>False
theorem Cx.Ok.wish {X:Cx} (ok:X.Ok) (E:Value->Shared->Prop):(X.wish E).Ok :=
 ⟨ok.mod,ok.kind,ok.glob,ok.blt,ok.above,ok.inj,ok.has,ok.cab,ok.hd,ok.frames,ok.stk,ok.exf,ok.bs,ok.bsz,ok.noex,ok.exfs,ok.funs,ok.frf⟩
theorem Cx.Ok.unwish {X:Cx} {E:Value->Shared->Prop} (ok:(X.wish E).Ok):X.Ok :=
 ⟨ok.mod,ok.kind,ok.glob,ok.blt,ok.above,ok.inj,ok.has,ok.cab,ok.hd,ok.frames,ok.stk,ok.exf,ok.bs,ok.bsz,ok.noex,ok.exfs,ok.funs,ok.frf⟩
section
variable {X:Cx} {pins:List (Addr × Obj)} {σ:St} {H:Hp} {s:Shared} {E:Value->Shared->Prop}
theorem Inv.wish (I:Inv X pins σ H s) (E:Value->Shared->Prop):Inv (X.wish E) pins σ H s:=⟨I.ok.wish E,I.os,I.bare,I.base,I.loc,I.cell,I.free,I.freeC,I.pin,I.hok,I.len⟩
theorem Inv.unwish (I:Inv (X.wish E) pins σ H s):Inv X pins σ H s:=⟨I.ok.unwish,I.os,I.bare,I.base,I.loc,I.cell,I.free,I.freeC,I.pin,I.hok,I.len⟩
theorem SP.unwish {D:Ends} {f:Flow} {s':Shared} (h:SP (X.wish E) pins D f s'):SP X pins D f s':=by
 cases f with
 | next=>obtain ⟨σ',H',I,q⟩:=h; exact ⟨σ',H',I.unwish,q⟩
 | brk=>obtain ⟨σ',H',I,q⟩:=h; exact ⟨σ',H',I.unwish,q⟩
 | cont=>obtain ⟨σ',H',I,q⟩:=h; exact ⟨σ',H',I.unwish,q⟩
 | ret u=>obtain ⟨v,σ',H',I,r,q⟩:=h; exact ⟨v,σ',H',I.unwish,r,q⟩
theorem PSs.nox {st:List Stmt} {t:TS} (h:PSs X.nox st t):PSs X st t:=fun pins s σ H D I hw =>
 wpAny_mono (h pins s σ H D (I.wish _) hw) (fun _ _ q=>q.unwish) fun _ _ z=>False.elim z
end
section
variable {X:Cx} {st:Stmt} {rest:List Stmt} {t u:TS} {e:Expr} {te:TE} {pos:Pos}
def tNext:TS:=fun D σ H=>D.nx σ H
def tSeq (t u:TS):TS:=fun D σ H=>t { D with nx:=u D } σ H
theorem pss_nil:PSs X [] tNext:=fun _ _ σ H _ I h=>wpAny_execs_nil ⟨σ,H,I,h⟩
theorem pss_cons (h1:PS X st t) (h2:PSs X rest u):PSs X (st::rest) (tSeq t u):=by
 intro pins s σ H D I h
 refine wpAny_execs_cons (thn (h1 pins s σ H { D with nx:=u D } I h) fun f s1 q=>?_)
 cases f with
 | next =>
  obtain ⟨σ',H',I',q⟩:=q
  exact h2 pins s1 σ' H' D I' q
 | ret v=>exact q
 | brk=>exact q
 | cont=>exact q
theorem pss_one (h1:PS X st t):PSs X [st] t:=by
 intro pins s σ H D I h
 refine wpAny_execs_cons (thn (h1 pins s σ H D I h) fun f s1 q=>?_)
 cases f with
 | next=>exact wpAny_execs_nil q
 | ret v=>exact q
 | brk=>exact q
 | cont=>exact q
theorem Inv.quiet {pins:List (Addr × Obj)} {σ:St} {H:Hp} {s:Shared} (I:Inv X pins σ H s):interactive X.env=false:=by simp [interactive,I.ok.kind]
def tDrop (te:TE):TS:=fun D σ H=>te σ H fun _ H1=>D.nx σ H1
theorem ps_expr (he:PE X e te) (hs:swapsWith e none pos.line X.env=pure false:=by rfl):PS X (.Expr e pos) (tDrop te):=by
 intro pins s σ H D I h
 exact wpAny_Expr_any (thn (he pins s σ H _ I h) fun v s1 ⟨x,H1,I1,r1,q1⟩=>⟨σ,H1,I1,q1⟩) I.quiet hs
def tRet (te:TE):TS:=fun D σ H=>te σ H D.rt
theorem ps_ret (he:PE X e te):PS X (.Return (some e) pos) (tRet te):=by
 intro pins s σ H D I h
 exact wpAny_Return_some (thn (he pins s σ H _ I h) fun v s1 ⟨x,H1,I1,r1,q1⟩=>⟨x,σ,H1,I1,r1,q1⟩)
def tIfS (c:TT) (t u:TS):TS:=fun D σ H=>c σ H fun b H1=>if b=true then t D σ H1 else u D σ H1
theorem ps_if {c:Expr} {a b:List Stmt} {tc:TT} (hc:PT X c tc) (ha:PSs X a t) (hb:PSs X b u):PS X (.If c a b pos) (tIfS tc t u):=by
 intro pins s σ H D I h
 refine wpAny_If (thn (hc pins s σ H _ I h) fun d s1 ⟨H1,I1,q1⟩=>?_)
 cases d with
 | true=>exact ha pins s1 σ H1 D I1 q1
 | false=>exact hb pins s1 σ H1 D I1 q1
end
abbrev TG:=V->St->Hp->(St->Hp->Prop)->Prop
abbrev TGs:=List V->St->Hp->(St->Hp->Prop)->Prop
def PG (X:Cx) (target:Expr) (t:TG):Prop :=
 ∀ (pins:List (Addr × Obj)) (s:Shared) (σ:St) (H:Hp) (v:V) (u:Value) (Q:St->Hp->Prop),Inv X pins σ H s->RelV v u->t v σ H Q ->
  wpAny (model X.prog X.w) X.A (assign target X.env u) (fun _ s'=>∃ σ' H',Inv X pins σ' H' s'/\Q σ' H') X.xe s
def PGs (X:Cx) (ts:List Expr) (t:TGs):Prop :=
 ∀ (pins:List (Addr × Obj)) (s:Shared) (σ:St) (H:Hp) (vs:List V) (us:List Value) (Q:St->Hp->Prop),Inv X pins σ H s->Vals vs us->t vs σ H Q ->
  wpAny (model X.prog X.w) X.A (assignInOrder ((assignEach ts X.env).map (·.2)) us) (fun _ s'=>∃ σ' H',Inv X pins σ' H' s'/\Q σ' H') X.xe s
section
variable {X:Cx} {pos:Pos}
def gName (i:Nat):TG:=fun v σ H Q=>Q (σ.set i (some v)) H
theorem pg_name {i:Nat} {x:Str} (hN:X.N.Nodup) (hi:X.N[i]? = some x) (hx:Loc X.env.scope x) (hf:X.fn x=true\/X.env.scope.names.lookup x=some .local:=by first | exact .inl rfl | exact .inr rfl | assumption):PG X (.Name x pos) (gName i):=by
 intro pins s σ H v u Q I r h
 exact wpAny_assign_Name (store_ok I hN hi hx r (fun s' I'=>⟨_,H,I',h⟩) hf)
def gNil:TGs:=fun vs σ H Q=>vs=[]/\Q σ H
def gCons (t:TG) (u:TGs):TGs:=fun vs σ H Q=>∃ v r,vs=v::r/\t v σ H fun σ' H'=>u r σ' H' Q
theorem pgs_nil:PGs X [] gNil:=by
 intro pins s σ H vs us Q I r h
 obtain ⟨e,h⟩:=h
 subst e
 cases r
 exact assignInOrder_nil ⟨σ,H,I,h⟩
theorem pgs_cons {e:Expr} {es:List Expr} {t:TG} {u:TGs} (h1:PG X e t) (h2:PGs X es u)
  (hs:(assignEach (e::es) X.env).map (·.2)=assign e X.env::(assignEach es X.env).map (·.2):=by rfl):PGs X (e::es) (gCons t u):=by
 intro pins s σ H vs us Q I r h
 obtain ⟨v,vr,e1,h⟩:=h
 subst e1
 cases r with
 | cons r rr =>
  rw [hs]
  refine assignInOrder_cons (thn (h1 pins s σ H _ _ _ I r h) fun _ s1 ⟨σ1,H1,I1,q1⟩=>?_)
  exact h2 pins s1 σ1 H1 _ _ Q I1 rr q1
def gTup (K:W.Frag) (n:Nat) (t:TGs):TG:=fun v σ H Q=>∃ a xs,v=.ref a/\SqT K H a xs/\xs.length=n/\t xs σ H Q
theorem pg_tup {es:List Expr} {k:Nat} {t:TGs} {n:Nat} (hc:X.calm=true) (h:PGs X es t)
  (hn:(assignEach es X.env).length=n:=by rfl) (hst:(assignEach es X.env).findIdx? (·.1)=none:=by rfl):PG X (.Tuple es k pos) (gTup X.K n t):=by
 intro pins s σ H v u Q I r hw
 obtain ⟨a,xs,e1,hq,hl,hw⟩:=hw
 subst e1
 cases r
 obtain ⟨its,rv,ht,hz⟩:=I.tuple hq
 refine assign_Tuple_tuple (I.ok.hd hc) ht (by simp [hn,<- hl,rv.length]) hst fun h' hx=>?_
 have I1:Inv X pins σ H { s with heap:=h' }:=I.kept (t':=s.toks) fun b o e=>hx b o (Nat.ne_of_lt (Heap.lt_size e)) e
 exact h pins _ σ H xs _ Q I1 (by simpa using rv) hw
def tAsg (te:TE) (g:TG):TS:=fun D σ H=>te σ H fun x H1=>g x σ H1 D.nx
theorem ps_set {i:Nat} {x:Str} {e:Expr} {te:TE} {pos':Pos} (hN:X.N.Nodup) (hi:X.N[i]? = some x) (hx:Loc X.env.scope x) (he:PE X e te) (hs:swapsWith e (some (.Name x pos')) pos.line X.env=pure false:=by rfl) (hf:X.fn x=true\/X.env.scope.names.lookup x=some .local:=by first | exact .inl rfl | exact .inr rfl | assumption) :
  PS X (.Assign [.Name x pos'] e pos) (tAsg te (gName i)):=by
 intro pins s σ H D I h
 refine wpAny_Assign_Name (thn (he pins s σ H _ I h) fun v s1 ⟨y,H1,I1,r1,q1⟩=>?_) hs
 exact store_ok I1 hN hi hx r1 (fun s2 I2=>⟨_,H1,I2,q1⟩) hf
def tPar (i j:Nat) (ta:TA):TS:=fun D σ H=>ta σ H fun vs H1=>∃ v w,vs=[v,w]/\D.nx ((σ.set i (some v)).set j (some w)) H1
theorem ps_par {i j:Nat} {x y:Str} {a b:Expr} {ta:TA} {px py pt:Pos} {kt k2 pt2} (hc:X.calm=true) (hN:X.N.Nodup) (hi:X.N[i]? = some x) (hj:X.N[j]? = some y) (hij:i≠j)
  (hx:X.env.scope.names.lookup x=some .local) (hy:X.env.scope.names.lookup y=some .local) (ha:PA X [a,b] ta)
  (hw:swappedStores [.Tuple [.Name x px,.Name y py] kt pt] (.Tuple [a,b] k2 pt2) X.env=pure (some [x,y]))
  (hs:swapsWithSole [.Tuple [.Name x px,.Name y py] kt pt] (.Tuple [a,b] k2 pt2) pos.line X.env=pure false:=by rfl) :
  PS X (.Assign [.Tuple [.Name x px,.Name y py] kt pt] (.Tuple [a,b] k2 pt2) pos) (tPar i j ta):=by
 intro pins s σ H D I h
 rw [exec_Assign_arm]
 refine wpAny_bind (wpAny_standAt ?_)
 rw [hs]
 refine wpAny_bind (wpAny_pure ?_)
 rw [if_neg (by decide)]
 refine wpAny_bind (Tuple_ (thn (ha _ pins s σ H _ I h) fun us s1 ⟨vs,H1,I1,r1,q1⟩=>?_))
 obtain ⟨v,w,e1,q1⟩:=q1
 subst e1
 obtain ⟨u1,u2,rfl,rv,rw'⟩:∃ u1 u2,us=[u1,u2]/\RelV v u1/\RelV w u2:=by
  cases r1 with
  | cons p q =>
   cases q with
   | cons p' q' =>
    cases q'
    exact ⟨_,_,rfl,p,p'⟩
 refine wpAny_newObj_type ?_ (by show 2<=sizeLine; decide)
 have I2:Inv X pins σ H1 { s1 with heap:=s1.heap.push { cls:=.type "tuple",data:=.seq [u1,u2].toArray } }:=I1.kept (t':=s1.toks) fun b o e=>Heap.get?_push_of_some _ e
 rw [hw]
 refine wpAny_bind (wpAny_pure ?_)
 show wpAny (model X.prog X.w) X.A (do rule "assign.swapped-stores"; let items <- unpackItems (.ref s1.heap.objs.size) 2 none; assignInOrder [fun v=>bindName X.env y v,fun v=>bindName X.env x v] items.reverse; pure Flow.next) _ _ _
 refine wpAny_bind (wpAny_rule (wpAny_bind (unpackItems_tuple (items:=#[u1,u2]) (I.ok.hd hc) (IsTup.new s1.heap _) fun h' hx'=>?_)))
 have I3:=I2.kept (h':=h') (t':=s1.toks) fun b o e=>hx' b o (Nat.ne_of_lt (Heap.lt_size e)) e
 show wpAny _ _ (assignInOrder [fun v=>bindName X.env y v,fun v=>bindName X.env x v] [u2,u1] >>= fun _=>pure Flow.next) _ _ _
 refine wpAny_bind (assignInOrder_cons (wpAny_bindName (store_ok I3 hN hj (.inl hy) rw' (fun s2 I4=>?_) (.inr hy))))
 refine assignInOrder_cons (wpAny_bindName (store_ok I4 hN hi (.inl hx) rv (fun s3 I5=>assignInOrder_nil (wpAny_pure ?_)) (.inr hx)))
 rw [List.set_comm _ _ (Ne.symm hij)] at I5
 exact ⟨_,H1,I5,q1⟩
end
section
variable {X:Cx} {pos:Pos}
def tWhile (c:TT) (tb:TS):TS:=fun D σ H=>∃ W:Nat->St->Hp->Prop,(∃ m,W m σ H)/\∀ m σ H,W m σ H ->
 c σ H fun b H1=>if b=true then ∃ N:St->Hp->Prop,(∀ σ' H',N σ' H'->∃ m',m' < m/\W m' σ' H')/\tb { D with nx:=N,ct:=N,bk:=D.nx } σ H1 else D.nx σ H1
theorem ps_while {c:Expr} {body:List Stmt} {tc:TT} {tb:TS} (hp:PassesOwn (model X.prog X.w) X.A X.env X.xe) (hc:PT X c tc) (hb:PSs X body tb):PS X (.While c body [] pos) (tWhile tc tb):=by
 intro pins s σ H D I h
 obtain ⟨W,⟨m0,w0⟩,turn⟩:=h
 refine wpAny_While (codeAny_whileLoop (fun n s'=>∃ σ' H',Inv X pins σ' H' s'/\W n σ' H') ?_ m0 ⟨σ,H,I,w0⟩)
 rintro n s1 ⟨σ1,H1,I1,w1⟩
 refine wpAny_passesOwn hp (thn (hc pins s1 σ1 H1 _ I1 (turn n σ1 H1 w1)) fun b s2 ⟨H2,I2,q2⟩=>?_)
 cases b with
 | true =>
  obtain ⟨N,hN,q2⟩:=q2
  rw [if_pos rfl]
  refine wpAny_passesOwn hp (thn (hb pins s2 σ1 H2 _ I2 q2) fun f s3 q3=>?_)
  cases f with
  | next =>
   obtain ⟨σ3,H3,I3,n3⟩:=q3
   obtain ⟨m',hm,w3⟩:=hN σ3 H3 n3
   exact ⟨m',hm,σ3,H3,I3,w3⟩
  | cont =>
   obtain ⟨σ3,H3,I3,n3⟩:=q3
   obtain ⟨m',hm,w3⟩:=hN σ3 H3 n3
   exact ⟨m',hm,σ3,H3,I3,w3⟩
  | brk=>exact q3
  | ret v=>exact q3
 | false =>
  rw [if_neg Bool.false_ne_true]
  exact wpAny_execs_nil ⟨σ1,H2,I2,q2⟩
end
structure It where
 go:Nat->Hp->Prop
 yld:Nat->Hp->V->Hp->Prop
 stop:Nat->Hp->Prop
def FpOk (X:Cx) (pins:List (Addr × Obj)) (H:Hp) (b:Addr):Prop :=
 H b=none/\b≠X.env.locals/\b ∉ X.fs/\(b∈X.ex\/X.s₀.heap.objs.size<=b)/\(∀ x c,X.env.cells.lookup x=some c->c≠b)/\∀ p∈X.pn++pins,p.1≠b
theorem Inv.fpOk {X:Cx} {pins:List (Addr × Obj)} {σ:St} {H H':Hp} {s:Shared} {b:Addr} (I:Inv X pins σ H s) (hb:s.heap.objs.size<=b) (hn:H' b=none):FpOk X pins H' b:=by
 refine ⟨hn,Nat.ne_of_gt (Nat.lt_of_lt_of_le I.lt hb),I.nofs hb,.inr (Nat.le_trans I.sz hb),fun x c e z=>?_,fun p hp z=>?_⟩
 ·obtain ⟨v,q⟩:=I.cell x c e
  exact absurd (Nat.lt_of_lt_of_le q.lt (by rw [z]; exact hb)) (Nat.lt_irrefl _)
 ·exact absurd (Nat.lt_of_lt_of_le (Heap.lt_size (I.pin p hp).1) (by rw [z]; exact hb)) (Nat.lt_irrefl _)
structure Turn (P:Program) (w:World) (K:W.Frag) (tg:Expr) (J:It) (fp:List Addr) (it:Addr) (tn:Nat->Heap->Prop):Prop where
 mem:it∈fp
 obj:∀ i h,tn i h->∀ b∈fp,∃ o,h.get? b=some o/\∀ v,o.data≠.cell v
 keep:∀ i h h',tn i h->(∀ b∈fp,∀ o,h.get? b=some o->h'.get? b=some o)->tn i h'
 item:∀ (X:Cx),X.prog=P->X.w=w->X.K=K->X.calm=true->∀ (i:Nat) (pins:List (Addr × Obj)) (s:Shared) (σ:St) (H:Hp) (E:Value->Shared->Prop),Inv X pins σ H s->(∀ b∈fp,FpOk X pins H b)->tn i s.heap->J.go i H ->
  wpAny (model P w) X.A (pyNext (.ref it)) (fun r s1=>∃ u,r=some u /\
   wpAny (model P w) X.A (letOwnedTupleGo tg (.ref it) u) (fun _ s2=>∃ x H',Inv X pins σ H' s2/\RelV x u/\J.yld i H x H'/\tn (i + 1) s2.heap/\∀ b∈fp,H' b=none) E s1) E s
 done:∀ (X:Cx),X.prog=P->X.w=w->X.K=K->X.calm=true->∀ (i:Nat) (pins:List (Addr × Obj)) (s:Shared) (σ:St) (H:Hp) (E:Value->Shared->Prop),Inv X pins σ H s->(∀ b∈fp,FpOk X pins H b)->tn i s.heap->J.stop i H ->
  wpAny (model P w) X.A (pyNext (.ref it)) (fun r s1=>r=none/\Inv X pins σ H s1) E s
 self:∀ (A:Around) (i:Nat) (s:Shared) (Q:Value->Shared->Prop) (E:Value->Shared->Prop),tn i s.heap->Q (.ref it) s->wpAny (model P w) A (pyIter (.ref it)) Q E s
abbrev TI:=St->Hp->(It->Hp->Prop)->Prop
def PIE (X:Cx) (pins:List (Addr × Obj)) (σ:St) (tg:Expr) (R:It->Hp->Prop) (itv:Value) (s2:Shared):Prop :=
 ∃ (it:Addr) (fp:List Addr) (tn:Nat->Heap->Prop) (J:It) (H':Hp),itv=.ref it/\Inv X pins σ H' s2/\Turn X.prog X.w X.K tg J fp it tn/\tn 0 s2.heap/\(∀ b∈fp,FpOk X pins H' b)/\R J H'
def PI (X:Cx) (tg iter:Expr) (wi:TI):Prop :=
 ∀ (pins:List (Addr × Obj)) (s:Shared) (σ:St) (H:Hp) (R:It->Hp->Prop),Inv X pins σ H s->wi σ H R ->
  wpAny (model X.prog X.w) X.A (eval iter X.env) (fun v s1=>wpAny (model X.prog X.w) X.A (pyIter v) (PIE X pins σ tg R) X.xe s1) X.xe s
theorem go_of {M:Model} {A:Around} {E:Value->Shared->Prop} {s:Shared} {tg:Expr} {it:Addr} {u:Value} {o:Obj} {n:String} {vs:Array Value} {Q:Unit->Shared->Prop} (ho:s.heap.get? it=some o) (hc:o.cls=.type n) (hd:o.data=.fields vs)
  (hn:["enumerate", "zip", "dict_itemiterator", "dict_reverseitemiterator", "odict_iterator", "itertools.zip_longest", "itertools.pairwise"].contains n=false) (hQ:Q () s):wpAny M A (letOwnedTupleGo tg (.ref it) u) Q E s:=by
 unfold letOwnedTupleGo
 cases tg <;> first
  | exact wpAny_pure hQ
  | (cases u <;> first
    | exact wpAny_pure hQ
    | (refine wpAny_bind (wpAny_load ho ?_); rw [hc,hd]; show wpAny M A (if (["enumerate", "zip", "dict_itemiterator", "dict_reverseitemiterator", "odict_iterator", "itertools.zip_longest", "itertools.pairwise"].contains n && vs[0]? == some (rawInt _))=true then _ else _) Q E s; rw [if_neg (by intro h; rw [hn,Bool.false_and] at h; cases h)]; exact wpAny_pure hQ))
def Itl (K:W.Frag) (a:Addr):It :=
 ⟨fun i H=>∃ xs x,SqL K H a xs/\xs[i]? = some x,fun i H x H'=>H'=H/\∀ xs,SqL K H a xs->xs[i]? = some x,fun i H=>∃ xs,SqL K H a xs/\xs.length<=i⟩
def Itt (K:W.Frag) (a:Addr):It :=
 ⟨fun i H=>∃ xs x,SqT K H a xs/\xs[i]? = some x,fun i H x H'=>H'=H/\∀ xs,SqT K H a xs->xs[i]? = some x,fun i H=>∃ xs,SqT K H a xs/\xs.length<=i⟩
def Itr (lo:Int) (n:Nat):It:=⟨fun i _=>i < n,fun i H x H'=>H'=H/\x=.int (lo + i),fun i _=>n<=i⟩
theorem turn_list {P:Program} {w:World} {K:W.Frag} {tg:Expr} (a it:Addr):Turn P w K tg (Itl K a) [it] it (fun i h=>h.IsListIter it a i) where
 mem:=by simp
 obj:=fun i h st b hb=>by
  have e:b=it:=by simpa using hb
  subst e
  obtain ⟨o,e,c,d⟩:=st
  exact ⟨o,e,fun v z=>by rw [d] at z; cases z⟩
 keep:=fun i h h' st k=>st.at fun o e=>k it (by simp) o e
 item:=by
  intro X hP hw hK hc i pins s σ H E I hf st hg
  subst hP hw hK
  obtain ⟨xs,x,hq,hx⟩:=hg
  obtain ⟨its,rv,p,hz⟩:=I.list hq
  obtain ⟨u,hu,ru⟩:=rv.get hx
  obtain ⟨f0,f1,f2,f3,f4,f5⟩:=hf it (by simp)
  refine wpAny_pyNext_list_item st p.isList (x:=u) (by simpa using hu) fun h' st' sb=>?_
  have I1:Inv X pins σ H { s with heap:=h' }:=I.turned (t':=s.toks) (fun b o hb e=>(sb.2 b hb).trans e) f0 f1 f3 f4 f5
  obtain ⟨o,e,c,d⟩:=id st'
  exact ⟨u,rfl,go_of (s:={ s with heap:=h' }) e c d (by decide) ⟨x,H,I1,ru,⟨rfl,fun ys hy=>by rw [I.list_inj hy hq]; exact hx⟩,st',fun b hb=>(hf b hb).1⟩⟩
 done:=by
  intro X hP hw hK hc i pins s σ H E I hf st hg
  subst hP hw hK
  obtain ⟨xs,hq,hx⟩:=hg
  obtain ⟨its,rv,p,hz⟩:=I.list hq
  obtain ⟨f0,f1,f2,f3,f4,f5⟩:=hf it (by simp)
  have hl:=rv.length
  exact wpAny_pyNext_list_end (I.ok.hd hc) st p.isList (by simp; omega) fun h' eb=>⟨rfl,I.turned (t':=s.toks) (fun b o hb e=>eb b o hb e) f0 f1 f3 f4 f5⟩
 self:=fun _ _ _ _ _ st h=>wpAny_pyIter_listiter st h
theorem turn_tuple {P:Program} {w:World} {K:W.Frag} {tg:Expr} (a it:Addr):Turn P w K tg (Itt K a) [it] it (fun i h=>h.IsTupleIter it a i) where
 mem:=by simp
 obj:=fun i h st b hb=>by
  have e:b=it:=by simpa using hb
  subst e
  obtain ⟨o,e,c,d⟩:=st
  exact ⟨o,e,fun v z=>by rw [d] at z; cases z⟩
 keep:=fun i h h' st k=>st.at fun o e=>k it (by simp) o e
 item:=by
  intro X hP hw hK hc i pins s σ H E I hf st hg
  subst hP hw hK
  obtain ⟨xs,x,hq,hx⟩:=hg
  obtain ⟨its,rv,p,hz⟩:=I.tuple hq
  obtain ⟨u,hu,ru⟩:=rv.get hx
  obtain ⟨f0,f1,f2,f3,f4,f5⟩:=hf it (by simp)
  refine wpAny_pyNext_tuple_item st (show s.heap.IsTuple a its.toArray from p) (x:=u) (by simpa using hu) fun h' st' sb=>?_
  have I1:Inv X pins σ H { s with heap:=h' }:=I.turned (t':=s.toks) (fun b o hb e=>(sb.2 b hb).trans e) f0 f1 f3 f4 f5
  obtain ⟨o,e,c,d⟩:=id st'
  exact ⟨u,rfl,go_of (s:={ s with heap:=h' }) e c d (by decide) ⟨x,H,I1,ru,⟨rfl,fun ys hy=>by rw [I.tuple_inj hy hq]; exact hx⟩,st',fun b hb=>(hf b hb).1⟩⟩
 done:=by
  intro X hP hw hK hc i pins s σ H E I hf st hg
  subst hP hw hK
  obtain ⟨xs,hq,hx⟩:=hg
  obtain ⟨its,rv,p,hz⟩:=I.tuple hq
  obtain ⟨f0,f1,f2,f3,f4,f5⟩:=hf it (by simp)
  have hl:=rv.length
  exact wpAny_pyNext_tuple_end (I.ok.hd hc) st (show s.heap.IsTuple a its.toArray from p) (by simp; omega) fun h' eb=>⟨rfl,I.turned (t':=s.toks) (fun b o hb e=>eb b o hb e) f0 f1 f3 f4 f5⟩
 self:=fun _ _ _ _ _ st h=>wpAny_pyIter_tupleiter st h
theorem turn_range {P:Program} {w:World} {K:PySem.W.Frag} {tg:Expr} (it:Addr) (lo:Int) (n:Nat):Turn P w K tg (Itr lo n) [it] it (fun i h=>IsRangeIter h it (lo + (i:Nat) * 1) ((n:Int) - (i:Nat)) 1) where
 mem:=by simp
 obj:=fun i h st b hb=>by
  have e:b=it:=by simpa using hb
  subst e
  exact ⟨_,st,fun v z=>by
   have z':Data.fields _=Data.cell v:=z
   cases z'⟩
 keep:=fun i h h' st k=>k it (by simp) _ st
 item:=by
  intro X hP hw hK hc i pins s σ H E I hf st hg
  subst hP hw hK
  obtain ⟨f0,f1,f2,f3,f4,f5⟩:=hf it (by simp)
  have W:=Walks.range (prog:=X.prog) (w:=X.w) (I.ok.hd hc) it lo 1 n
  refine W.item i s _ _ hg st fun v h' tk hv st' kk=>?_
  obtain ⟨t,rfl⟩:=hv
  have I1:Inv X pins σ H { s with heap:=h',toks:=tk }:=I.turned (fun b o hb e=>kk b o (by simpa using hb) e) f0 f1 f3 f4 f5
  refine ⟨_,rfl,go_of (s:={ s with heap:=h',toks:=tk }) (n := "range_iterator") st' rfl rfl (by decide) ⟨.int (lo + i),H,I1,⟨t,?_⟩,⟨rfl,rfl⟩,st',fun b hb=>(hf b hb).1⟩⟩
  rw [Int.mul_one]
 done:=by
  intro X hP hw hK hc i pins s σ H E I hf st hg
  subst hP hw hK
  obtain ⟨f0,f1,f2,f3,f4,f5⟩:=hf it (by simp)
  exact wpAny_pyNext_range_end (I.ok.hd hc) st (by have:n<=i:=hg; omega) fun h' eb=>⟨rfl,I.turned (t':=s.toks) (fun b o hb e=>eb b o hb e) f0 f1 f3 f4 f5⟩
 self:=fun _ _ _ _ _ st h=>wpAny_pyIter_rangeiter st h
section
variable {X:Cx} {tg:Expr}
theorem range_it {pins:List (Addr × Obj)} {σ:St} {H:Hp} {s:Shared} {R:It->Hp->Prop} {E:Value->Shared->Prop} {lo hi:Int} {t u v:Tok} {tk:Nat} (I:Inv X pins σ H s) (h1:-(2 ^ 62)<=lo) (h2:lo < 2 ^ 62) (h3:-(2 ^ 62)<=hi) (h4:hi < 2 ^ 62)
  (q:R (Itr lo (hi - lo).toNat) H):wpAny (model X.prog X.w) X.A (pyIter (.ref s.heap.objs.size)) (PIE X pins σ tg R) E { s with heap:=s.heap.push { cls:=.type "range",data:=.fields #[.int lo t,.int hi u,.int 1 v] },toks:=tk }:=by
 refine wpAny_pyIter_range (IsRange.new ..) (small_one h1 h2 h3 h4) ?_
 have I1:Inv X pins σ H { s with heap:=s.heap.push { cls:=.type "range",data:=.fields #[.int lo t,.int hi u,.int 1 v] },toks:=tk }:=I.kept fun b o e=>Heap.get?_push_of_some _ e
 refine ⟨(s.heap.push { cls:=.type "range",data:=.fields #[.int lo t,.int hi u,.int 1 v] }).objs.size,[(s.heap.push { cls:=.type "range",data:=.fields #[.int lo t,.int hi u,.int 1 v] }).objs.size],_,_,H,rfl,
  I1.kept (t':=tk) fun b o e=>Heap.get?_push_of_some _ e,turn_range _ lo (hi - lo).toNat,?_,fun b hb=>?_,q⟩
 ·have e1:lo + ((0:Nat):Int) * 1=lo:=by simp
  have e2:(((hi - lo).toNat:Nat):Int) - ((0:Nat):Int)=Builtin.Range.rangeSize lo hi 1:=by rw [rangeSize_one]; split <;> omega
  show IsRangeIter _ _ (lo + ((0:Nat):Int) * 1) ((((hi - lo).toNat:Nat):Int) - ((0:Nat):Int)) 1
  rw [e1,e2]
  exact Heap.get?_push_size _ rfl
 ·have e:b=(s.heap.push { cls:=.type "range",data:=.fields #[.int lo t,.int hi u,.int 1 v] }).objs.size:=by simpa using hb
  subst e
  exact I1.fpOk (Nat.le_refl _) (I1.hok.fresh (Nat.le_refl _))
def iRng1 (ta:TA):TI:=fun σ H R=>ta σ H fun vs H1=>∃ j:Int,vs=[.int j]/\-(2 ^ 62)<=j/\j < 2 ^ 62/\R (Itr 0 j.toNat) H1
theorem pi_range1 {a:Expr} {ta:TA} {p pos:Pos} (hg:Gl X "range") (hm:X.mg "range" = none) (ha:PA X [a] ta) (hs:starEach [a] X.env=[(false,eval a X.env)]:=by rfl):PI X tg (.Call (.Name "range" p) [a] [] pos) (iRng1 ta):=by
 intro pins s σ H R I h
 refine Call_ (ld_blt I hg hm boot_range (PyProof.Rows.callWith_type1 (thn (ha pos pins s σ H _ I h) fun us s1 ⟨vs,H1,I1,r1,q1⟩=>?_) hs rfl))
 obtain ⟨j,e,q1,q2,q⟩:=q1
 subst e
 cases r1 with
 | cons r rr =>
  cases rr
  obtain ⟨t,rfl⟩:=r
  exact call_range_1 (range_it I1 (by omega) (by omega) q1 q2 (by simpa using q))
def tFor (wi:TI) (g:TG) (tb:TS):TS:=fun D σ H=>wi σ H fun J H1=>∃ W:Nat->Nat->St->Hp->Prop,(∃ m,W 0 m σ H1)/\∀ i m σ H,W i m σ H ->
 (J.stop i H/\D.nx σ H)\/(J.go i H/\∃ N:St->Hp->Prop,(∀ σ' H',N σ' H'->∃ m',m' < m/\W (i + 1) m' σ' H')/\∀ x H',J.yld i H x H'->g x σ H' fun σ2 H2=>tb { D with nx:=N,ct:=N,bk:=D.nx } σ2 H2)
def pinsAt (fp:List Addr) (h:Heap):List (Addr × Obj):=fp.filterMap fun b=>(h.get? b).map fun o=>(b,o)
theorem mem_pinsAt {fp:List Addr} {h:Heap} {b:Addr} {o:Obj} (hb:b∈fp) (e:h.get? b=some o):(b,o)∈pinsAt fp h:=List.mem_filterMap.mpr ⟨b,hb,by rw [e]; rfl⟩
theorem of_pinsAt {fp:List Addr} {h:Heap} {p:Addr × Obj} (hp:p∈pinsAt fp h):p.1∈fp/\h.get? p.1=some p.2:=by
 obtain ⟨b,hb,e⟩:=List.mem_filterMap.mp hp
 cases q:h.get? b with
 | none=>rw [q] at e; cases e
 | some o =>
  rw [q] at e
  have e':(b,o)=p:=Option.some.inj e
  subst e'
  exact ⟨hb,q⟩
theorem Inv.pinned {pins:List (Addr × Obj)} {σ:St} {H:Hp} {s:Shared} {fp:List Addr} (I:Inv X pins σ H s) (hf:∀ b∈fp,FpOk X pins H b) (ho:∀ b∈fp,∃ o,s.heap.get? b=some o/\∀ v,o.data≠.cell v):Inv X (pins++pinsAt fp s.heap) σ H s :=
 I.pins_of fun p hp=>(List.mem_append.mp hp).elim (fun z=>I.pin p (List.mem_append_right _ z)) fun z=>by
  obtain ⟨hb,e⟩:=of_pinsAt z
  obtain ⟨f0,f1,f2,_⟩:=hf p.1 hb
  obtain ⟨o,e',d⟩:=ho p.1 hb
  rw [e] at e'; cases e'
  exact ⟨e,f0,f1,f2,d⟩
theorem Inv.unpinned {pins pl:List (Addr × Obj)} {σ:St} {H:Hp} {s:Shared} (I:Inv X (pins++pl) σ H s):Inv X pins σ H s:=I.pins_of fun p hp=>I.pin p (List.mem_append_right _ (List.mem_append_left _ hp))
theorem ps_for {iter:Expr} {body:List Stmt} {wi:TI} {g:TG} {tb:TS} {pos:Pos} (hp:PassesOwn (model X.prog X.w) X.A X.env X.xe) (hc:X.calm=true) (hi:PI X tg iter wi) (hg:PG X tg g) (hb:PSs X body tb)
  (hs:∀ x,foldedSetIterable iter X.env x=pure x:=by intro _; rfl):PS X (.For tg iter body [] pos) (tFor wi g tb):=by
 intro pins s σ H D I h
 refine wpAny_For (thn (hi pins s σ H _ I h) fun v s1 h1=>thn h1 fun itv s2 h2=>?_) hs
 obtain ⟨it,fp,tn,J,H2,e,I2,T,st2,f2,W,⟨m0,w0⟩,turn⟩:=h2
 subst e
 have stat:∀ {H':Hp},(∀ b∈fp,H' b=none)->∀ b∈fp,FpOk X pins H' b:=fun hn b hb=>⟨hn b hb,(f2 b hb).2⟩
 refine codeAny_forLoop_any (fun n s'=>∃ i σ' H',Inv X pins σ' H' s'/\tn i s'.heap/\(∀ b∈fp,H' b=none)/\W i n σ' H') ?_ m0 ⟨0,σ,H2,I2,st2,fun b hb=>(f2 b hb).1,w0⟩
 rintro n s3 ⟨i,σ3,H3,I3,st3,fr3,w3⟩
 rcases turn i n σ3 H3 w3 with ⟨stop,qn⟩ | ⟨go,N,hN,step⟩
 ·refine wpAny_passesOwn hp (thn (T.done X rfl rfl rfl hc i pins s3 σ3 H3 X.xe I3 (stat fr3) st3 stop) fun r s4 ⟨hr,I4⟩=>?_)
  subst hr
  exact wpAny_execs_nil ⟨σ3,H3,I4,qn⟩
 ·refine wpAny_passesOwn hp (thn (T.item X rfl rfl rfl hc i pins s3 σ3 H3 X.xe I3 (stat fr3) st3 go) fun r s4 ⟨u,hr,h4⟩=>?_)
  subst hr
  refine wpAny_passesOwn hp (thn h4 fun _ s5 ⟨x,H5,I5,r5,y5,st5,fr5⟩=>?_)
  have I5':=I5.pinned (stat fr5) (T.obj _ _ st5)
  refine wpAny_passesOwn hp (thn (hg _ s5 σ3 H5 x u _ I5' r5 (step x H5 y5)) fun _ s6 ⟨σ6,H6,I6,q6⟩=>?_)
  refine wpAny_passesOwn hp (thn (hb _ s6 σ6 H6 _ I6 q6) fun f s7 q7=>?_)
  have again:∀ {σ7:St} {H7:Hp},Inv X (pins++pinsAt fp s5.heap) σ7 H7 s7->N σ7 H7->∃ m,m < n/\∃ i σ' H',Inv X pins σ' H' s7/\tn i s7.heap/\(∀ b∈fp,H' b=none)/\W i m σ' H':=fun {σ7 H7} I7 n7=>by
   obtain ⟨m',hm,w7⟩:=hN σ7 H7 n7
   refine ⟨m',hm,i + 1,σ7,H7,I7.unpinned,T.keep _ _ _ st5 fun b hb o e=>(I7.pin (b,o) (List.mem_append_right _ (List.mem_append_right _ (mem_pinsAt hb e)))).1,fun b hb=>?_,w7⟩
   obtain ⟨o,e,d⟩:=T.obj _ _ st5 b hb
   exact (I7.pin (b,o) (List.mem_append_right _ (List.mem_append_right _ (mem_pinsAt hb e)))).2.1
  cases f with
  | next=>obtain ⟨σ7,H7,I7,n7⟩:=q7; exact again I7 n7
  | cont=>obtain ⟨σ7,H7,I7,n7⟩:=q7; exact again I7 n7
  | brk=>obtain ⟨σ7,H7,I7,q7⟩:=q7; exact ⟨σ7,H7,I7.unpinned,q7⟩
  | ret v=>obtain ⟨x7,σ7,H7,I7,r7,q7⟩:=q7; exact ⟨x7,σ7,H7,I7.unpinned,r7,q7⟩
end
theorem while_by {c:TT} {tb:TS} {D:Ends} {σ:St} {H:Hp} (Pv:St->Hp->Prop) (μ:St->Hp->Nat) (h0:Pv σ H)
  (hs:∀ σ H,Pv σ H->c σ H fun b H1=>if b=true then tb { D with nx:=fun σ' H'=>Pv σ' H'/\μ σ' H' < μ σ H,ct:=fun σ' H'=>Pv σ' H'/\μ σ' H' < μ σ H,bk:=D.nx } σ H1 else D.nx σ H1)
  (mono:∀ σ H Q Q',(∀ b H1,Q b H1->Q' b H1)->c σ H Q->c σ H Q'):tWhile c tb D σ H:=by
 refine ⟨fun m σ H=>m=μ σ H/\Pv σ H,⟨_,rfl,h0⟩,?_⟩
 rintro m σ H ⟨rfl,p⟩
 refine mono σ H _ _ (fun b H1 q=>?_) (hs σ H p)
 cases b with
 | true=>exact ⟨_,fun σ' H' ⟨p',l⟩=>⟨_,l,rfl,p'⟩,q⟩
 | false=>exact q
abbrev R2:=V->V->Hp->VK->Prop
def OpR (X:Cx) (f:Value->Value->Sem Value) (r:R2):Prop :=
 ∀ (pins:List (Addr × Obj)) (s:Shared) (σ:St) (H:Hp) (x y:V) (v u:Value) (Q:VK),Inv X pins σ H s->RelV x v->RelV y u->r x y H Q ->
  wpAny (model X.prog X.w) X.A (f v u) (EP X pins σ Q) X.xe s
def UnR (X:Cx) (f:Value->Sem Value) (r:V->Hp->VK->Prop):Prop :=
 ∀ (pins:List (Addr × Obj)) (s:Shared) (σ:St) (H:Hp) (x:V) (v:Value) (Q:VK),Inv X pins σ H s->RelV x v->r x H Q ->
  wpAny (model X.prog X.w) X.A (f v) (EP X pins σ Q) X.xe s
def CallR (X:Cx) (f:Value) (r:List V->Hp->VK->Prop):Prop :=
 ∀ (pins:List (Addr × Obj)) (s:Shared) (σ:St) (H:Hp) (xs:List V) (us:List Value) (Q:VK),Inv X pins σ H s->Vals xs us->r xs H Q ->
  wpAny (model X.prog X.w) X.A (call f us) (EP X pins σ Q) X.xe s
def tOp (r:R2) (ta tb:TE):TE:=fun σ H Q=>ta σ H fun x H1=>tb σ H1 fun y H2=>r x y H2 Q
def tUn (r:V->Hp->VK->Prop) (ta:TE):TE:=fun σ H Q=>ta σ H fun x H1=>r x H1 Q
def rI (C:Int->Int->Prop) (g:Int->Int->V):R2:=fun x y H Q=>∃ i j,x=.int i/\y=.int j/\C i j/\Q (g i j) H
def rI0 (g:Int->Int->V):R2:=fun x y H Q=>∃ i j,x=.int i/\y=.int j/\Q (g i j) H
def rU (g:Int->V):V->Hp->VK->Prop:=fun x H Q=>∃ i,x=.int i/\Q (g i) H
section
variable {X:Cx} {a b c:Expr} {ta tb tc:TE} {pos:Pos}
theorem binT (ha:PE X a ta) (hb:PE X b tb) {pins:List (Addr × Obj)} {s:Shared} {σ:St} {H:Hp} {R:V->V->Hp->Prop} (I:Inv X pins σ H s)
  (h:ta σ H fun x H1=>tb σ H1 fun y H2=>R x y H2) {Q:Value->Shared->Prop} {f:Value->Value->Sem Value}
  (hf:∀ v u s2 x y H2,Inv X pins σ H2 s2->RelV x v->RelV y u->R x y H2->wpAny (model X.prog X.w) X.A (f v u) Q X.xe s2) :
  wpAny (model X.prog X.w) X.A (eval a X.env) (fun v s₁=>wpAny (model X.prog X.w) X.A (eval b X.env) (fun u s₂=>wpAny (model X.prog X.w) X.A (f v u) Q X.xe s₂) X.xe s₁) X.xe s:=by
 refine thn (ha pins s σ H _ I h) fun v s1 ⟨x,H1,I1,r1,q1⟩=>?_
 refine thn (hb pins s1 σ H1 _ I1 q1) fun u s2 ⟨y,H2,I2,r2,q2⟩=>?_
 exact hf v u s2 x y H2 I2 r1 r2 q2
theorem pe_op {op:Operator} {r:R2} (ho:OpR X (binaryOp op) r) (ha:PE X a ta) (hb:PE X b tb):PE X (.BinOp a op b pos) (tOp r ta tb):=by
 intro pins s σ H Q I h
 exact wpAny_BinOp (binT ha hb I h fun v u s2 x y H2 I2 rx ry q=>ho pins s2 σ H2 x y v u Q I2 rx ry q)
theorem pe_un {op:UnaryOp} {r:V->Hp->VK->Prop} (ho:UnR X (unaryOp op) r) (ha:PE X a ta):PE X (.UnaryOp op a pos) (tUn r ta):=by
 intro pins s σ H Q I h
 exact UnaryOp_ (thn (ha pins s σ H _ I h) fun v s1 ⟨x,H1,I1,r1,q1⟩=>ho pins s1 σ H1 x v Q I1 r1 q1)
theorem opI {f:Value->Value->Sem Value} {C:Int->Int->Prop} {g:Int->Int->Int}
  (rule:∀ (i j:Int) (t u:Tok) (s:Shared) (Q:Value->Shared->Prop) (E:Value->Shared->Prop),C i j->Q (.int (g i j) s.toks) { s with toks:=s.toks + 1 }->wpAny (model X.prog X.w) X.A (f (.int i t) (.int j u)) Q E s) :
  OpR X f (rI C fun i j=>.int (g i j)):=by
 intro pins s σ H x y v u Q I rx ry h
 obtain ⟨i,j,rfl,rfl,hc,q⟩:=h
 obtain ⟨t,rfl⟩:=rx
 obtain ⟨t',rfl⟩:=ry
 exact rule i j t t' s _ _ hc ⟨.int (g i j),H,I.tok _,⟨_,rfl⟩,q⟩
theorem opI0 {f:Value->Value->Sem Value} {g:Int->Int->Int}
  (rule:∀ (i j:Int) (t u:Tok) (s:Shared) (Q:Value->Shared->Prop) (E:Value->Shared->Prop),Q (.int (g i j) s.toks) { s with toks:=s.toks + 1 }->wpAny (model X.prog X.w) X.A (f (.int i t) (.int j u)) Q E s) :
  OpR X f (rI0 fun i j=>.int (g i j)):=by
 intro pins s σ H x y v u Q I rx ry h
 obtain ⟨i,j,rfl,rfl,q⟩:=h
 obtain ⟨t,rfl⟩:=rx
 obtain ⟨t',rfl⟩:=ry
 exact rule i j t t' s _ _ ⟨.int (g i j),H,I.tok _,⟨_,rfl⟩,q⟩
theorem opB0 {f:Value->Value->Sem Value} {g:Int->Int->Bool}
  (rule:∀ (i j:Int) (t u:Tok) (s:Shared) (Q:Value->Shared->Prop) (E:Value->Shared->Prop),Q (.bool (g i j)) s->wpAny (model X.prog X.w) X.A (f (.int i t) (.int j u)) Q E s) :
  OpR X f (rI0 fun i j=>.bl (g i j)):=by
 intro pins s σ H x y v u Q I rx ry h
 obtain ⟨i,j,rfl,rfl,q⟩:=h
 obtain ⟨t,rfl⟩:=rx
 obtain ⟨t',rfl⟩:=ry
 exact rule i j t t' s _ _ ⟨.bl (g i j),H,I,rfl,q⟩
def CDiv (i j:Int):Prop:=0 < j/\j < 1073741824
def CPow (i j:Int):Prop:=0<=j/\j<=1000000/\i.natAbs < 2 ^ 64
def CMul (i j:Int):Prop:=(-(2 ^ 64) < i/\i < 2 ^ 64)\/(-(2 ^ 64) < j/\j < 2 ^ 64)
theorem CMul.ok {i j:Int} (h:CMul i j):IntMulOk i j:=by
 rcases h with ⟨h1,h2⟩ | ⟨h1,h2⟩
 ·exact .of_left (intBits_le_64 h1 h2)
 ·exact .of_right (intBits_le_64 h1 h2)
theorem op_add:OpR X (binaryOp .Add) (rI0 fun i j=>.int (i + j)):=opI0 fun _ _ _ _ _ _ _ q=>add_int q
theorem op_sub:OpR X (binaryOp .Sub) (rI0 fun i j=>.int (i - j)):=opI0 fun _ _ _ _ _ _ _ q=>sub_int q
theorem op_mul:OpR X (binaryOp .Mult) (rI CMul fun i j=>.int (i * j)):=opI fun _ _ _ _ _ _ _ hc q=>mul_int q hc.ok
theorem op_fdiv:OpR X (binaryOp .FloorDiv) (rI CDiv fun i j=>.int (i / j)):=opI fun i j _ _ _ _ _ hc q=>by
 have h1:(0:Int) < j:=hc.1
 have h2:j < 1073741824:=hc.2
 exact floordiv_int (by omega) (by rw [Int.fdiv_eq_ediv_of_nonneg i (by omega)]; exact q) (.inl (PyProof.noPylong_small (by omega)))
theorem op_mod:OpR X (binaryOp .Mod) (rI (fun _ j=>0 < j) fun i j=>.int (i % j)):=opI fun i j _ _ _ _ _ hc q=>by
 have h1:(0:Int) < j:=hc
 exact mod_int' (by omega) (by rw [Int.fmod_eq_emod_of_nonneg i (by omega)]; exact q)
theorem op_pow:OpR X (binaryOp .Pow) (rI CPow fun i j=>.int (i ^ j.toNat)):=opI fun _ _ _ _ _ _ _ hc q=>pow_int_small hc.1 hc.2.1 hc.2.2 q
theorem unI {f:Value->Sem Value} {g:Int->Int}
  (rule:∀ (i:Int) (t:Tok) (s:Shared) (Q:Value->Shared->Prop) (E:Value->Shared->Prop),Q (.int (g i) s.toks) { s with toks:=s.toks + 1 }->wpAny (model X.prog X.w) X.A (f (.int i t)) Q E s) :
  UnR X f (rU fun i=>.int (g i)):=by
 intro pins s σ H x v Q I rx h
 obtain ⟨i,rfl,q⟩:=h
 obtain ⟨t,rfl⟩:=rx
 exact rule i t s _ _ ⟨.int (g i),H,I.tok _,⟨_,rfl⟩,q⟩
theorem un_neg:UnR X (unaryOp .USub) (rU fun i=>.int (-i)):=unI fun _ _ _ _ _ q=>neg_int q
end
def scal:V->V->Bool
 | .non,.non=>true | .non,.int _=>true | .int _,.non=>true | .non,.bl _=>true | .bl _,.non=>true | .non,.str _=>true | .str _,.non=>true
 | .int _,.int _=>true | .bl _,.bl _=>true | .str _,.str _=>true | .byt _,.byt _=>true
 | .int _,.str _=>true | .str _,.int _=>true | .bl _,.str _=>true | .str _,.bl _=>true
 | _,_=>false
def rEq:R2:=fun x y H Q=>scal x y=true/\Q (.bl (decide (x=y))) H
def rNe:R2:=fun x y H Q=>scal x y=true/\Q (.bl (!decide (x=y))) H
theorem dec_int {i j:Int}:decide (V.int i=V.int j)=(i == j):=by
 rw [Bool.eq_iff_iff]
 simp
theorem dec_bl {i j:Bool}:decide (V.bl i=V.bl j)=(i == j):=by
 rw [Bool.eq_iff_iff]
 simp
theorem dec_str {i j:Str}:decide (V.str i=V.str j)=(i == j):=by
 rw [Bool.eq_iff_iff]
 simp
theorem dec_byt {i j:Array UInt8}:decide (V.byt i=V.byt j)=(i.toList == j.toList):=by
 rw [Bool.eq_iff_iff]
 cases i
 cases j
 simp
section
variable {X:Cx} {a b c:Expr} {ta tb tc:TE} {pos:Pos}
theorem fin_bl {pins:List (Addr × Obj)} {σ:St} {H:Hp} {s:Shared} {Q:VK} {k k':Bool} (I:Inv X pins σ H s) (q:Q (.bl k) H) (e:k=k'):EP X pins σ Q (.bool k') s:=by
 subst e
 exact ⟨.bl k,H,I,rfl,q⟩
theorem op_eq:OpR X (compareOp .Eq) rEq:=by
 intro pins s σ H x y v u Q I rx ry h
 obtain ⟨hs,q⟩:=h
 cases x with
 | non =>
  cases rx
  cases y with
  | non=>cases ry; exact PySem.EqNone.eq_none_none (fin_bl I q (by simp))
  | bl j=>cases ry; exact PySem.EqNone.eq_none_bool (fin_bl I q (by simp))
  | int j=>obtain ⟨t',rfl⟩:=ry; exact PySem.EqNone.eq_none_int (fin_bl I q (by simp))
  | str j=>obtain ⟨t',rfl⟩:=ry; exact PySem.EqNone.eq_none_str (fin_bl I q (by simp))
  | _=>exact absurd (show false=true from hs) Bool.false_ne_true
 | bl i =>
  cases rx
  cases y with
  | non=>cases ry; exact PySem.EqNone.eq_bool_none (fin_bl I q (by simp))
  | bl j=>cases ry; exact eq_bool (fin_bl I q dec_bl)
  | str j=>obtain ⟨t',rfl⟩:=ry; exact PySem.EqMixed.eq_bool_str (fin_bl I q (by simp))
  | _=>exact absurd (show false=true from hs) Bool.false_ne_true
 | int i =>
  obtain ⟨t,rfl⟩:=rx
  cases y with
  | non=>cases ry; exact PySem.EqNone.eq_int_none (fin_bl I q (by simp))
  | int j=>obtain ⟨t',rfl⟩:=ry; exact eq_int (fin_bl I q dec_int)
  | str j=>obtain ⟨t',rfl⟩:=ry; exact PySem.EqMixed.eq_int_str (fin_bl I q (by simp))
  | _=>exact absurd (show false=true from hs) Bool.false_ne_true
 | str i =>
  obtain ⟨t,rfl⟩:=rx
  cases y with
  | non=>cases ry; exact PySem.EqNone.eq_str_none (fin_bl I q (by simp))
  | bl j=>cases ry; exact PySem.EqMixed.eq_str_bool (fin_bl I q (by simp))
  | int j=>obtain ⟨t',rfl⟩:=ry; exact PySem.EqMixed.eq_str_int (fin_bl I q (by simp))
  | str j=>obtain ⟨t',rfl⟩:=ry; exact eq_str (fin_bl I q dec_str)
  | _=>exact absurd (show false=true from hs) Bool.false_ne_true
 | byt i =>
  obtain ⟨t,rfl⟩:=rx
  cases y with
  | byt j=>obtain ⟨t',rfl⟩:=ry; exact W.eq_bytes (fin_bl I q dec_byt)
  | _=>exact absurd (show false=true from hs) Bool.false_ne_true
 | _=>cases y <;> exact absurd (show false=true from hs) Bool.false_ne_true
theorem op_ne:OpR X (compareOp .NotEq) rNe:=by
 intro pins s σ H x y v u Q I rx ry h
 obtain ⟨hs,q⟩:=h
 cases x with
 | non =>
  cases rx
  cases y with
  | non=>cases ry; exact PySem.EqNone.ne_none_none (fin_bl I q (by simp))
  | bl j=>cases ry; exact PySem.EqNone.ne_none_bool (fin_bl I q (by simp))
  | int j=>obtain ⟨t',rfl⟩:=ry; exact PySem.EqNone.ne_none_int (fin_bl I q (by simp))
  | str j=>obtain ⟨t',rfl⟩:=ry; exact PySem.EqNone.ne_none_str (fin_bl I q (by simp))
  | _=>exact absurd (show false=true from hs) Bool.false_ne_true
 | bl i =>
  cases rx
  cases y with
  | non=>cases ry; exact PySem.EqNone.ne_bool_none (fin_bl I q (by simp))
  | bl j=>cases ry; exact ne_bool (fin_bl I q (congrArg not dec_bl))
  | str j=>obtain ⟨t',rfl⟩:=ry; exact PySem.EqMixed.ne_bool_str (fin_bl I q (by simp))
  | _=>exact absurd (show false=true from hs) Bool.false_ne_true
 | int i =>
  obtain ⟨t,rfl⟩:=rx
  cases y with
  | non=>cases ry; exact PySem.EqNone.ne_int_none (fin_bl I q (by simp))
  | int j=>obtain ⟨t',rfl⟩:=ry; exact ne_int (fin_bl I q (congrArg not dec_int))
  | str j=>obtain ⟨t',rfl⟩:=ry; exact PySem.EqMixed.ne_int_str (fin_bl I q (by simp))
  | _=>exact absurd (show false=true from hs) Bool.false_ne_true
 | str i =>
  obtain ⟨t,rfl⟩:=rx
  cases y with
  | non=>cases ry; exact PySem.EqNone.ne_str_none (fin_bl I q (by simp))
  | bl j=>cases ry; exact PySem.EqMixed.ne_str_bool (fin_bl I q (by simp))
  | int j=>obtain ⟨t',rfl⟩:=ry; exact PySem.EqMixed.ne_str_int (fin_bl I q (by simp))
  | str j=>obtain ⟨t',rfl⟩:=ry; exact ne_str (fin_bl I q (congrArg not dec_str))
  | _=>exact absurd (show false=true from hs) Bool.false_ne_true
 | byt i =>
  obtain ⟨t,rfl⟩:=rx
  cases y with
  | byt j=>obtain ⟨t',rfl⟩:=ry; exact W.ne_bytes (fin_bl I q (congrArg not dec_byt))
  | _=>exact absurd (show false=true from hs) Bool.false_ne_true
 | _=>cases y <;> exact absurd (show false=true from hs) Bool.false_ne_true
theorem op_lt:OpR X (compareOp .Lt) (rI0 fun i j=>.bl (decide (i < j))):=opB0 fun _ _ _ _ _ _ _ q=>lt_int q
theorem op_gt:OpR X (compareOp .Gt) (rI0 fun i j=>.bl (decide (j < i))):=opB0 fun _ _ _ _ _ _ _ q=>gt_int q
theorem op_ge:OpR X (compareOp .GtE) (rI0 fun i j=>.bl (decide (j<=i))):=opB0 fun _ _ _ _ _ _ _ q=>ge_int q
theorem OpR.or {f:Value->Value->Sem Value} {r r':R2} (h:OpR X f r) (h':OpR X f r'):OpR X f (fun x y H Q=>r x y H Q\/r' x y H Q):=by
 intro pins s σ H x y v u Q I rx ry q
 rcases q with q | q
 ·exact h pins s σ H x y v u Q I rx ry q
 ·exact h' pins s σ H x y v u Q I rx ry q
theorem nomark (b:Expr) {op:CmpOp} (h:op≠.In:=by decide) (h2:op≠.NotIn:=by decide):behindInMarks op b=false:=by
 have e1:(op == CmpOp.In)=false:=by cases op <;> first | rfl | exact absurd rfl h
 have e2:(op == CmpOp.NotIn)=false:=by cases op <;> first | rfl | exact absurd rfl h2
 cases b <;> simp [behindInMarks,e1,e2]
theorem pe_cmpR {op:CmpOp} {r:R2} (ho:OpR X (compareOp op) r) (ha:PE X a ta) (hb:PE X b tb) (hm:behindInMarks op b=false):PE X (.Compare a [op] [b] pos) (tOp r ta tb):=by
 intro pins s σ H Q I h
 exact wpAny_Compare1 (binT ha hb I h fun v u s2 x y H2 I2 rx ry q=>ho pins s2 σ H2 x y v u Q I2 rx ry q) hm
def tTest (t:TE):TT:=fun σ H Q=>t σ H fun x H'=>∃ k,x=.bl k/\Q k H'
theorem pt_cmpR {op:CmpOp} {r:R2} (ho:OpR X (compareOp op) r) (ha:PE X a ta) (hb:PE X b tb) (hm:behindInMarks op b=false):PT X (.Compare a [op] [b] pos) (tTest (tOp r ta tb)):=by
 intro pins s σ H Q I h
 refine wpAny_isTrue_Compare1 (thn (ha pins s σ H _ I h) fun v s1 ⟨x,H1,I1,r1,q1⟩=>thn (hb pins s1 σ H1 _ I1 q1) fun u s2 ⟨y,H2,I2,r2,q2⟩ =>
  thn (ho pins s2 σ H2 x y v u _ I2 r1 r2 q2) fun c s3 ⟨z,H3,I3,r3,k,e,q3⟩=>?_) hm
 subst e
 cases r3
 exact wpAny_truthy_bool ⟨H3,I3,q3⟩
theorem line63:(sizeLine:Nat) < 2 ^ 63:=by rw [sizeLine_eq]; decide
theorem op_add_str:OpR X (binaryOp .Add) (fun x y H Q=>∃ i j,x=.str i/\y=.str j/\i.length + j.length<=sizeLine/\Q (.str (i++j)) H):=by
 intro pins s σ H x y v u Q I rx ry h
 obtain ⟨i,j,rfl,rfl,hz,q⟩:=h
 obtain ⟨t,rfl⟩:=rx
 obtain ⟨t',rfl⟩:=ry
 exact add_str (fun t' tk=>⟨.str (i++j),H,I.tok _,⟨_,rfl⟩,q⟩) hz
theorem vals1 {x:V} {us:List Value} (r:Vals [x] us):∃ u,us=[u]/\RelV x u:=by
 cases r with
 | cons r1 r2=>cases r2; exact ⟨_,rfl,r1⟩
theorem vals2 {x y:V} {us:List Value} (r:Vals [x,y] us):∃ u w',us=[u,w']/\RelV x u/\RelV y w':=by
 cases r with
 | cons r1 r2 =>
  cases r2 with
  | cons r3 r4=>cases r4; exact ⟨_,_,rfl,r1,r3⟩
theorem call_max2 (hc:X.calm=true):CallR X (.builtin "max") (fun xs H Q=>∃ i j,xs=[.int i,.int j]/\Q (.int (if j > i then j else i)) H):=by
 intro pins s σ H xs us Q I r h
 obtain ⟨i,j,rfl,q⟩:=h
 obtain ⟨u,w',rfl,⟨t,rfl⟩,⟨t',rfl⟩⟩:=vals2 r
 refine max_two_ints (I.ok.hd hc) fun h' tk k=>⟨_,H,I.kept k,?_,q⟩
 by_cases hj:j > i
 ·rw [if_pos hj,if_pos hj]; exact ⟨_,rfl⟩
 ·rw [if_neg hj,if_neg hj]; exact ⟨_,rfl⟩
theorem call_min2 (hc:X.calm=true):CallR X (.builtin "min") (fun xs H Q=>∃ i j,xs=[.int i,.int j]/\Q (.int (if j < i then j else i)) H):=by
 intro pins s σ H xs us Q I r h
 obtain ⟨i,j,rfl,q⟩:=h
 obtain ⟨u,w',rfl,⟨t,rfl⟩,⟨t',rfl⟩⟩:=vals2 r
 refine min_two_ints (I.ok.hd hc) fun h' tk k=>⟨_,H,I.kept k,?_,q⟩
 by_cases hj:j < i
 ·rw [if_pos hj,if_pos hj]; exact ⟨_,rfl⟩
 ·rw [if_neg hj,if_neg hj]; exact ⟨_,rfl⟩
theorem call_int1:CallR X (.type "int") (fun xs H Q=>(∃ i,xs=[.int i]/\Q (.int i) H)\/∃ k,xs=[.bl k]/\Q (.int (if k then 1 else 0)) H):=by
 intro pins s σ H xs us Q I r h
 rcases h with ⟨i,rfl,q⟩ | ⟨k,rfl,q⟩
 ·obtain ⟨u,rfl,t,rfl⟩:=vals1 r
  exact call_int_int ⟨.int i,H,I,⟨_,rfl⟩,q⟩
 ·obtain ⟨u,rfl,r1⟩:=vals1 r
  cases r1
  exact call_int_bool ⟨.int (if k then 1 else 0),H,I.tok _,⟨_,rfl⟩,q⟩
end
structure ObjM (h:Heap) (x dx C:Addr) (mA:Str->Option Value):Prop where
 obj:h.get? x=some (W.instObj C dx)
 ns:h.Ns1 dx mA
 ne:dx≠x
theorem lookIn_ns {h:Heap} {dx:Addr} {mA:Str->Option Value} (n:h.Ns1 dx mA):∃ od,h.get? dx=some od/\∀ name,W.lookIn name od=some (mA name):=by
 obtain ⟨o,es,ep,ho,hd,hk,_,hm⟩:=n
 refine ⟨o,ho,fun name=>?_⟩
 have e:=hm name
 unfold nsFind findBy at e
 rw [<- Array.find?_toList] at e
 unfold W.lookIn
 rw [hd]
 dsimp only
 split
 ·rename_i y q
  rw [q] at e
  exact congrArg some e
 ·rename_i q
  rw [q] at e
  have a:es.toList.any (·.refKey)=false:=by
   rw [List.any_eq_false]
   intro y hy
   obtain ⟨z,t,hkey⟩:=hk y (Array.mem_toList_iff.mp hy)
   simp [DictEntry.refKey,hkey]
  have a':¬ es.toList.any (·.refKey)=true:=by rw [a]; exact Bool.false_ne_true
  rw [if_neg a']
  exact congrArg some e
theorem ObjM.look {h:Heap} {x dx C:Addr} {mA:Str->Option Value} (I:ObjM h x dx C mA):∃ od,W.InstAt h x (W.instObj C dx) C (some od)/\∀ name,W.lookIn name od=some (mA name) :=
 let ⟨od,ho,hl⟩:=lookIn_ns I.ns
 ⟨od,⟨I.obj,rfl,rfl,ho⟩,hl⟩
def putF (f:Str) (v:V):List (Str × V)->List (Str × V)
 | []=>[(f,v)]
 | (g,x)::r=>if g=f then (g,v)::r else (g,x)::putF f v r
theorem lookup_putF (f g:Str) (v:V):∀ fs:List (Str × V),(putF f v fs).lookup g=if g=f then some v else fs.lookup g
 | []=>by
  show List.lookup g [(f,v)]=_
  by_cases h:g=f
  ·have hb:(g == f)=true:=beq_iff_eq.mpr h
   simp only [List.lookup,hb,if_pos h]
  ·have hb:(g == f)=false:=beq_eq_false_iff_ne.mpr h
   simp only [List.lookup,hb,if_neg h]
 | (k,x)::r=>by
  have ih:=lookup_putF f g v r
  rw [show putF f v ((k,x)::r)=(if k=f then (k,v)::r else (k,x)::putF f v r) from rfl]
  by_cases hk:k=f
  ·rw [if_pos hk]
   by_cases h:g=k
   ·have hb:(g == k)=true:=beq_iff_eq.mpr h
    simp only [List.lookup,hb,if_pos (h.trans hk)]
   ·have hb:(g == k)=false:=beq_eq_false_iff_ne.mpr h
    simp only [List.lookup,hb,if_neg (fun e:g=f=>h (e.trans hk.symm))]
  ·rw [if_neg hk]
   by_cases h:g=k
   ·have hb:(g == k)=true:=beq_iff_eq.mpr h
    simp only [List.lookup,hb,if_neg (fun e:g=f=>hk (h.symm.trans e))]
   ·have hb:(g == k)=false:=beq_eq_false_iff_ne.mpr h
    simp only [List.lookup,hb]
    exact ih
theorem RelO.some_of {v:V} {o:Option Value} (r:RelO (some v) o):∃ u,o=some u/\RelV v u:=by
 cases o with
 | none=>exact (show False from r).elim
 | some u=>exact ⟨u,rfl,r⟩
theorem handed_of {v:V} {u:Value} (r:RelV v u):W.handedIn u=true:=by
 cases v with
 | non=>cases (show u=Value.none from r); rfl
 | bl b=>cases (show u=Value.bool b from r); rfl
 | int i=>obtain ⟨t,e⟩:=(show ∃ t,u=Value.int i t from r); cases e; rfl
 | str x=>obtain ⟨t,e⟩:=(show ∃ t,u=Value.str x t from r); cases e; rfl
 | byt b=>obtain ⟨t,e⟩:=(show ∃ t,u=Value.bytes b t from r); cases e; rfl
 | flt b=>obtain ⟨t,e⟩:=(show ∃ t,u=Value.float b t from r); cases e; rfl
 | ref a=>cases (show u=Value.ref a from r); rfl
 | ty n=>cases (show u=Value.type n from r); rfl
section
variable {P:Program} {w:World} {H H':Hp} {h h':Heap} {a C dx:Addr} {fs fs':List (Str × V)}
theorem ins_get (hok:HOk P w H h) (e:H a=some (.ins C dx fs)):∃ mA,ObjM h a dx C mA/\(∀ f,RelO (fs.lookup f) (mA f))/\PySem.Within mA (fs.map (·.1))/\fs.length<=1000/\H dx=some (.own a):=by
 obtain ⟨d,z,ne,ob,mA,n,r,q⟩:=(show ObjOk P w H h a (.ins C dx fs) from hok a _ e)
 exact ⟨mA,⟨ob,n,ne⟩,r,q,z,d⟩
end
structure Cls (K:W.Frag) (C:Addr):Prop where
 pg:W.plainGet K C Str.empty=true
 hd:W.hasDictIn K C=true
 po:W.plainOver K C=true
 sa:W.findIn K (.ref C) "__setattr__" = some (some (.builtin "object.__setattr__"))
theorem Cls.get {K:W.Frag} {C:Addr} (c:Cls K C) (f:Str):W.plainGet K C f=true:=c.pg
section
variable {X:Cx} {pins:List (Addr × Obj)} {σ:St} {H:Hp} {s:Shared} {a C dx:Addr} {fs:List (Str × V)} {f:Str} {v:V} {A:Around} {E:Value->Shared->Prop}
theorem Inv.made (I:Inv X pins σ H s):Inv X pins σ (upd (upd H s.heap.objs.size (.own (s.heap.objs.size + 1))) (s.heap.objs.size + 1) (.ins C s.heap.objs.size []))
  { s with heap:=(s.heap.push W.emptyDict).push (W.instObj C s.heap.objs.size) }:=by
 have e1:(s.heap.push W.emptyDict).get? s.heap.objs.size=some W.emptyDict:=Heap.get?_push_size s.heap rfl
 have e2:((s.heap.push W.emptyDict).push (W.instObj C s.heap.objs.size)).get? (s.heap.objs.size + 1)=some (W.instObj C s.heap.objs.size):=by
  have:=Heap.get?_push_size (s.heap.push W.emptyDict) (o:=W.instObj C s.heap.objs.size) rfl
  rwa [Heap.size_push] at this
 have e3:(s.heap.push W.emptyDict).Ns s.heap.objs.size (fun _=>none):=⟨W.emptyDict,#[],_,e1,rfl,(fun e he=>absurd he (by simp)),fun _=>rfl⟩
 have I1:=I.laid (a:=s.heap.objs.size) (o:=.own (s.heap.objs.size + 1)) (h':=s.heap.push W.emptyDict) (t':=s.toks) (fun b u q=>Heap.get?_push_of_some _ q) (Nat.le_refl _) ⟨_,e1⟩
 refine I1.laid (a:=s.heap.objs.size + 1) (o:=.ins C s.heap.objs.size []) (t':=s.toks) (fun b u q=>Heap.get?_push_of_some _ q) (Nat.le_of_eq (Heap.size_push _ _)) ?_
 have ne:s.heap.objs.size≠s.heap.objs.size + 1:=Nat.ne_of_lt (Nat.lt_succ_self _)
 refine ⟨by rw [upd_ne ne,upd_same],Nat.zero_le _,ne,e2,fun _=>none,(Heap.Ns1.of_empty e3).at fun o q=>Heap.get?_push_of_some _ q,fun _=>True.intro,fun y hy=>absurd rfl hy⟩
theorem attr_of {prog:Program} {w:World} {env:Env} {e:Expr} {f:Str} {pos:Pos} {s:Shared} {Q:Value->Shared->Prop} (hb:attributeBase e f env (eval e env)=eval e env)
  (h:wpAny (model prog w) A (eval e env) (fun o s₁=>wpAny (model prog w) A (getAttr o f true) Q E s₁) E s):wpAny (model prog w) A (eval (.Attribute e f pos) env) Q E s :=
 Attribute_any_ h (by rw [arm_eval_Attribute,hb])
end
section
variable {X:Cx} {pins:List (Addr × Obj)} {σ:St} {H:Hp} {s:Shared} {A:Around} {E:Value->Shared->Prop} {Q:Value->Shared->Prop} {c:Value} {b:Bool}
inductive TyOf (K:W.Frag) (H:Hp):V->Value->Prop where
 | non:TyOf K H .non (.type "NoneType")
 | bl (x:Bool):TyOf K H (.bl x) (.type "bool")
 | int (i:Int):TyOf K H (.int i) (.type "int")
 | str (x:Str):TyOf K H (.str x) (.type "str")
 | flt (x:UInt64):TyOf K H (.flt x) (.type "float")
 | lst {a:Addr} {xs:List V} (e:H a=some (.lst xs)):TyOf K H (.ref a) (.type "list")
 | frz {a:Addr} {o:Obj} {xs:List V} (e:H a=some (.frz o (.lst xs))):TyOf K H (.ref a) (.type "list")
 | tup {a:Addr} {xs:List V} (e:H a=some (.tup xs)):TyOf K H (.ref a) (.type "tuple")
 | dK {a:Addr} {kvs:List (Key × V)} (e:H a=some (.dK kvs)):TyOf K H (.ref a) (.type "dict")
 | dT {a:Addr} {kvs:List (List Key × V)} (e:H a=some (.dT kvs)):TyOf K H (.ref a) (.type "dict")
 | ins {a C dx:Addr} {fs:List (Str × V)} (e:H a=some (.ins C dx fs)) (cl:Cls K C) (ha:W.findIn K (.ref C) "__class__" = some (some (.builtin "object.__class__")))
   (hn:W.specialIn K (.builtin "object.__class__") "__get__" = some (some (.builtin "getset_descriptor.__get__"))) (htk:W.takesIn K (.builtin "object.__class__")=some true)
   (hm:W.mroIn K C (.type "object")=some true):TyOf K H (.ref a) (.ref C)
theorem isinst_ok {x:V} {u t:Value} (I:Inv X pins σ H s) (rx:RelV x u) (ty:TyOf X.K H x t) (e:W.kitOne X.K t c=some b) (h:∀ tk,Q (.bool b) { s with toks:=tk }) :
  wpAny (model X.prog X.w) A (call (.builtin "isinstance") [u,c]) Q E s:=by
 cases ty with
 | non=>cases (show u=Value.none from rx); exact W.kia_one W.kitx_none I.kIn True.intro e (fun z=>nomatch z) h
 | bl y=>cases (show u=Value.bool y from rx); exact W.kia_one W.kitx_bool I.kIn True.intro e (fun z=>nomatch z) h
 | int i=>obtain ⟨t,q⟩:=(show ∃ t,u=Value.int i t from rx); cases q; exact W.kia_one W.kitx_int I.kIn True.intro e (fun z=>nomatch z) h
 | str y=>obtain ⟨t,q⟩:=(show ∃ t,u=Value.str y t from rx); cases q; exact W.kia_one W.kitx_str I.kIn True.intro e (fun z=>nomatch z) h
 | flt y=>obtain ⟨t,q⟩:=(show ∃ t,u=Value.float y t from rx); cases q; exact W.kia_one W.kitx_float I.kIn True.intro e (fun z=>nomatch z) h
 | @lst a xs ea =>
  cases (show u=Value.ref a from rx)
  obtain ⟨_,_,n,_,h1⟩:=(show ObjOk X.prog X.w H s.heap a (.lst xs) from I.hok a _ ea)
  exact W.kia_one W.kitx_list I.kIn ⟨_,h1,rfl⟩ e (fun z=>nomatch z) h
 | @frz a ob xs ea =>
  cases (show u=Value.ref a from rx)
  obtain ⟨_,_,_,n,_,h1⟩:=(show ObjOk X.prog X.w H s.heap a (.frz ob (.lst xs)) from I.hok a _ ea)
  exact W.kia_one W.kitx_list I.kIn ⟨_,h1,rfl⟩ e (fun z=>nomatch z) h
 | @tup a xs ea =>
  cases (show u=Value.ref a from rx)
  obtain ⟨_,_,_,p⟩:=(show ObjOk X.prog X.w H s.heap a (.tup xs) from I.hok a _ ea)
  obtain ⟨o,h1,h2,_⟩:=p
  exact W.kia_one W.kitx_tuple I.kIn ⟨o,h1,h2⟩ e (fun z=>nomatch z) h
 | @dK a kvs ea =>
  cases (show u=Value.ref a from rx)
  obtain ⟨_,_,vs,_,p⟩:=(show ObjOk X.prog X.w H s.heap a (.dK kvs) from I.hok a _ ea)
  obtain ⟨o,es,ep,h1,h2,_⟩:=p
  exact W.kia_one W.kitx_dict I.kIn ⟨o,h1,h2.1⟩ e (fun z=>nomatch z) h
 | @dT a kvs ea =>
  cases (show u=Value.ref a from rx)
  obtain ⟨_,_,xs,_,o,es,ep,h1,h2,_⟩:=(show ObjOk X.prog X.w H s.heap a (.dT kvs) from I.hok a _ ea)
  exact W.kia_one W.kitx_dict I.kIn ⟨o,h1,h2.1⟩ e (fun z=>nomatch z) h
 | @ins a C dx fs ea cl ha hn htk hm =>
  cases (show u=Value.ref a from rx)
  obtain ⟨mA,O,_⟩:=ins_get I.hok ea
  obtain ⟨od,J,_⟩:=O.look
  exact W.kia_one (W.kitx_own (cl.get _) cl.hd ha hn htk hm) I.kIn J e (fun z=>nomatch z) h
end
structure Room (k:Nat) (A:Around):Prop where
 hd:A.handled=none
 dp:A.depth + 3 * k + 5 < recursionLimit
 un:A.units + 16 * k + 200 < cLine
 gd:A.guards=some []
theorem Room.mono {j k:Nat} {A:Around} (r:Room k A) (h:j<=k):Room j A:=⟨r.hd,by have:=r.dp; omega,by have:=r.un; omega,r.gd⟩
theorem Room.deeper {k:Nat} {A:Around} (r:Room (k + 1) A) (env:Env):Room k (A.deeper env) :=
 ⟨r.hd,by have:=r.dp; show A.depth + 1 + 3 * k + 5 < _; omega,by have:=r.un; show A.units + 3 + 16 * k + 200 < _; omega,r.gd⟩
theorem Room.in1 {k:Nat} {A:Around} (r:Room (k + 1) A):Room k A.in1 :=
 ⟨r.hd,by have:=r.dp; show A.depth + 3 * k + 5 < _; omega,by have:=r.un; show A.units + 1 + 16 * k + 200 < _; omega,r.gd⟩
theorem make_depth {A:Around} {C:Addr} {us:List Value} {kw:List (Str × Value)}:(A.under (.builtin "type.__call__" ⟨.ref C::us,kw⟩)).depth=A.depth + 1:=by
 first | rfl | simp [Around.under,Code.weight,Code.isCreation,Code.isGuard,Code.isCaller,Code.frames,Code.isFrame,guardIds]
theorem make_units {A:Around} {C:Addr} {us:List Value} {kw:List (Str × Value)}:(A.under (.builtin "type.__call__" ⟨.ref C::us,kw⟩)).units=A.units + 1:=by
 first | rfl | simp [Around.under,Code.cUnits,Code.frames,Code.isFrame]
theorem Room.make {k:Nat} {A:Around} (r:Room (k + 1) A) (C:Addr) (us:List Value) (kw:List (Str × Value)):Room k (A.under (.builtin "type.__call__" ⟨.ref C::us,kw⟩)) :=
 ⟨r.hd,by have:=r.dp; rw [make_depth]; omega,by have:=r.un; rw [make_units]; omega,by first | exact r.gd | (have:=r.gd; simpa [Around.under,Code.isGuard,guardIds] using this)⟩
theorem Room.depth {k:Nat} {A:Around} (r:Room k A):A.depth < recursionLimit:=by have:=r.dp; omega
theorem Room.units {k:Nat} {A:Around} (r:Room k A):A.units + 64 < cLine:=by have:=r.un; omega
def tNil:TA:=fun _ H Q=>Q [] H
def tCons (ta:TE) (tr:TA):TA:=fun σ H Q=>ta σ H fun x H1=>tr σ H1 fun xs H2=>Q (x::xs) H2
section
variable {X:Cx} {e:Expr} {es:List Expr} {te:TE} {t:TA} {pos:Pos}
theorem pa_nil:PA X [] tNil:=fun _ _ _ _ H Q I h=>Calls.spliced_nil ⟨[],H,I,.nil,h⟩
theorem pa_cons (ha:PE X e te) (hr:PA X es t) (hs:starEach (e::es) X.env=(false,eval e X.env)::starEach es X.env:=by rfl):PA X (e::es) (tCons te t):=by
 intro pos pins s σ H Q I h
 rw [hs]
 show wpAny _ _ (spliced ((false,eval e X.env)::backTo pos (starEach es X.env))) _ _ s
 refine Calls.spliced_cons (thn (ha pins s σ H _ I h) fun u s1 ⟨x,H1,I1,r1,q1⟩=>?_)
 exact thn (hr pos pins s1 σ H1 _ I1 q1) fun us s2 ⟨xs,H2,I2,r2,q2⟩=>⟨x::xs,H2,I2,.cons r1 r2,q2⟩
def tTup (t:TA):TE:=fun σ H Q=>t σ H fun xs H1=>xs.length<=sizeLine/\∀ p,H1 p=none->Q (.ref p) (upd H1 p (.tup xs))
def tLst (t:TA):TE:=fun σ H Q=>t σ H fun xs H1=>xs.length<=sizeLine/\∀ p,H1 p=none->Q (.ref p) (upd H1 p (.lst xs))
theorem pe_tup {x1} (h:PA X es t):PE X (.Tuple es x1 pos) (tTup t):=by
 intro pins s σ H Q I hq
 refine wpAny_Tuple_spliced (thn (h pos pins s σ H _ I hq) fun us s1 ⟨xs,H1,I1,r,z,q⟩=>⟨by rw [<- r.length]; exact z,?_⟩)
 have hf:H1 s1.heap.objs.size=none:=I1.hok.fresh (Nat.le_refl _)
 refine ⟨.ref s1.heap.objs.size,upd H1 s1.heap.objs.size (.tup xs),I1.laid (t':=s1.toks) (fun b u e=>Heap.get?_push_of_some _ e) (Nat.le_refl _) ?_,rfl,q _ hf⟩
 exact ⟨z,us,r,⟨_,Heap.get?_push_size _ rfl,rfl,_,rfl,rfl⟩⟩
theorem pe_lst (h:PA X es t):PE X (.List es pos) (tLst t):=by
 intro pins s σ H Q I hq
 refine wpAny_List_spliced (thn (h pos pins s σ H _ I hq) fun us s1 ⟨xs,H1,I1,r,z,q⟩=>⟨by rw [<- r.length]; exact z,?_⟩)
 have hf:H1 s1.heap.objs.size=none:=I1.hok.fresh (Nat.le_refl _)
 refine ⟨.ref s1.heap.objs.size,upd H1 s1.heap.objs.size (.lst xs),I1.laid (t':=s1.toks) (fun b u e=>Heap.get?_push_of_some _ e) (Nat.le_refl _) ?_,rfl,q _ hf⟩
 exact ⟨z,us,0,r,Heap.get?_push_size _ rfl⟩
end
abbrev Sp:=List V->Hp->VK->XK->Prop
abbrev CXT:=List Env->Hp->Shared->XK->Value->Shared->Prop
structure Env0 (P:Program) (w:World) (K:W.Frag) (mg:Str->Option Value) (base:Heap) (A:Around) (outer:List Env) (s:Shared) (H:Hp):Prop where
 frames:A.frames=some outer
 mod:Mod K mg base
 bs:∀ b o,base.get? b=some o->s.heap.get? b=some o/\H b=none
 bsz:base.objs.size<=s.heap.objs.size
 funs:s.heap.FunFrames base outer
 frf:∀ b∈frs outer,H b=none
 hok:HOk P w H s.heap
 bare:AllBare s.gens
def CE (outer:List Env) (P:Program) (w:World) (H:Hp) (s:Shared) (Q:VK) (u:Value) (s':Shared):Prop :=
 ∃ v H',s'.os=s.os/\AllBare s'.gens/\Un (frs outer) [] H H' s.heap s'.heap/\HOk P w H' s'.heap/\RelV v u/\Q v H'
def CR (CX:CXT) (outer:List Env) (P:Program) (w:World) (H:Hp) (s:Shared) (Q:VK) (E:XK) (r:Result) (s':Shared):Prop :=
 match r with
 | .ok (.ret u)=>CE outer P w H s Q u s'
 | .ok _=>False
 | .error e=>CX outer H s E e s'
structure FnOk (P:Program) (w:World) (K:W.Frag) (mg:Str->Option Value) (base:Heap) (CX:CXT) (k:Nat) (f:Addr) (fd:FuncData) (ps:List Str) (sp:Sp):Prop where
 len:∀ vs H Q E,sp vs H Q E->vs.length=ps.length
 run:∀ (A:Around) (outer:List Env) (s:Shared) (H:Hp) (args:Args) (us:List Value) (vs:List V) (Q:VK) (E:XK),Room k A->Env0 P w K mg base A outer s H->BindsTo s fd args (ps.zip us)->Vals vs us->sp vs H Q E ->
  codeAny (model P w) A (.call (.ref f) args) (CR CX outer P w H s Q E) s
theorem FnOk.mono {P:Program} {w:World} {K:W.Frag} {mg:Str->Option Value} {base:Heap} {CX:CXT} {j k:Nat} {f:Addr} {fd:FuncData} {ps:List Str} {sp:Sp} (F:FnOk P w K mg base CX j f fd ps sp) (h:j<=k) :
  FnOk P w K mg base CX k f fd ps sp:=⟨F.len,fun A outer s H args us vs Q E hr=>F.run A outer s H args us vs Q E (hr.mono h)⟩
theorem FnOk.imp {P:Program} {w:World} {K:W.Frag} {mg:Str->Option Value} {base:Heap} {CX:CXT} {k:Nat} {f:Addr} {fd:FuncData} {ps:List Str} {sp sp':Sp} (F:FnOk P w K mg base CX k f fd ps sp)
  (h:∀ vs H Q E,sp' vs H Q E->sp vs H Q E):FnOk P w K mg base CX k f fd ps sp' :=
 ⟨fun vs H Q E q=>F.len vs H Q E (h _ _ _ _ q),fun A outer s H args us vs Q E hr he hb hv hs=>F.run A outer s H args us vs Q E hr he hb hv (h _ _ _ _ hs)⟩
theorem Env0.make {P:Program} {w:World} {K:W.Frag} {mg:Str->Option Value} {base:Heap} {A:Around} {outer:List Env} {s:Shared} {H:Hp} (e:Env0 P w K mg base A outer s H) (C:Addr) (us:List Value) (kw:List (Str × Value)) :
  Env0 P w K mg base (A.under (.builtin "type.__call__" ⟨.ref C::us,kw⟩)) outer s H:=⟨by first | exact e.frames | (simpa [Around.under,Code.envs,Code.isFrame,pushEnvs] using e.frames),e.mod,e.bs,e.bsz,e.funs,e.frf,e.hok,e.bare⟩
theorem Env0.in1 {P:Program} {w:World} {K:W.Frag} {mg:Str->Option Value} {base:Heap} {A:Around} {outer:List Env} {s:Shared} {H:Hp} (e:Env0 P w K mg base A outer s H) :
  Env0 P w K mg base A.in1 outer s H:=⟨e.frames,e.mod,e.bs,e.bsz,e.funs,e.frf,e.hok,e.bare⟩
section
variable {X:Cx} {pins:List (Addr × Obj)} {σ:St} {H:Hp} {s s':Shared}
theorem Inv.env0 (I:Inv X pins σ H s):Env0 X.prog X.w X.K X.mg X.base X.A X.stack s H :=
 ⟨I.ok.frames,I.ok.mod,I.bs,Nat.le_trans I.ok.bsz I.sz,I.stack,I.stkFree,I.hok,I.bare⟩
theorem Inv.after {Q:VK} {u:Value} (I:Inv X pins σ H s) (h:CE X.stack X.prog X.w H s Q u s'):EP X pins σ Q u s':=by
 obtain ⟨v,H',os,bare,un,hok,r,q⟩:=h
 obtain ⟨hh,g,d,t,os'⟩:=s'
 obtain rfl:os'=s.os:=os
 exact ⟨v,H',I.call (h':=hh) (g':=g) (d':=d) (t':=t) (ch:=[]) un hok bare (fun b z=>absurd z (by simp)),r,q⟩
end
def tCall (sp:Sp) (dvs:List V) (E:XK) (t:TA):TE:=fun σ H Q=>t σ H fun vs H1=>sp (vs++dvs) H1 Q E
def Binds (K:W.Frag) (fd:FuncData) (ps:List Str) (ds:List Value):Prop :=
 ∀ (s:Shared) (us:List Value),K.In s.heap->(us++ds).length=ps.length->BindsTo s fd ⟨us,[]⟩ (ps.zip (us++ds))
theorem Binds.all {K:W.Frag} {fd:FuncData} {ps:List Str} (h:∀ us:List Value,us.length=ps.length->bindArgs fd ⟨us,[]⟩=pure (ps.zip us)):Binds K fd ps []:=fun s us _ hl=>by
 rw [List.append_nil] at hl ⊢
 exact .of_eq (h us hl)
def Passes (CX:CXT) (X:Cx) (E:XK):Prop:=∀ (pins:List (Addr × Obj)) (σ:St) (H:Hp) (s:Shared) (e:Value) (s':Shared),Inv X pins σ H s->CX X.stack H s E e s'->X.xe e s'
section
variable {X:Cx} {CX:CXT} {k:Nat} {f C:Addr} {fd:FuncData} {ps:List Str} {sp:Sp} {dvs:List V} {ds:List Value} {E:XK} {x m:Str} {p pos apos:Pos} {e o:Expr} {es:List Expr} {ta:TE} {t:TA}
theorem run_fn {pins:List (Addr × Obj)} {σ:St} {H:Hp} {s:Shared} {Q:VK} {us:List Value} {vs:List V} (F:FnOk X.prog X.w X.K X.mg X.base CX k f fd ps sp) (hr:Room k X.A) (hb:Binds X.K fd ps ds) (hd:Vals dvs ds) (hx:Passes CX X E)
  (I:Inv X pins σ H s) (r:Vals vs us) (h:sp (vs++dvs) H Q E):wpAny (model X.prog X.w) X.A (call (.ref f) us) (EP X pins σ Q) X.xe s:=by
 have r2:Vals (vs++dvs) (us++ds):=r.append hd
 have hl:(us++ds).length=ps.length:=by rw [<- r2.length]; exact F.len _ _ _ _ h
 refine wpAny_call (codeAny_mono (F.run X.A X.stack s H ⟨us,[]⟩ (us++ds) (vs++dvs) Q E hr I.env0 (hb s us I.kIn hl) r2 h) fun r s' hq=>?_)
 cases r with
 | error e=>exact hx pins σ H s e s' I hq
 | ok fl =>
  cases fl with
  | ret u=>exact I.after hq
  | next=>exact False.elim hq
  | brk=>exact False.elim hq
  | cont=>exact False.elim hq
theorem pe_call (F:FnOk X.prog X.w X.K X.mg X.base CX k f fd ps sp) (hr:Room k X.A) (hg:Gl X x) (hm:X.mg x=some (.ref f)) (hk:W.keepIn X.K (.ref f)=true) (hb:Binds X.K fd ps ds) (hd:Vals dvs ds) (hx:Passes CX X E)
  (ha:PA X (e::es) t) (hdb:(x == ("__debug__" : Str))=false:=by decide) (he:starEach (e::es) X.env=(false,eval e X.env)::starEach es X.env:=by rfl) (hpl:(backTo pos (starEach es X.env)).any (·.1)=false:=by rfl) :
  PE X (.Call (.Name x p) (e::es) [] pos) (tCall sp dvs E t):=by
 intro pins s σ H Q I h
 refine wpAny_Call_Name_kw (ld_glob I hg hm ?_ hdb)
 refine W.callWith_K (h₀:=X.base) I.ok.mod.kin hk (thn (ha pos pins s σ H _ I h) fun us s1 ⟨vs,H1,I1,r,q⟩=>⟨I1.kIn,?_⟩) he hpl
 exact run_fn F hr hb hd hx I1 r q
end
section
variable {X:Cx} {CX:CXT} {k:Nat} {f C:Addr} {fd:FuncData} {ps ks:List Str} {sp:Sp} {E:XK} {x m:Str} {p pos apos kpos:Pos} {e o:Expr} {es:List Expr} {kws:List Keyword} {te ta:TE} {t tk:TA} {nm:Option Str}
variable {g:List Value->List Value->List Value} {gV:List V->List V->List V}
end
structure FnScope (N P:List Str) (sc:Scope):Prop where
 kind:sc.kind=.function
 co:sc.isCoroutine=false
 gen:sc.isGenerator=false
 nd:N.Nodup
 pre:N.take P.length=P
 par:∀ x∈P,sc.names.lookup x=some .local\/sc.names.lookup x=some .cell
 nofree:∀ y∈sc.names,y.2≠.free
theorem bindL_out {kindOf:Str->Option NameKind} {x:Str}:∀ {binds:List (Str × Value)} {m:Str->Option Value},(∀ v,(x,v) ∉ binds)->bindL kindOf binds m x=m x
 | [],_,_=>rfl
 | (n,v)::r,m,h=>by
  unfold bindL
  rw [bindL_out fun w hw=>h w (List.mem_cons_of_mem _ hw)]
  split
  ·have:x≠n:=by rintro rfl; exact h v List.mem_cons_self
   simp [this]
  ·rfl
theorem bindC_out {kindOf:Str->Option NameKind} {x:Str}:∀ {binds:List (Str × Value)} {m:Str->Option Value},(∀ v,(x,v) ∉ binds)->bindC kindOf binds m x=m x
 | [],_,_=>rfl
 | (n,v)::r,m,h=>by
  unfold bindC
  rw [bindC_out fun w hw=>h w (List.mem_cons_of_mem _ hw)]
  split
  ·rfl
  ·have:x≠n:=by rintro rfl; exact h v List.mem_cons_self
   simp [this]
theorem bindL_get {kindOf:Str->Option NameKind} {x:Str} {v:Value}:∀ {P:List Str} {vs:List Value} {i:Nat} {m:Str->Option Value},P.Nodup->P[i]? = some x->vs[i]? = some v->kindOf x=some .local ->
  bindL kindOf (P.zip vs) m x=some v
 | [],_,_,_,_,h,_,_=>by simp at h
 | _::_,[],_,_,_,_,h,_=>by simp at h
 | p::P,w::vs,0,m,nd,h1,h2,hk=>by
  simp at h1 h2; subst h1; subst h2
  show bindL kindOf ((p,w)::P.zip vs) m p=_
  unfold bindL
  rw [bindL_out fun v hv=>(List.nodup_cons.mp nd).1 (List.of_mem_zip hv).1,if_pos hk]
  simp
 | p::P,w::vs,i + 1,m,nd,h1,h2,hk=>by
  show bindL kindOf ((p,w)::P.zip vs) m x=_
  unfold bindL
  exact bindL_get (i:=i) (List.nodup_cons.mp nd).2 (by simpa using h1) (by simpa using h2) hk
theorem bindC_get {kindOf:Str->Option NameKind} {x:Str} {v:Value}:∀ {P:List Str} {vs:List Value} {i:Nat} {m:Str->Option Value},P.Nodup->P[i]? = some x->vs[i]? = some v->kindOf x≠some .local ->
  bindC kindOf (P.zip vs) m x=some v
 | [],_,_,_,_,h,_,_=>by simp at h
 | _::_,[],_,_,_,_,h,_=>by simp at h
 | p::P,w::vs,0,m,nd,h1,h2,hk=>by
  simp at h1 h2; subst h1; subst h2
  show bindC kindOf ((p,w)::P.zip vs) m p=_
  unfold bindC
  rw [bindC_out fun v hv=>(List.nodup_cons.mp nd).1 (List.of_mem_zip hv).1,if_neg hk]
  simp
 | p::P,w::vs,i + 1,m,nd,h1,h2,hk=>by
  show bindC kindOf ((p,w)::P.zip vs) m x=_
  unfold bindC
  exact bindC_get (i:=i) (List.nodup_cons.mp nd).2 (by simpa using h1) (by simpa using h2) hk
def start (N:List Str) (vs:List V):St:=vs.map some++List.replicate (N.length - vs.length) none
def cxOf (CX:CXT) (P:Program) (w:World) (K:W.Frag) (mg:Str->Option Value) (base:Heap) (N:List Str) (qual:Str) (scope:Scope) (f:Addr) (cd:Value) (A:Around) (outer:List Env) (s:Shared) (H:Hp) (E:XK):Cx where
 prog:=P
 w:=w
 K:=K
 mg:=mg
 base:=base
 A:=A.deeper (envOfC qual scope s.heap.objs.size f cd)
 N:=N
 s₀:=s
 H₀:=H
 env:=envOfC qual scope s.heap.objs.size f cd
 outer:=outer
 stack:=envOfC qual scope s.heap.objs.size f cd::outer
 ex:=[]
 calm:=true
 fn:=fun _=>true
 pn:=[]
 xe:=fun e s'=>wpAny (model P w) (A.deeper (envOfC qual scope s.heap.objs.size f cd)) (leaving (envOfC qual scope s.heap.objs.size f cd) e) (fun _ s''=>CX outer H s E e s'') (fun e' s''=>CX outer H s E e' s'') s'
theorem cell_has {sc:Scope} {n:Nat} {x:Str} (h:sc.names.lookup x=some .cell):∃ c,(cellsFrom n sc.names []).lookup x=some c:=by
 have q:=W.cellsFrom_some sc.names n [] (.inl h)
 exact Option.isSome_iff_exists.mp q
theorem inv_start {CX:CXT} {P:Program} {w:World} {K:W.Frag} {mg:Str->Option Value} {base:Heap} {N ps:List Str} {qual:Str} {scope:Scope} {f:Addr} {cd:Value} {A:Around} {outer:List Env} {s s1:Shared} {H:Hp} {E:XK} {us:List Value} {vs:List V}
  (S:FnScope N ps scope) (hd:A.handled=none) (e0:Env0 P w K mg base A outer s H) (hl:vs.length=ps.length) (r:Vals vs us)
  (x:InCallC s s.heap.objs.size (bindL (envOfC qual scope s.heap.objs.size f cd).kindOf (ps.zip us) fun _=>none) (cellsFrom (s.heap.objs.size + 1) scope.names []) (bindC (envOfC qual scope s.heap.objs.size f cd).kindOf (ps.zip us) fun _=>none) s1) :
  Inv (cxOf CX P w K mg base N qual scope f cd A outer s H E) [] (start N vs) H s1:=by
 have hpl:ps.length<=N.length:=by have:=congrArg List.length S.pre; rw [List.length_take] at this; omega
 obtain ⟨h1,tk,rfl,hk⟩:=x.done
 have noA:∀ b:Addr,b ∉ (cxOf CX P w K mg base N qual scope f cd A outer s H E).ex:=fun b z=>absurd (show b∈([]:List Addr) from z) (by simp)
 refine ⟨⟨e0.mod,S.kind,rfl,rfl,Nat.le_refl _,fun y z c h1 h2=>?_,fun y hy=>?_,fun y c _ h=>?_,fun _=>hd,Around.frames_deeper e0.frames,.inr ⟨rfl,rfl⟩,fun b z=>absurd z (noA b),e0.bs,e0.bsz,fun b _ _=>noA b,fun b z=>absurd z (noA b),e0.funs,e0.frf⟩,
  rfl,e0.bare,Un.kept hk,⟨_,x.toInCall.ns,fun i y v h1 h2 h3=>?_⟩,fun y c h=>⟨_,x.cell y c h⟩,e0.hok.fresh (Nat.le_refl _),fun y c h=>?_,fun p hp=>absurd (show p∈([]:List (Addr × Obj)) from hp) (by simp),e0.hok.kept hk,?_⟩
 ·exact name_of_addr x.apart (PySem.mem_of_lookup h1) (PySem.mem_of_lookup h2)
 ·have hy:scope.names.lookup y=some .cell\/scope.names.lookup y=some .free:=hy
  rcases hy with hy | hy
  ·exact cell_has hy
  ·exact absurd rfl (S.nofree _ (PySem.mem_of_lookup hy))
 ·exact Nat.le_of_lt (x.above y c (PySem.mem_of_lookup h))
 ·have hi:i < vs.length:=by
   unfold start at h2
   by_cases hi:i < vs.length
   ·exact hi
   ·rw [List.getElem?_append_right (by simpa using hi)] at h2
    rw [List.getElem?_replicate] at h2
    split at h2 <;> cases h2
  have ha:vs[i]? = some v:=by
   unfold start at h2
   rw [List.getElem?_append_left (by simpa using hi),List.getElem?_map] at h2
   cases e:vs[i]? with
   | none=>rw [e] at h2; cases h2
   | some a=>rw [e] at h2; cases h2; rfl
  obtain ⟨u,hu,rv⟩:=r.get ha
  have hp:ps[i]? = some y:=by
   rw [<- S.pre,List.getElem?_take_of_lt (by omega)]; exact h1
  have ndP:ps.Nodup:=by rw [<- S.pre]; exact S.nd.sublist (List.take_sublist _ _)
  refine ⟨u,rv,?_⟩
  rcases S.par y (List.mem_of_getElem? hp) with k | k
  ·exact .inl ⟨k,bindL_get ndP hp hu k⟩
  ·obtain ⟨c,e⟩:=cell_has (n:=s.heap.objs.size + 1) k
   refine .inr ⟨.inl k,c,e,?_⟩
   have q:=x.cell y c e
   rw [bindC_get ndP hp hu (by show scope.names.lookup y≠_; rw [k]; decide)] at q
   exact q
 ·exact e0.hok.fresh (Nat.le_of_lt (x.above y c (PySem.mem_of_lookup h)))
 ·unfold start
  show _=N.length
  rw [List.length_append,List.length_map,List.length_replicate]
  omega
theorem fn_of {CX:CXT} {P:Program} {w:World} {K:W.Frag} {mg:Str->Option Value} {base:Heap} {k:Nat} {f:Addr} {name qual:Str} {params:Arguments} {body:List Stmt} {scope:Scope} {dV kV doc pm cdv ct oc:Value} {an od:Option Addr}
  {osl:Array (Option Value)} {N ps:List Str} {sp:Sp} (lk:K.lookup f=some ⟨oc,od,.func (W.fnOf name qual params body scope dV kV doc pm an cdv ct),osl⟩) (hcd:W.codeIn K cdv qual=true) (S:FnScope N ps scope)
  (len:∀ vs H Q E,sp vs H Q E->vs.length=ps.length)
  (hbody:∀ (A:Around) (outer:List Env) (s:Shared) (H:Hp) (vs:List V) (Q:VK) (E:XK),Room k (A.deeper (envOfC qual scope s.heap.objs.size f cdv))->sp vs H Q E ->
   ∃ t,PSs (cxOf CX P w K mg base N qual scope f cdv A outer s H E) body t/\t { nx:=fun _ H'=>Q .non H',rt:=Q } (start N vs) H) :
  FnOk P w K mg base CX (k + 1) f (W.fnOf name qual params body scope dV kV doc pm an cdv ct) ps sp:=by
 refine ⟨len,fun A outer s H args us vs Q E hr e0 hb r hsp=>?_⟩
 have hl:=len _ _ _ _ hsp
 have KX:K.In s.heap:=e0.mod.kin.keeps fun b o e=>(e0.bs b o e).1
 have lim:s.heap.NoLimit:=e0.mod.nolimit.keeps fun b o e=>(e0.bs b o e).1
 have hkind:∀ y∈ps.zip us,scope.names.lookup y.1=some .local\/(scope.names.lookup y.1=some .cell/\((cellsFrom (s.heap.objs.size + 1) scope.names []).lookup y.1).isSome=true):=fun ⟨n,v⟩ hy=>by
  rcases S.par n (List.of_mem_zip hy).1 with q | q
  ·exact .inl q
  ·exact .inr ⟨q,W.cellsFrom_some _ _ _ (.inl q)⟩
 refine codeAny_call_function hr.depth (KX _ _ lk) rfl S.co S.gen rfl (W.codeRec_of KX hcd) (hb _ _ _ _ ?_)
 refine wpAny_newFunctionEnv_cells S.kind hkind fun env he s1 x=>?_
 subst he
 refine ⟨lim.keeps x.toInCall.keep,codeAny_func ?_⟩
 obtain ⟨t,ht,hq⟩:=hbody A outer s H vs Q E (hr.deeper _) hsp
 have I:Inv (cxOf CX P w K mg base N qual scope f cdv A outer s H E) [] (start N vs) H s1:=inv_start S hr.hd e0 hl r x
 refine wpAny_mono (ht [] s1 (start N vs) H _ I hq) (fun fl s' hs=>?_) fun e s' hs=>hs
 have fin:∀ {σ':St} {H':Hp} {v:V} {u:Value},Inv (cxOf CX P w K mg base N qual scope f cdv A outer s H E) [] σ' H' s'->RelV v u->Q v H'->CE outer P w H s Q u s' :=
  fun {σ' H' v u} J rv q=>⟨v,H',J.os,J.bare,J.base,J.hok,rv,q⟩
 cases fl with
 | ret u =>
  obtain ⟨v,σ',H',J,rv,q⟩:=hs
  exact fin J rv q
 | next =>
  obtain ⟨σ',H',J,q⟩:=hs
  exact fin (v:=V.non) (u:=Value.none) J rfl q
 | brk =>
  obtain ⟨_,_,_,q⟩:=hs
  exact False.elim q
 | cont =>
  obtain ⟨_,_,_,q⟩:=hs
  exact False.elim q
section
variable {X:Cx} {x:Str} {p pos:Pos} {e:Expr} {es:List Expr} {t:TA} {id T:String} {r:List V->Hp->VK->Prop}
def tCB (r:List V->Hp->VK->Prop) (t:TA):TE:=fun σ H Q=>t σ H fun vs H1=>r vs H1 Q
theorem pe_callB (hc:CallR X (.builtin id) r) (hg:Gl X x) (hm:X.mg x=none) (hv:bootBuiltins x=some (.builtin id)) (ha:PA X (e::es) t) (hn:x ≠ "__name__" := by decide) (hdb:(x == ("__debug__" : Str))=false:=by decide)
  (he:starEach (e::es) X.env=(false,eval e X.env)::starEach es X.env:=by rfl) (hpl:(backTo pos (starEach es X.env)).any (·.1)=false:=by rfl):PE X (.Call (.Name x p) (e::es) [] pos) (tCB r t):=by
 intro pins s σ H Q I h
 refine wpAny_Call_Name_kw (ld_blt I hg hm hv ?_ hn hdb)
 exact PyProof.Rows.callWith_builtin1 (thn (ha pos pins s σ H _ I h) fun us s1 ⟨vs,H1,I1,r1,q1⟩=>hc pins s1 σ H1 vs us Q I1 r1 q1) he hpl
theorem pe_callTy (hc:CallR X (.type T) r) (hg:Gl X x) (hm:X.mg x=none) (hv:bootBuiltins x=some (.type T)) (ha:PA X (e::es) t) (hn:x ≠ "__name__" := by decide) (hdb:(x == ("__debug__" : Str))=false:=by decide)
  (he:starEach (e::es) X.env=(false,eval e X.env)::starEach es X.env:=by rfl) (hpl:(backTo pos (starEach es X.env)).any (·.1)=false:=by rfl):PE X (.Call (.Name x p) (e::es) [] pos) (tCB r t):=by
 intro pins s σ H Q I h
 refine wpAny_Call_Name_kw (ld_blt I hg hm hv ?_ hn hdb)
 exact PyProof.Rows.callWith_type1 (thn (ha pos pins s σ H _ I h) fun us s1 ⟨vs,H1,I1,r1,q1⟩=>hc pins s1 σ H1 vs us Q I1 r1 q1) he hpl
end
end L2
namespace HT
open PySem PyProof.Rows
section
variable {prog:Program} {w:World} {A:Around} {E:Value->Shared->Prop} {s:Shared}
theorem cat_tup {t b:Addr} {vs ws:List Value} {Q:Value->Shared->Prop} (ht:IsTup s.heap t vs.toArray) (hb:IsTup s.heap b ws.toArray) (hv:vs≠[])
  (h1:ws=[]->Q (.ref t) s) (h2:ws≠[]->Q (.ref s.heap.objs.size) { s with heap:=s.heap.push { cls:=.type "tuple",data:=.seq (vs++ws).toArray } })
  (hsz:vs.length + ws.length<=sizeLine):wpAny (model prog w) A (binaryOp .Add (.ref t) (.ref b)) Q E s:=by
 obtain ⟨⟨cls,dd,data,sl⟩,ho,hc,n,hd⟩:=id ht
 obtain ⟨⟨cls2,dd2,data2,sl2⟩,ho2,hc2,n2,hd2⟩:=id hb
 simp only at hc hd hc2 hd2
 subst hc hd hc2 hd2
 have e:vs.toArray++ws.toArray=(vs++ws).toArray:=by simp
 by_cases hw:ws=[]
 ·exact concat_meets ⟨_,ho,rfl⟩ ⟨_,ho2,rfl⟩ noFill_tuple_add seq_tuple_add PySem.F.slot_tuple_add PySem.F.entry_tuple_add (PySem.F.args_tuple_add_2 _ _)
   (tuple_addW1 t b vs.toArray ws.toArray n n2 dd dd2 sl sl2 (by simpa using hv) (by simp [hw])) ⟨ho,ho2,h1 hw⟩
 ·refine concat_meets ⟨_,ho,rfl⟩ ⟨_,ho2,rfl⟩ noFill_tuple_add seq_tuple_add PySem.F.slot_tuple_add PySem.F.entry_tuple_add (PySem.F.args_tuple_add_2 _ _)
   (tuple_addW2 t b vs.toArray ws.toArray n n2 dd dd2 sl sl2 (by simpa using hv) (by simpa using hw) (by rw [List.size_toArray,List.size_toArray]; exact hsz)) ⟨ho,ho2,?_⟩
  rw [e]
  exact h2 hw
def sIx (n d:Nat):Option Int->Nat
 | none=>d
 | some v=>if v < 0 then (v + (n:Int)).toNat else min v.toNat n
theorem sIx_none (n d:Nat):sIx n d none=d:=rfl
theorem sIx_nat (n d k:Nat):sIx n d (some (k:Int))=min k n:=by
 show (if (k:Int) < 0 then ((k:Int) + (n:Int)).toNat else min (k:Int).toNat n)=min k n
 rw [if_neg (by omega),Int.toNat_natCast]
theorem sIx_le (n d:Nat) (hd:d<=n) (o:Option Int):sIx n d o<=n:=by
 cases o with
 | none=>exact hd
 | some v =>
  show (if v < 0 then (v + (n:Int)).toNat else min v.toNat n)<=n
  by_cases hv:v < 0
  ·rw [if_pos hv]; omega
  ·rw [if_neg hv]; exact Nat.min_le_right _ _
theorem clip_eq (v:Int) (n d:Nat):(if v < 0 then max (v + (n:Int)) 0 else min v (n:Int))=((sIx n d (some v):Nat):Int):=by
 show (if v < 0 then max (v + (n:Int)) 0 else min v (n:Int))=(((if v < 0 then (v + (n:Int)).toNat else min v.toNat n):Nat):Int)
 by_cases hv:v < 0
 ·simp only [if_pos hv]; omega
 ·simp only [if_neg hv]; omega
theorem adjust_gen (lo hi:Option Int) (n:Nat):Builtin.Slice.sliceAdjust lo hi 1 (n:Int)=(((sIx n 0 lo:Nat):Int),((sIx n n hi:Nat):Int)):=by
 have h1:¬ ((1:Int) < 0):=by omega
 unfold Builtin.Slice.sliceAdjust
 simp only [h1,if_false]
 refine Prod.ext ?_ ?_
 ·cases lo with
  | none=>rfl
  | some v=>exact clip_eq v n 0
 ·cases hi with
  | none=>rfl
  | some v=>exact clip_eq v n n
theorem places_gen (i j:Nat):Builtin.Slice.slicePlaces (i:Int) (j:Int) 1=j - i:=by
 unfold Builtin.Slice.slicePlaces
 have h1:(1:Int) > 0:=by omega
 simp only [h1,if_true,Int.ediv_one]
 split <;> omega
theorem slicePart_ {v:Value} {o:Option Int} {Q:Option Int->Shared->Prop} (p:IsPart v o) (h:Q o s):wpAny (model prog w) A (Builtin.Slice.slicePartIndex v) Q E s:=by
 cases p with
 | none=>exact slicePart_none h
 | int i t=>exact slicePart_int h
theorem sliceApplied_gen {sl:Addr} {vl vu:Value} {lo hi:Option Int} {n:Nat} {Q:Int × Int × Nat->Shared->Prop} (hs:s.heap.IsSliceOf sl vl vu .none) (pl:IsPart vl lo) (pu:IsPart vu hi)
  (h:Q (((sIx n 0 lo:Nat):Int),1,sIx n n hi - sIx n 0 lo) s):wpAny (model prog w) A (Builtin.Slice.sliceApplied (.ref sl) (pure (n:Int))) Q E s:=by
 obtain ⟨os,hos,hcs,hds⟩:=id hs
 unfold Builtin.Slice.sliceApplied Builtin.Slice.sliceFields
 refine wpAny_bind (wpAny_bind (wpAny_field hos hds (x:=vl) rfl (wpAny_bind (wpAny_field hos hds (x:=vu) rfl (wpAny_bind (wpAny_field hos hds (x:=.none) rfl (wpAny_pure ?_)))))))
 refine wpAny_bind (slicePart_none ?_)
 show wpAny _ _ (if ((1:Int) == 0)=true then _ else _) _ _ s
 rw [if_neg (by decide)]
 refine wpAny_bind (slicePart_ pl (wpAny_bind (slicePart_ pu (wpAny_bind (wpAny_pure ?_)))))
 show wpAny _ _ (match Builtin.Slice.sliceAdjust lo hi 1 (n:Int) with | (lo,hi)=>pure (lo,(1:Int),Builtin.Slice.slicePlaces lo hi 1)) _ _ s
 rw [adjust_gen lo hi n]
 show wpAny _ _ (pure (((sIx n 0 lo:Nat):Int),(1:Int),Builtin.Slice.slicePlaces ((sIx n 0 lo:Nat):Int) ((sIx n n hi:Nat):Int) 1)) _ _ s
 rw [places_gen]
 exact wpAny_pure h
theorem pick_gen (xs:Array Value) (i k:Nat):((List.range k).filterMap fun (m:Nat)=>xs[((i:Int) + (m:Int) * 1).toNat]?).toArray=((xs.toList.drop i).take k).toArray:=by
 have e:(fun (m:Nat)=>xs[((i:Int) + (m:Int) * 1).toNat]?)=fun m=>xs[i + m]? := by
  funext m
  have:((i:Int) + (m:Int) * 1).toNat=i + m:=by omega
  rw [this]
 rw [e]
 have:=pick_run xs i k
 rw [List.filterMap_map] at this
 have e2:((fun x=>xs[x]?) ∘ fun x=>i + x)=fun m=>xs[i + m]? := rfl
 rw [e2] at this
 rw [this]
theorem getItem_tuple_cut {t sl:Addr} {items:Array Value} {vl vu:Value} {lo hi:Option Int} {Q:Value->Shared->Prop} (ht:IsTup s.heap t items) (hs:s.heap.IsSliceOf sl vl vu .none) (pl:IsPart vl lo) (pu:IsPart vu hi)
  (hw:¬ (sIx items.size 0 lo=0/\sIx items.size items.size hi=items.size))
  (h:Q (.ref s.heap.objs.size) { s with heap:=s.heap.push { cls:=.type "tuple",data:=.seq ((items.toList.drop (sIx items.size 0 lo)).take (sIx items.size items.size hi - sIx items.size 0 lo)).toArray } })
  (hsz:items.size<=sizeLine):wpAny (model prog w) A (getItem (.ref t) (.ref sl)) Q E s:=by
 have htake:sizeOk (.seq ((items.toList.drop (sIx items.size 0 lo)).take (sIx items.size items.size hi - sIx items.size 0 lo)).toArray):=by
  show ((items.toList.drop (sIx items.size 0 lo)).take (sIx items.size items.size hi - sIx items.size 0 lo)).toArray.size<=sizeLine
  rw [List.size_toArray,List.length_take,List.length_drop,Array.length_toList]
  omega
 have hj:sIx items.size items.size hi<=items.size:=sIx_le _ _ (Nat.le_refl _) hi
 obtain ⟨os,hos,hcs,hds⟩:=id hs
 have hTs:s.TypeIs (.ref sl) "slice" := ⟨os,hos,hcs⟩
 unfold getItem
 try with_reducible refine wpAny_holding ?_
 first | refine wpAny_bind (wpAny_pure ?_) | skip
 refine wpAny_bind (wpAny_sequenceKey ht.typeIs (by decide) ?_)
 refine wpAny_bind (wpAny_callSpecial?_slot (name:=Str.ofString "__getitem__") ht.typeIs PyProof.Rows.slot_tuple_getitem
  (wpAny_call_entry PyProof.Rows.slot_tuple_getitem ht.typeIs entry_tuple_getitem ?_ (args_tuple_getitem _ _)))
 show wpAny _ _ (Builtin.Tuple.tupleItemsOf (.ref t) >>= _) _ _ s
 refine wpAny_bind (tupleItemsOf_ ht ?_)
 refine wpAny_bind (wpAny_typeOf hTs ?_)
 rw [if_pos (by decide)]
 refine wpAny_bind (sliceApplied_gen hs pl pu ?_)
 have hno:¬ ((((sIx items.size 0 lo:Nat):Int) == 0 && (1:Int) == 1 && (sIx items.size items.size hi - sIx items.size 0 lo) == items.size)=true):=by
  intro q
  rw [Bool.and_eq_true,Bool.and_eq_true] at q
  have q1:((sIx items.size 0 lo:Nat):Int)=0:=eq_of_beq q.1.1
  have q2:sIx items.size items.size hi - sIx items.size 0 lo=items.size:=eq_of_beq q.2
  exact hw ⟨by omega,by omega⟩
 show wpAny _ _ (if (((sIx items.size 0 lo:Nat):Int) == 0 && (1:Int) == 1 && (sIx items.size items.size hi - sIx items.size 0 lo) == items.size)=true then _ else _) _ _ s
 rw [if_neg hno,pick_gen]
 first
  | exact wpAny_bind (m:=Builtin.Tuple.tupleExact _) (wpAny_newObj_type (wpAny_pure ⟨_,rfl,wpAny_pure h⟩) htake)
  | exact wpAny_bind (m:=Builtin.Tuple.tupleExact _) (wpAny_newObj_type (wpAny_bind (wpAny_pure (wpAny_pure ⟨_,rfl,wpAny_pure h⟩))) htake)
  | exact wpAny_bind (wpAny_bind (m:=Builtin.Tuple.tupleExact _) (wpAny_newObj_type (wpAny_pure (wpAny_pure ⟨_,rfl,wpAny_pure h⟩)) htake))
  | exact wpAny_bind (wpAny_bind (m:=Builtin.Tuple.tupleExact _) (wpAny_newObj_type (wpAny_pure ⟨_,rfl,wpAny_pure h⟩) htake))
end
end HT
namespace L2
open PySem PySem.Spec PyProof.Rows
abbrev TO:=St->Hp->(Option Int->Hp->Prop)->Prop
def PO (X:Cx) (e:Option Expr) (t:TO):Prop :=
 ∀ (pins:List (Addr × Obj)) (s:Shared) (σ:St) (H:Hp) (Q:Option Int->Hp->Prop),Inv X pins σ H s->t σ H Q ->
  wpAny (model X.prog X.w) X.A (evalPart e X.env) (fun u s'=>∃ o H',Inv X pins σ H' s'/\IsPart u o/\Q o H') X.xe s
def tNoPart:TO:=fun _ H Q=>Q none H
def tPart (t:TE):TO:=fun σ H Q=>t σ H fun x H1=>∃ i,x=.int i/\Q (some i) H1
section
variable {X:Cx} {e:Expr} {te:TE} {lo hi:Option Expr} {tl th:TO} {pos p2:Pos}
theorem po_none:PO X none tNoPart:=by
 intro pins s σ H Q I h
 rw [evalPart_none]
 exact wpAny_pure ⟨none,H,I,.none,h⟩
theorem po_some (h:PE X e te):PO X (some e) (tPart te):=by
 intro pins s σ H Q I hw
 rw [evalPart_some]
 refine thn (h pins s σ H _ I hw) fun u s1 ⟨x,H1,I1,r1,q1⟩=>?_
 obtain ⟨i,rfl,q⟩:=q1
 obtain ⟨t,rfl⟩:=r1
 exact ⟨some i,H1,I1,.int i t,q⟩
def SlR (X:Cx) (r:V->Option Int->Option Int->Hp->VK->Prop):Prop :=
 ∀ (pins:List (Addr × Obj)) (s:Shared) (σ:St) (H:Hp) (x:V) (v vl vu:Value) (lo hi:Option Int) (sl:Addr) (Q:VK),Inv X pins σ H s->RelV x v->s.heap.IsSliceOf sl vl vu .none->IsPart vl lo->IsPart vu hi->r x lo hi H Q ->
  ∃ T id,typeLookup (.type T) "__getitem__" = pure (some (.builtin id))/\s.TypeIs v T/\wpAny (model X.prog X.w) X.A (getItem v (.ref sl)) (EP X pins σ Q) X.xe s
theorem SlR.or {r r':V->Option Int->Option Int->Hp->VK->Prop} (h:SlR X r) (h':SlR X r'):SlR X (fun x lo hi H Q=>r x lo hi H Q\/r' x lo hi H Q):=by
 intro pins s σ H x v vl vu lo hi sl Q I rx hs pl pu q
 rcases q with q | q
 ·exact h pins s σ H x v vl vu lo hi sl Q I rx hs pl pu q
 ·exact h' pins s σ H x v vl vu lo hi sl Q I rx hs pl pu q
def tSl (r:V->Option Int->Option Int->Hp->VK->Prop) (te:TE) (tl th:TO):TE:=fun σ H Q=>te σ H fun x H1=>tl σ H1 fun l H2=>th σ H2 fun u H3=>r x l u H3 Q
theorem pe_slice {r:V->Option Int->Option Int->Hp->VK->Prop} (hr:SlR X r) (he:PE X e te) (hl:PO X lo tl) (hu:PO X hi th):PE X (.Subscript e (.Slice lo hi none p2) pos) (tSl r te tl th):=by
 intro pins s σ H Q I h
 refine Subscript_ (thn (he pins s σ H _ I h) fun v s1 ⟨x,H1,I1,r1,q1⟩=>?_)
 refine wpAny_Slice (thn (hl pins s1 σ H1 _ I1 q1) fun vl s2 ⟨l,H2,I2,pl,q2⟩=>thn (hu pins s2 σ H2 _ I2 q2) fun vu s3 ⟨u,H3,I3,pu,q3⟩=>?_)
 rw [evalPart_none]
 refine wpAny_pure ?_
 have I4:Inv X pins σ H3 { s3 with heap:=s3.heap.push { cls:=.type "slice",data:=.fields #[vl,vu,.none] } }:=I3.kept (t':=s3.toks) fun b ob q=>Heap.get?_push_of_some _ q
 obtain ⟨T,id,hT,ht,hg⟩:=hr pins { s3 with heap:=s3.heap.push { cls:=.type "slice",data:=.fields #[vl,vu,.none] } } σ H3 x v vl vu l u s3.heap.objs.size Q I4 r1 (Heap.IsSliceOf.new ..) pl pu q3
 show wpAny (model X.prog X.w) X.A (subscriptTail e (.Slice lo hi none p2) v (.ref s3.heap.objs.size)) (EP X pins σ Q) X.xe { s3 with heap:=s3.heap.push { cls:=.type "slice",data:=.fields #[vl,vu,.none] } }
 exact tail_any (ops:=[.ref s3.heap.objs.size,v]) ht hT hg (by with_unfolding_all rfl)
def cutV (xs:List V) (lo hi:Option Int):List V:=(xs.drop (HT.sIx xs.length 0 lo)).take (HT.sIx xs.length xs.length hi - HT.sIx xs.length 0 lo)
theorem cutV_length (xs:List V) (lo hi:Option Int):(cutV xs lo hi).length<=xs.length:=by
 unfold cutV
 rw [List.length_take,List.length_drop]
 omega
def rSlT (K:W.Frag):V->Option Int->Option Int->Hp->VK->Prop:=fun x lo hi H Q=>∃ a xs,x=.ref a/\SqT K H a xs /\
 ¬ (HT.sIx xs.length 0 lo=0/\HT.sIx xs.length xs.length hi=xs.length)/\∀ p,H p=none->Q (.ref p) (upd H p (.tup (cutV xs lo hi)))
theorem sl_tup:SlR X (rSlT X.K):=by
 intro pins s σ H x v vl vu lo hi sl Q I rx hs pl pu h
 obtain ⟨a,xs,rfl,hx,hw,q⟩:=h
 cases rx
 obtain ⟨its,r,ht,hz⟩:=I.tuple hx
 have hlen:its.toArray.size=xs.length:=by rw [List.size_toArray]; exact r.length.symm
 refine ⟨"tuple",_,PyProof.Rows.slot_tuple_getitem.lookup,ht.typeIs,?_⟩
 refine HT.getItem_tuple_cut ht hs pl pu (by rw [hlen]; exact hw) ?_ (by rw [hlen]; exact hz)
 rw [hlen]
 refine ⟨.ref s.heap.objs.size,_,I.laid (t':=s.toks) (o:=.tup (cutV xs lo hi)) (fun b ob q=>Heap.get?_push_of_some _ q) (Nat.le_refl _) ?_,rfl,q _ (I.hok.fresh (Nat.le_refl _))⟩
 exact ⟨Nat.le_trans (cutV_length xs lo hi) hz,_,(r.drop (HT.sIx xs.length 0 lo)).take (HT.sIx xs.length xs.length hi - HT.sIx xs.length 0 lo),TupN.new _ _⟩
def rCatT (K:W.Frag):R2:=fun x y H Q=>∃ a b xs ys,x=.ref a/\y=.ref b/\SqT K H a xs/\SqT K H b ys/\xs≠[]/\xs.length + ys.length<=sizeLine /\
 (ys=[]->Q (.ref a) H)/\(ys≠[]->∀ p,H p=none->Q (.ref p) (upd H p (.tup (xs++ys))))
theorem Vals.nil_iff {xs:List V} {us:List Value} (r:Vals xs us):us=[]↔xs=[]:=by
 cases r with
 | nil=>simp
 | cons _ _=>simp
theorem op_catT:OpR X (binaryOp .Add) (rCatT X.K):=by
 intro pins s σ H x y v u Q I rx ry h
 obtain ⟨a,b,xs,ys,rfl,rfl,ha,hb,hx,hz,q1,q2⟩:=h
 cases rx
 cases ry
 obtain ⟨its,r1,p1,_⟩:=I.tuple ha
 obtain ⟨its2,r2,p2,_⟩:=I.tuple hb
 refine HT.cat_tup p1 p2 (fun z=>hx (r1.nil_iff.mp z)) (fun z=>⟨.ref a,H,I,rfl,q1 (r2.nil_iff.mp z)⟩) (fun z=>?_) (by rw [<- r1.length,<- r2.length]; exact hz)
 refine ⟨.ref s.heap.objs.size,_,I.laid (t':=s.toks) (o:=.tup (xs++ys)) (fun b ob q=>Heap.get?_push_of_some _ q) (Nat.le_refl _) ?_,rfl,q2 (fun w=>z (r2.nil_iff.mpr w)) _ (I.hok.fresh (Nat.le_refl _))⟩
 exact ⟨by rw [List.length_append]; exact hz,_,r1.append r2,TupN.new _ _⟩
end
def ixN (n:Nat) (i:Int):Option Nat:=if 0<=i then (if i < n then some i.toNat else none) else if -(n:Int)<=i then some (i + n).toNat else none
def atI {α:Type} (xs:List α) (i:Int):Option α:=(ixN xs.length i).bind fun j=>xs[j]?
theorem ixN_seq {n:Nat} {i:Int} {j:Nat} (h:ixN n i=some j):seqIndex? i n=some j/\j < n/\-(n:Int)<=i/\i < n:=by
 unfold ixN at h
 by_cases h0:0<=i
 ·rw [if_pos h0] at h
  by_cases h1:i < n
  ·rw [if_pos h1] at h
   have e:i.toNat=j:=Option.some.inj h
   exact ⟨by rw [seqIndex_of h0 h1,e],by omega,by omega,h1⟩
  ·rw [if_neg h1] at h; cases h
 ·rw [if_neg h0] at h
  by_cases h1:-(n:Int)<=i
  ·rw [if_pos h1] at h
   have e:(i + n).toNat=j:=Option.some.inj h
   exact ⟨by rw [seqIndex_neg (by omega) h1,e],by omega,h1,by omega⟩
  ·rw [if_neg h1] at h; cases h
theorem atI_get {α:Type} {xs:List α} {i:Int} {v:α} (h:atI xs i=some v):∃ j,seqIndex? i xs.length=some j/\xs[j]? = some v/\j < xs.length/\-(xs.length:Int)<=i/\i < xs.length:=by
 unfold atI at h
 cases e:ixN xs.length i with
 | none=>rw [e] at h; cases h
 | some j =>
  rw [e] at h
  obtain ⟨h1,h2,h3,h4⟩:=ixN_seq e
  exact ⟨j,h1,h,h2,h3,h4⟩
def PlainIx (b:Expr):Prop:=∀ o i,subscripted b false o i=operate [o,i] (getItem o i)
def IxR (X:Cx) (r:R2):Prop :=
 ∀ (value slice:Expr) (pins:List (Addr × Obj)) (s:Shared) (σ:St) (H:Hp) (x y:V) (v u:Value) (Q:VK),Inv X pins σ H s->RelV x v->RelV y u->r x y H Q ->
  subscripted slice false v u=operate [v,u] (getItem v u)->wpAny (model X.prog X.w) X.A (subscriptTail value slice v u) (EP X pins σ Q) X.xe s
def MtR (X:Cx) (id:String) (r:V->List V->Hp->VK->Prop):Prop :=
 ∀ (pins:List (Addr × Obj)) (s:Shared) (σ:St) (H:Hp) (x:V) (xs:List V) (v:Value) (us:List Value) (Q:VK),Inv X pins σ H s->RelV x v->Vals xs us->r x xs H Q ->
  wpAny (model X.prog X.w) X.A (call (.builtin id) (v::us)) (EP X pins σ Q) X.xe s
section
variable {X:Cx} {a b:Expr} {ta tb:TE} {pos:Pos}
theorem IxR.or {r r':R2} (h:IxR X r) (h':IxR X r'):IxR X (fun x y H Q=>r x y H Q\/r' x y H Q):=by
 intro value slice pins s σ H x y v u Q I rx ry q hs
 rcases q with q | q
 ·exact h value slice pins s σ H x y v u Q I rx ry q hs
 ·exact h' value slice pins s σ H x y v u Q I rx ry q hs
theorem MtR.or {id:String} {r r':V->List V->Hp->VK->Prop} (h:MtR X id r) (h':MtR X id r'):MtR X id (fun x xs H Q=>r x xs H Q\/r' x xs H Q):=by
 intro pins s σ H x xs v us Q I rx rs q
 rcases q with q | q
 ·exact h pins s σ H x xs v us Q I rx rs q
 ·exact h' pins s σ H x xs v us Q I rx rs q
theorem pe_ix {r:R2} (hr:IxR X r) (ha:PE X a ta) (hb:PE X b tb) (hs:PlainIx b):PE X (.Subscript a b pos) (tOp r ta tb):=by
 intro pins s σ H Q I h
 exact Subscript_ (binT ha hb I h fun v u s2 x y H2 I2 rx ry q=>hr a b pins s2 σ H2 x y v u Q I2 rx ry q (hs _ _))
def rIxL (K:W.Frag):R2:=fun x y H Q=>∃ p xs i v,x=.ref p/\y=.int i/\SqL K H p xs/\atI xs i=some v/\Q v H
def rIxT (K:W.Frag):R2:=fun x y H Q=>∃ p xs i v,x=.ref p/\y=.int i/\SqT K H p xs/\atI xs i=some v/\Q v H
theorem ix_list:IxR X (rIxL X.K):=by
 intro value slice pins s σ H x y v u Q I rx ry h hs
 obtain ⟨p,xs,i,z,rfl,rfl,hq,he,q⟩:=h
 cases rx
 obtain ⟨t,rfl⟩:=ry
 obtain ⟨its,r,pl,hz⟩:=I.list hq
 obtain ⟨j,h1,h2,h3,h4,h5⟩:=atI_get he
 obtain ⟨w,ew,rw'⟩:=r.get h2
 have hl:=r.length
 have hn:=line63
 have fin:EP X pins σ Q w s:=⟨z,H,I,rw',q⟩
 by_cases h0:0<=i
 ·have hj:i.toNat=j:=by
   rw [seqIndex_of h0 h5] at h1
   exact Option.some.inj h1
  exact item_listR pl.isList h0 (by omega) (by rw [hj]; simpa using ew) fin hs
 ·have hj:(i + (its.toArray.size:Int)).toNat=j:=by
   rw [seqIndex_neg (by omega) h4] at h1
   rw [List.size_toArray,<- hl]
   exact Option.some.inj h1
  exact subscriptTail_builtinR (x:=w) pl.isList.typeIs slot_list_getitem.lookup
   (wpAny_getItem_list_neg (Q:=fun r s'=>r=w/\EP X pins σ Q r s') pl.isList (by omega) (by rw [List.size_toArray] <;> omega) (by omega) (by rw [hj]; simpa using ew) ⟨rfl,fin⟩) hs
theorem ix_tup:IxR X (rIxT X.K):=by
 intro value slice pins s σ H x y v u Q I rx ry h hs
 obtain ⟨p,xs,i,z,rfl,rfl,hq,he,q⟩:=h
 cases rx
 obtain ⟨t,rfl⟩:=ry
 obtain ⟨its,r,pl,hz⟩:=I.tuple hq
 obtain ⟨j,h1,h2,h3,h4,h5⟩:=atI_get he
 obtain ⟨w,ew,rw'⟩:=r.get h2
 have hl:=r.length
 have hn:=line63
 have fin:EP X pins σ Q w s:=⟨z,H,I,rw',q⟩
 exact subscriptTail_builtinR (x:=w) pl.typeIs slot_tuple_getitem.lookup
  (getItem_tuple (j:=j) (Q:=fun r s'=>r=w/\EP X pins σ Q r s') pl (by omega) (by omega) (by rw [List.size_toArray,<- hl]; exact h1) (by simpa using ew) ⟨rfl,fin⟩) hs
theorem Inv.lst {pins:List (Addr × Obj)} {σ:St} {H:Hp} {s:Shared} {p:Addr} {xs:List V} (I:Inv X pins σ H s) (h:H p=some (.lst xs)) :
  ∃ (its:List Value) (n:Nat),Vals xs its/\s.heap.get? p=some { cls:=.type "list",data:=.seq its.toArray n }/\xs.length<=sizeLine:=by
 obtain ⟨z,its,n,r,e⟩:=I.hok p _ h
 exact ⟨its,n,r,e,z⟩
theorem slice_bounds (lo hi:Option Int) (n:Nat):(sliceBounds lo hi none n).1=((HT.sIx n 0 lo:Nat):Int)/\(sliceBounds lo hi none n).2.1=((HT.sIx n n hi:Nat):Int)/\(sliceBounds lo hi none n).2.2=1:=by
 refine ⟨?_,?_,rfl⟩
 ·cases lo with
  | none=>simp [sliceBounds,HT.sIx]
  | some i =>
   simp only [sliceBounds,HT.sIx,Option.getD_none,show (1:Int) > 0 by decide,if_true]
   by_cases h:i < 0
   ·simp only [h,if_true] <;> omega
   ·simp only [h,if_false] <;> omega
 ·cases hi with
  | none=>simp [sliceBounds,HT.sIx]
  | some i =>
   simp only [sliceBounds,HT.sIx,Option.getD_none,show (1:Int) > 0 by decide,if_true]
   by_cases h:i < 0
   ·simp only [h,if_true] <;> omega
   ·simp only [h,if_false] <;> omega
theorem slicePick_cut (its:List Value) (lo hi:Option Int):slicePick its.toArray lo hi none=((its.drop (HT.sIx its.length 0 lo)).take (HT.sIx its.length its.length hi - HT.sIx its.length 0 lo)).toArray:=by
 obtain ⟨h1,h2,h3⟩:=slice_bounds lo hi its.toArray.size
 unfold slicePick
 rw [h1,h2,h3]
 simp only [sliceRange_one,pick_run,List.size_toArray] <;> rfl
def rSlL (K:W.Frag):V->Option Int->Option Int->Hp->VK->Prop:=fun x lo hi H Q=>∃ a xs,x=.ref a/\SqL K H a xs/\∀ p,H p=none->Q (.ref p) (upd H p (.lst (cutV xs lo hi)))
theorem sl_list:SlR X (rSlL X.K):=by
 intro pins s σ H x v vl vu lo hi sl Q I rx hs pl pu h
 obtain ⟨a,xs,rfl,hx,q⟩:=h
 cases rx
 obtain ⟨its,r,ht,hz⟩:=I.list hx
 have hlen:=r.length
 refine ⟨"list",_,slot_list_getitem.lookup,ht.isList.typeIs,?_⟩
 refine wpAny_getItem_list_slice ht.isList hs pl pu .none (by simp) ?_ (by rw [List.size_toArray] <;> omega)
 rw [slicePick_cut,<- hlen]
 refine ⟨.ref s.heap.objs.size,_,I.laid (t':=s.toks) (o:=.lst (cutV xs lo hi)) (fun b ob q=>Heap.get?_push_of_some _ q) (Nat.le_refl _) ?_,rfl,q _ (I.hok.fresh (Nat.le_refl _))⟩
 exact ⟨Nat.le_trans (cutV_length xs lo hi) hz,_,0,(r.drop (HT.sIx xs.length 0 lo)).take (HT.sIx xs.length xs.length hi - HT.sIx xs.length 0 lo),Heap.get?_push_size _ rfl⟩
theorem call_len_seq:CallR X (.builtin "len") (fun xs H Q=>∃ p ys,xs=[.ref p]/\(SqL X.K H p ys\/SqT X.K H p ys)/\Q (.int ys.length) H):=by
 intro pins s σ H xs us Q I r h
 obtain ⟨p,ys,rfl,hq,q⟩:=h
 obtain ⟨u,rfl,rx⟩:=vals1 r
 cases rx
 have hn:=line63
 rcases hq with hq | hq
 ·obtain ⟨its,r',pl,hz⟩:=I.list hq
  have hlen:=r'.length
  exact Calls.call_len_list pl.isList (by simp only [List.size_toArray] <;> omega) ⟨.int ys.length,H,I.tok _,⟨s.toks + 1,by rw [List.size_toArray,hlen]⟩,q⟩
 ·obtain ⟨its,r',pl,hz⟩:=I.tuple hq
  have hlen:=r'.length
  exact len_tuple pl (by simp only [List.size_toArray] <;> omega) ⟨.int ys.length,H,I.tok _,⟨s.toks + 1,by rw [List.size_toArray,hlen]⟩,q⟩
theorem CallR.or {f:Value} {r r':List V->Hp->VK->Prop} (h:CallR X f r) (h':CallR X f r'):CallR X f (fun xs H Q=>r xs H Q\/r' xs H Q):=by
 intro pins s σ H xs us Q I rs q
 rcases q with q | q
 ·exact h pins s σ H xs us Q I rs q
 ·exact h' pins s σ H xs us Q I rs q
theorem call_list_of:CallR X (.type "list") (fun xs H Q=>∃ p ys,xs=[.ref p]/\(SqL X.K H p ys\/SqT X.K H p ys)/\∀ l,H l=none->Q (.ref l) (upd H l (.lst ys))):=by
 intro pins s σ H xs us Q I r h
 obtain ⟨p,ys,rfl,hq,q⟩:=h
 obtain ⟨u,rfl,rx⟩:=vals1 r
 cases rx
 have fin:∀ (its:List Value),Vals ys its->ys.length<=sizeLine->∀ (h':Heap) (c':Nat),(∀ b o',s.heap.get? b=some o'->h'.get? b=some o') ->
   h'.get? s.heap.objs.size=some { cls:=.type "list",dict:=none,data:=.seq its.toArray c',slots:=#[] }->EP X pins σ Q (.ref s.heap.objs.size) { s with heap:=h' }:=fun its r' hz h' c' kp e =>
  ⟨.ref s.heap.objs.size,_,I.laid (t':=s.toks) kp (Nat.le_refl _) (show ObjOk X.prog X.w _ h' _ (.lst ys) from ⟨hz,its,c',r',e⟩),rfl,q _ (I.hok.fresh (Nat.le_refl _))⟩
 rcases hq with hq | hq
 ·obtain ⟨its,r',pl,hz⟩:=I.list hq
  have hlen:=r'.length
  obtain ⟨o,ho,hc,n,hd⟩:=pl.isList
  exact call_list_seq p (.inl rfl) ho hc hd (fun h' c' kp e=>fin its r' hz h' c' kp e) (by simp only [List.size_toArray] <;> omega)
 ·obtain ⟨its,r',pl,hz⟩:=I.tuple hq
  have hlen:=r'.length
  obtain ⟨o,ho,hc,n,hd⟩:=pl
  exact call_list_seq p (.inr rfl) ho hc hd (fun h' c' kp e=>fin its r' hz h' c' kp e) (by simp only [List.size_toArray] <;> omega)
theorem call_tuple_of:CallR X (.type "tuple") (fun xs H Q=>∃ p ys,xs=[.ref p]/\((SqL X.K H p ys/\∀ l,H l=none->Q (.ref l) (upd H l (.tup ys)))\/(SqT X.K H p ys/\Q (.ref p) H))):=by
 intro pins s σ H xs us Q I r h
 obtain ⟨p,ys,rfl,h⟩:=h
 obtain ⟨u,rfl,rx⟩:=vals1 r
 cases rx
 rcases h with ⟨hq,q⟩ | ⟨hq,q⟩
 ·obtain ⟨its,r',pl,hz⟩:=I.list hq
  have hlen:=r'.length
  refine call_tuple_list pl.isList (fun h' kp=>?_) (by simp only [List.size_toArray] <;> omega)
  have I1:Inv X pins σ H { s with heap:=h' }:=I.kept (t':=s.toks) kp
  have I2:Inv X pins σ (upd H h'.objs.size (.tup ys)) { s with heap:=h'.push { cls:=.type "tuple",data:=.seq its.toArray } } :=
   I1.laid (t':=s.toks) (fun b o e=>Heap.get?_push_of_some _ e) (Nat.le_refl _) (show ObjOk X.prog X.w _ _ _ (.tup ys) from ⟨hz,its,r',TupN.new _ _⟩)
  exact ⟨.ref h'.objs.size,_,I2,rfl,q _ (I1.hok.fresh (Nat.le_refl _))⟩
 ·obtain ⟨its,r',pl,hz⟩:=I.tuple hq
  exact call_tuple_same pl ⟨.ref p,H,I,rfl,q⟩
def tyV (K:W.Frag) (T:String) (x:V) (H:Hp):Prop:=match x with
 | .str _=>T = "str"
 | .int _=>T = "int"
 | .ref p=>(T = "list" /\ ∃ xs,SqL K H p xs)\/(T = "tuple" /\ ∃ o,K.lookup p=some o/\o.cls=.type "tuple" /\ o.dict=none) \/
   (T = "dict" /\ ((∃ kvs,H p=some (.dK kvs))\/∃ kvs,H p=some (.dT kvs)))\/(T = "set" /\ ∃ S n,H p=some (.set S n))
 | _=>False
theorem tyV_is {pins:List (Addr × Obj)} {σ:St} {H:Hp} {s:Shared} {T:String} {x:V} {v:Value} (I:Inv X pins σ H s) (r:RelV x v) (ty:tyV X.K T x H) :
  s.TypeIs v T/\∀ a,v=.ref a->∃ ob,s.heap.get? a=some ob/\ob.dict=none:=by
 cases x with
 | str z =>
  obtain ⟨t,rfl⟩:=r
  cases (show T = "str" from ty)
  exact ⟨typeIs_str s z t,fun _ e=>nomatch e⟩
 | int i =>
  obtain ⟨t,rfl⟩:=r
  cases (show T = "int" from ty)
  exact ⟨typeIs_int s i t,fun _ e=>nomatch e⟩
 | ref p =>
  cases r
  rcases ty with ⟨rfl,xs,hq⟩ | ⟨rfl,o,hk,hc,hd⟩ | ⟨rfl,hk⟩ | ⟨rfl,S,n,hk⟩
  ·obtain ⟨its,_,pl,_⟩:=I.list hq
   refine ⟨pl.isList.typeIs,fun a e=>?_⟩
   cases e
   obtain ⟨o,n,e,c,hd,_⟩:=pl
   exact ⟨o,e,hd⟩
  ·refine ⟨⟨o,I.kIn p o hk,hc⟩,fun a e=>?_⟩
   cases e
   exact ⟨o,I.kIn _ o hk,hd⟩
  ·have z:∃ o,s.heap.get? p=some o/\o.ExactDict:=by
    rcases hk with ⟨kvs,hk⟩ | ⟨kvs,hk⟩
    ·obtain ⟨_,_,_,_,o,_,_,e,ex,_⟩:=I.hok p _ hk
     exact ⟨o,e,ex⟩
    ·obtain ⟨_,_,_,_,o,_,_,e,ex,_⟩:=I.hok p _ hk
     exact ⟨o,e,ex⟩
   obtain ⟨o,e,ex⟩:=z
   refine ⟨⟨o,e,ex.1⟩,fun a e2=>?_⟩
   cases e2
   exact ⟨o,e,ex.2.1⟩
  ·obtain ⟨o,_,_,_,e,ex,_⟩:=I.hok p _ hk
   refine ⟨⟨o,e,ex.1⟩,fun a e2=>?_⟩
   cases e2
   exact ⟨o,e,ex.2.1⟩
 | _=>exact False.elim ty
def tBM (K:W.Frag) (T:String) (r:V->List V->Hp->VK->Prop) (to:TE) (t:TA):TE:=fun σ H Q=>to σ H fun x H1=>tyV K T x H1/\t σ H1 fun xs H2=>r x xs H2 Q
variable {o e:Expr} {es:List Expr} {to:TE} {t:TA} {name:Str} {apos cpos:Pos} {T id:String} {r:V->List V->Hp->VK->Prop}
theorem pe_bm (pa:PlainAttrs T) (slot:Slot T name id) (hty:typeOf (.builtin id)=pure (.type "method_descriptor")) (hm:MtR X id r) (ho:PE X o to) (ha:PA X (e::es) t)
  (hbase:attributeBase o name X.env (eval o X.env)=eval o X.env:=by rfl)
  (hfew:((backTo cpos (starEach (e::es) X.env)).all (fun x=>!x.1) && (backToKw cpos (keywordEach [] X.env)).all (fun x=>x.1.isSome)
   && decide ((e::es).length + ([]:List Keyword).length + (if ([]:List Keyword).isEmpty then 0 else 1) < 30))=true:=by rfl)
  (hline:(apos.endLine == cpos.line)=true:=by rfl) (hs:starEach (e::es) X.env=(false,eval e X.env)::starEach es X.env:=by rfl) (hplain:(backTo cpos (starEach es X.env)).any (·.1)=false:=by rfl) :
  PE X (.Call (.Attribute o name apos) (e::es) [] cpos) (tBM X.K T r to t):=by
 intro pins s σ H Q I h
 refine wpAny_Call_method_late hbase hfew hline rfl (thn (ho pins s σ H _ I h) fun v s1 ⟨x,H1,I1,r1,ty,q1⟩=>?_)
 obtain ⟨h1,h2⟩:=tyV_is I1 r1 ty
 refine ⟨T,id,pa,slot,hty,h1,h2,?_⟩
 have hA:=ha cpos pins s1 σ H1 _ I1 q1
 rw [hs] at hA ⊢
 refine Calls.callWith_builtin (by show (false || (backTo cpos (starEach es X.env)).any (·.1))=false; rw [hplain] <;> rfl) (Calls.evalArgs_plain ?_)
 exact thn hA fun us s2 ⟨vs,H2,I2,r2,q2⟩=>hm pins s2 σ H2 x vs v us Q I2 r1 r2 q2
end
def MtM (X:Cx) (id:String) (r:V->List V->Hp->VK->Prop):Prop :=
 ∀ (pins:List (Addr × Obj)) (s:Shared) (σ:St) (H:Hp) (x:V) (xs:List V) (v:Value) (us:List Value) (Q:VK),Inv X pins σ H s->RelV x v->Vals xs us->r x xs H Q ->
  wpAny (model X.prog X.w) X.A (call (.builtin id) (v::us)) (EP X pins σ Q) X.xe s
theorem Vals.one {x:V} {us:List Value} (h:Vals [x] us):∃ u,us=[u]/\RelV x u:=by
 cases h with
 | cons r t =>
  cases t
  exact ⟨_,rfl,r⟩
theorem Vals.two {x y:V} {us:List Value} (h:Vals [x,y] us):∃ u v,us=[u,v]/\RelV x u/\RelV y v:=by
 cases h with
 | cons r t =>
  obtain ⟨v,rfl,q⟩:=Vals.one t
  exact ⟨_,v,rfl,r,q⟩
theorem Vals.eraseIdx:∀ {xs:List V} {us:List Value} (i:Nat),Vals xs us->Vals (xs.eraseIdx i) (us.eraseIdx i)
 | _,_,_,.nil=>.nil
 | _,_,0,.cons _ t=>t
 | _,_,i + 1,.cons r t=>.cons r (Vals.eraseIdx i t)
theorem Vals.reverse {xs:List V} {us:List Value} (h:Vals xs us):Vals xs.reverse us.reverse:=by
 induction h with
 | nil=>exact .nil
 | cons r t ih=>rw [List.reverse_cons,List.reverse_cons]; exact Vals.append ih (.cons r .nil)
theorem Vals.rep {xs:List V} {us:List Value} (h:Vals xs us):∀ k:Nat,Vals (List.replicate k xs).flatten (List.replicate k us).flatten
 | 0=>.nil
 | k + 1=>by
  rw [List.replicate_succ,List.replicate_succ,List.flatten_cons,List.flatten_cons]
  exact Vals.append h (Vals.rep h k)
theorem len_erase {α:Type}:∀ (l:List α) (i:Nat),(l.eraseIdx i).length<=l.length
 | [],_=>Nat.le_refl _
 | _::_,0=>Nat.le_succ _
 | _::r,i + 1=>Nat.succ_le_succ (len_erase r i)
theorem foldl_rep (its:List Value):∀ (k:Nat) (acc:List Value),
  List.foldl (fun x1 x2=>x1++x2) acc.toArray (List.replicate k its.toArray)=(acc++(List.replicate k its).flatten).toArray
 | 0,acc=>by simp
 | k + 1,acc=>by
  have e:acc.toArray++its.toArray=(acc++its).toArray:=by simp
  have e2:(acc++its)++(List.replicate k its).flatten=acc++(List.replicate (k + 1) its).flatten:=by
   rw [List.replicate_succ,List.flatten_cons,List.append_assoc]
  rw [<- e2,<- foldl_rep its k (acc++its),<- e,List.replicate_succ,List.foldl_cons]
section
variable {X:Cx} {pins:List (Addr × Obj)} {σ:St} {H:Hp} {s:Shared} {l b:Addr} {xs ys zs:List V}
theorem Inv.lset {its its':List Value} {n:Nat} {f:Array Value->Array Value} {t':Nat} (I:Inv X pins σ H s) (hH:H l=some (.lst xs))
  (e:s.heap.get? l=some { cls:=.type "list",data:=.seq its.toArray n }) (hf:f its.toArray=its'.toArray) (hv:Vals ys its') (hz:ys.length<=sizeLine) :
  Inv X pins σ (upd H l (.lst ys)) { s with heap:=s.heap.update l (Obj.mapSeq f),toks:=t' }:=by
 have q:=PySem.IsL.update e f
 rw [hf] at q
 refine I.write (x:=l) (e:=l) (by rw [hH]; exact trivial) (.inl rfl) (fun b' u hb hu=>(Heap.get?_update_other s.heap (Obj.mapSeq f) (Ne.symm hb)).trans hu) ⟨_,q⟩ ?_
 exact ⟨hz,its',_,hv,q⟩
theorem Inv.lnew {its:List Value} {t':Nat} (I:Inv X pins σ H s) (hv:Vals ys its) (hz:ys.length<=sizeLine) :
  Inv X pins σ (upd H s.heap.objs.size (.lst ys)) { s with heap:=s.heap.push { cls:=.type "list",data:=.seq its.toArray },toks:=t' } :=
 I.laid (fun _ _ q=>Heap.get?_push_of_some _ q) (Nat.le_refl _) ⟨hz,its,0,hv,Heap.get?_push_size _ rfl⟩
theorem Inv.fresh (I:Inv X pins σ H s):H s.heap.objs.size=none:=I.hok.fresh (Nat.le_refl _)
theorem Inv.lstM (I:Inv X pins σ H s) (hH:H l=some (.lst xs)):xs.length<=sizeLine/\∃ (its:List Value) (n:Nat),Vals xs its/\xs.length=its.length/\s.heap.get? l=some { cls:=.type "list",data:=.seq its.toArray n }:=by
 obtain ⟨z,its,n,r,e⟩:=I.hok l _ hH
 exact ⟨z,its,n,r,r.length,e⟩
theorem notLongL {n:Nat} (h:n<=sizeLine):Builtin.List.listTooLong n=false:=by
 unfold Builtin.List.listTooLong
 exact decide_eq_false (by omega)
end
section
variable {X:Cx}
def rAppend:V->List V->Hp->VK->Prop:=fun x vs H Q=>∃ l xs y,x=.ref l/\vs=[y]/\H l=some (.lst xs)/\xs.length < sizeLine/\Q .non (upd H l (.lst (xs++[y])))
theorem mt_append:MtM X "list.append" rAppend:=by
 intro pins s σ H x vs v us Q I rx rv h
 obtain ⟨l,xs,y,rfl,rfl,hH,hz,q⟩:=h
 cases rx
 obtain ⟨u,rfl,ru⟩:=rv.one
 obtain ⟨z,its,n,r,hl,e⟩:=I.lstM hH
 refine call_meets F.slot_list_append ⟨_,e,rfl⟩ F.entry_list_append (F.args_list_append_2 _ _) (PySem.list_append l its.toArray n u (by rw [List.size_toArray]; omega)) ⟨e,?_⟩
 refine ⟨.non,_,I.lset (its':=its++[u]) hH e (by simp) (r.append (.cons ru .nil)) ?_,rfl,q⟩
 rw [List.length_append,List.length_singleton]
 omega
def rPopAt:V->List V->Hp->VK->Prop:=fun x vs H Q=>∃ l xs i k y,x=.ref l/\vs=[.int i]/\H l=some (.lst xs)/\-(2 ^ 63)<=i/\i < 2 ^ 63/\seqIndex? i xs.length=some k/\xs[k]? = some y/\Q y (upd H l (.lst (xs.eraseIdx k)))
theorem mt_popAt:MtM X "list.pop" rPopAt:=by
 intro pins s σ H x vs v us Q I rx rv h
 obtain ⟨l,xs,i,k,y,rfl,rfl,hH,h1,h2,hk,hy,q⟩:=h
 cases rx
 obtain ⟨u,rfl,ru⟩:=rv.one
 obtain ⟨t,rfl⟩:=ru
 obtain ⟨z,its,n,r,hl,e⟩:=I.lstM hH
 obtain ⟨w,hw,rw'⟩:=r.get hy
 refine call_meets F.slot_list_pop ⟨_,e,rfl⟩ F.entry_list_pop (F.args_list_pop_2 _ _)
  (MeetsSeq.list_pop_at l its.toArray n i t k w (fitsIndex_both h1 h2) (by rw [List.size_toArray,<- hl]; exact hk) (by rw [<- Array.getElem?_toList]; exact hw) (by rw [List.size_toArray]; omega)) ⟨e,?_⟩
 refine ⟨y,_,I.lset (its':=its.eraseIdx k) hH e ?_ (r.eraseIdx k) ?_,rw',q⟩
 ·show its.toArray.eraseIdxIfInBounds k=(its.eraseIdx k).toArray
  rw [List.eraseIdxIfInBounds_toArray]
 ·have:=len_erase xs k
  omega
def rCat:R2:=fun x y H Q=>∃ l b xs zs,x=.ref l/\y=.ref b/\H l=some (.lst xs)/\H b=some (.lst zs)/\xs.length + zs.length<=sizeLine/\∀ p,H p=none->Q (.ref p) (upd H p (.lst (xs++zs)))
theorem op_cat:OpR X (binaryOp .Add) rCat:=by
 intro pins s σ H x y v u Q I rx ry h
 obtain ⟨l,b,xs,zs,rfl,rfl,hH,hB,hz,q⟩:=h
 cases rx
 cases ry
 obtain ⟨z,its,n,r,hl,e⟩:=I.lstM hH
 obtain ⟨z2,its2,n2,r2,hl2,e2⟩:=I.lstM hB
 refine PySem.P.add_list e e2 ?_ (by rw [List.size_toArray,List.size_toArray]; omega)
 have ea:its.toArray++its2.toArray=(its++its2).toArray:=by simp
 rw [ea]
 exact ⟨.ref _,_,I.lnew (t':=s.toks) (r.append r2) (by rw [List.length_append]; omega),rfl,q _ I.fresh⟩
def rRep:R2:=fun x y H Q=>∃ l k xs,x=.ref l/\y=.int k/\H l=some (.lst xs)/\-(2 ^ 63)<=k/\k < 2 ^ 63/\xs.length * k.toNat<=sizeLine /\
 ∀ p,H p=none->Q (.ref p) (upd H p (.lst (List.replicate k.toNat xs).flatten))
theorem len_rep {α:Type} (xs:List α) (k:Nat):(List.replicate k xs).flatten.length=k * xs.length:=by
 induction k with
 | zero=>simp
 | succ k ih=>rw [List.replicate_succ,List.flatten_cons,List.length_append,ih,Nat.succ_mul,Nat.add_comm]
theorem op_rep:OpR X (binaryOp .Mult) rRep:=by
 intro pins s σ H x y v u Q I rx ry h
 obtain ⟨l,k,xs,rfl,rfl,hH,h1,h2,hz,q⟩:=h
 cases rx
 obtain ⟨t,rfl⟩:=ry
 obtain ⟨z,its,n,r,hl,e⟩:=I.lstM hH
 have hlen:its.toArray.size * k.toNat<=sizeLine:=by rw [List.size_toArray,<- hl]; exact hz
 have hcap:¬ its.toArray.size * k.toNat > (2 ^ 63 - 1) / 8:=by
  have:(sizeLine:Nat)<=(2 ^ 63 - 1) / 8:=by decide
  omega
 have hfit:¬ (!Builtin.List.listFitsIndex k)=true:=by
  rw [fitsIndex_both h1 h2]
  exact Bool.false_ne_true
 have hlong:¬ Builtin.List.listTooLong (its.toArray.size * k.toNat)=true:=by
  rw [notLongL hlen]
  exact Bool.false_ne_true
 have hnew:List.foldl (fun x1 x2=>x1++x2) #[] (List.replicate (if its.toArray.isEmpty=true then 0 else k.toNat) its.toArray)=(List.replicate k.toNat its).flatten.toArray:=by
  have f0:∀ m:Nat,List.foldl (fun x1 x2=>x1++x2) #[] (List.replicate m its.toArray)=(List.replicate m its).flatten.toArray:=fun m=>by
   have:=foldl_rep its m []
   rw [List.nil_append] at this
   exact this
  rw [f0]
  cases its with
  | nil=>simp
  | cons a r'=>rw [if_neg (by simp)]
 refine wpAny_binaryOp_repeat_ref (T := "list") (U := "int") (by decide) ⟨_,e,rfl⟩ (fun s'=>typeIs_int s' k t) noFill_list_mul F.fills_int_mul F.slot_int_rmul repeat_list F.slot_int_index.lookup
  (call_meets F.slot_int_rmul (typeIs_int s k t) F.entry_int_rmul (F.args_int_rmul_2 _ _) (int___rmul___int_list k t l its.toArray n)
   ⟨e,rfl,⟨_,e,rfl⟩,call_meets F.slot_list_mul ⟨_,e,rfl⟩ F.entry_list_mul (F.args_list_mul_2 _ _) (AutoListH.list___mul___list_int_3 l its.toArray n k t hfit hcap hlong) ⟨e,?_⟩⟩)
 rw [hnew]
 exact ⟨.ref _,_,I.lnew (t':=s.toks) (r.rep k.toNat) (by rw [len_rep,Nat.mul_comm]; exact hz),rfl,q _ I.fresh⟩
end
end L2
namespace Att
open PySem PySem.W PySem.Calls PyProof.Rows
theorem ints_of_wellAll {P:Params} {h:Heap}:∀ (ns:List Int) (vs:List Value),WellAll P h vs (ns.map WData.int)->IntsAre vs ns:=by
 intro ns
 induction ns with
 | nil =>
  intro vs w
  rw [List.map_nil] at w
  cases w
  exact .nil
 | cons n ns ih =>
  intro vs w
  rw [List.map_cons] at w
  cases w with
  | cons a b =>
   cases a
   exact .cons _ _ (ih _ b)
theorem script_of {l:OpenLaw} {n:Nat} (hn:l.most=some n) {P:Params} {h:Heap} {args:List WData} {vals:List Value}
  (hpre:l.row.toRowW.claim.pre args=true) (hwl:WellAll P h vals args) :
  ∃ a vs ns,vals=[Value.ref a]/\args=[WData.list (ns.map WData.int)]/\h.get? a=some { cls:=.type "list",data:=.seq vs.toArray }/\IntsAre vs ns/\ns.length<=n:=by
 have hsh:WShape.hasAll [] args [.list .int]=true:=(pre_splitW hpre).1
 have hc:l.pre.holds [] { args:=args }=true:=(pre_splitW hpre).2
 obtain ⟨d,r,rfl,h1,h2⟩:=hasAllW_cons hsh
 obtain rfl:=hasAllW_nil h2
 obtain ⟨xs,rfl,h3⟩:=hasW_list h1
 obtain ⟨ns,rfl⟩:=items_int h3
 have hlen:ns.length<=n:=by
  unfold OpenLaw.pre at hc
  have h4:(WTm.not (.lt (.lit (.int (n:Int))) (.len (.arg 0)))).holds [] { args:=[.list (ns.map .int)] }=true:=by
   have h4:=(holds_andW hc).1
   rw [hn] at h4
   exact h4
  have h5:=condW_of h4 (w_not (w_lt w_lit (w_len_list (w_arg rfl))))
  rw [List.length_map] at h5
  refine Nat.le_of_not_lt fun q=>?_
  have q':(n:Int) < ((ns.length:Nat):Int):=by omega
  first
   | (rw [decide_eq_true q'] at h5; exact absurd h5 (by decide))
   | (simp at h5; omega)
 cases hwl with
 | cons w1 w2 =>
  cases w2
  cases w1 with
  | list ho hall=>exact ⟨_,_,ns,rfl,rfl,ho,ints_of_wellAll ns _ hall,hlen⟩
theorem post_true (l:OpenLaw) (args:List WData):l.row.toRowW.claim.post args (.bool true) args=true :=
 postW_of (r:=l.row.toRowW) (X:=(true == true))
  (show WShape.has [] (.bool true) .bool=true by first | rfl | decide | simp [WShape.has,WShape.arms,WShape.armsAll])
  (show (WTm.eq .res (.lit (.bool true))).value [] { args:=args,res:=some (.bool true),after:=args }=some (.bool (true == true)) from w_eq_bool (w_res rfl) w_lit) rfl
theorem attach_call {l:OpenLaw} {n:Nat} {q:Program} {loose:List Str} {XP:(Str->Option Value)->Heap->Prop} {YP:World->Heap->Prop} {d:DefRec}
  (hn:l.most=some n) (hdf:d.params.defaults=[])
  (call:∀ (w:World) (s₀ s₁:Shared) (mg mb:Str->Option Value) (fa:Addr) (o:Obj) (pm cd doc:Value) (a:Addr) (vs:List Value) (ns:List Int),
   Ground q loose [] XP w s₀ mg mb s₁.heap->YP w s₁.heap ->
   s₁.heap.get? fa=some o->o.data=.func (docDef d.name d.params d.body d.scope pm cd doc)->s₁.heap.CodeRec cd d.name->mg d.name=some (.ref fa) ->
   s₁.heap.get? a=some { cls:=.type "list",data:=.seq vs.toArray }->IntsAre vs ns->ns.length<=n->s₁.gens=#[] ->
   codeAny (model l.prog w) callerA (.call (.ref fa) ⟨[.ref a],[]⟩) (fun r s'=>r=.ok (.ret (.bool true))/\OldK s₁.heap s'.heap/\s'.os=s₁.os/\AllBare s'.gens) s₁) :
  WalkO q loose XP YP l.row.toRowW d [] (fun f vs=>PySem.call f vs):=by
 intro w s₀ s₁ mg mb G Y fa o pm cd doc dV kV ho hd hcd hD hmg hg args vals as hpre hlay hrd hwl hlo
 obtain rfl:dV=.none:=Dflts.none hD hdf
 obtain rfl:kV=.none:=Dflts.noKw hD
 obtain ⟨a,vs,ns,rfl,rfl,hobj,hints,hlen⟩:=script_of hn hpre hwl
 refine enter_call (codeAny_mono (call w s₀ s₁ mg mb fa o pm cd doc a vs ns G Y ho (fd_plain hd) hcd hmg hobj hints hlen hg) fun r s' hq=>?_)
 obtain ⟨rfl,h2,h3,h4⟩:=hq
 exact ⟨.inl ⟨.bool true,.bool true,[],rfl,fun _=>rfl,.bool true,post_true l _,fun _=>⟨List.Pairwise.nil,fun _ hm=>(nomatch hm)⟩⟩,h2,h3,h4⟩
section
variable {prog:Program} {w:World} {A:Around} {E:Value->Shared->Prop} {s:Shared} {K:Frag}
def ledger (h:Heap) (L d:Addr):List (Addr × Obj):=(List.range h.objs.size).filterMap fun a=>if a=L\/a=d then none else (h.get? a).map fun o=>(a,o)
end
end Att
namespace L2
open PySem PySem.Spec PyProof.Rows
theorem vals_ints:∀ {vs:List Value} {ns:List Int},IntsAre vs ns->Vals (ns.map V.int) vs
 | _,_,.nil=>.nil
 | _,_,.cons n t h=>.cons ⟨t,rfl⟩ (vals_ints h)
def Only (H:Hp):Prop:=∀ b,H b=none\/∃ o xs,H b=some (.frz o (.lst xs))
theorem law_call {P:Program} {w:World} {K:W.Frag} {mg mb:Str->Option Value} {CX:CXT} {k:Nat} {fa a:Addr} {fd:FuncData} {x:Str} {sp:Sp} {s₁:Shared} {vs:List Value} {ns:List Int}
  (KX:K.In s₁.heap) (hns:s₁.heap.Ns mainGlobals mg) (hb:s₁.heap.Ns builtinsNs mb) (hbb:∀ x:Str,x ≠ "__name__" -> mb x=bootBuiltins x) (hlim:s₁.heap.NoLimit) (hg:s₁.gens=#[])
  (ha:s₁.heap.get? a=some { cls:=.type "list",data:=.seq vs.toArray }) (hi:IntsAre vs ns) (hl:ns.length<=sizeLine) (hr:Room k callerA)
  (F:∀ base:Heap,K.In base->base.Ns mainGlobals mg->FnOk P w K mg base CX k fa fd [x] sp) (hbind:∀ (s:Shared) (u:Value),BindsTo s fd ⟨[u],[]⟩ [(x,u)])
  (hsp:∀ H:Hp,Only H->SqL K H a (ns.map V.int)->sp [.ref a] H (fun v _=>v=.bl true) fun _ _ _=>False)
  (hCX:∀ H e s',CX [] H s₁ (fun _ _ _=>False) e s'->False) :
  codeAny (model P w) callerA (.call (.ref fa) ⟨[.ref a],[]⟩) (fun r s'=>r=.ok (.ret (.bool true))/\OldK s₁.heap s'.heap/\s'.os=s₁.os/\AllBare s'.gens) s₁:=by
 have rv:=vals_ints hi
 have lenV:=hi.length
 have core:∀ H:Hp,Only H->SqL K H a (ns.map V.int)->HOk P w H s₁.heap->(∀ b,H b≠none->b=a)->(H a≠none->K.lookup a=none) ->
   codeAny (model P w) callerA (.call (.ref fa) ⟨[.ref a],[]⟩) (fun r s'=>r=.ok (.ret (.bool true))/\OldK s₁.heap s'.heap/\s'.os=s₁.os/\AllBare s'.gens) s₁:=by
  intro H hO hS hok hA hK
  have base_of:∀ {b:Addr} {o:Obj},s₁.heap.get? b=some o->H b=none->(hidT s₁.heap H).get? b=some o:=fun e n=>hidT_get e n
  have noA:∀ {b:Addr} {o:Obj} {es:Array DictEntry} {ep:Nat},s₁.heap.get? b=some o->o.data=.dict es ep->H b=none:=fun {b o es ep} e d=>by
   cases q:H b with
   | none=>rfl
   | some u =>
    have e':b=a:=hA b (by rw [q]; simp)
    subst e'
    rw [ha] at e; cases e
    have d':Data.seq vs.toArray _=Data.dict es ep:=d
    cases d'
  have nsK:∀ {b:Addr} {m:Str->Option Value},s₁.heap.Ns b m->(hidT s₁.heap H).Ns b m:=fun {b m} ⟨o,es,ep,e,d,r⟩=>⟨o,es,ep,base_of e (noA e d),d,r⟩
  have hKb:K.In (hidT s₁.heap H):=fun b o e=>base_of (KX b o e) (by
   cases q:H b with
   | none=>rfl
   | some u =>
    have e':b=a:=hA b (by rw [q]; simp)
    subst e'
    rw [hK (by rw [q]; simp)] at e; cases e)
  have hM:Mod K mg (hidT s₁.heap H):=⟨hKb,nsK hns,⟨mb,nsK hb,hbb⟩,let ⟨mc,h1,h2⟩:=hlim; ⟨mc,nsK h1,h2⟩⟩
  have e0:Env0 P w K mg (hidT s₁.heap H) callerA [] s₁ H:=⟨rfl,hM,fun b o e=>of_hidT e,Nat.le_of_eq (hidT_size _ _),trivial,fun b hb=>absurd (show b∈([]:List Addr) from hb) (by simp),hok,.of_eq hg⟩
  refine codeAny_mono ((F _ hKb (nsK hns)).run callerA [] s₁ H ⟨[.ref a],[]⟩ [.ref a] [.ref a] _ _ hr e0 (hbind s₁ (.ref a)) (.cons rfl .nil) (hsp H hO hS)) fun r s' h=>?_
  cases r with
  | error e=>exact (hCX H e s' h).elim
  | ok fl =>
   cases fl with
   | next=>exact False.elim h
   | brk=>exact False.elim h
   | cont=>exact False.elim h
   | ret u =>
    obtain ⟨v,H',os,bare,un,hok',r',q⟩:=h
    have q':v=.bl true:=q
    subst q'
    obtain rfl:u=Value.bool true:=r'
    refine ⟨rfl,OldK.of_keep fun b o e=>?_,os,bare⟩
    cases q:H b with
    | none=>exact un.keep b o e q (by intro z; exact absurd (show b∈([]:List Addr) from z) (by simp)) (by simp)
    | some u =>
     rcases hO b with z | ⟨ob,xs,z⟩
     ·rw [q] at z; cases z
     ·have z2:=un.frzs b ob _ z
      obtain ⟨e1,_⟩:=hok b _ z
      obtain ⟨e2,_⟩:=hok' b _ z2
      rw [e] at e1; cases e1
      exact e2
 cases hk:K.lookup a with
 | some o =>
  have e:=KX a o hk
  rw [ha] at e
  cases e
  refine core (fun _=>none) (fun _=>.inl rfl) (.inr ⟨_,vs.toArray,_,hk,rfl,rfl,rfl,by rw [List.size_toArray,lenV]; exact hl,by simpa using rv⟩) (fun b u z=>by have z':(none:Option HO)=some u:=z; cases z') (fun b z=>absurd rfl z) fun z=>absurd rfl z
 | none =>
  refine core (fun b=>if b=a then some (.frz { cls:=.type "list",data:=.seq vs.toArray } (.lst (ns.map V.int))) else none) (fun b=>?_) (.inl (.inr ⟨{ cls:=.type "list",data:=.seq vs.toArray },if_pos rfl⟩)) (fun b u z=>?_) (fun b z=>?_) fun _=>hk
  ·by_cases hb:b=a
   ·exact .inr ⟨_,_,if_pos hb⟩
   ·exact .inl (if_neg hb)
  ·by_cases hb:b=a
   ·have z':=(if_pos hb).symm.trans z
    cases z'
    subst hb
    exact ⟨ha,by rw [List.length_map]; exact hl,vs,_,rv,ha⟩
   ·have z':=(if_neg hb).symm.trans z
    cases z'
  ·by_cases hb:b=a
   ·exact hb
   ·exact absurd (if_neg hb) z
abbrev KOf {K:W.Frag} {h:Heap} (_:K.In h):W.Frag:=K
theorem walk_of {l:W.OpenLaw} {n k:Nat} {q:Program} {loose:List Str} {XP:(Str->Option Value)->Heap->Prop} {YP:World->Heap->Prop} {d:DefRec} {K:Params->W.Frag} {CX:World->CXT} {sp:World->Sp} {x:Str}
  (hn:l.most=some n) (hn2:n<=sizeLine) (hdf:d.params.defaults=[]) (hr:Room k callerA)
  (hY:∀ (w:World) (h:Heap),YP w h->(K w.params).In h)
  (F:∀ (w:World) (mg:Str->Option Value) (fa:Addr) (h:Heap),(K w.params).In h->h.Ns mainGlobals mg->mg d.name=some (.ref fa) ->
   ∃ fd:FuncData,(∀ (s:Shared) (u:Value),BindsTo s fd ⟨[u],[]⟩ [(x,u)]) /\
    ∀ base:Heap,(K w.params).In base->base.Ns mainGlobals mg->FnOk l.prog w (K w.params) mg base (CX w) k fa fd [x] (sp w))
  (hsp:∀ (w:World) (H:Hp) (a:Addr) (ns:List Int),ns.length<=n->Only H->SqL (K w.params) H a (ns.map V.int)->sp w [.ref a] H (fun v _=>v=.bl true) fun _ _ _=>False)
  (hCX:∀ (w:World) (H:Hp) (s:Shared) (e:Value) (s':Shared),CX w [] H s (fun _ _ _=>False) e s'->False) :
  W.WalkO q loose XP YP l.row.toRowW d [] (fun f vs=>PySem.call f vs):=by
 refine Att.attach_call hn hdf fun w s₀ s₁ mg mb fa o pm cd doc a vs ns G Y ho hd hcd hmg hobj hints hlen hg=>?_
 have KX:=hY w _ Y
 obtain ⟨fd,hb,hF⟩:=F w mg fa _ KX G.T.g hmg
 exact law_call KX G.T.g G.T.b G.T.builtins G.T.nolimit hg hobj hints (Nat.le_trans hlen hn2) hr hF hb (fun H hO hS=>hsp w H a ns hlen hO hS) fun H e s'=>hCX w H s₁ e s'
def defArgs (s:Stmt):Arguments:=match s with
 | .FunctionDef _ a _ _ _ _ _ _ _ _=>a
 | _=>{ posonlyargs:=[],args:=[],vararg:=none,kwonlyargs:=[],kw_defaults:=[],kwarg:=none,defaults:=[] }
def defBody (s:Stmt):List Stmt:=match s with
 | .FunctionDef _ _ b _ _ _ _ _ _ _=>b
 | _=>[]
def defScope (s:Stmt):Scope:=match s with
 | .FunctionDef _ _ _ _ _ _ sc _ _ _=>sc
 | _=>{ kind:=.function,names:=[],isGenerator:=false,isCoroutine:=false }
abbrev CX0:CXT:=fun _ _ _ _ _ _=>False
abbrev E0:XK:=fun _ _ _=>False
theorem pass0 {X:Cx}:Passes CX0 X E0:=fun _ _ _ _ _ _ _ h=>h.elim
structure Fun (K:W.Frag) (x qual:Str) (st:Stmt) (f:Addr) (fd:FuncData):Prop where
 ex:∃ (oc:Value) (od:Option Addr) (kV doc pm:Value) (an:Option Addr) (cdv ct:Value) (osl:Array (Option Value)),
  fd=W.fnOf x qual (defArgs st) (defBody st) (defScope st) .none kV doc pm an cdv ct/\K.lookup f=some ⟨oc,od,.func fd,osl⟩/\W.codeIn K cdv qual=true
 kp:W.keepIn K (.ref f)=true
section
variable {P:Program} {w:World} {K:W.Frag} {mg:Str->Option Value} {base:Heap}
theorem Fun.ok {x qual:Str} {st:Stmt} {f:Addr} {fd:FuncData} {N ps:List Str} {k:Nat} {sp:Sp} (F:Fun K x qual st f fd) (S:FnScope N ps (defScope st)) (len:∀ vs H Q E,sp vs H Q E->vs.length=ps.length)
  (hbody:∀ (cdv:Value) (A:Around) (outer:List Env) (s:Shared) (H:Hp) (vs:List V) (Q:VK) (E:XK),Room k (A.deeper (envOfC qual (defScope st) s.heap.objs.size f cdv))->sp vs H Q E ->
   ∃ t,PSs (cxOf CX0 P w K mg base N qual (defScope st) f cdv A outer s H E).nox (defBody st) t/\t { nx:=fun _ H'=>Q .non H',rt:=Q } (start N vs) H):FnOk P w K mg base CX0 (k + 1) f fd ps sp:=by
 obtain ⟨oc,od,kV,doc,pm,an,cdv,ct,osl,rfl,lk,hcd⟩:=F.ex
 refine fn_of lk hcd S len fun A outer s H vs Q E hr hsp=>?_
 obtain ⟨t,h,q⟩:=hbody cdv A outer s H vs Q E hr hsp
 exact ⟨t,h.nox,q⟩
theorem Fun.binds {x qual:Str} {st:Stmt} {f:Addr} {fd:FuncData} {ps:List Str} (F:Fun K x qual st f fd)
  (h:∀ (kV doc pm:Value) (an:Option Addr) (cdv ct:Value) (us:List Value),us.length=ps.length->bindArgs (W.fnOf x qual (defArgs st) (defBody st) (defScope st) .none kV doc pm an cdv ct) ⟨us,[]⟩=pure (ps.zip us)):Binds K fd ps []:=by
 obtain ⟨oc,od,kV,doc,pm,an,cdv,ct,osl,rfl,lk,hcd⟩:=F.ex
 exact .all (h kV doc pm an cdv ct)
theorem fun_mk {x qual:Str} {st:Stmt} {f:Addr} {oc:Value} {od an:Option Addr} {osl:Array (Option Value)} {kV doc pm cdv ct:Value} (l:K.lookup f=some ⟨oc,od,.func (W.fnOf x qual (defArgs st) (defBody st) (defScope st) .none kV doc pm an cdv ct),osl⟩)
  (c:W.codeIn K cdv qual=true) (k:W.keepIn K (.ref f)=true):Fun K x qual st f (W.fnOf x qual (defArgs st) (defBody st) (defScope st) .none kV doc pm an cdv ct):=⟨⟨oc,od,kV,doc,pm,an,cdv,ct,osl,rfl,l,c⟩,k⟩
end
theorem iteF {A B:Prop} (h:B):if false=true then A else B:=by
 rw [if_neg Bool.false_ne_true]
 exact h
theorem ite2 {c A B:Prop} [Decidable c] (h1:c->A) (h2:¬ c->B):if c then A else B:=by
 by_cases h:c
 ·rw [if_pos h]
  exact h1 h
 ·rw [if_neg h]
  exact h2 h
def Same (H H':Hp):Prop:=∀ b o,H b=some o->H' b=some o
theorem Same.refl (H:Hp):Same H H:=fun _ _ h=>h
theorem Same.trans {H H1 H2:Hp} (a:Same H H1) (b:Same H1 H2):Same H H2:=fun c o h=>b c o (a c o h)
theorem Same.free {H H':Hp} (e:Same H H') {l:Addr} (h:H' l=Option.none):H l=Option.none:=by
 cases q:H l with
 | none=>rfl
 | some o =>
  rw [e l o q] at h
  cases h
theorem Same.seq {K:W.Frag} {H H':Hp} {a:Addr} {xs:List V} (e:Same H H') (h:SqL K H a xs):SqL K H' a xs:=by
 rcases h with (h | ⟨o,h⟩) | h
 ·exact .inl (.inl (e _ _ h))
 ·exact .inl (.inr ⟨o,e _ _ h⟩)
 ·exact .inr h
structure DefOk (P:Program) (w:World) (K:W.Frag) (mg:Str->Option Value) (base:Heap) (k:Nat) (x:Str) (ps:List Str) (sp:Sp):Prop where
 ex:∃ (f:Addr) (fd:FuncData),FnOk P w K mg base CX0 k f fd ps sp/\mg x=some (.ref f)/\W.keepIn K (.ref f)=true/\Binds K fd ps []
def tCallD (sp:Sp) (t:TA):TE:=fun σ H Q=>t σ H fun vs H1=>sp vs H1 Q E0
theorem tCallD_eq (sp:Sp) (t:TA):tCall sp [] E0 t=tCallD sp t:=by
 funext σ H Q
 unfold tCall tCallD
 congr
 funext vs H1
 rw [List.append_nil]
section
variable {X:Cx} {k:Nat} {x:Str} {ps:List Str} {sp:Sp} {e:Expr} {es:List Expr} {t:TA} {p pos:Pos}
theorem pe_callD (D:DefOk X.prog X.w X.K X.mg X.base k x ps sp) (hr:Room k X.A) (ha:PA X (e::es) t) (hg:Gl X x:=by rfl)
  (hdb:(x == ("__debug__" : Str))=false:=by decide) (he:starEach (e::es) X.env=(false,eval e X.env)::starEach es X.env:=by rfl) (hpl:(backTo pos (starEach es X.env)).any (·.1)=false:=by rfl) :
  PE X (.Call (.Name x p) (e::es) [] pos) (tCallD sp t):=by
 obtain ⟨f,fd,F,hm,hk,hb⟩:=D.ex
 rw [<- tCallD_eq]
 exact pe_call F hr hg hm hk hb .nil pass0 ha hdb he hpl
end
def clOf (cells:List (Str × Addr)):List (Str × NameKind)->List (Str × Addr)->List (Str × Addr)
 | [],acc=>acc
 | (n,k)::r,acc=>clOf cells r (if (k == NameKind.free)=true then (n,(cells.lookup n).getD 0)::acc else acc)
theorem clOf_cons (cells:List (Str × Addr)) (n:Str) (k:NameKind) (r:List (Str × NameKind)) (acc:List (Str × Addr)):clOf cells ((n,k)::r) acc=clOf cells r (if (k == NameKind.free)=true then (n,(cells.lookup n).getD 0)::acc else acc):=rfl
theorem mem_clOf {cells:List (Str × Addr)} {x:Str} {c:Addr}:∀ {l:List (Str × NameKind)} {acc:List (Str × Addr)},(x,c)∈clOf cells l acc->(x,c)∈acc\/((x,NameKind.free)∈l/\c=(cells.lookup x).getD 0)
 | [],acc,h=>.inl h
 | (n,k)::r,acc,h=>by
  unfold clOf at h
  rcases mem_clOf h with h | ⟨h1,h2⟩
  ·by_cases hk:(k == NameKind.free)=true
   ·rw [if_pos hk] at h
    rcases List.mem_cons.mp h with h | h
    ·cases h
     have:k=NameKind.free:=by simpa using hk
     subst this
     exact .inr ⟨List.mem_cons_self,rfl⟩
    ·exact .inl h
   ·rw [if_neg hk] at h
    exact .inl h
  ·exact .inr ⟨List.mem_cons_of_mem _ h1,h2⟩
theorem acc_clOf {cells:List (Str × Addr)} {q:Str × Addr}:∀ {l:List (Str × NameKind)} {acc:List (Str × Addr)},q∈acc->q∈clOf cells l acc
 | [],_,h=>h
 | (n,k)::r,acc,h=>by
  unfold clOf
  refine acc_clOf ?_
  split
  ·exact List.mem_cons_of_mem _ h
  ·exact h
theorem in_clOf {cells:List (Str × Addr)} {x:Str}:∀ {l:List (Str × NameKind)} {acc:List (Str × Addr)},(x,NameKind.free)∈l->(x,(cells.lookup x).getD 0)∈clOf cells l acc
 | [],_,h=>by cases h
 | (n,k)::r,acc,h=>by
  unfold clOf
  rcases List.mem_cons.mp h with h | h
  ·cases h
   refine acc_clOf ?_
   simp
  ·exact in_clOf h
theorem lookup_mem {β:Type} {x:Str} {b:β}:∀ {l:List (Str × β)},(x,b)∈l->∃ c,l.lookup x=some c
 | [],h=>by cases h
 | (n,k)::r,h=>by
  rw [List.lookup_cons]
  cases e:x == n with
  | true=>exact ⟨k,rfl⟩
  | false =>
   rcases List.mem_cons.mp h with h | h
   ·cases h
    simp at e
   ·exact lookup_mem h
theorem closure_run {env:Env}:∀ (l:List (Str × NameKind)) (acc:List (Str × Addr)),(∀ x∈l,x.2=NameKind.free->∃ c,env.cells.lookup x.1=some c) ->
  (forIn l acc fun x r=>if (x.2 == NameKind.free)=true then (do let c <- cellOf env x.1; pure (ForInStep.yield ((x.1,c)::r))) else pure (ForInStep.yield r):Sem (List (Str × Addr)))=pure (clOf env.cells l acc)
 | [],acc,_=>rfl
 | (n,k)::r,acc,h=>by
  rw [List.forIn_cons]
  by_cases hk:(k == NameKind.free)=true
  ·obtain ⟨c,hc⟩:=h (n,k) List.mem_cons_self (by simpa using hk)
   have e:cellOf env n=pure c:=by unfold cellOf; rw [hc]
   show (if (k == NameKind.free)=true then _ else _) >>= _=_
   rw [if_pos hk,e]
   show (forIn r ((n,c)::acc) _:Sem _)=_
   rw [closure_run r _ fun x hx=>h x (List.mem_cons_of_mem _ hx)]
   rw [clOf_cons,if_pos hk,show env.cells.lookup n=some c from hc]
   rfl
  ·show (if (k == NameKind.free)=true then _ else _) >>= _=_
   rw [if_neg hk]
   show (forIn r acc _:Sem _)=_
   rw [closure_run r _ fun x hx=>h x (List.mem_cons_of_mem _ hx)]
   rw [clOf_cons,if_neg hk]
theorem closureFor_cl {scope:Scope} {env:Env} (h:∀ x∈scope.names,x.2=NameKind.free->∃ c,env.cells.lookup x.1=some c):closureFor scope env=pure (clOf env.cells scope.names []):=by
 have e:=closure_run scope.names [] h
 unfold closureFor
 first
  | exact (congrArg (fun m=>m >>= fun r=>pure r) e).trans rfl
  | (simp only [bind_pure]; exact e)
  | (rw [<- e]; rfl)
def cxComp (X:Cx) (sc:Scope) (N:List Str) (cl:List (Str × Addr)) (C:Addr) (s₂:Shared) (H₂:Hp) (fp:List Addr):Cx where
 prog:=X.prog
 w:=X.w
 K:=X.K
 mg:=X.mg
 base:=X.base
 A:=X.A
 N:=N
 s₀:=s₂
 H₀:=H₂
 env:=compEnvC sc cl C X.env
 outer:=X.stack
 stack:=X.stack
 ex:=fp
 fn:=fun _=>false
 calm:=true
 pn:=[]
 xe:=fun _ _=>False
def compOk (NX:List Str) (scX sc:Scope) (N:List Str) (mp:List (Option Nat)):Bool :=
 sc.names.all (fun p=>p.2 != NameKind.cell) && sc.names.all (fun p=>p.2 != NameKind.local || sc.names.lookup p.1 == some NameKind.local) &&
 sc.names.all (fun p=>p.2 != NameKind.free || (scX.names.lookup p.1 == some NameKind.cell || scX.names.lookup p.1 == some NameKind.free)) &&
 mp.length == N.length && (N.zip mp).all (fun q=>match q.2 with | none=>true | some i=>NX[i]? == some q.1 && sc.names.lookup q.1 == some NameKind.free)
def seed (mp:List (Option Nat)) (σ:St):St:=mp.map fun o=>match o with | none=>none | some i=>(σ[i]?).join
structure CompOk (NX:List Str) (scX sc:Scope) (N:List Str) (mp:List (Option Nat)):Prop where
 cell:∀ x∈sc.names,x.2≠NameKind.cell
 loc:∀ x∈sc.names,x.2=NameKind.local->sc.names.lookup x.1=some NameKind.local
 free:∀ x∈sc.names,x.2=NameKind.free->scX.names.lookup x.1=some NameKind.cell\/scX.names.lookup x.1=some NameKind.free
 len:mp.length=N.length
 map:∀ (j:Nat) (x:Str) (i:Nat),N[j]? = some x->mp[j]? = some (some i)->NX[i]? = some x/\sc.names.lookup x=some NameKind.free
theorem compOk_of {NX:List Str} {scX sc:Scope} {N:List Str} {mp:List (Option Nat)} (h:compOk NX scX sc N mp=true):CompOk NX scX sc N mp:=by
 unfold compOk at h
 simp only [Bool.and_eq_true,List.all_eq_true] at h
 obtain ⟨⟨⟨⟨h1,h2⟩,h3⟩,h4⟩,h5⟩:=h
 have hl:mp.length=N.length:=by simpa using h4
 refine ⟨fun x hx=>by simpa using h1 x hx,fun x hx e=>?_,fun x hx e=>?_,hl,fun j x i e1 e2=>?_⟩
 ·have:=h2 x hx
  rw [e] at this
  simpa using this
 ·have:=h3 x hx
  rw [e] at this
  simpa using this
 ·have hj1:j < N.length:=(List.getElem?_eq_some_iff.mp e1).1
  have hj2:j < mp.length:=(List.getElem?_eq_some_iff.mp e2).1
  have hm:(x,some i)∈N.zip mp:=by
   refine List.mem_of_getElem? (i:=j) ?_
   rw [List.getElem?_zip_eq_some]
   exact ⟨e1,e2⟩
  have:=h5 _ hm
  simpa using this
theorem relabel_lookup {sc:Scope} {env:Env} {x:Str} {k:NameKind} (h:(relabel sc env).names.lookup x=some k):∃ k',(x,k')∈sc.names/\(k=k'\/(k'=NameKind.free/\k=NameKind.cell)):=by
 have hm:=PySem.mem_of_lookup h
 obtain ⟨⟨n,k'⟩,hm',e⟩:=List.mem_map.mp hm
 refine ⟨k',?_⟩
 dsimp only at e
 split at e
 ·rename_i hc
  cases e
  rw [Bool.and_eq_true,Bool.and_eq_true] at hc
  have:k'=NameKind.free:=by simpa using hc.1.1
  exact ⟨hm',.inr ⟨this,rfl⟩⟩
 ·cases e
  exact ⟨hm',.inl rfl⟩
theorem relabel_free {sc:Scope} {env:Env} {x:Str} (h:sc.names.lookup x=some NameKind.free):(relabel sc env).names.lookup x=some NameKind.cell\/(relabel sc env).names.lookup x=some NameKind.free:=by
 show (sc.names.map _).lookup x=_\/(sc.names.map _).lookup x=_
 generalize sc.names=l at h
 induction l with
 | nil=>cases h
 | cons p r ih =>
  obtain ⟨n,k⟩:=p
  rw [List.map_cons]
  dsimp only
  by_cases hc:(k == NameKind.free && env.scope.kind == .function && env.kindOf n == some .cell)=true
  ·rw [if_pos hc,List.lookup_cons]
   cases e:x == n with
   | true=>exact .inl rfl
   | false =>
    rw [List.lookup_cons,e] at h
    exact ih h
  ·rw [if_neg hc,List.lookup_cons]
   cases e:x == n with
   | true =>
    rw [List.lookup_cons,e] at h
    exact .inr h
   | false =>
    rw [List.lookup_cons,e] at h
    exact ih h
section
variable {X:Cx} {sc:Scope} {N:List Str} {mp:List (Option Nat)} {pins:List (Addr × Obj)} {σ:St} {H:Hp} {s:Shared} {fp:List Addr} {C:Addr} {h₁:Heap}
theorem cl_cells (O:CompOk X.N X.env.scope sc N mp) (ok:X.Ok):∀ x∈sc.names,x.2=NameKind.free->∃ c,X.env.cells.lookup x.1=some c:=fun x hx e=>ok.has x.1 (O.free x hx e)
theorem cl_sub (O:CompOk X.N X.env.scope sc N mp) (ok:X.Ok) {x:Str} {c:Addr} (h:(clOf X.env.cells sc.names []).lookup x=some c):X.env.cells.lookup x=some c/\(x,NameKind.free)∈sc.names:=by
 rcases mem_clOf (PySem.mem_of_lookup h) with h | ⟨h1,h2⟩
 ·cases h
 ·obtain ⟨c',hc⟩:=cl_cells O ok _ h1 rfl
  have hc':X.env.cells.lookup x=some c':=hc
  rw [hc'] at h2
  rw [hc',h2]
  exact ⟨rfl,h1⟩
theorem cl_has (O:CompOk X.N X.env.scope sc N mp) (ok:X.Ok) {x:Str} (h:(x,NameKind.free)∈sc.names):∃ c,(clOf X.env.cells sc.names []).lookup x=some c:=lookup_mem (in_clOf h)
theorem inv_comp (hc:X.calm=true) (O:CompOk X.N X.env.scope sc N mp) (hk:sc.kind=.function) (I:Inv X pins σ H s) (hC:s.heap.objs.size<=C) (kp:∀ b o,s.heap.get? b=some o->h₁.get? b=some o) {m:Str->Option Value}
  (hn:h₁.Ns C m) (fpo:∀ b∈fp,FpOk X pins H b) (fpl:∀ b∈fp,b < s.heap.objs.size) {t':Nat} :
  Inv (cxComp X sc N (clOf X.env.cells sc.names []) C s H fp) [] (seed mp σ) H { s with heap:=h₁,toks:=t' }:=by
 have ok:=I.ok
 have fsb:∀ b∈fp,b ∉ frs X.stack:=fun b hb z=>by
  rcases List.mem_cons.mp (I.stkSub b z) with e | e
  ·exact (fpo b hb).2.1 e
  ·exact (fpo b hb).2.2.1 e
 refine ⟨⟨ok.mod,hk,ok.glob,ok.blt,hC,?_,?_,?_,fun _=>ok.hd hc,ok.frames,.inl rfl,?_,I.bs,Nat.le_trans ok.bsz I.sz,?_,fsb,I.stack,I.stkFree⟩,rfl,I.bare,Un.kept kp,?_,?_,I.hok.fresh hC,?_,?_,I.hok.kept kp,?_⟩
 ·intro x y c h1 h2
  exact ok.inj x y c (cl_sub O ok h1).1 (cl_sub O ok h2).1
 ·intro x hx
  have hx':(relabel sc X.env).names.lookup x=some .cell\/(relabel sc X.env).names.lookup x=some .free:=hx
  have hf:(x,NameKind.free)∈sc.names:=by
   rcases hx' with h | h
   ·obtain ⟨k',hm,e⟩:=relabel_lookup h
    rcases e with e | ⟨e,_⟩
    ·subst e
     exact absurd rfl (O.cell _ hm)
    ·subst e
     exact hm
   ·obtain ⟨k',hm,e⟩:=relabel_lookup h
    rcases e with e | ⟨_,e⟩
    ·subst e
     exact hm
    ·cases e
  exact cl_has O ok hf
 ·intro x c hf
  cases hf
 ·intro b hb
  refine ⟨Nat.ne_of_lt (Nat.lt_of_lt_of_le (fpl b hb) hC),fun x c h=>?_⟩
  exact (fpo b hb).2.2.2.2.1 x c (cl_sub O ok h).1
 ·intro b o e hb
  rcases (fpo b hb).2.2.2.1 with z | z
  ·exact ok.noex b o e z
  ·exact absurd (Nat.lt_of_lt_of_le (Heap.lt_size (ok.bs b o e).1) z) (Nat.lt_irrefl _)
 ·refine ⟨m,hn,fun j x v e1 e2 e3=>?_⟩
  have e1':N[j]? = some x:=e1
  have hj:j < mp.length:=by
   rw [O.len]
   exact (List.getElem?_eq_some_iff.mp e1').1
  obtain ⟨i,hi,hv⟩:∃ i,mp[j]? = some (some i)/\σ[i]? = some (some v):=by
   unfold seed at e2
   rw [List.getElem?_map] at e2
   cases e:mp[j]? with
   | none=>rw [e] at e2; cases e2
   | some o =>
    rw [e] at e2
    cases o with
    | none=>cases e2
    | some i =>
     refine ⟨i,rfl,?_⟩
     have e2':(σ[i]?).join=some v:=Option.some.inj e2
     cases q:σ[i]? with
     | none=>rw [q] at e2'; cases e2'
     | some z =>
      rw [q] at e2'
      have:z=some v:=e2'
      rw [this]
  obtain ⟨hx,hf⟩:=O.map j x i e1' hi
  have hfm:=PySem.mem_of_lookup hf
  obtain ⟨mX,hnX,hl⟩:=I.loc
  have vis:Vis X.env.scope x:=by
   rcases O.free _ hfm rfl with z | z
   ·exact .inr (.inl z)
   ·exact .inr (.inr z)
  obtain ⟨u,r,q⟩:=hl i x v hx hv vis
  refine ⟨u,r,?_⟩
  rcases q with ⟨z,_⟩ | ⟨_,c,ec,cellc⟩
  ·exfalso
   have z':X.env.scope.names.lookup x=some .local:=z
   rcases O.free _ hfm rfl with y | y
   ·rw [show X.env.scope.names.lookup x=some .cell from y] at z'; cases z'
   ·rw [show X.env.scope.names.lookup x=some .free from y] at z'; cases z'
  ·obtain ⟨c',hc'⟩:=cl_has O ok hfm
   have hcc:=(cl_sub O ok hc').1
   rw [ec] at hcc
   cases hcc
   refine .inr ⟨relabel_free hf,c,hc',?_⟩
   obtain ⟨o,ho,hd⟩:=cellc
   exact ⟨o,kp _ _ ho,hd⟩
 ·intro x c h
  obtain ⟨v,o,ho,hd⟩:=I.cell x c (cl_sub O ok h).1
  exact ⟨v,o,kp _ _ ho,hd⟩
 ·intro x c h
  exact I.freeC x c (cl_sub O ok h).1
 ·intro p hp
  cases hp
 ·show (seed mp σ).length=N.length
  unfold seed
  rw [List.length_map,O.len]
theorem Inv.track {a:Addr} {o:HO} {ob:Obj} (I:Inv X pins σ H s) (ho:s.heap.get? a=some ob) (hn:H a=none) (hL:a≠X.env.locals) (h1:a∈X.ex\/X.s₀.heap.objs.size<=a) (h2:∀ x c,X.env.cells.lookup x=some c->c≠a)
  (h3:∀ p∈X.pn++pins,p.1≠a) (new:ObjOk X.prog X.w (upd H a o) s.heap a o):Inv X pins σ (upd H a o) s:=by
 have nit:∀ b u,H b=some u->b≠a:=fun b u e z=>by rw [z,hn] at e; cases e
 have:=I.step (g':=s.gens) (d':=s.drawn) (t':=s.toks) (h':=s.heap) (H':=upd H a o) (ch:=[a]) (fun b hb=>?_) (fun b o _ _ _ e _=>e) (fun b o _ _ _ e _=>⟨o.slots,e⟩) (fun b o hc _ n=>?_)
  (fun b o _ e=>⟨o,e⟩) (fun b xs e=>?_) (fun b u xs e=>?_) (fun b ps e=>⟨#[],?_⟩) (fun m hm=>hm) (fun b u e=>?_) I.bare
 ·exact this
 ·have e:b=a:=by simpa using hb
  subst e
  exact ⟨h1,hL,h2,h3⟩
 ·rw [upd_ne (fun z=>hc (by simp [z]))]; exact n
 ·rw [upd_ne (nit _ _ e)]; exact e
 ·rw [upd_ne (nit _ _ e)]; exact e
 ·rw [upd_ne (nit _ _ e),e]; simp
 ·by_cases hb:b=a
  ·subst hb; rw [upd_same] at e; cases e; exact new
  ·rw [upd_ne hb] at e
   exact (I.hok b u e).stay (fun c v _ q=>q) (fun c q=>by rw [upd_ne (nit _ _ q)]; exact q) fun c xs q=>by rw [upd_ne (nit _ _ q)]; exact q
end
theorem compLoop_own {prog:Program} {w:World} {A:Around} {R:Result->Shared->Prop} {s:Shared} {elt target iter:Expr} {ifs:List Expr} {scope:Scope} {pos:Pos} {it acc:Value} {env:Env} (I:Nat->Shared->Prop)
  (turn:∀ n s,I n s->wpAny (model prog w) A (pyNext it) (fun r s₁=>match r with
   | none=>R (.ok .next) s₁
   | some v=>wpAny (model prog w) A (letOwnedTupleGo target it v) (fun _ s'=>wpAny (model prog w) A (assign target env v) (fun _ s₂ =>
     wpAny (model prog w) A (forIn ifs true fun c r=>if r=true then do let ok <- isTrue c env (eval c env); pure (ForInStep.yield ok) else pure (ForInStep.yield r)) (fun ok s₃ =>
      if ok=true then wpAny (model prog w) A (eval elt env) (fun x s₄ =>
       wpAny (model prog w) A (call (.builtin "list.append") [acc,x]) (fun _ s₅=>∃ m,m < n/\I m s₅) (fun _ _=>False) s₄) (fun _ _=>False) s₃
      else ∃ m,m < n/\I m s₃) (fun _ _=>False) s₂) (fun _ _=>False) s') (fun _ _=>False) s₁) (fun _ _=>False) s)
  (n:Nat) (h:I n s) :
  codeAny (model prog w) A (.compLoop (.ListComp elt [⟨target,iter,ifs,0⟩] scope pos) 0 it acc env) R s:=by
 refine codeAny_loop rfl I (fun n s hI=>?_) n h
 show wpAny _ A ((compTurn (.ListComp elt [⟨target,iter,ifs,0⟩] scope pos) 0 it acc env).onRaise (fun x=>do noteFrame x env; theTreesLotGoes x)) _ _ s
 refine wpAny_noted ?_
 rw [compTurn_list]
 refine wpAny_bind (wpAny_standAt (wpAny_bind (wpAny_mono (turn n s hI) (fun r s₁ h₁=>?_) fun _ _ h'=>h'.elim)))
 cases r with
 | none=>exact wpAny_pure h₁
 | some v =>
  refine wpAny_bind (wpAny_mono h₁ (fun _ s' h'=>wpAny_bind (wpAny_mono h' (fun _ s₂ h₂=>wpAny_bind (wpAny_mono h₂ (fun ok s₃ h₃=>?_) fun _ _ h'=>h'.elim)) fun _ _ h'=>h'.elim)) fun _ _ h'=>h'.elim)
  cases ok with
  | false=>exact wpAny_pure ⟨rfl,h₃⟩
  | true =>
   exact wpAny_bind (wpAny_bind (wpAny_mono h₃ (fun x s₄ h₄=>wpAny_bind (wpAny_mono h₄ (fun _ s₅ h₅=>wpAny_pure (wpAny_pure ⟨rfl,h₅⟩)) fun _ _ h'=>h'.elim)) fun _ _ h'=>h'.elim))
def PCk (X:Cx) (ifs:List Expr) (t:TT):Prop :=
 ∀ (pins:List (Addr × Obj)) (s:Shared) (σ:St) (H:Hp) (Q:Bool->Hp->Prop),Inv X pins σ H s->t σ H Q ->
  wpAny (model X.prog X.w) X.A (forIn ifs true fun c r=>if r=true then do let ok <- isTrue c X.env (eval c X.env); pure (ForInStep.yield ok) else pure (ForInStep.yield r)) (TP X pins σ Q) X.xe s
def tTrue:TT:=fun _ H Q=>Q true H
theorem pk_nil1 {X:Cx}:PCk X [] tTrue:=fun _ _ _ H _ I h=>wpAny_tests_nil ⟨H,I,h⟩
theorem pk_one1 {X:Cx} {c:Expr} {t:TT} (h:PT X c t):PCk X [c] t:=fun pins s σ H Q I hw=>wpAny_tests_one (h pins s σ H Q I hw)
abbrev TC:=St->Hp->(List V->Hp->Prop)->Prop
def tComp (wi:TI) (mp:List (Option Nat)) (g:TG) (tc:TT) (te:TE):TC:=fun σ H R=>wi σ H fun J H1=>∃ W:Nat->Nat->List V->St->Hp->Prop,(∃ m,W 0 m [] (seed mp σ) H1)/\∀ i m ys σ' H',W i m ys σ' H' ->
 (J.stop i H'/\ys.length<=sizeLine/\R ys H') \/
 (J.go i H'/\ys.length < sizeLine/\∀ x H'',J.yld i H' x H''->g x σ' H'' fun σ2 H2=>tc σ2 H2 fun b H3 =>
  if b=true then te σ2 H3 fun y H4=>∃ m',m' < m/\W (i + 1) m' (ys++[y]) σ2 H4 else ∃ m',m' < m/\W (i + 1) m' ys σ2 H3)
section
variable {X:Cx} {elt tg iter:Expr} {ifs:List Expr} {sc:Scope} {pos pos':Pos} {N:List Str} {mp:List (Option Nat)} {wi:TI} {g:TG} {tc:TT} {te:TE}
theorem comp_core {use:Option (Value->Sem Unit)} {Q:Value->Shared->Prop} (hc:X.calm=true) (hi:PI X tg iter wi) (hk:sc.kind=.function) (O:CompOk X.N X.env.scope sc N mp)
  (hb:∀ (cl:List (Str × Addr)) (C:Addr) (s₂:Shared) (H₂:Hp) (fp:List Addr),PG (cxComp X sc N cl C s₂ H₂ fp) tg g/\PCk (cxComp X sc N cl C s₂ H₂ fp) ifs tc/\PE (cxComp X sc N cl C s₂ H₂ fp) elt te)
  {pins:List (Addr × Obj)} {s:Shared} {σ:St} {H:Hp} {R:List V->Hp->Prop} (I:Inv X pins σ H s) (h:tComp wi mp g tc te σ H R)
  (hs:∀ x,foldedSetIterable iter X.env x=pure x)
  (hend:∀ (D C:Addr) (ys:List V) (H':Hp) (s':Shared) (m:Str->Option Value),Inv X pins σ (upd H' D (.lst ys)) s'->s'.heap.Ns C m->FpOk X pins (upd H' D (.lst ys)) C->H' D=none->R ys H' ->
   compPost (model X.prog X.w) X.A X.xe use Q (.ref D) C (.ok .next) s') :
  wpAny (model X.prog X.w) X.A (comprehension (.ListComp elt [⟨tg,iter,ifs,0⟩] sc pos) sc X.env pos' (newList []) false (eval iter X.env) use) Q X.xe s:=by
 have ok:=I.ok
 refine wpAny_comprehension_free (g:=⟨tg,iter,ifs,0⟩) (gs:=[]) rfl hs (closureFor_cl (cl_cells O ok)) hk O.loc (thn (hi pins s σ H _ I h) fun v s1 h1=>thn h1 fun itv s2 h2=>?_)
 obtain ⟨it,fp,tn,J,H2,e,I2,T,st2,f2,W,⟨m0,w0⟩,turn⟩:=h2
 subst e
 refine wpAny_newObj_type (wpAny_newFunctionEnv O.cell (by intro y hy; simp at hy) (fun h₁ hns₁ hsb₁=>?_) hk)
 dsimp only at hns₁ hsb₁ ⊢
 generalize hP:s2.heap.push { cls:=.type "list",dict:=none,data:=.seq ([]:List Value).toArray }=P2 at hns₁ hsb₁ ⊢
 have hCe:P2.objs.size=s2.heap.objs.size + 1:=by rw [<- hP,Heap.size_push]
 have hDC:s2.heap.objs.size≠P2.objs.size:=by rw [hCe]; exact Nat.ne_of_lt (Nat.lt_succ_self _)
 have hCle:s2.heap.objs.size<=P2.objs.size:=by rw [hCe]; exact Nat.le_succ _
 have old:∀ b o,s2.heap.get? b=some o->h₁.get? b=some o:=fun b o e =>
  hsb₁.extBut b o (Nat.ne_of_lt (Nat.lt_of_lt_of_le (Heap.lt_size e) hCle)) (Heap.get?_push_of_some _ (hP ▸ Heap.get?_push_of_some _ e))
 have hacc:h₁.get? s2.heap.objs.size=some { cls:=.type "list",dict:=none,data:=.seq ([]:List Value).toArray } :=
  hsb₁.extBut _ _ hDC (Heap.get?_push_of_some _ (hP ▸ Heap.get?_push_size _ rfl))
 have fpl:∀ b∈fp,b < s2.heap.objs.size:=fun b hb=>by
  obtain ⟨o,e,_⟩:=T.obj _ _ st2 b hb
  exact Heap.lt_size e
 have hDf:s2.heap.objs.size ∉ fp:=fun z=>Nat.lt_irrefl _ (fpl _ z)
 have I3:Inv (cxComp X sc N (clOf X.env.cells sc.names []) P2.objs.size s2 H2 fp) [] (seed mp σ) H2 { s2 with heap:=h₁,toks:=s2.toks + ([]:List (Str × Value)).length } :=
  inv_comp hc O hk I2 hCle old hns₁ f2 fpl
 obtain ⟨hg,ht,he⟩:=hb (clOf X.env.cells sc.names []) P2.objs.size s2 H2 fp
 generalize hX:cxComp X sc N (clOf X.env.cells sc.names []) P2.objs.size s2 H2 fp=Y at I3 hg ht he
 have yP:Y.prog=X.prog:=by rw [<- hX]; rfl
 have yw:Y.w=X.w:=by rw [<- hX]; rfl
 have yK:Y.K=X.K:=by rw [<- hX]; rfl
 have yA:Y.A=X.A:=by rw [<- hX]; rfl
 have yc:Y.calm=true:=by rw [<- hX]; rfl
 have yx:Y.xe=fun _ _=>False:=by rw [<- hX]; rfl
 have yl:Y.env.locals=P2.objs.size:=by rw [<- hX]; rfl
 have yex:Y.ex=fp:=by rw [<- hX]; rfl
 have ys0:Y.s₀=s2:=by rw [<- hX]; rfl
 have yH0:Y.H₀=H2:=by rw [<- hX]; rfl
 have ypn:Y.pn=[]:=by rw [<- hX]; rfl
 have yfs:Y.fs=frs X.stack:=by rw [<- hX]; rfl
 have yenv:Y.env=compEnvC sc (clOf X.env.cells sc.names []) P2.objs.size X.env:=by rw [<- hX]; rfl
 have ycl:∀ x c,Y.env.cells.lookup x=some c->X.env.cells.lookup x=some c:=fun x c e=>by
  rw [yenv] at e
  exact (cl_sub O ok e).1
 have dne:∀ x c,Y.env.cells.lookup x=some c->c≠s2.heap.objs.size:=fun x c e z=>by
  obtain ⟨v,o,ho,_⟩:=I2.cell x c (ycl x c e)
  exact absurd (Heap.lt_size ho) (by rw [z]; exact Nat.lt_irrefl _)
 have fsb:∀ b∈fp,b ∉ frs X.stack:=fun b hb z=>by
  rcases List.mem_cons.mp (I2.stkSub b z) with e | e
  ·exact (f2 b hb).2.1 e
  ·exact (f2 b hb).2.2.1 e
 have dfs:s2.heap.objs.size ∉ frs X.stack:=fun z=>by
  rcases List.mem_cons.mp (I2.stkSub _ z) with e | e
  ·exact absurd I2.lt (by rw [<- e]; exact Nat.lt_irrefl _)
  ·exact I2.nofs (Nat.le_refl _) e
 have fpo:∀ {H':Hp} {o:Obj},(∀ b∈fp,H' b=none)->∀ b∈fp,FpOk Y [(s2.heap.objs.size,o)] H' b:=fun {H' o} hn b hb=>by
  refine ⟨hn b hb,?_,?_,?_,?_,?_⟩
  ·rw [yl]; exact Nat.ne_of_lt (Nat.lt_of_lt_of_le (fpl b hb) hCle)
  ·rw [yfs]; exact fsb b hb
  ·rw [yex]; exact .inl hb
  ·exact fun x c e=>(f2 b hb).2.2.2.2.1 x c (ycl x c e)
  ·intro p hp
   rw [ypn] at hp
   have:p=(s2.heap.objs.size,o):=by simpa using hp
   subst this
   exact fun z=>hDf (by have z':s2.heap.objs.size=b:=z; rw [z']; exact hb)
 have pinD:∀ {σ':St} {H':Hp} {s':Shared} {o:Obj},Inv Y [] σ' H' s'->s'.heap.get? s2.heap.objs.size=some o->(∀ v,o.data≠.cell v)->H' s2.heap.objs.size=none->Inv Y [(s2.heap.objs.size,o)] σ' H' s' :=
  fun {σ' H' s' o} J e d hn=>J.pins_of fun p hp=>by
   have:p=(s2.heap.objs.size,o):=by simpa using hp
   subst this
   exact ⟨e,hn,by rw [yl]; exact hDC,by rw [yfs]; exact dfs,d⟩
 have loop:∀ s₃:Shared,s₃={ s2 with heap:=h₁,toks:=s2.toks + ([]:List (Str × Value)).length } ->
   codeAny (model X.prog X.w) X.A (.compLoop (.ListComp elt [⟨tg,iter,ifs,0⟩] sc pos) 0 (.ref it) (.ref s2.heap.objs.size) Y.env)
    (compPost (model X.prog X.w) X.A X.xe use Q (.ref s2.heap.objs.size) P2.objs.size) s₃:=by
  rintro s₃ rfl
  refine compLoop_own (fun n s'=>∃ i ys its c σ' H',Inv Y [(s2.heap.objs.size,({ cls:=.type "list",data:=.seq its.toArray c }:Obj))] σ' H' s'/\Vals ys its/\tn i s'.heap/\(∀ b∈fp,H' b=none)/\ys.length<=sizeLine/\W i n ys σ' H') ?_ m0
   ⟨0,[],[],0,seed mp σ,H2,pinD I3 hacc (fun v z=>by cases z) (I2.hok.fresh (Nat.le_refl _)),.nil,T.keep _ _ _ st2 (fun b _ o e=>old b o e),fun b hb=>(f2 b hb).1,Nat.zero_le _,w0⟩
  rintro n s3 ⟨i,ys,its,c,σ3,H3,J3,rv,st3,fr3,hz,w3⟩
  have hpin:=J3.pin _ (List.mem_append_right _ (List.mem_singleton.mpr rfl))
  rcases turn i n ys σ3 H3 w3 with ⟨stop,hl,qn⟩ | ⟨go,hl,step⟩
  ·have:=T.done Y yP yw yK yc i _ s3 σ3 H3 (fun _ _=>False) J3 (fpo fr3) st3 stop
   rw [yA] at this
   refine thn this fun r s4 ⟨hr,J4⟩=>?_
   subst hr
   obtain ⟨pe,pn,_,_,_⟩:=J4.pin _ (List.mem_append_right _ (List.mem_singleton.mpr rfl))
   dsimp only at pe pn
   have un:=J4.base
   rw [yfs,yex,ys0,yH0] at un
   have os4:s4.os=s2.os:=by have:=J4.os; rw [ys0] at this; exact this
   have hok4:=J4.hok
   rw [yP,yw] at hok4
   have IX:Inv X pins σ H3 s4:=I2.call' os4 un hok4 J4.bare fun b hb=>⟨(f2 b hb).2.2.2.1,(f2 b hb).2.1,(f2 b hb).2.2.2.2.1,(f2 b hb).2.2.2.2.2⟩
   obtain ⟨mC,hnC,_⟩:=J4.loc
   rw [yl] at hnC
   have dX:FpOk X pins H3 s2.heap.objs.size:=I2.fpOk (Nat.le_refl _) pn
   have IT:Inv X pins σ (upd H3 s2.heap.objs.size (.lst ys)) s4:=IX.track (o:=.lst ys) pe pn dX.2.1 dX.2.2.2.1 dX.2.2.2.2.1 dX.2.2.2.2.2 ⟨hl,its,c,rv,pe⟩
   have cn:H3 P2.objs.size=none:=by have:=J4.free; rw [yl] at this; exact this
   have cX:FpOk X pins (upd H3 s2.heap.objs.size (.lst ys)) P2.objs.size:=I2.fpOk hCle (by rw [upd_ne hDC.symm]; exact cn)
   exact hend _ _ ys H3 s4 mC IT hnC cX pn qn
  ·have:=T.item Y yP yw yK yc i _ s3 σ3 H3 (fun _ _=>False) J3 (fpo fr3) st3 go
   rw [yA] at this
   refine thn this fun r s4 ⟨u,hr,h4⟩=>?_
   subst hr
   refine thn h4 fun _ s5 ⟨x,H5,J5,r5,y5,st5,fr5⟩=>?_
   have J5':=J5.pinned (fpo fr5) (T.obj _ _ st5)
   have ga:=hg _ s5 σ3 H5 x u _ J5' r5 (step x H5 y5)
   rw [yP,yw,yA,yx] at ga
   refine thn ga fun _ s6 ⟨σ6,H6,J6,q6⟩=>?_
   have gt:=ht _ s6 σ6 H6 _ J6 q6
   rw [yP,yw,yA,yx] at gt
   refine thn gt fun b s7 ⟨H7,J7,q7⟩=>?_
   have pins7:∀ {σ':St} {H':Hp} {s':Shared},Inv Y ([(s2.heap.objs.size,({ cls:=.type "list",data:=.seq its.toArray c }:Obj))]++pinsAt fp s5.heap) σ' H' s'->tn (i + 1) s'.heap/\(∀ b∈fp,H' b=none):=fun {σ' H' s'} J=>by
    refine ⟨T.keep _ _ _ st5 fun b hb o e=>(J.pin (b,o) (List.mem_append_right _ (List.mem_append_right _ (mem_pinsAt hb e)))).1,fun b hb=>?_⟩
    obtain ⟨o,e,d⟩:=T.obj _ _ st5 b hb
    exact (J.pin (b,o) (List.mem_append_right _ (List.mem_append_right _ (mem_pinsAt hb e)))).2.1
   cases b with
   | false =>
    have q7':∃ m',m' < n/\W (i + 1) m' ys σ6 H7:=by simpa using q7
    obtain ⟨m',hm,w7⟩:=q7'
    obtain ⟨t7,f7⟩:=pins7 J7
    rw [if_neg Bool.false_ne_true]
    exact ⟨m',hm,i + 1,ys,its,c,σ6,H7,J7.unpinned,rv,t7,f7,hz,w7⟩
   | true =>
    rw [if_pos rfl]
    have q7':te σ6 H7 fun y H4=>∃ m',m' < n/\W (i + 1) m' (ys++[y]) σ6 H4:=by simpa using q7
    have ge:=he _ s7 σ6 H7 _ J7 q7'
    rw [yP,yw,yA,yx] at ge
    refine thn ge fun u8 s8 ⟨y,H8,J8,r8,m',hm,w8⟩=>?_
    obtain ⟨t8,f8⟩:=pins7 J8
    have J8':=J8.unpinned
    obtain ⟨pe,pn,_,_,_⟩:=J8'.pin _ (List.mem_append_right _ (List.mem_singleton.mpr rfl))
    dsimp only at pe pn
    have hlen:=rv.length
    refine call_meets F.slot_list_append ⟨_,pe,rfl⟩ F.entry_list_append (F.args_list_append_2 _ _) (PySem.list_append s2.heap.objs.size its.toArray c u8 (by rw [List.size_toArray]; omega)) ⟨pe,?_⟩
    have qe:=PySem.IsL.update pe (fun a=>a.push u8)
    have qe':(s8.heap.update s2.heap.objs.size (Obj.mapSeq fun a=>a.push u8)).get? s2.heap.objs.size=some { cls:=.type "list",data:=.seq (its++[u8]).toArray (c + 1) }:=by
     simpa using qe
    have J9:Inv Y [] σ6 H8 { s8 with heap:=s8.heap.update s2.heap.objs.size (Obj.mapSeq fun a=>a.push u8),toks:=s8.toks }:=by
     have J0:Inv Y [] σ6 H8 s8:=J8'.pins_of fun p hp=>by cases hp
     refine J0.turned (it:=s2.heap.objs.size) (fun b o hb e=>(Heap.get?_update_other s8.heap _ (Ne.symm hb)).trans e) pn (by rw [yl]; exact hDC) (.inr (by rw [ys0]; exact Nat.le_refl _)) dne (fun p hp=>?_)
     rw [ypn] at hp
     cases hp
    refine ⟨m',hm,i + 1,ys++[y],its++[u8],c + 1,σ6,H8,pinD J9 qe' (fun v z=>by cases z) pn,rv.append (.cons r8 .nil),?_,f8,by rw [List.length_append,List.length_singleton]; omega,w8⟩
    exact T.keep _ _ _ t8 fun b hb o e=>(Heap.get?_update_other s8.heap _ (fun (z:s2.heap.objs.size=b)=>hDf (by rw [z]; exact hb))).trans e
 have yenv':compEnvC sc (clOf X.env.cells sc.names []) P2.objs.size X.env=Y.env:=yenv.symm
 show codeAny _ _ (.compStart _ 0 (.ref it) (.ref s2.heap.objs.size) (compEnvC sc (clOf X.env.cells sc.names []) P2.objs.size X.env)) _ _
 rw [yenv']
 exact codeAny_compStart_list (loop _ rfl) (T.self _ 0 _ _ _ (T.keep _ _ _ st2 fun b _ o e=>old b o e) (loop _ rfl))
def tCompE (t:TC):TE:=fun σ H Q=>t σ H fun ys H'=>∀ D,H' D=none->Q (.ref D) (upd H' D (.lst ys))
theorem pe_comp (hc:X.calm=true) (hi:PI X tg iter wi) (hk:sc.kind=.function) (hm:compOk X.N X.env.scope sc N mp=true)
  (hb:∀ (cl:List (Str × Addr)) (C:Addr) (s₂:Shared) (H₂:Hp) (fp:List Addr),PG (cxComp X sc N cl C s₂ H₂ fp) tg g/\PCk (cxComp X sc N cl C s₂ H₂ fp) ifs tc/\PE (cxComp X sc N cl C s₂ H₂ fp) elt te)
  (hs:∀ x,foldedSetIterable iter X.env x=pure x:=by intro _; rfl):PE X (.ListComp elt [⟨tg,iter,ifs,0⟩] sc pos) (tCompE (tComp wi mp g tc te)):=by
 intro pins s σ H Q I h
 rw [eval_ListComp]
 refine comp_core (use:=none) hc hi hk (compOk_of hm) hb I h hs fun D C ys H' s' m I' hn f hD q=>?_
 refine ⟨m,hn,fun h' hs'=>?_⟩
 obtain ⟨f0,f1,_,f3,f4,f5⟩:=f
 exact ⟨.ref D,_,I'.turned (t':=s'.toks) (it:=C) (fun b o hb e=>(hs'.2 b hb).trans e) f0 f1 f3 f4 f5,rfl,q D hD⟩
def tCompS (i:Nat) (t:TC):TS:=fun D σ H=>t σ H fun ys H'=>∀ l,H' l=none->D.nx (σ.set i (some (.ref l))) (upd H' l (.lst ys))
theorem ps_comp {i:Nat} {x:Str} {py spos:Pos} (hN:X.N.Nodup) (hix:X.N[i]? = some x) (hx:X.env.scope.names.lookup x=some .local) (hc:X.calm=true) (hi:PI X tg iter wi) (hk:sc.kind=.function) (hm:compOk X.N X.env.scope sc N mp=true)
  (hb:∀ (cl:List (Str × Addr)) (C:Addr) (s₂:Shared) (H₂:Hp) (fp:List Addr),PG (cxComp X sc N cl C s₂ H₂ fp) tg g/\PCk (cxComp X sc N cl C s₂ H₂ fp) ifs tc/\PE (cxComp X sc N cl C s₂ H₂ fp) elt te)
  (hsw:swapsWith (.ListComp elt [⟨tg,iter,ifs,0⟩] sc pos) (some (.Name x py)) spos.line X.env=pure true:=by rfl)
  (hs:∀ x,foldedSetIterable iter X.env x=pure x:=by intro _; rfl):PS X (.Assign [.Name x py] (.ListComp elt [⟨tg,iter,ifs,0⟩] sc pos) spos) (tCompS i (tComp wi mp g tc te)):=by
 intro pins s σ H D I h
 rw [exec_Assign_Name_used _ _ _ _ hsw]
 refine wpAny_bind (wpAny_standAt (wpAny_bind ?_))
 show wpAny _ X.A (do let _ <- comprehension (.ListComp elt [⟨tg,iter,ifs,0⟩] sc pos) sc X.env _ (newList []) false (eval iter X.env) (some (assign (.Name x py) X.env))) _ _ s
 refine wpAny_bind (thn (comp_core (use:=some (assign (.Name x py) X.env)) (Q:=fun _ s'=>SP X pins D .next s') hc hi hk (compOk_of hm) hb I h hs fun l C ys H' s' m I' hn f hD q=>?_) fun _ s' hq=>wpAny_pure (wpAny_pure hq))
 obtain ⟨f0,f1,f2,f3,f4,f5⟩:=f
 show wpAny _ _ (assign (.Name x py) X.env (.ref l)) _ _ s'
 refine wpAny_assign_Name (store_ok2 (v:=.ref l) I' hN hix (.inl hx) rfl (fun s'' I'' ⟨a,sb,ea⟩=>?_) (.inr hx))
 have hac:C≠a:=by
  rcases ea with e | e
  ·rw [e]; exact f1
  ·exact fun z=>f4 x a e z.symm
 refine ⟨m,hn.sameBut sb hac,fun h' hs'=>?_⟩
 exact ⟨_,_,I''.turned (t':=s''.toks) (it:=C) (fun b o hb e=>(hs'.2 b hb).trans e) f0 f1 f3 f4 f5,q l hD⟩
end
mutual
def Rep (S:List Addr) (H:Hp):PyData->V->Prop
 | .none,v=>v=.non
 | .bool b,v=>v=.bl b
 | .int i,v=>v=.int i
 | .str x,v=>v=.str x
 | .tuple ds,v=>∃ a xs,v=.ref a/\H a=some (.tup xs)/\Reps S H ds xs
 | .list ds,v=>∃ a xs,v=.ref a/\H a=some (.lst xs)/\a ∉ S/\Reps S H ds xs
 | .dict _,_=>False
def Reps (S:List Addr) (H:Hp):List PyData->List V->Prop
 | [],xs=>xs=[]
 | d::ds,xs=>∃ x r,xs=x::r/\Rep S H d x/\Reps S H ds r
end
structure Ext (S:List Addr) (H H':Hp):Prop where
 keep:∀ b o,b ∉ S->H b=some o->H' b=some o
 tup:∀ b xs,H b=some (.tup xs)->H' b=some (.tup xs)
theorem Ext.refl (S:List Addr) (H:Hp):Ext S H H:=⟨fun _ _ _ e=>e,fun _ _ e=>e⟩
theorem Ext.trans {S:List Addr} {H H1 H2:Hp} (a:Ext S H H1) (b:Ext S H1 H2):Ext S H H2:=⟨fun c o hc e=>b.keep c o hc (a.keep c o hc e),fun c xs e=>b.tup c xs (a.tup c xs e)⟩
theorem Ext.mono {S S':List Addr} {H H':Hp} (a:Ext S H H') (h:∀ b∈S,b∈S'):Ext S' H H':=⟨fun b o hb e=>a.keep b o (fun z=>hb (h b z)) e,a.tup⟩
theorem Ext.new {S:List Addr} {H:Hp} {p:Addr} {o:HO} (h:H p=none):Ext S H (upd H p o):=⟨fun b u _ e=>by rw [upd_ne (ne_of_none e h)]; exact e,fun b xs e=>by rw [upd_ne (ne_of_none e h)]; exact e⟩
theorem Ext.set {S:List Addr} {H:Hp} {p:Addr} {o:HO} {xs:List V} (hp:p∈S) (h:H p=some (.lst xs)):Ext S H (upd H p o) :=
 ⟨fun b u hb e=>by rw [upd_ne (fun (z:b=p)=>hb (by rw [z]; exact hp))]; exact e,fun b ys e=>by rw [upd_ne (fun z=>by rw [z,h] at e; cases e)]; exact e⟩
theorem Ext.set' {S:List Addr} {H0 H:Hp} {p:Addr} {o:HO} {xs:List V} (a:Ext S H0 H) (h0:H0 p=none) (h:H p=some (.lst xs)):Ext S H0 (upd H p o) :=
 ⟨fun b u hb e=>by rw [upd_ne (fun z=>by rw [z,h0] at e; cases e)]; exact a.keep b u hb e,fun b ys e=>by rw [upd_ne (fun z=>by rw [z,h0] at e; cases e)]; exact a.tup b ys e⟩
theorem Ext.fresh {S:List Addr} {H0 H:Hp} {p:Addr} (a:Ext S H0 H) (hp:p ∉ S) (h:H p=none):H0 p=none:=by
 cases e:H0 p with
 | none=>rfl
 | some o=>rw [a.keep p o hp e] at h; cases h
mutual
theorem Rep.ext {S:List Addr} {H H':Hp} (x:Ext S H H'):∀ {d:PyData} {v:V},Rep S H d v->Rep S H' d v
 | .none,_,h=>h
 | .bool _,_,h=>h
 | .int _,_,h=>h
 | .str _,_,h=>h
 | .tuple ds,_,h=>by
  unfold Rep at h ⊢
  obtain ⟨a,xs,e,ha,hr⟩:=h
  exact ⟨a,xs,e,x.tup a xs ha,Reps.ext x hr⟩
 | .list ds,_,h=>by
  unfold Rep at h ⊢
  obtain ⟨a,xs,e,ha,hs,hr⟩:=h
  exact ⟨a,xs,e,x.keep a _ hs ha,hs,Reps.ext x hr⟩
 | .dict _,_,h=>h
theorem Reps.ext {S:List Addr} {H H':Hp} (x:Ext S H H'):∀ {ds:List PyData} {vs:List V},Reps S H ds vs->Reps S H' ds vs
 | [],_,h=>h
 | d::ds,_,h=>by
  unfold Reps at h ⊢
  obtain ⟨y,r,e,h1,h2⟩:=h
  exact ⟨y,r,e,Rep.ext x h1,Reps.ext x h2⟩
end
mutual
theorem Rep.less {S S':List Addr} {H:Hp} (x:∀ b∈S',b∈S):∀ {d:PyData} {v:V},Rep S H d v->Rep S' H d v
 | .none,_,h=>h
 | .bool _,_,h=>h
 | .int _,_,h=>h
 | .str _,_,h=>h
 | .tuple ds,_,h=>by
  unfold Rep at h ⊢
  obtain ⟨a,xs,e,ha,hr⟩:=h
  exact ⟨a,xs,e,ha,Reps.less x hr⟩
 | .list ds,_,h=>by
  unfold Rep at h ⊢
  obtain ⟨a,xs,e,ha,hs,hr⟩:=h
  exact ⟨a,xs,e,ha,fun z=>hs (x a z),Reps.less x hr⟩
 | .dict _,_,h=>h
theorem Reps.less {S S':List Addr} {H:Hp} (x:∀ b∈S',b∈S):∀ {ds:List PyData} {vs:List V},Reps S H ds vs->Reps S' H ds vs
 | [],_,h=>h
 | d::ds,_,h=>by
  unfold Reps at h ⊢
  obtain ⟨y,r,e,h1,h2⟩:=h
  exact ⟨y,r,e,Rep.less x h1,Reps.less x h2⟩
end
section
variable {S:List Addr} {H:Hp}
theorem Reps.nil:Reps S H [] []:=by unfold Reps; rfl
theorem Reps.cons {d:PyData} {x:V} {ds:List PyData} {xs:List V} (h:Rep S H d x) (t:Reps S H ds xs):Reps S H (d::ds) (x::xs):=by unfold Reps; exact ⟨x,xs,rfl,h,t⟩
theorem Reps.of_cons {d:PyData} {ds:List PyData} {xs:List V} (h:Reps S H (d::ds) xs):∃ x r,xs=x::r/\Rep S H d x/\Reps S H ds r:=by unfold Reps at h; exact h
theorem Reps.of_nil {xs:List V} (h:Reps S H [] xs):xs=[]:=by unfold Reps at h; exact h
theorem Reps.length:∀ {ds:List PyData} {xs:List V},Reps S H ds xs->xs.length=ds.length
 | [],_,h=>by rw [h.of_nil]; rfl
 | _::_,_,h=>by
  obtain ⟨x,r,e,_,h2⟩:=h.of_cons
  subst e
  simp [h2.length]
theorem Reps.get:∀ {ds:List PyData} {xs:List V} {i:Nat} {x:V},Reps S H ds xs->xs[i]? = some x->∃ d,ds[i]? = some d/\Rep S H d x
 | [],_,i,x,h,e=>by rw [h.of_nil] at e; cases e
 | d::ds,_,0,x,h,e=>by
  obtain ⟨y,r,e1,h1,h2⟩:=h.of_cons
  subst e1
  cases e
  exact ⟨d,rfl,h1⟩
 | d::ds,_,i + 1,x,h,e=>by
  obtain ⟨y,r,e1,h1,h2⟩:=h.of_cons
  subst e1
  obtain ⟨d',q,h3⟩:=Reps.get (i:=i) h2 (by simpa using e)
  exact ⟨d',by simpa using q,h3⟩
theorem Reps.at:∀ {ds:List PyData} {xs:List V} {i:Nat} {d:PyData},Reps S H ds xs->ds[i]? = some d->∃ x,xs[i]? = some x/\Rep S H d x
 | [],_,i,d,h,e=>by cases e
 | d::ds,_,0,d',h,e=>by
  obtain ⟨y,r,e1,h1,h2⟩:=h.of_cons
  subst e1
  cases e
  exact ⟨y,rfl,h1⟩
 | d::ds,_,i + 1,d',h,e=>by
  obtain ⟨y,r,e1,h1,h2⟩:=h.of_cons
  subst e1
  obtain ⟨x,q,h3⟩:=Reps.at (i:=i) h2 (by simpa using e)
  exact ⟨x,by simpa using q,h3⟩
theorem Reps.append:∀ {ds es:List PyData} {xs ys:List V},Reps S H ds xs->Reps S H es ys->Reps S H (ds++es) (xs++ys)
 | [],_,_,_,h,k=>by rw [h.of_nil]; exact k
 | d::ds,_,_,_,h,k=>by
  obtain ⟨y,r,e1,h1,h2⟩:=h.of_cons
  subst e1
  exact .cons h1 (Reps.append h2 k)
theorem Reps.take:∀ {ds:List PyData} {xs:List V} (n:Nat),Reps S H ds xs->Reps S H (ds.take n) (xs.take n)
 | _,_,0,_=>.nil
 | [],_,n + 1,h=>by rw [h.of_nil]; exact .nil
 | d::ds,_,n + 1,h=>by
  obtain ⟨y,r,e1,h1,h2⟩:=h.of_cons
  subst e1
  exact .cons h1 (Reps.take n h2)
theorem Reps.drop:∀ {ds:List PyData} {xs:List V} (n:Nat),Reps S H ds xs->Reps S H (ds.drop n) (xs.drop n)
 | _,_,0,h=>h
 | [],_,n + 1,h=>by rw [h.of_nil]; exact .nil
 | d::ds,_,n + 1,h=>by
  obtain ⟨y,r,e1,h1,h2⟩:=h.of_cons
  subst e1
  exact Reps.drop n h2
theorem Reps.reverse:∀ {ds:List PyData} {xs:List V},Reps S H ds xs->Reps S H ds.reverse xs.reverse
 | [],_,h=>by rw [h.of_nil]; exact .nil
 | d::ds,_,h=>by
  obtain ⟨y,r,e1,h1,h2⟩:=h.of_cons
  subst e1
  rw [List.reverse_cons,List.reverse_cons]
  exact (Reps.reverse h2).append (.cons h1 .nil)
theorem Reps.eraseIdx:∀ {ds:List PyData} {xs:List V} (n:Nat),Reps S H ds xs->Reps S H (ds.eraseIdx n) (xs.eraseIdx n)
 | [],_,n,h=>by rw [h.of_nil]; exact .nil
 | d::ds,_,0,h=>by
  obtain ⟨y,r,e1,h1,h2⟩:=h.of_cons
  subst e1
  exact h2
 | d::ds,_,n + 1,h=>by
  obtain ⟨y,r,e1,h1,h2⟩:=h.of_cons
  subst e1
  exact .cons h1 (Reps.eraseIdx n h2)
theorem Reps.ints:∀ (ns:List Int),Reps S H (ns.map PyData.int) (ns.map V.int)
 | []=>.nil
 | n::ns=>.cons (by unfold Rep; rfl) (Reps.ints ns)
theorem Rep.tup {a:Addr} {xs:List V} {ds:List PyData} (h:H a=some (.tup xs)) (r:Reps S H ds xs):Rep S H (.tuple ds) (.ref a):=by unfold Rep; exact ⟨a,xs,rfl,h,r⟩
theorem Rep.lst {a:Addr} {xs:List V} {ds:List PyData} (h:H a=some (.lst xs)) (hs:a ∉ S) (r:Reps S H ds xs):Rep S H (.list ds) (.ref a):=by unfold Rep; exact ⟨a,xs,rfl,h,hs,r⟩
theorem Rep.int (i:Int):Rep S H (.int i) (.int i):=by unfold Rep; rfl
theorem Rep.bl (b:Bool):Rep S H (.bool b) (.bl b):=by unfold Rep; rfl
theorem Rep.non:Rep S H .none .non:=by unfold Rep; rfl
theorem Rep.str (x:Str):Rep S H (.str x) (.str x):=by unfold Rep; rfl
theorem Rep.of_tup {ds:List PyData} {v:V} (h:Rep S H (.tuple ds) v):∃ a xs,v=.ref a/\H a=some (.tup xs)/\Reps S H ds xs:=by unfold Rep at h; exact h
theorem Rep.of_lst {ds:List PyData} {v:V} (h:Rep S H (.list ds) v):∃ a xs,v=.ref a/\H a=some (.lst xs)/\a ∉ S/\Reps S H ds xs:=by unfold Rep at h; exact h
theorem Rep.of_int {i:Int} {v:V} (h:Rep S H (.int i) v):v=.int i:=by unfold Rep at h; exact h
theorem Rep.of_bl {b:Bool} {v:V} (h:Rep S H (.bool b) v):v=.bl b:=by unfold Rep at h; exact h
theorem Rep.of_str {x:Str} {v:V} (h:Rep S H (.str x) v):v=.str x:=by unfold Rep at h; exact h
theorem Rep.of_non {v:V} (h:Rep S H .none v):v=.non:=by unfold Rep at h; exact h
end
mutual
theorem Rep.reads {P:Program} {w:World} {S:List Addr} {H:Hp} {h:Heap} (ok:HOk P w H h):∀ {d:PyData} {v:V} {u:Value},Rep S H d v->RelV v u->∃ as,Reads h u d as
 | .none,v,u,r,q=>by cases r.of_non; cases (show u=Value.none from q); exact ⟨_,.none⟩
 | .bool b,v,u,r,q=>by cases r.of_bl; cases (show u=Value.bool b from q); exact ⟨_,.bool b⟩
 | .int i,v,u,r,q=>by cases r.of_int; obtain ⟨t,e⟩:=(show ∃ t,u=Value.int i t from q); cases e; exact ⟨_,.int i t⟩
 | .str x,v,u,r,q=>by cases r.of_str; obtain ⟨t,e⟩:=(show ∃ t,u=Value.str x t from q); cases e; exact ⟨_,.str x t⟩
 | .tuple ds,v,u,r,q=>by
  obtain ⟨a,xs,rfl,ha,hr⟩:=r.of_tup
  cases (show u=Value.ref a from q)
  obtain ⟨_,its,rv,o,e,c,n,d,_⟩:=ok a _ ha
  obtain ⟨as,ra⟩:=Reps.reads ok hr rv
  exact ⟨_,.tuple e c d (by simpa using ra)⟩
 | .list ds,v,u,r,q=>by
  obtain ⟨a,xs,rfl,ha,_,hr⟩:=r.of_lst
  cases (show u=Value.ref a from q)
  obtain ⟨_,its,n,rv,e⟩:=ok a _ ha
  obtain ⟨as,ra⟩:=Reps.reads ok hr rv
  exact ⟨_,.list e rfl rfl (by simpa using ra)⟩
 | .dict _,v,u,r,q=>by unfold Rep at r; exact r.elim
theorem Reps.reads {P:Program} {w:World} {S:List Addr} {H:Hp} {h:Heap} (ok:HOk P w H h):∀ {ds:List PyData} {xs:List V} {us:List Value},Reps S H ds xs->Vals xs us->∃ as,ReadsAll h us ds as
 | [],xs,us,r,q=>by
  cases r.of_nil
  cases q
  exact ⟨_,.nil⟩
 | d::ds,xs,us,r,q=>by
  obtain ⟨x,t,rfl,h1,h2⟩:=r.of_cons
  cases q with
  | cons q1 q2 =>
   obtain ⟨as,a1⟩:=Rep.reads ok h1 q1
   obtain ⟨bs,b1⟩:=Reps.reads ok h2 q2
   exact ⟨_,.cons a1 b1⟩
end
structure Good (d:PyData):Prop where
 lay:d.canLay0=true
 show':d.showable=true
 short:d.leavesShort 60=true
 deep:d.depth<=60
 light:d.weight<=200000
theorem Good.nodict {d:PyData} (g:Good d):d.hasDict=false:=PyData.hasDict_of_canLay d g.lay
theorem Good.fits {d:PyData} (g:Good d):d.shown.length<=sizeLine:=by
 have h:=PyData.shown_le 60 (by decide) d g.short
 have h2:=g.light
 rw [sizeLine_eq]
 omega
section
variable {X:Cx} {k:Nat}
theorem call_reprD (hr:Room k X.A):CallR X (.builtin "repr") (fun xs H Q=>∃ S d v,xs=[v]/\Rep S H d v/\Good d/\Q (.str d.shown) H):=by
 intro pins s σ H xs us Q I r h
 obtain ⟨S,d,v,rfl,rp,g,q⟩:=h
 obtain ⟨u,rfl,ru⟩:=vals1 r
 have hun:=hr.units
 have fin:∀ (h':Heap) (t:Tok) (tk:Nat),(∀ b o,s.heap.get? b=some o->h'.get? b=some o)->EP X pins σ Q (.str d.shown t) { s with heap:=h',toks:=tk }:=fun h' t tk kp=>⟨.str d.shown,H,I.kept kp,⟨t,rfl⟩,q⟩
 have fin0:∀ (t:Tok) (tk:Nat),EP X pins σ Q (.str d.shown t) { s with toks:=tk }:=fun t tk=>fin s.heap t tk fun _ _ e=>e
 cases d with
 | none=>cases rp.of_non; cases (show u=Value.none from ru); exact P.repr_of_none (fin0 _ _)
 | bool b=>cases rp.of_bl; cases (show u=Value.bool b from ru); exact P.repr_of_bool (fin0 _ _)
 | int i=>cases rp.of_int; obtain ⟨t,e⟩:=(show ∃ t,u=Value.int i t from ru); cases e; exact P.repr_of_int (by simpa [PyData.showable] using g.show') (fin0 _ _)
 | str x=>cases rp.of_str; obtain ⟨t,e⟩:=(show ∃ t,u=Value.str x t from ru); cases e; exact P.repr_of_str (fin0 _ _) g.fits
 | tuple ds =>
  obtain ⟨as,ra⟩:=rp.reads I.hok ru
  obtain ⟨a,xs,rfl,_⟩:=rp.of_tup
  cases (show u=Value.ref a from ru)
  exact repr_of_reads' ra g.show' (PyData.noDict_hsm g.nodict) hr.gd (by have:=g.deep; omega) (fun _ _ e=>e) (fun h' t tk kp=>fin h' t tk kp) g.fits
 | list ds =>
  obtain ⟨as,ra⟩:=rp.reads I.hok ru
  obtain ⟨a,xs,rfl,_⟩:=rp.of_lst
  cases (show u=Value.ref a from ru)
  exact repr_of_reads' ra g.show' (PyData.noDict_hsm g.nodict) hr.gd (by have:=g.deep; omega) (fun _ _ e=>e) (fun h' t tk kp=>fin h' t tk kp) g.fits
 | dict _=>unfold Rep at rp; exact rp.elim
theorem call_isi:CallR X (.builtin "isinstance") (fun xs H Q=>∃ x t c b,xs=[x,.ty c]/\TyOf X.K H x (.type t)/\W.kitOne X.K (.type t) (.type c)=some b/\Q (.bl b) H):=by
 intro pins s σ H xs us Q I r h
 obtain ⟨x,t,c,b,rfl,ty,e,q⟩:=h
 obtain ⟨u,u2,rfl,rx,rc⟩:=vals2 r
 cases (show u2=Value.type c from rc)
 exact isinst_ok I rx ty e fun tk=>⟨.bl b,H,I.tok tk,rfl,q⟩
end
def tyD:PyData->String
 | .none => "NoneType"
 | .bool _ => "bool"
 | .int _ => "int"
 | .str _ => "str"
 | .list _ => "list"
 | .tuple _ => "tuple"
 | .dict _ => "dict"
theorem Rep.ty {K:W.Frag} {S:List Addr} {H:Hp} {d:PyData} {v:V} (h:Rep S H d v):TyOf K H v (.type (tyD d)):=by
 cases d with
 | none=>cases h.of_non; exact .non
 | bool b=>cases h.of_bl; exact .bl b
 | int i=>cases h.of_int; exact .int i
 | str x=>cases h.of_str; exact .str x
 | tuple ds=>obtain ⟨a,xs,rfl,ha,_⟩:=h.of_tup; exact .tup ha
 | list ds=>obtain ⟨a,xs,rfl,ha,_⟩:=h.of_lst; exact .lst ha
 | dict _=>unfold Rep at h; exact h.elim
end L2
namespace PySem
open Sem (wp)
open AutoSeq1 (wpAny_loadPart')
end PySem
namespace L2
open PySem PySem.Spec PyProof.Rows
section
variable {X:Cx}
theorem pe_ty (T:String) {x:Str} {pos:Pos} (hg:Gl X x) (hm:X.mg x=none) (hv:bootBuiltins x=some (.type T)) (hn:x ≠ "__name__" := by decide) (hd:(x == ("__debug__" : Str))=false:=by decide):PE X (.Name x pos) (tC (.ty T)):=pe_bltn hg hm hv rfl hn hd
def tCut (t u:TS):TS:=fun D σ H=>∃ M:St->Hp->Prop,t { D with nx:=M } σ H/\∀ σ' H',M σ' H'->u D σ' H'
theorem pss_cut {st:Stmt} {rest:List Stmt} {t u:TS} (h1:PS X st t) (h2:PSs X rest u):PSs X (st::rest) (tCut t u):=by
 intro pins s σ H D I h
 obtain ⟨M,q,k⟩:=h
 refine wpAny_execs_cons (thn (h1 pins s σ H { D with nx:=M } I q) fun f s1 e=>?_)
 cases f with
 | next=>obtain ⟨σ1,H1,I1,m1⟩:=e; exact h2 pins s1 σ1 H1 D I1 (k σ1 H1 m1)
 | brk=>exact e
 | cont=>exact e
 | ret u=>exact e
theorem atI_ex {α:Type} {xs:List α} {i:Int} (h0:0<=i) (h1:i < xs.length):∃ v,atI xs i=some v/\xs[i.toNat]? = some v:=by
 have hlt:i.toNat < xs.length:=by omega
 refine ⟨xs[i.toNat],?_,by simp [hlt]⟩
 unfold atI ixN
 rw [if_pos h0,if_pos h1]
 simp [hlt]
end
def notStar:Expr->Bool
 | .Starred ..=>false
 | _=>true
theorem starEach_ns {e:Expr} {es:List Expr} {env:Env} (h:notStar e=true):starEach (e::es) env=(false,eval e env)::starEach es env:=by
 cases e <;> first | rfl | cases h
theorem backTo_ns {pos:Pos} {env:Env}:∀ {es:List Expr},es.all notStar=true->(backTo pos (starEach es env)).any (·.1)=false
 | [],_=>rfl
 | e::es,h=>by
  rw [List.all_cons,Bool.and_eq_true] at h
  rw [starEach_ns h.1]
  show (backTo pos ((false,eval e env)::starEach es env)).any (·.1)=false
  have ih:=backTo_ns (pos:=pos) (env:=env) h.2
  show (false || (backTo pos (starEach es env)).any (·.1))=false
  rw [ih]
  rfl
theorem backTo_all {pos:Pos} {env:Env}:∀ {es:List Expr},es.all notStar=true->(backTo pos (starEach es env)).all (fun x=>!x.1)=true
 | [],_=>rfl
 | e::es,h=>by
  rw [List.all_cons,Bool.and_eq_true] at h
  rw [starEach_ns h.1]
  have ih:=backTo_all (pos:=pos) (env:=env) h.2
  show (true && (backTo pos (starEach es env)).all (fun x=>!x.1))=true
  rw [ih]
  rfl
theorem ns_hd {e:Expr} {es:List Expr} (h:(e::es).all notStar=true):notStar e=true/\es.all notStar=true:=by
 rw [List.all_cons,Bool.and_eq_true] at h
 exact h
structure QE (X:Cx) (e:Expr) (t:TE):Prop where run:PE X e t
structure QT (X:Cx) (e:Expr) (t:TT):Prop where run:PT X e t
structure QW (X:Cx) (e:Expr) (t:TT):Prop where run:PW X e t
structure QA (X:Cx) (es:List Expr) (t:TA):Prop where
 run:PA X es t
 ns:es.all notStar=true
structure QS (X:Cx) (st:Stmt) (t:TS):Prop where run:PS X st t
structure QSs (X:Cx) (st:List Stmt) (t:TS):Prop where run:PSs X st t
structure QG (X:Cx) (e:Expr) (t:TG):Prop where run:PG X e t
structure QGs (X:Cx) (es:List Expr) (t:TGs):Prop where run:PGs X es t
structure QI (X:Cx) (tg iter:Expr) (t:TI):Prop where run:PI X tg iter t
structure QO (X:Cx) (e:Option Expr) (t:TO):Prop where run:PO X e t
structure QK (X:Cx) (ifs:List Expr) (t:TT):Prop where run:PCk X ifs t
section
variable {X:Cx} {a b c e o i' tg iter elt:Expr} {es:List Expr} {ta tb tc te to ti:TE} {tA tB':TT} {t:TA} {pos p apos cpos p2:Pos} {k:Nat} {x name:Str} {ps:List Str} {sp:Sp} {id T:String} {rest:List Expr}
theorem qv (i:Nat) {x:Str} {pos:Pos} (hN:X.N[i]? = some x:=by rfl) (hv:Vis X.env.scope x:=by first | exact Or.inl rfl | exact Or.inr (Or.inl rfl) | exact Or.inr (Or.inr rfl)) (hd:(x == ("__debug__" : Str))=false:=by decide)
  (hcd:(x == ("__classdict__" : Str))=false:=by decide):QE X (.Name x pos) (tVar i):=⟨pe_var hN hv hd hcd⟩
theorem qe_int {i j pos}:QE X (.Constant (.int i) j pos) (tC (.int i)):=⟨pe_int⟩
theorem qe_bl {b j pos}:QE X (.Constant (.bool b) j pos) (tC (.bl b)):=⟨pe_bl⟩
theorem qe_non {j pos}:QE X (.Constant .none j pos) (tC .non):=⟨pe_non⟩
theorem qe_str {x j pos}:QE X (.Constant (.str x) j pos) (tC (.str x)):=⟨pe_str⟩
theorem qe_ty (T:String) {x:Str} {pos:Pos} (hg:Gl X x) (hm:X.mg x=none) (hv:bootBuiltins x=some (.type T)) (hn:x ≠ "__name__" := by decide) (hd:(x == ("__debug__" : Str))=false:=by decide):QE X (.Name x pos) (tC (.ty T)):=⟨pe_ty T hg hm hv hn hd⟩
theorem qe_glob {x:Str} {v:V} {u:Value} {pos:Pos} (hg:Gl X x) (hm:X.mg x=some u) (r:RelV v u) (hd:(x == ("__debug__" : Str))=false:=by decide):QE X (.Name x pos) (tC v):=⟨pe_glob hg hm r hd⟩
theorem qe_op {op:Operator} {r:R2} (ho:OpR X (binaryOp op) r) (ha:QE X a ta) (hb:QE X b tb):QE X (.BinOp a op b pos) (tOp r ta tb):=⟨pe_op ho ha.run hb.run⟩
theorem qe_un {op:UnaryOp} {r:V->Hp->VK->Prop} (ho:UnR X (unaryOp op) r) (ha:QE X a ta):QE X (.UnaryOp op a pos) (tUn r ta):=⟨pe_un ho ha.run⟩
theorem qe_cmpR {op:CmpOp} {r:R2} (ho:OpR X (compareOp op) r) (ha:QE X a ta) (hb:QE X b tb) (hm:behindInMarks op b=false):QE X (.Compare a [op] [b] pos) (tOp r ta tb):=⟨pe_cmpR ho ha.run hb.run hm⟩
theorem qt_cmpR {op:CmpOp} {r:R2} (ho:OpR X (compareOp op) r) (ha:QE X a ta) (hb:QE X b tb) (hm:behindInMarks op b=false):QT X (.Compare a [op] [b] pos) (tTest (tOp r ta tb)):=⟨pt_cmpR ho ha.run hb.run hm⟩
theorem qt_val (h:QE X e te) (he:∀ whole,isTrue e X.env whole=(do let v <- whole; standAt e.pos; holding [v] (truthy v)):=by intro _; rfl):QT X e (tB te):=⟨pt_val h.run he⟩
theorem qw_and1 (ha:QT X a tA):QW X (.BoolOp .And [a] pos) tA:=⟨pw_and1 ha.run⟩
theorem qw_or1 (ha:QT X a tA):QW X (.BoolOp .Or [a] pos) tA:=⟨pw_or1 ha.run⟩
theorem qw_and (ha:QT X a tA) (hb:QW X (.BoolOp .And (b::rest) pos) tB'):QW X (.BoolOp .And (a::b::rest) pos) (tAnd tA tB'):=⟨pw_and ha.run hb.run⟩
theorem qw_or (ha:QT X a tA) (hb:QW X (.BoolOp .Or (b::rest) pos) tB'):QW X (.BoolOp .Or (a::b::rest) pos) (tOr tA tB'):=⟨pw_or ha.run hb.run⟩
theorem QW.pt (h:QW X e tA):QT X e tA:=⟨h.run.pt⟩
theorem qt_not (ha:QT X a tA):QT X (.UnaryOp .Not a pos) (tNot tA):=⟨pt_not ha.run⟩
theorem qe_one {op} (h:QE X a ta):QE X (.BoolOp op [a] pos) ta:=⟨pe_one h.run⟩
theorem qe_and (ha:QE X a ta) (hb:QE X (.BoolOp .And (b::rest) pos) tb):QE X (.BoolOp .And (a::b::rest) pos) (tAndV ta tb):=⟨pe_and ha.run hb.run⟩
theorem qe_or (ha:QE X a ta) (hb:QE X (.BoolOp .Or (b::rest) pos) tb):QE X (.BoolOp .Or (a::b::rest) pos) (tOrV ta tb):=⟨pe_or ha.run hb.run⟩
theorem qe_not (ha:QE X a ta):QE X (.UnaryOp .Not a pos) (tNotV ta):=⟨pe_not ha.run⟩
theorem qe_ifExp (hc:QT X c tA) (ha:QE X a ta) (hb:QE X b tb):QE X (.IfExp c a b pos) (tIf tA ta tb):=⟨pe_ifExp hc.run ha.run hb.run⟩
theorem qa_nil:QA X [] tNil:=⟨pa_nil,rfl⟩
theorem qa_c (ha:QE X e te) (hr:QA X es t) (hs:notStar e=true:=by rfl):QA X (e::es) (tCons te t):=⟨pa_cons ha.run hr.run (starEach_ns hs),by rw [List.all_cons,hs,hr.ns]; rfl⟩
theorem qe_lst (h:QA X es t):QE X (.List es pos) (tLst t):=⟨pe_lst h.run⟩
theorem qe_tup {x1} (h:QA X es t):QE X (.Tuple es x1 pos) (tTup t):=⟨pe_tup h.run⟩
theorem qe_ix {r:R2} (hr:IxR X r) (ha:QE X a ta) (hb:QE X b tb) (hs:PlainIx b):QE X (.Subscript a b pos) (tOp r ta tb):=⟨pe_ix hr ha.run hb.run hs⟩
theorem qo_none:QO X none tNoPart:=⟨po_none⟩
theorem qo_some (h:QE X e te):QO X (some e) (tPart te):=⟨po_some h.run⟩
theorem qe_slice {r:V->Option Int->Option Int->Hp->VK->Prop} {lo hi:Option Expr} {tl th:TO} (hr:SlR X r) (he:QE X e te) (hl:QO X lo tl) (hu:QO X hi th):QE X (.Subscript e (.Slice lo hi none p2) pos) (tSl r te tl th):=⟨pe_slice hr he.run hl.run hu.run⟩
theorem qe_callD (D:DefOk X.prog X.w X.K X.mg X.base k x ps sp) (hr:Room k X.A) (ha:QA X (e::es) t) (hg:Gl X x:=by rfl) (hdb:(x == ("__debug__" : Str))=false:=by decide) :
  QE X (.Call (.Name x p) (e::es) [] pos) (tCallD sp t):=⟨pe_callD D hr ha.run hg hdb (starEach_ns (ns_hd ha.ns).1) (backTo_ns (ns_hd ha.ns).2)⟩
theorem qe_callB {r:List V->Hp->VK->Prop} (hc:CallR X (.builtin id) r) (hg:Gl X x) (hm:X.mg x=none) (hv:bootBuiltins x=some (.builtin id)) (ha:QA X (e::es) t) (hn:x ≠ "__name__" := by decide) (hdb:(x == ("__debug__" : Str))=false:=by decide) :
  QE X (.Call (.Name x p) (e::es) [] pos) (tCB r t):=⟨pe_callB hc hg hm hv ha.run hn hdb (starEach_ns (ns_hd ha.ns).1) (backTo_ns (ns_hd ha.ns).2)⟩
theorem qe_callTy {r:List V->Hp->VK->Prop} (hc:CallR X (.type T) r) (hg:Gl X x) (hm:X.mg x=none) (hv:bootBuiltins x=some (.type T)) (ha:QA X (e::es) t) (hn:x ≠ "__name__" := by decide) (hdb:(x == ("__debug__" : Str))=false:=by decide) :
  QE X (.Call (.Name x p) (e::es) [] pos) (tCB r t):=⟨pe_callTy hc hg hm hv ha.run hn hdb (starEach_ns (ns_hd ha.ns).1) (backTo_ns (ns_hd ha.ns).2)⟩
theorem qe_bm {r:V->List V->Hp->VK->Prop} (pa:PlainAttrs T) (slot:Slot T name id) (hty:typeOf (.builtin id)=pure (.type "method_descriptor")) (hm:MtR X id r) (ho:QE X o to) (ha:QA X (e::es) t)
  (hbase:attributeBase o name X.env (eval o X.env)=eval o X.env:=by rfl) (hl:decide ((e::es).length + 0 + 0 < 30)=true:=by rfl)
  (hline:(apos.endLine == cpos.line)=true:=by rfl):QE X (.Call (.Attribute o name apos) (e::es) [] cpos) (tBM X.K T r to t):=by
 refine ⟨pe_bm pa slot hty hm ho.run ha.run hbase ?_ hline (starEach_ns (ns_hd ha.ns).1) (backTo_ns (ns_hd ha.ns).2)⟩
 rw [backTo_all ha.ns]
 exact hl
theorem qg_name {i:Nat} {x:Str} (hN:X.N.Nodup) (hi:X.N[i]? = some x) (hx:Loc X.env.scope x) (hf:X.fn x=true\/X.env.scope.names.lookup x=some .local:=by first | exact .inl rfl | exact .inr rfl | assumption):QG X (.Name x pos) (gName i):=⟨pg_name hN hi hx hf⟩
theorem qgs_nil:QGs X [] gNil:=⟨pgs_nil⟩
theorem qgs_cons {tt:TG} {u:TGs} (h1:QG X e tt) (h2:QGs X es u) (hs:(assignEach (e::es) X.env).map (·.2)=assign e X.env::(assignEach es X.env).map (·.2):=by rfl):QGs X (e::es) (gCons tt u):=⟨pgs_cons h1.run h2.run hs⟩
theorem qg_tup {k n:Nat} {tt:TGs} (hc:X.calm=true) (h:QGs X es tt) (hn:(assignEach es X.env).length=n:=by rfl) (hst:(assignEach es X.env).findIdx? (·.1)=none:=by rfl):QG X (.Tuple es k pos) (gTup X.K n tt):=⟨pg_tup hc h.run hn hst⟩
theorem qi_range1 (hg:Gl X "range") (hm:X.mg "range" = none) (ha:QA X [a] t):QI X tg (.Call (.Name "range" p) [a] [] pos) (iRng1 t):=⟨pi_range1 hg hm ha.run (starEach_ns (ns_hd ha.ns).1)⟩
theorem qk_nil:QK X [] tTrue:=⟨pk_nil1⟩
theorem qk_one (h:QT X c tA):QK X [c] tA:=⟨pk_one1 h.run⟩
variable {st:Stmt} {sts body els:List Stmt} {ts us:TS} {ifs:List Expr} {sc:Scope} {N:List Str} {mp:List (Option Nat)} {wi:TI} {g:TG}
theorem qss_nil:QSs X [] tNext:=⟨pss_nil⟩
theorem qss_cons (h1:QS X st ts) (h2:QSs X sts us):QSs X (st::sts) (tSeq ts us):=⟨pss_cons h1.run h2.run⟩
theorem qss_cut (h1:QS X st ts) (h2:QSs X sts us):QSs X (st::sts) (tCut ts us):=⟨pss_cut h1.run h2.run⟩
theorem qss_one (h1:QS X st ts):QSs X [st] ts:=⟨pss_one h1.run⟩
theorem qs_expr (he:QE X e te) (hs:swapsWith e none pos.line X.env=pure false:=by rfl):QS X (.Expr e pos) (tDrop te):=⟨ps_expr he.run hs⟩
theorem qs_ret (he:QE X e te):QS X (.Return (some e) pos) (tRet te):=⟨ps_ret he.run⟩
theorem qs_if (hc:QT X c tA) (ha:QSs X body ts) (hb:QSs X els us):QS X (.If c body els pos) (tIfS tA ts us):=⟨ps_if hc.run ha.run hb.run⟩
theorem qs_set {i:Nat} {x:Str} {pos':Pos} (hN:X.N.Nodup) (hi:X.N[i]? = some x) (hx:Loc X.env.scope x) (he:QE X e te) (hs:swapsWith e (some (.Name x pos')) pos.line X.env=pure false:=by rfl)
  (hf:X.fn x=true\/X.env.scope.names.lookup x=some .local:=by first | exact .inl rfl | exact .inr rfl | assumption):QS X (.Assign [.Name x pos'] e pos) (tAsg te (gName i)):=⟨ps_set hN hi hx he.run hs hf⟩
theorem qs_par {i j:Nat} {x y:Str} {px py pt:Pos} {kt k2 pt2} (hc:X.calm=true) (hN:X.N.Nodup) (hi:X.N[i]? = some x) (hj:X.N[j]? = some y) (hij:i≠j)
  (hx:X.env.scope.names.lookup x=some .local) (hy:X.env.scope.names.lookup y=some .local) (ha:QA X [a,b] t)
  (hw:swappedStores [.Tuple [.Name x px,.Name y py] kt pt] (.Tuple [a,b] k2 pt2) X.env=pure (some [x,y]))
  (hs:swapsWithSole [.Tuple [.Name x px,.Name y py] kt pt] (.Tuple [a,b] k2 pt2) pos.line X.env=pure false:=by rfl) :
  QS X (.Assign [.Tuple [.Name x px,.Name y py] kt pt] (.Tuple [a,b] k2 pt2) pos) (tPar i j t):=⟨ps_par hc hN hi hj hij hx hy ha.run hw hs⟩
theorem qs_for (hp:PassesOwn (model X.prog X.w) X.A X.env X.xe) (hc:X.calm=true) (hi:QI X tg iter wi) (hg:QG X tg g) (hb:QSs X body ts) (hs:∀ x,foldedSetIterable iter X.env x=pure x:=by intro _; rfl) :
  QS X (.For tg iter body [] pos) (tFor wi g ts):=⟨ps_for hp hc hi.run hg.run hb.run hs⟩
theorem qs_while (hp:PassesOwn (model X.prog X.w) X.A X.env X.xe) (hc:QT X c tA) (hb:QSs X body ts):QS X (.While c body [] pos) (tWhile tA ts):=⟨ps_while hp hc.run hb.run⟩
theorem qe_comp (hc:X.calm=true) (hi:QI X tg iter wi) (hk:sc.kind=.function) (hm:compOk X.N X.env.scope sc N mp=true)
  (hb:∀ (cl:List (Str × Addr)) (C:Addr) (s₂:Shared) (H₂:Hp) (fp:List Addr),QG (cxComp X sc N cl C s₂ H₂ fp) tg g/\QK (cxComp X sc N cl C s₂ H₂ fp) ifs tA/\QE (cxComp X sc N cl C s₂ H₂ fp) elt te)
  (hs:∀ x,foldedSetIterable iter X.env x=pure x:=by intro _; rfl):QE X (.ListComp elt [⟨tg,iter,ifs,0⟩] sc pos) (tCompE (tComp wi mp g tA te)) :=
 ⟨pe_comp hc hi.run hk hm (fun cl C s₂ H₂ fp=>⟨(hb cl C s₂ H₂ fp).1.run,(hb cl C s₂ H₂ fp).2.1.run,(hb cl C s₂ H₂ fp).2.2.run⟩) hs⟩
theorem qs_comp {i:Nat} {x:Str} {py spos:Pos} (hN:X.N.Nodup) (hix:X.N[i]? = some x) (hx:X.env.scope.names.lookup x=some .local) (hc:X.calm=true) (hi:QI X tg iter wi) (hk:sc.kind=.function) (hm:compOk X.N X.env.scope sc N mp=true)
  (hb:∀ (cl:List (Str × Addr)) (C:Addr) (s₂:Shared) (H₂:Hp) (fp:List Addr),QG (cxComp X sc N cl C s₂ H₂ fp) tg g/\QK (cxComp X sc N cl C s₂ H₂ fp) ifs tA/\QE (cxComp X sc N cl C s₂ H₂ fp) elt te)
  (hsw:swapsWith (.ListComp elt [⟨tg,iter,ifs,0⟩] sc pos) (some (.Name x py)) spos.line X.env=pure true:=by rfl)
  (hs:∀ x,foldedSetIterable iter X.env x=pure x:=by intro _; rfl):QS X (.Assign [.Name x py] (.ListComp elt [⟨tg,iter,ifs,0⟩] sc pos) spos) (tCompS i (tComp wi mp g tA te)) :=
 ⟨ps_comp hN hix hx hc hi.run hk hm (fun cl C s₂ H₂ fp=>⟨(hb cl C s₂ H₂ fp).1.run,(hb cl C s₂ H₂ fp).2.1.run,(hb cl C s₂ H₂ fp).2.2.run⟩) hsw hs⟩
end
theorem Fun.okQ {P:Program} {w:World} {K:W.Frag} {mg:Str->Option Value} {base:Heap} {x qual:Str} {st:Stmt} {f:Addr} {fd:FuncData} {N ps:List Str} {k:Nat} {sp:Sp} (F:Fun K x qual st f fd) (S:FnScope N ps (defScope st)) (len:∀ vs H Q E,sp vs H Q E->vs.length=ps.length)
  (hbody:∀ (cdv:Value) (A:Around) (outer:List Env) (s:Shared) (H:Hp) (vs:List V) (Q:VK) (E:XK),Room k (A.deeper (envOfC qual (defScope st) s.heap.objs.size f cdv))->sp vs H Q E ->
   ∃ t,QSs (cxOf CX0 P w K mg base N qual (defScope st) f cdv A outer s H E).nox (defBody st) t/\t { nx:=fun _ H'=>Q .non H',rt:=Q } (start N vs) H):FnOk P w K mg base CX0 (k + 1) f fd ps sp :=
 F.ok S len fun cdv A outer s H vs Q E hr h=>let ⟨t,q,r⟩:=hbody cdv A outer s H vs Q E hr h; ⟨t,q.run,r⟩
section
variable {X:Cx} (K:W.Frag)
theorem ixT (h:X.K=K:=by rfl):IxR X (rIxT K):=by subst h; exact ix_tup
theorem ixL (h:X.K=K:=by rfl):IxR X (rIxL K):=by subst h; exact ix_list
theorem slL (h:X.K=K:=by rfl):SlR X (rSlL K):=by subst h; exact sl_list
theorem lenK (h:X.K=K:=by rfl):CallR X (.builtin "len") (fun xs H Q=>∃ p ys,xs=[.ref p]/\(SqL K H p ys\/SqT K H p ys)/\Q (.int ys.length) H):=by subst h; exact call_len_seq
theorem isiK (h:X.K=K:=by rfl):CallR X (.builtin "isinstance") (fun xs H Q=>∃ x t c b,xs=[x,.ty c]/\TyOf K H x (.type t)/\W.kitOne K (.type t) (.type c)=some b/\Q (.bl b) H):=by subst h; exact call_isi
theorem listK (h:X.K=K:=by rfl):CallR X (.type "list") (fun xs H Q=>∃ p ys,xs=[.ref p]/\(SqL K H p ys\/SqT K H p ys)/\∀ l,H l=none->Q (.ref l) (upd H l (.lst ys))):=by subst h; exact call_list_of
theorem tupleK (h:X.K=K:=by rfl):CallR X (.type "tuple") (fun xs H Q=>∃ p ys,xs=[.ref p]/\((SqL K H p ys/\∀ l,H l=none->Q (.ref l) (upd H l (.tup ys)))\/(SqT K H p ys/\Q (.ref p) H))):=by subst h; exact call_tuple_of
variable {a o e tg:Expr} {es:List Expr} {ta to:TE} {t:TA} {apos cpos:Pos} {name:Str} {id T:String}
theorem qe_bmK {r:V->List V->Hp->VK->Prop} (pa:PlainAttrs T) (slot:Slot T name id) (hty:typeOf (.builtin id)=pure (.type "method_descriptor")) (hm:MtR X id r) (ho:QE X o to) (ha:QA X (e::es) t) (h:X.K=K:=by rfl)
  (hbase:attributeBase o name X.env (eval o X.env)=eval o X.env:=by rfl) (hl:decide ((e::es).length + 0 + 0 < 30)=true:=by rfl)
  (hline:(apos.endLine == cpos.line)=true:=by rfl):QE X (.Call (.Attribute o name apos) (e::es) [] cpos) (tBM K T r to t):=by subst h; exact qe_bm pa slot hty hm ho ha hbase hl hline
end
end L2
namespace HT
open PySem PyProof.Rows
section
variable {prog:Program} {w:World} {A:Around} {E:Value->Shared->Prop} {s:Shared}
theorem getItem_tuple_whole {t sl:Addr} {items:Array Value} {vl vu:Value} {lo hi:Option Int} {Q:Value->Shared->Prop} (ht:IsTup s.heap t items) (hs:s.heap.IsSliceOf sl vl vu .none) (pl:IsPart vl lo) (pu:IsPart vu hi)
  (hw:sIx items.size 0 lo=0/\sIx items.size items.size hi=items.size) (h:Q (.ref t) s):wpAny (model prog w) A (getItem (.ref t) (.ref sl)) Q E s:=by
 obtain ⟨os,hos,hcs,hds⟩:=id hs
 have hTs:s.TypeIs (.ref sl) "slice" := ⟨os,hos,hcs⟩
 unfold getItem
 try with_reducible refine wpAny_holding ?_
 first | refine wpAny_bind (wpAny_pure ?_) | skip
 refine wpAny_bind (wpAny_sequenceKey ht.typeIs (by decide) ?_)
 refine wpAny_bind (wpAny_callSpecial?_slot (name:=Str.ofString "__getitem__") ht.typeIs PyProof.Rows.slot_tuple_getitem
  (wpAny_call_entry PyProof.Rows.slot_tuple_getitem ht.typeIs entry_tuple_getitem ?_ (args_tuple_getitem _ _)))
 show wpAny _ _ (Builtin.Tuple.tupleItemsOf (.ref t) >>= _) _ _ s
 refine wpAny_bind (tupleItemsOf_ ht ?_)
 refine wpAny_bind (wpAny_typeOf hTs ?_)
 rw [if_pos (by decide)]
 refine wpAny_bind (sliceApplied_gen hs pl pu ?_)
 have hyes:((((sIx items.size 0 lo:Nat):Int) == 0 && (1:Int) == 1 && (sIx items.size items.size hi - sIx items.size 0 lo) == items.size)=true):=by
  rw [hw.1,hw.2]; simp
 show wpAny _ _ (if (((sIx items.size 0 lo:Nat):Int) == 0 && (1:Int) == 1 && (sIx items.size items.size hi - sIx items.size 0 lo) == items.size)=true then _ else _) _ _ s
 rw [if_pos hyes]
 refine wpAny_bind ?_
 unfold Builtin.Tuple.tupleIsExact
 refine wpAny_bind (wpAny_typeOf ht.typeIs (wpAny_pure ?_))
 show wpAny _ _ (if (Value.type "tuple" == Value.type "tuple")=true then _ else _) _ _ s
 rw [if_pos (by decide)]
 exact wpAny_bind (wpAny_rule (wpAny_pure ⟨_,rfl,wpAny_pure h⟩))
theorem sliceApplied_rev {sl:Addr} {tk:Tok} {n:Nat} {Q:Int × Int × Nat->Shared->Prop} (hs:s.heap.IsSliceOf sl .none .none (.int (-1) tk))
  (h:Q ((n:Int) - 1,-1,n) s):wpAny (model prog w) A (Builtin.Slice.sliceApplied (.ref sl) (pure (n:Int))) Q E s:=by
 obtain ⟨os,hos,hcs,hds⟩:=id hs
 unfold Builtin.Slice.sliceApplied Builtin.Slice.sliceFields
 refine wpAny_bind (wpAny_bind (wpAny_field hos hds (x:=.none) rfl (wpAny_bind (wpAny_field hos hds (x:=.none) rfl (wpAny_bind (wpAny_field hos hds (x:=.int (-1) tk) rfl (wpAny_pure ?_)))))))
 refine wpAny_bind (slicePart_int ?_)
 show wpAny _ _ (if ((-1:Int) == 0)=true then _ else _) _ _ s
 rw [if_neg (by decide)]
 refine wpAny_bind (slicePart_none (wpAny_bind (slicePart_none (wpAny_bind (wpAny_pure ?_)))))
 have e1:Builtin.Slice.sliceAdjust none none (-1) (n:Int)=((n:Int) - 1,-1):=rfl
 have e2:Builtin.Slice.slicePlaces ((n:Int) - 1) (-1) (-1)=n:=by
  unfold Builtin.Slice.slicePlaces
  rw [if_neg (by decide)]
  by_cases hn:(n:Int) - 1 > -1
  ·rw [if_pos hn]
   have:((n:Int) - 1 - -1 - 1) / (- -1) + 1=n:=by
    rw [show (- -1:Int)=1 from rfl,Int.ediv_one]
    omega
   rw [this]
   simp
  ·rw [if_neg hn]
   omega
 show wpAny _ _ (match Builtin.Slice.sliceAdjust none none (-1) (n:Int) with | (lo,hi)=>pure (lo,(-1:Int),Builtin.Slice.slicePlaces lo hi (-1))) _ _ s
 rw [e1]
 show wpAny _ _ (pure ((n:Int) - 1,(-1:Int),Builtin.Slice.slicePlaces ((n:Int) - 1) (-1) (-1))) _ _ s
 rw [e2]
 exact wpAny_pure h
theorem fm_map {α β:Type} {f:α->Option β} {g:α->β}:∀ {l:List α},(∀ m∈l,f m=some (g m))->l.filterMap f=l.map g
 | [],_=>rfl
 | a::l,h=>by
  rw [List.filterMap_cons,h a List.mem_cons_self,List.map_cons,fm_map fun m hm=>h m (List.mem_cons_of_mem _ hm)]
theorem pick_rev (xs:Array Value):((List.range xs.size).filterMap fun (m:Nat)=>xs[(((xs.size:Nat):Int) - 1 + (m:Int) * -1).toNat]?).toArray=xs.toList.reverse.toArray:=by
 congr 1
 apply List.ext_getElem?
 intro i
 have key:∀ m∈List.range xs.size,(fun (m:Nat)=>xs[(((xs.size:Nat):Int) - 1 + (m:Int) * -1).toNat]?) m=some (xs.getD (xs.size - 1 - m) .none):=by
  intro m hm
  have hm':=List.mem_range.mp hm
  have e:(((xs.size:Nat):Int) - 1 + (m:Int) * -1).toNat=xs.size - 1 - m:=by omega
  show xs[_]? = _
  rw [e]
  simp [Array.getD,show xs.size - 1 - m < xs.size by omega]
 have e3:(List.range xs.size).filterMap (fun (m:Nat)=>xs[(((xs.size:Nat):Int) - 1 + (m:Int) * -1).toNat]?)=(List.range xs.size).map fun m=>xs.getD (xs.size - 1 - m) .none:=by
  exact fm_map key
 rw [e3,List.getElem?_map]
 by_cases hi:i < xs.size
 ·rw [List.getElem?_range hi,List.getElem?_reverse (by simpa using hi)]
  simp [Array.getD,show xs.size - 1 - i < xs.size by omega]
 ·rw [List.getElem?_eq_none (by simp; omega),List.getElem?_eq_none (by simp; omega)]
  rfl
theorem getItem_tuple_rev {t sl:Addr} {items:Array Value} {tk:Tok} {Q:Value->Shared->Prop} (ht:IsTup s.heap t items) (hs:s.heap.IsSliceOf sl .none .none (.int (-1) tk))
  (h:Q (.ref s.heap.objs.size) { s with heap:=s.heap.push { cls:=.type "tuple",data:=.seq items.toList.reverse.toArray } }) (hsz:items.size<=sizeLine):wpAny (model prog w) A (getItem (.ref t) (.ref sl)) Q E s:=by
 obtain ⟨os,hos,hcs,hds⟩:=id hs
 have hTs:s.TypeIs (.ref sl) "slice" := ⟨os,hos,hcs⟩
 have hz:sizeOk (.seq items.toList.reverse.toArray):=by
  show items.toList.reverse.toArray.size<=sizeLine
  simpa using hsz
 unfold getItem
 try with_reducible refine wpAny_holding ?_
 first | refine wpAny_bind (wpAny_pure ?_) | skip
 refine wpAny_bind (wpAny_sequenceKey ht.typeIs (by decide) ?_)
 refine wpAny_bind (wpAny_callSpecial?_slot (name:=Str.ofString "__getitem__") ht.typeIs PyProof.Rows.slot_tuple_getitem
  (wpAny_call_entry PyProof.Rows.slot_tuple_getitem ht.typeIs entry_tuple_getitem ?_ (args_tuple_getitem _ _)))
 show wpAny _ _ (Builtin.Tuple.tupleItemsOf (.ref t) >>= _) _ _ s
 refine wpAny_bind (tupleItemsOf_ ht ?_)
 refine wpAny_bind (wpAny_typeOf hTs ?_)
 rw [if_pos (by decide)]
 refine wpAny_bind (sliceApplied_rev (n:=items.size) hs ?_)
 have hno:¬ ((((items.size:Nat):Int) - 1 == 0 && (-1:Int) == 1 && items.size == items.size)=true):=by
  intro q
  rw [Bool.and_eq_true,Bool.and_eq_true] at q
  exact absurd q.1.2 (by decide)
 show wpAny _ _ (if (((items.size:Nat):Int) - 1 == 0 && (-1:Int) == 1 && items.size == items.size)=true then _ else _) _ _ s
 rw [if_neg hno,pick_rev]
 first
  | exact wpAny_bind (m:=Builtin.Tuple.tupleExact _) (wpAny_newObj_type (wpAny_pure ⟨_,rfl,wpAny_pure h⟩) hz)
  | exact wpAny_bind (m:=Builtin.Tuple.tupleExact _) (wpAny_newObj_type (wpAny_bind (wpAny_pure (wpAny_pure ⟨_,rfl,wpAny_pure h⟩))) hz)
  | exact wpAny_bind (wpAny_bind (m:=Builtin.Tuple.tupleExact _) (wpAny_newObj_type (wpAny_pure (wpAny_pure ⟨_,rfl,wpAny_pure h⟩)) hz))
  | exact wpAny_bind (wpAny_bind (m:=Builtin.Tuple.tupleExact _) (wpAny_newObj_type (wpAny_pure ⟨_,rfl,wpAny_pure h⟩) hz))
end
end HT
namespace L2
open PySem PySem.Spec PyProof.Rows
def rSlTA (K:W.Frag):V->Option Int->Option Int->Hp->VK->Prop:=fun x lo hi H Q=>∃ a xs,x=.ref a/\SqT K H a xs/\(cutV xs lo hi=xs->Q (.ref a) H)/\∀ p,H p=none->Q (.ref p) (upd H p (.tup (cutV xs lo hi)))
section
variable {X:Cx} (K:W.Frag)
theorem slT (h:X.K=K:=by rfl):SlR X (rSlTA K):=by
 subst h
 intro pins s σ H x v vl vu lo hi sl Q I rx hs pl pu h
 obtain ⟨a,xs,rfl,hx,hw,q⟩:=h
 by_cases hc:HT.sIx xs.length 0 lo=0/\HT.sIx xs.length xs.length hi=xs.length
 ·cases rx
  obtain ⟨its,r,ht,hz⟩:=I.tuple hx
  have hlen:its.toArray.size=xs.length:=by rw [List.size_toArray]; exact r.length.symm
  refine ⟨"tuple",_,PyProof.Rows.slot_tuple_getitem.lookup,ht.typeIs,?_⟩
  refine HT.getItem_tuple_whole ht hs pl pu (by rw [hlen]; exact hc) ⟨.ref a,H,I,rfl,hw ?_⟩
  unfold cutV
  rw [hc.1,hc.2]
  simp
 ·exact sl_tup pins s σ H (.ref a) v vl vu lo hi sl Q I rx hs pl pu ⟨a,xs,rfl,hx,hc,q⟩
end
def rCatA (K:W.Frag):R2:=fun x y H Q=>∃ a b xs ys,x=.ref a/\y=.ref b/\SqT K H a xs/\SqT K H b ys/\xs.length + ys.length<=sizeLine/\(xs=[]->Q (.ref b) H)/\(ys=[]->Q (.ref a) H)/\∀ p,H p=none->Q (.ref p) (upd H p (.tup (xs++ys)))
theorem catT {X:Cx} (K:W.Frag) (h:X.K=K:=by rfl):OpR X (binaryOp .Add) (rCatA K):=by
 subst h
 intro pins s σ H x y v u Q I rx ry h
 obtain ⟨a,b,xs,ys,rfl,rfl,ha,hb,hz,q0,q1,q2⟩:=h
 by_cases hx:xs=[]
 ·cases rx
  cases ry
  obtain ⟨its,r1,p1,_⟩:=I.tuple ha
  obtain ⟨its2,r2,p2,_⟩:=I.tuple hb
  have hi:its=[]:=r1.nil_iff.mpr hx
  obtain ⟨⟨cls,dd,data,sl⟩,ho,hc,n,hd⟩:=id p1
  obtain ⟨⟨cls2,dd2,data2,sl2⟩,ho2,hc2,n2,hd2⟩:=id p2
  simp only at hc hd hc2 hd2
  subst hc hd hc2 hd2
  exact concat_meets ⟨_,ho,rfl⟩ ⟨_,ho2,rfl⟩ noFill_tuple_add seq_tuple_add PySem.F.slot_tuple_add PySem.F.entry_tuple_add (PySem.F.args_tuple_add_2 _ _)
   (tuple_addW0 a b its.toArray its2.toArray n n2 dd dd2 sl sl2 (by simp [hi])) ⟨ho,ho2,⟨.ref b,H,I,rfl,q0 hx⟩⟩
 ·exact op_catT pins s σ H _ _ v u Q I rx ry ⟨a,b,xs,ys,rfl,rfl,ha,hb,hx,hz,q1,fun _=>q2⟩
end L2
namespace PySem
open Sem (wp)
theorem noFill_tuple_mul:fillsNumberSlot (.type "tuple") "mul" = pure false :=
 fillsNumberSlot_seq (id := "tuple.__mul__") (r:=some (.builtin "tuple.__rmul__")) F.slot_tuple_mul.lookup (by decide +kernel) F.slot_tuple_rmul.lookup (by decide +kernel)
theorem repeat_tuple:seqRepeat? (.type "tuple")=pure (some (.builtin "tuple.__mul__")):=by
 unfold seqRepeat?
 rw [seqSlot_of (T := "tuple") (name := "__mul__") (id := "tuple.__mul__") F.slot_tuple_mul.lookup (by decide +kernel),seqSlot_of (T := "tuple") (name := "__rmul__") (id := "tuple.__rmul__") F.slot_tuple_rmul.lookup (by decide +kernel)]
 rfl
theorem int_rmul_tuple (a:Int) (t:Tok) (l:Addr) (items:Array Value) (n:Nat) (dd:Option Addr) (sl:Array (Option Value)) :
  Meets (Builtin.«int.__rmul__» ⟨[.int a t,.ref l],[]⟩) (fun _ R s=>s.heap.get? l=some { cls:=.type "tuple",dict:=dd,data:=.seq items n,slots:=sl }/\R (.ok (.ret Value.notImplemented)) s) :=
 .of_wp fun prog w A R s h=>by obtain ⟨hp,g,d,tk,os⟩:=s; obtain ⟨hl,h⟩:=h; wp_walk; exact ⟨_,rfl,h⟩
theorem tuple_mul_int (l:Addr) (items:Array Value) (n:Nat) (dd:Option Addr) (sl:Array (Option Value)) (k:Int) (t:Tok) (hne:items.isEmpty=false) (h2:2<=k) (hk:k < 2 ^ 40) (hz:items.size * k.toNat<=16000000) :
  Meets (Builtin.«tuple.__mul__» ⟨[.ref l,.int k t],[]⟩) (fun _ R s=>s.heap.get? l=some { cls:=.type "tuple",dict:=dd,data:=.seq items n,slots:=sl }/\R (.ok (.ret (Value.ref s.heap.objs.size))) { s with heap:=s.heap.push { cls:=Value.type "tuple",data:=Data.seq (List.foldl (fun x1 x2=>x1++x2) #[] (List.replicate k.toNat items)) },toks:=s.toks }) :=
 .of_wp fun prog w A R s h=>by
  obtain ⟨hp,g,d,tk,os⟩:=s
  obtain ⟨hl,h⟩:=h
  have f1:=AutoSeq1.idx_int
  have c0:¬ (decide (k < -(2 ^ 63)) || decide (k ≥ 2 ^ 63))=true:=by simp; omega
  have c1:¬ (items.isEmpty || k == 1)=true:=by rw [hne]; simp; omega
  have c2:¬ (decide (k<=0) || items.isEmpty)=true:=by rw [hne]; simp; omega
  wp_walk
  have hk2:k=((k.toNat:Nat):Int):=by omega
  have hm:(items.size:Int) * k=((items.size * k.toNat:Nat):Int):=by rw [Int.natCast_mul,<- hk2]
  have c3:¬ (items.size:Int) * k > (2 ^ 63 - 1) / 8:=by rw [hm]; omega
  have c4:¬ Builtin.Tuple.tupleTooMany ((items.size:Int) * k)=true:=by
   rw [hm]
   unfold Builtin.Tuple.tupleTooMany
   rw [decide_eq_true_eq,show sizeLine=16777216 by decide]
   omega
  have hit:PyProof.Rows.IsTup hp l items:=⟨_,hl,rfl,n,rfl⟩
  have hsz:(List.foldl (fun x1 x2=>x1++x2) #[] (List.replicate k.toNat items)).size<=sizeLine:=by
   have e:=AutoListH.size_joined items k.toNat #[]
   have e0:(#[]:Array Value).size=0:=rfl
   rw [e0,Nat.zero_add,Nat.mul_comm] at e
   rw [e]
   exact Nat.le_trans hz (by decide)
  rw [if_neg c0]
  show wpAny _ _ (Builtin.Tuple.tupleItemsOf (.ref l) >>= _) _ _ _
  refine wpAny_bind (PyProof.Rows.tupleItemsOf_ hit ?_)
  dsimp only
  rw [if_neg c1,if_neg c2,if_neg c3,if_neg c4]
  first
   | exact wpAny_bind (m:=Builtin.Tuple.tupleExact _) (wpAny_newObj_type (wpAny_pure ⟨_,rfl,h⟩) hsz)
   | exact wpAny_bind (m:=Builtin.Tuple.tupleExact _) (wpAny_newObj_type (wpAny_bind (wpAny_pure (wpAny_pure ⟨_,rfl,h⟩))) hsz)
   | exact wpAny_bind (wpAny_bind (m:=Builtin.Tuple.tupleExact _) (wpAny_newObj_type (wpAny_pure (wpAny_pure ⟨_,rfl,h⟩)) hsz))
   | exact wpAny_bind (wpAny_bind (m:=Builtin.Tuple.tupleExact _) (wpAny_newObj_type (wpAny_pure ⟨_,rfl,h⟩) hsz))
end PySem
namespace L2
open PySem PySem.Spec PyProof.Rows
section
variable {X:Cx}
theorem QE.weaken {e:Expr} {t t':TE} (h:QE X e t) (w:∀ σ H Q,t' σ H Q->t σ H Q):QE X e t':=⟨fun pins s σ H Q I q=>h.run pins s σ H Q I (w σ H Q q)⟩
theorem QA.weaken {es:List Expr} {t t':TA} (h:QA X es t) (w:∀ σ H Q,t' σ H Q->t σ H Q):QA X es t':=⟨fun pos pins s σ H Q I q=>h.run pos pins s σ H Q I (w σ H Q q),h.ns⟩
end
def Has (us ui:List Nat) (S:List Addr) (ρ:Nat->PyData) (ι:Nat->Int) (σ:St) (H:Hp):Prop :=
 (∀ b∈S,H b≠none)/\(∀ i∈us,∃ v,σ[i]? = some (some v)/\Rep S H (ρ i) v)/\(∀ i∈ui,σ[i]? = some (some (.int (ι i))))
theorem Has.ext {us ui:List Nat} {S:List Addr} {ρ:Nat->PyData} {ι:Nat->Int} {σ:St} {H H':Hp} (h:Has us ui S ρ ι σ H) (x:Ext [] H H'):Has us ui S ρ ι σ H':=by
 refine ⟨fun b hb=>?_,fun i hi=>?_,h.2.2⟩
 ·have:=h.1 b hb
  cases e:H b with
  | none=>exact absurd e this
  | some o=>rw [x.keep b o (by simp) e]; simp
 ·obtain ⟨v,e,r⟩:=h.2.1 i hi
  exact ⟨v,e,r.ext (x.mono (by simp))⟩
section
variable {X:Cx} {us ui:List Nat} {a b e:Expr} {es:List Expr} {pos:Pos}
def rRepT (K:W.Frag):R2:=fun x y H Q=>∃ a k xs,x=.ref a/\y=.int k/\SqT K H a xs/\xs≠[]/\2<=k/\k < 2 ^ 40/\xs.length * k.toNat<=16000000/\∀ p,H p=none->Q (.ref p) (upd H p (.tup (List.replicate k.toNat xs).flatten))
theorem op_repT (K:W.Frag) (h:X.K=K:=by rfl):OpR X (binaryOp .Mult) (rRepT K):=by
 subst h
 intro pins s σ H x y v u Q I rx ry h
 obtain ⟨a,k,xs,rfl,rfl,hx,hne,h2,hk,hz,q⟩:=h
 cases rx
 obtain ⟨t,rfl⟩:=ry
 obtain ⟨its,r,ht,hl⟩:=I.tuple hx
 obtain ⟨⟨cls,dd,data,sl⟩,ho,hc,n,hd⟩:=id ht
 simp only at hc hd
 subst hc hd
 have hne':its.toArray.isEmpty=false:=by
  cases its with
  | nil=>exact absurd (r.nil_iff.mp rfl) hne
  | cons _ _=>rfl
 have hsz:its.toArray.size * k.toNat<=16000000:=by rw [List.size_toArray,<- r.length]; exact hz
 refine wpAny_binaryOp_repeat_ref (T := "tuple") (U := "int") (by decide) ⟨_,ho,rfl⟩ (fun s'=>typeIs_int s' k t) noFill_tuple_mul F.fills_int_mul F.slot_int_rmul repeat_tuple F.slot_int_index.lookup
  (call_meets F.slot_int_rmul (typeIs_int s k t) F.entry_int_rmul (F.args_int_rmul_2 _ _) (int_rmul_tuple k t a its.toArray n dd sl)
   ⟨ho,rfl,⟨_,ho,rfl⟩,call_meets F.slot_tuple_mul ⟨_,ho,rfl⟩ F.entry_tuple_mul (F.args_tuple_mul_2 _ _) (tuple_mul_int a its.toArray n dd sl k t hne' h2 hk hsz) ⟨ho,?_⟩⟩)
 have hnew:List.foldl (fun x1 x2=>x1++x2) #[] (List.replicate k.toNat its.toArray)=(List.replicate k.toNat its).flatten.toArray:=by
  have:=foldl_rep its k.toNat []
  rw [List.nil_append] at this
  exact this
 rw [hnew]
 have hlen:(List.replicate k.toNat xs).flatten.length<=sizeLine:=by
  rw [len_rep,Nat.mul_comm,show sizeLine=16777216 by decide]
  omega
 exact ⟨.ref _,_,I.laid (t':=s.toks) (o:=.tup (List.replicate k.toNat xs).flatten) (fun b o e=>Heap.get?_push_of_some _ e) (Nat.le_refl _) ⟨hlen,_,r.rep k.toNat,TupN.new _ _⟩,rfl,q _ (I.hok.fresh (Nat.le_refl _))⟩
theorem Reps.rep {S:List Addr} {H:Hp} {ds:List PyData} {xs:List V} (r:Reps S H ds xs):∀ k:Nat,Reps S H (List.replicate k ds).flatten (List.replicate k xs).flatten
 | 0=>.nil
 | k + 1=>by
  rw [List.replicate_succ,List.replicate_succ,List.flatten_cons,List.flatten_cons]
  exact r.append (Reps.rep r k)
theorem Vals.at' {xs:List V} {us:List Value} {i:Nat} {u:Value} (r:Vals xs us) (h:us[i]? = some u):∃ x,xs[i]? = some x/\RelV x u:=by
 have hi:i < us.length:=(List.getElem?_eq_some_iff.mp h).1
 have hi':i < xs.length:=by rw [r.length]; exact hi
 have e:xs[i]? = some xs[i]:=by simp [hi']
 obtain ⟨w,hw,rw'⟩:=r.get e
 rw [h] at hw
 cases hw
 exact ⟨_,e,rw'⟩
theorem call_allL (K:W.Frag) (hc:X.calm=true) (hk:X.K=K:=by rfl):CallR X (.builtin "all") (fun xs H Q=>∃ (p:Addr) (bs:List Bool),xs=[.ref p]/\SqL K H p (bs.map V.bl)/\Q (.bl (bs.all id)) H):=by
 subst hk
 intro pins s σ H xs us Q I r h
 obtain ⟨p,bs,rfl,hp,q⟩:=h
 obtain ⟨u,rfl,ru⟩:=vals1 r
 cases ru
 obtain ⟨its,rv,ht,hz⟩:=I.list hp
 have hh:=I.ok.hd hc
 have hpl:p < s.heap.objs.size:=ht.lt
 have hlen:its.toArray.size=bs.length:=by rw [List.size_toArray,<- rv.length,List.length_map]
 have key:∀ (a:Nat) (v:Value),its.toArray[a]? = some v->v=.bool (bs.getD a true):=by
  intro a v e
  have e':its[a]? = some v:=by simpa using e
  obtain ⟨x,hx,rx⟩:=rv.at' e'
  rw [List.getElem?_map] at hx
  cases hb:bs[a]? with
  | none=>rw [hb] at hx; cases hx
  | some b =>
   rw [hb] at hx
   cases hx
   rw [List.getD_eq_getElem?_getD,hb]
   exact rx
 refine call_all_walk (wpAny_pyIter_list ht.isList ⟨s.heap.objs.size,_,_,its.toArray.size,_,_,fun a=>bs.getD a true,rfl,Walks.list (A:=X.A.in1) hh _ p (Nat.ne_of_lt hpl) its.toArray,⟨⟨_,Heap.get?_push_size _ rfl,rfl,rfl⟩,ht.isList.at fun o e=>Heap.get?_push_of_some _ e⟩,?_,?_⟩)
 ·intro i v s' Q' E' hP hq
  rw [key i v hP]
  exact wpAny_truthy_bool hq
 ·intro h' tk kp
  have I1:Inv X pins σ H { s with heap:=h',toks:=tk }:=I.kept fun b o e=>kp b o (fun z=>by
   have e2:b=s.heap.objs.size:=by simpa using z
   rw [e2] at e
   exact absurd (Heap.lt_size e) (Nat.lt_irrefl _)) (Heap.get?_push_of_some _ e)
  have e:(List.range its.toArray.size).all (fun a=>bs.getD a true)=bs.all id:=by
   rw [hlen]
   clear q hp rv hlen key hz
   induction bs with
   | nil=>rfl
   | cons b bs ih =>
    rw [List.length_cons,List.range_succ_eq_map,List.all_cons,List.all_map,List.all_cons]
    have:((fun a=>(b::bs).getD a true) ∘ Nat.succ)=fun a=>bs.getD a true:=rfl
    rw [this,ih]
    rfl
  rw [e]
  exact ⟨.bl _,H,I1,rfl,q⟩
end
section
variable {κ:Type} [DecidableEq κ]
def valV (kvs:List (κ × V)) (k:κ):Option V:=(kvs.find? fun kv=>decide (kv.1=k)).map (·.2)
def putK (kvs:List (κ × V)) (k:κ) (v:V):List (κ × V) :=
 if (kvs.any fun kv=>decide (kv.1=k))=true then kvs.map (fun kv=>if kv.1=k then (kv.1,v) else kv) else kvs++[(k,v)]
def dropK (kvs:List (κ × V)) (k:κ):List (κ × V):=kvs.filter fun kv=>decide (kv.1≠k)
theorem valV_pos {p:κ × V} {r:List (κ × V)} {k:κ} (e:p.1=k):valV (p::r) k=some p.2:=by simp [valV,List.find?_cons,e]
theorem valV_neg {p:κ × V} {r:List (κ × V)} {k:κ} (e:¬ p.1=k):valV (p::r) k=valV r k:=by simp [valV,List.find?_cons,e]
theorem valV_any (k:κ):∀ kvs:List (κ × V),(kvs.any fun kv=>decide (kv.1=k))=(valV kvs k).isSome
 | []=>rfl
 | p::r=>by
  rw [List.any_cons]
  by_cases e:p.1=k
  ·simp only [valV_pos e,decide_eq_true e,Bool.true_or,Option.isSome_some]
  ·rw [valV_neg e,decide_eq_false e,Bool.false_or]; exact valV_any k r
theorem length_putK (kvs:List (κ × V)) (k:κ) (v:V):(putK kvs k v).length<=kvs.length + 1:=by
 unfold putK
 split
 ·rw [List.length_map]; omega
 ·rw [List.length_append,List.length_cons,List.length_nil]; omega
theorem RelO.isSome_eq {o:Option V} {u:Option Value} (r:RelO o u):o.isSome=u.isSome:=by
 cases o with
 | none=>cases u with
  | none=>rfl
  | some _=>exact (show False from r).elim
 | some _=>cases u with
  | none=>exact (show False from r).elim
  | some _=>rfl
theorem RelO.getD {o:Option V} {u:Option Value} {d:V} {d':Value} (r:RelO o u) (rd:RelV d d'):RelV (o.getD d) (u.getD d'):=by
 cases o with
 | none=>cases u with
  | none=>exact rd
  | some _=>exact (show False from r).elim
 | some _=>cases u with
  | none=>exact (show False from r).elim
  | some _=>exact r
theorem KV.val {kvs:List (κ × V)} {vs:List (κ × Value)} (r:KV kvs vs) (k:κ):RelO (valV kvs k) (valueAt vs k):=by
 unfold KV at r
 induction r with
 | nil=>exact True.intro
 | @cons p q ps qs h t ih =>
  obtain ⟨h1,h2⟩:=h
  by_cases e:p.1=k
  ·have e':q.1=k:=h1.symm.trans e
   have b:valueAt (q::qs) k=some q.2:=by simp [valueAt,List.find?_cons,e']
   rw [valV_pos e,b]; exact h2
  ·have e':¬ q.1=k:=fun z=>e (h1.trans z)
   have b:valueAt (q::qs) k=valueAt qs k:=by simp [valueAt,List.find?_cons,e']
   rw [valV_neg e,b]; exact ih
theorem KV.any {kvs:List (κ × V)} {vs:List (κ × Value)} (r:KV kvs vs) (k:κ):(kvs.any fun kv=>decide (kv.1=k))=vs.any fun kv=>decide (kv.1=k):=by
 unfold KV at r
 induction r with
 | nil=>rfl
 | cons h t ih=>rw [List.any_cons,List.any_cons,ih,h.1]
theorem KV.repl {kvs:List (κ × V)} {vs:List (κ × Value)} (r:KV kvs vs) (k:κ) {y:V} {u:Value} (ry:RelV y u) :
  KV (kvs.map fun kv=>if kv.1=k then (kv.1,y) else kv) (vs.map fun kv=>if kv.1=k then (kv.1,u) else kv):=by
 unfold KV at r ⊢
 induction r with
 | nil=>exact .nil
 | @cons p q ps qs h t ih =>
  rw [List.map_cons,List.map_cons]
  refine .cons ?_ ih
  obtain ⟨h1,h2⟩:=h
  by_cases e:p.1=k
  ·rw [if_pos e,if_pos (h1.symm.trans e)]; exact ⟨h1,ry⟩
  ·rw [if_neg e,if_neg (fun z=>e (h1.trans z))]; exact ⟨h1,h2⟩
theorem KV.put {kvs:List (κ × V)} {vs:List (κ × Value)} (r:KV kvs vs) (k:κ) {y:V} {u:Value} (ry:RelV y u):KV (putK kvs k y) (stored vs k u):=by
 unfold putK stored
 rw [r.any k]
 by_cases e:(vs.any fun kv=>decide (kv.1=k))=true
 ·rw [if_pos e,if_pos e]; exact r.repl k ry
 ·rw [if_neg e,if_neg e]; exact Paired.snoc r ⟨rfl,ry⟩
theorem KV.drop {kvs:List (κ × V)} {vs:List (κ × Value)} (r:KV kvs vs) (k:κ):KV (dropK kvs k) (without vs k):=by
 unfold KV at r ⊢
 unfold dropK without
 induction r with
 | nil=>exact .nil
 | @cons p q ps qs h t ih =>
  obtain ⟨h1,h2⟩:=h
  rw [List.filter_cons,List.filter_cons]
  by_cases e:p.1=k
  ·have a:¬ decide (p.1≠k)=true:=by simp [e]
   have b:¬ decide (q.1≠k)=true:=by simp [h1.symm.trans e]
   rw [if_neg a,if_neg b]; exact ih
  ·have e':¬ q.1=k:=fun z=>e (h1.trans z)
   have a:decide (p.1≠k)=true:=by simp [e]
   have b:decide (q.1≠k)=true:=by simp [e']
   rw [if_pos a,if_pos b]; exact .cons ⟨h1,h2⟩ ih
theorem KV.keys {kvs:List (κ × V)} {vs:List (κ × Value)} (r:KV kvs vs):kvs.map (·.1)=vs.map (·.1):=by
 unfold KV at r
 induction r with
 | nil=>rfl
 | cons h t ih=>rw [List.map_cons,List.map_cons,ih,h.1]
theorem KV.length {kvs:List (κ × V)} {vs:List (κ × Value)} (r:KV kvs vs):kvs.length=vs.length:=Paired.length r
end
theorem kV_is {P:Program} {w:World} {k:Key} {u:Value} (r:RelV (kV k) u):(mixKind P w).is k u=true:=by
 cases k with
 | inl i=>obtain ⟨t,e⟩:=(show ∃ t,u=Value.int i t from r); subst e; exact mixKind_int P w i t
 | inr x=>obtain ⟨t,e⟩:=(show ∃ t,u=Value.str x t from r); subst e; exact mixKind_str P w x t
theorem items_are {P:Program} {w:World}:∀ {ks:List Key} {us:List Value},Vals (ks.map kV) us->ItemsAre (mixKind P w) ks us
 | [],_,r=>by rw [List.map_nil] at r; cases r; exact .nil
 | k::ks,_,r=>by
  rw [List.map_cons] at r
  cases r with
  | cons h t=>exact .cons (kV_is h) (items_are t)
abbrev KT (H:Hp):List (List Key × V)->List (List Key × Addr × Value)->Prop:=Paired fun p q=>p.1=q.1/\H q.2.1=some (.tup (p.1.map kV))/\RelV p.2 q.2.2
theorem KT.val {H:Hp} {kvs:List (List Key × V)} {xs:List (List Key × Addr × Value)} (r:KT H kvs xs) (k:List Key):RelO (valV kvs k) ((atKey xs k).map (·.2)):=by
 induction r with
 | nil=>exact True.intro
 | @cons p q ps qs h t ih =>
  obtain ⟨h1,_,h2⟩:=h
  by_cases e:p.1=k
  ·have e':q.1=k:=h1.symm.trans e
   have b:atKey (q::qs) k=some q.2:=by simp [atKey,List.find?_cons,e']
   rw [valV_pos e,b]; exact h2
  ·have e':¬ q.1=k:=fun z=>e (h1.trans z)
   have b:atKey (q::qs) k=atKey qs k:=by simp [atKey,List.find?_cons,e']
   rw [valV_neg e,b]; exact ih
theorem KT.repl {H:Hp} {kvs:List (List Key × V)} {xs:List (List Key × Addr × Value)} (r:KT H kvs xs) (k:List Key) {y:V} {u:Value} (ry:RelV y u) :
  KT H (kvs.map fun kv=>if kv.1=k then (kv.1,y) else kv) (xs.map (putAt k u)):=by
 induction r with
 | nil=>exact .nil
 | @cons p q ps qs h t ih =>
  rw [List.map_cons,List.map_cons]
  refine .cons ?_ ih
  obtain ⟨h1,h2,h3⟩:=h
  unfold putAt
  by_cases e:p.1=k
  ·rw [if_pos e,if_pos (h1.symm.trans e)]; exact ⟨h1,h2,ry⟩
  ·rw [if_neg e,if_neg (fun z=>e (h1.trans z))]; exact ⟨h1,h2,h3⟩
theorem KT.put {H:Hp} {kvs:List (List Key × V)} {xs:List (List Key × Addr × Value)} (r:KT H kvs xs) (k:List Key) {b:Addr} {y:V} {u:Value} (hb:H b=some (.tup (k.map kV))) (ry:RelV y u) :
  KT H (putK kvs k y) (storedH xs k b u):=by
 have e:(kvs.any fun kv=>decide (kv.1=k))=(atKey xs k).isSome:=by
  rw [valV_any,(r.val k).isSome_eq,Option.isSome_map]
 unfold putK storedH
 rw [e]
 by_cases q:(atKey xs k).isSome=true
 ·rw [if_pos q,if_pos q]; exact r.repl k ry
 ·rw [if_neg q,if_neg q]; exact Paired.snoc r ⟨rfl,hb,ry⟩
theorem KT.keeps {H H':Hp} {kvs:List (List Key × V)} {xs:List (List Key × Addr × Value)} (r:KT H kvs xs) (ht:∀ b ys,H b=some (.tup ys)->H' b=some (.tup ys)):KT H' kvs xs :=
 Paired.mapP r fun _ _ z=>⟨z.1,ht _ _ z.2.1,z.2.2⟩
section
variable {P:Program} {w:World} {H:Hp} {h:Heap} {a:Addr}
theorem rd_of {u:HO} (ok:HOk P w H h) (e:Rd H a u):ObjOk P w H h a u:=e.ok ok
theorem dk_rd {kvs:List (Key × V)} (ok:HOk P w H h) (e:Rd H a (.dK kvs)):kvs.length<=sizeLine/\(a == sysModules)=false/\∃ vs,KV kvs vs/\h.DictOf (mixKind P w) a vs :=
 show ObjOk P w H h a (.dK kvs) from rd_of ok e
theorem dk_of {kvs:List (Key × V)} (ok:HOk P w H h) (e:H a=some (.dK kvs)):kvs.length<=sizeLine/\(a == sysModules)=false/\∃ vs,KV kvs vs/\h.DictOf (mixKind P w) a vs:=dk_rd ok (.inl e)
theorem key_of {ks:List Key} (ok:HOk P w H h) (e:H a=some (.tup (ks.map kV))):(tupleKind (mixKind P w)).is h ks a:=by
 obtain ⟨_,its,r,o,h1,h2,n,h3,_⟩:=(show ObjOk P w H h a (.tup (ks.map kV)) from ok a _ e)
 exact ⟨o,its.toArray,n,h1,h2,h3,by simpa using items_are r⟩
theorem dt_rd {kvs:List (List Key × V)} (ok:HOk P w H h) (e:Rd H a (.dT kvs)):kvs.length<=sizeLine/\(a == sysModules)=false /\
  ∃ xs,KT H kvs xs/\h.DictOfH (tupleKind (mixKind P w)) a xs:=by
 obtain ⟨z,y,xs,r,o,es,ep,h1,h2,h3,h4,h5⟩:=(show ObjOk P w H h a (.dT kvs) from rd_of ok e)
 refine ⟨z,y,xs,r,o,es,ep,h1,h2,h3,h4,fun x hx=>?_,h5⟩
 have all:∀ {l:List (List Key × V)} {m:List (List Key × Addr × Value)},KT H l m->∀ x∈m,(tupleKind (mixKind P w)).is h x.1 x.2.1:=by
  intro l m q
  induction q with
  | nil=>intro x hx; exact nomatch hx
  | @cons p q ps qs hq t ih =>
   intro x hx
   rcases List.mem_cons.mp hx with e | hx
   ·subst e
    exact key_of ok (by rw [<- hq.1]; exact hq.2.1)
   ·exact ih x hx
 exact all r x hx
theorem dt_of {kvs:List (List Key × V)} (ok:HOk P w H h) (e:H a=some (.dT kvs)):kvs.length<=sizeLine/\(a == sysModules)=false /\
  ∃ xs,KT H kvs xs/\h.DictOfH (tupleKind (mixKind P w)) a xs:=dt_rd ok (.inl e)
end
def DGet (H:Hp) (a:Addr) (y:V) (r:Option V):Prop :=
 (∃ kvs k,Rd H a (.dK kvs)/\y=kV k/\r=valV kvs k)\/∃ kvs k b,Rd H a (.dT kvs)/\y=.ref b/\H b=some (.tup (k.map kV))/\r=valV kvs k
def DPut (H:Hp) (a:Addr) (y v:V) (H':Hp):Prop :=
 (∃ kvs k,H a=some (.dK kvs)/\y=kV k/\kvs.length < sizeLine/\H'=upd H a (.dK (putK kvs k v))) \/
 ∃ kvs k b,H a=some (.dT kvs)/\y=.ref b/\H b=some (.tup (k.map kV))/\kvs.length < sizeLine/\H'=upd H a (.dT (putK kvs k v))
theorem DGet.k {H:Hp} {a:Addr} {kvs:List (Key × V)} {k:Key} (e:H a=some (.dK kvs)):DGet H a (kV k) (valV kvs k):=.inl ⟨kvs,k,.inl e,rfl,rfl⟩
theorem DGet.t {H:Hp} {a b:Addr} {kvs:List (List Key × V)} {k:List Key} (e:H a=some (.dT kvs)) (eb:H b=some (.tup (k.map kV))):DGet H a (.ref b) (valV kvs k):=.inr ⟨kvs,k,b,.inl e,rfl,eb,rfl⟩
theorem DPut.k {H:Hp} {a:Addr} {kvs:List (Key × V)} {k:Key} {v:V} (e:H a=some (.dK kvs)) (hl:kvs.length < sizeLine):DPut H a (kV k) v (upd H a (.dK (putK kvs k v))):=.inl ⟨kvs,k,e,rfl,hl,rfl⟩
theorem DPut.t {H:Hp} {a b:Addr} {kvs:List (List Key × V)} {k:List Key} {v:V} (e:H a=some (.dT kvs)) (eb:H b=some (.tup (k.map kV))) (hl:kvs.length < sizeLine) :
  DPut H a (.ref b) v (upd H a (.dT (putK kvs k v))):=.inr ⟨kvs,k,b,e,rfl,eb,hl,rfl⟩
section
variable {X:Cx} {pins:List (Addr × Obj)} {σ:St} {H:Hp} {s:Shared} {a:Addr} {y v:V} {u r:Value} {o:Option V} {A:Around} {E:Value->Shared->Prop}
theorem Inv.big (I:Inv X pins σ H s):sysModules < s.heap.objs.size:=by
 have h:mainGlobals < s.heap.objs.size:=(I.mod.glob.keeps I.bk).lt
 exact Nat.lt_trans (by decide) h
theorem d_getItem {Q:Value->Shared->Prop} (hu:A.units + 1 < cLine) (I:Inv X pins σ H s) (g:DGet H a y (some v)) (ry:RelV y u) (h:∀ w' s',Inv X pins σ H s'->RelV v w'->Q w' s') :
  wpAny (model X.prog X.w) A (getItem (.ref a) u) Q E s:=by
 rcases g with ⟨kvs,k,e,ey,l⟩ | ⟨kvs,k,b,e,ey,eb,l⟩
 ·subst ey
  obtain ⟨z,hd,vs,rel,dd⟩:=dk_rd I.hok e
  obtain ⟨w',hw,rw'⟩:=RelO.some_of (v:=v) (o:=valueAt vs k) (by rw [l]; exact rel.val k)
  exact wpAny_getItem_of (kV_is ry) dd.mapOf hw (h w' _ (I.tok _) rw')
 ·subst ey
  cases (show u=Value.ref b from ry)
  obtain ⟨z,hd,xs,rel,dd⟩:=dt_rd I.hok e
  obtain ⟨w',hw,rw'⟩:=RelO.some_of (v:=v) (o:=(atKey xs k).map (·.2)) (by rw [l]; exact rel.val k)
  obtain ⟨p,hp,hp2⟩:=Option.map_eq_some_iff.mp hw
  refine wpAny_getItem_heap (tupleKind_room_in1 hu) (key_of I.hok eb) dd hp ?_
  rw [hp2]
  exact h w' _ (I.tok _) rw'
theorem d_write {h':Heap} {t':Nat} {ob:HO} (I:Inv X pins σ H s) (mu:Mut (H a)) (hs:Heap.SameBut a s.heap h') (he:∃ q,h'.get? a=some q) (new:ObjOk X.prog X.w (upd H a ob) h' a ob) :
  Inv X pins σ (upd H a ob) { s with heap:=h',toks:=t' } :=
 I.write (x:=a) (e:=a) mu (.inl rfl) (fun b q hb z=>(hs.2 b hb).trans z) he new
theorem dk_new {P:Program} {w:World} {H':Hp} {h':Heap} {kvs:List (Key × V)} {vs:List (Key × Value)} (z:kvs.length<=sizeLine) (hd:(a == sysModules)=false) (rel:KV kvs vs) (dd:h'.DictOf (mixKind P w) a vs) :
  ObjOk P w H' h' a (.dK kvs):=⟨z,hd,vs,rel,dd⟩
theorem d_setItem {H':Hp} {Q:Unit->Shared->Prop} (hu:A.units + 1 < cLine) (I:Inv X pins σ H s) (g:DPut H a y v H') (ry:RelV y u) (rv:RelV v r) (h:∀ s',Inv X pins σ H' s'->Q () s') :
  wpAny (model X.prog X.w) A (setItem (.ref a) u r) Q E s:=by
 rcases g with ⟨kvs,k,e,ey,l,eH⟩ | ⟨kvs,k,b,e,ey,eb,l,eH⟩
 ·subst ey eH
  obtain ⟨z,hd,vs,rel,dd⟩:=dk_of I.hok e
  have hz:vs.length<=sizeLine:=by rw [<- rel.length]; exact z
  have hl:(putK kvs k v).length<=sizeLine:=by have:=length_putK kvs k v; omega
  refine wpAny_setItem_pairs (hsz:=hz) (kV_is ry) dd fun h' dd' hs=>h _ ?_
  have he:∃ q,h'.get? a=some q:=let ⟨q,_,_,hq,_⟩:=dd'; ⟨q,hq⟩
  exact d_write I (by rw [e]; exact True.intro) hs he (dk_new hl hd (rel.put k rv) dd')
 ·subst ey eH
  cases (show u=Value.ref b from ry)
  obtain ⟨z,hd,xs,rel,dd⟩:=dt_of I.hok e
  have hz:xs.length<=sizeLine:=by rw [<- Paired.length rel]; exact z
  have hl:(putK kvs k v).length<=sizeLine:=by have:=length_putK kvs k v; omega
  refine wpAny_setItem_heap (hsz:=hz) (tupleKind_room_in1 hu) (key_of I.hok eb) dd fun h' dd' hs=>h _ ?_
  obtain ⟨q,es,ep,hq,h2,h3,h4,_,h5⟩:=dd'
  refine d_write I (by rw [e]; exact True.intro) hs ⟨q,hq⟩ ⟨hl,hd,_,(rel.put k eb rv).keeps fun c ys ec=>?_,q,es,ep,hq,h2,h3,h4,h5⟩
  rw [upd_ne (ne_of ec e (fun z=>nomatch z))]
  exact ec
end
def NoSl (i:Expr):Prop:=∀ ov iv,subscripted i false ov iv=operate [ov,iv] (getItem ov iv)
theorem subD_of {prog:Program} {w:World} {A:Around} {E:Value->Shared->Prop} {s:Shared} {env:Env} {value slice:Expr} {pos:Pos} {T id:String} {Q:Value->Shared->Prop}
  (hl:typeLookup (.type T) "__getitem__" = pure (some (.builtin id))) (hs:NoSl slice)
  (h:wpAny (model prog w) A (eval value env) (fun o s₁=>wpAny (model prog w) A (eval slice env) (fun i s₂=>s₂.TypeIs o T/\wpAny (model prog w) A (getItem o i) Q E s₂) E s₁) E s) :
  wpAny (model prog w) A (eval (.Subscript value slice pos) env) Q E s:=by
 refine Subscript_ (wpAny_mono h (fun o s₁ h₁=>wpAny_mono h₁ (fun i s₂ h₂=>?_) fun _ _ x=>x) fun _ _ x=>x)
 obtain ⟨hT,h₂⟩:=h₂
 unfold subscriptTail
 refine wpAny_bind ?_
 rw [getitemInPython_of_ne hT.not_modules]
 refine wpAny_bind (wpAny_specialOf hT hl ?_)
 have fin:wpAny (model prog w) A (subscripted slice false o i) (fun r s₃=>wpAny (model prog w) A (letTemporaryGo value o r >>= fun _=>pure r) Q E s₃) E s₂:=by
  rw [hs o i]
  exact wpAny_operating (wpAny_mono h₂ (fun r s₃ h₃=>wpAny_bind (wpAny_letTemporaryGo (wpAny_pure h₃))) fun _ _ x=>x)
 first
  | exact wpAny_pure (wpAny_bind fin)
  | exact wpAny_bind (wpAny_pure (wpAny_bind fin))
  | exact wpAny_bind fin
theorem dict_typeIs {X:Cx} {pins:List (Addr × Obj)} {σ:St} {H:Hp} {s:Shared} {a:Addr} {y:V} {o:Option V} (I:Inv X pins σ H s) (g:DGet H a y o):s.TypeIs (.ref a) "dict" := by
 rcases g with ⟨kvs,k,e,_,_⟩ | ⟨kvs,k,b,e,_,_,_⟩
 ·obtain ⟨_,_,vs,_,dd⟩:=dk_rd I.hok e
  exact dd.typeIs
 ·obtain ⟨_,_,xs,_,dd⟩:=dt_rd I.hok e
  exact dd.typeIs
def tDGet (td ty:TE):TE:=fun σ H Q=>td σ H fun x H1=>ty σ H1 fun y H2=>∃ a v,x=.ref a/\DGet H2 a y (some v)/\Q v H2
def sDPut (td ty tv:TE):TS:=fun D σ H=>tv σ H fun v H1=>td σ H1 fun x H2=>ty σ H2 fun y H3=>∃ a H4,x=.ref a/\DPut H3 a y v H4/\D.nx σ H4
section
variable {X:Cx} {o i e value:Expr} {pos pos' tpos:Pos} {td ty tv:TE}
theorem pe_dget (hu:X.A.units + 1 < cLine) (ho:PE X o td) (hi:PE X i ty) (hs:NoSl i):PE X (.Subscript o i pos) (tDGet td ty):=by
 intro pins s σ H Q I h
 refine subD_of PySem.F.slot_dict_getitem.lookup hs (thn (ho pins s σ H _ I h) fun u s1 ⟨x,H1,I1,rx,q1⟩=>thn (hi pins s1 σ H1 _ I1 q1) fun iv s2 ⟨y,H2,I2,ry,a,v,ex,g,q2⟩=>?_)
 subst ex
 obtain rfl:u=Value.ref a:=rx
 exact ⟨dict_typeIs I2 g,d_getItem hu I2 g ry fun w' s3 I3 rw'=>⟨v,H2,I3,rw',q2⟩⟩
theorem ps_dput (hu:X.A.units + 1 < cLine) (ho:PE X o td) (hi:PE X i ty) (hv:PE X value tv) (hs:swapsWith value (some (.Subscript o i pos')) pos.line X.env=pure false) :
  PS X (.Assign [.Subscript o i pos'] value pos) (sDPut td ty tv):=by
 intro pins s σ H D I h
 refine wpAny_Assign_Subscript (thn (hv pins s σ H _ I h) fun r s1 ⟨v,H1,I1,rv,q1⟩=>thn (ho pins s1 σ H1 _ I1 q1) fun u s2 ⟨x,H2,I2,rx,q2⟩=>thn (hi pins s2 σ H2 _ I2 q2) fun iv s3 ⟨y,H3,I3,ry,a,H4,ex,g,q3⟩=>?_) hs
 subst ex
 obtain rfl:u=Value.ref a:=rx
 exact d_setItem hu I3 g ry rv fun s4 I4=>⟨σ,H4,I4,q3⟩
end
theorem dk_empty {P:Program} {w:World} {H:Hp} (h:Heap) (hb:sysModules < h.objs.size):ObjOk P w H (h.push { cls:=.type "dict",data:=.dict #[] }) h.objs.size (.dK []) :=
 ⟨Nat.zero_le _,beq_eq_false_iff_ne.mpr (Ne.symm (Nat.ne_of_lt hb)),[],.nil,Heap.DictOf.new h⟩
def tPairs:List (TE × TE)->St->Hp->(List (V × V)->Hp->Prop)->Prop
 | [],_,H,Q=>Q [] H
 | (tk,tv)::r,σ,H,Q=>tk σ H fun x H1=>tv σ H1 fun y H2=>tPairs r σ H2 fun ps H3=>Q ((x,y)::ps) H3
abbrev VV:List (V × V)->List (Value × Value)->Prop:=Paired fun p q=>RelV p.1 q.1/\RelV p.2 q.2
def PPs (X:Cx) (pos:Pos) (keys:List (Option Expr)) (values:List Expr) (trs:List (TE × TE)):Prop :=
 ∀ (pins:List (Addr × Obj)) (s:Shared) (σ:St) (H:Hp) (Q:List (V × V)->Hp->Prop),Inv X pins σ H s->tPairs trs σ H Q ->
  wpAny (model X.prog X.w) X.A (evalPairs (pairTrees keys values X.env pos)) (fun vs s'=>∃ ps H',Inv X pins σ H' s'/\VV ps vs/\Q ps H') X.xe s
theorem pps_nil {X:Cx} {pos:Pos}:PPs X pos [] [] []:=fun pins s σ H Q I h=>pairTrees_nil_walk ⟨[],H,I,.nil,h⟩
theorem pps_cons {X:Cx} {pos:Pos} {k v:Expr} {ks:List (Option Expr)} {vs:List Expr} {tk tv:TE} {trs:List (TE × TE)} (hk:PE X k tk) (hv:PE X v tv) (hr:PPs X pos ks vs trs) :
  PPs X pos (some k::ks) (v::vs) ((tk,tv)::trs):=fun pins s σ H Q I h =>
 pairTrees_cons_walk (thn (hk pins s σ H _ I h) fun u s1 ⟨x,H1,I1,rx,q1⟩=>thn (hv pins s1 σ H1 _ I1 q1) fun w2 s2 ⟨y,H2,I2,ry,q2⟩ =>
  thn (hr pins s2 σ H2 _ I2 q2) fun ws s3 ⟨ps,H3,I3,rel,q3⟩=>⟨(x,y)::ps,H3,I3,.cons ⟨rx,ry⟩ rel,q3⟩)
def mergeK (kvs more:List (Key × V)):List (Key × V):=more.foldl (fun acc kv=>putK acc kv.1 kv.2) kvs
theorem KV.merge:∀ {more:List (Key × V)} {rs:List (Key × Value)} {kvs:List (Key × V)} {vs:List (Key × Value)},KV more rs->KV kvs vs->KV (mergeK kvs more) (merged vs rs):=by
 intro more rs kvs vs r
 unfold KV at r
 induction r generalizing kvs vs with
 | nil=>intro q; exact q
 | @cons p q ps qs h t ih =>
  intro r0
  have e:KV (putK kvs p.1 p.2) (stored vs q.1 q.2):=by
   have:=r0.put p.1 h.2
   rw [<- h.1]; exact this
  exact ih e
theorem length_mergeK:∀ (more kvs:List (Key × V)),(mergeK kvs more).length<=kvs.length + more.length
 | [],kvs=>by show kvs.length<=kvs.length + 0; omega
 | p::r,kvs=>by
  have h1:=length_mergeK r (putK kvs p.1 p.2)
  have h2:=length_putK kvs p.1 p.2
  show (mergeK (putK kvs p.1 p.2) r).length<=_
  rw [List.length_cons]; omega
theorem carries_of {P:Program} {w:World}:∀ {kvs:List (Key × V)} {ws:List (Value × Value)},VV (kvs.map fun kv=>(kV kv.1,kv.2)) ws->∃ rs,Carries (mixKind P w) ws rs/\KV kvs rs
 | [],_,r=>by rw [List.map_nil] at r; cases r; exact ⟨[],True.intro,.nil⟩
 | p::kvs,_,r=>by
  rw [List.map_cons] at r
  cases r with
  | @cons a b as bs h t =>
   obtain ⟨rs,c,q⟩:=carries_of (P:=P) (w:=w) t
   obtain ⟨b1,b2⟩:=b
   exact ⟨(p.1,b2)::rs,⟨kV_is h.1,rfl,c⟩,.cons ⟨rfl,h.2⟩ q⟩
def tDisp (trs:List (TE × TE)):TE:=fun σ H Q=>∀ p,H p=none->tPairs trs σ (upd H p (.dK [])) fun ps H2=>H2 p=some (.dK [])/\∃ kvs:List (Key × V),ps=kvs.map (fun kv=>(kV kv.1,kv.2))/\kvs.length<=15/\Q (.ref p) (upd H2 p (.dK (mergeK [] kvs)))
theorem pe_disp {X:Cx} {pos:Pos} {keys:List (Option Expr)} {values:List Expr} {trs:List (TE × TE)} (h:PPs X pos keys values trs) (hall:keys.all (·.isSome)=true) (hl:keys.length=values.length) (h0:keys≠[])
  (h15:keys.length<=15):PE X (.Dict keys values pos) (tDisp trs):=by
 intro pins s σ H Q I q
 have hn:=I.hok.fresh (Nat.le_refl s.heap.objs.size)
 have I1:=I.laid (a:=s.heap.objs.size) (o:=.dK []) (h':=s.heap.push { cls:=.type "dict",data:=.dict #[] }) (t':=s.toks) (fun _ _ q=>Heap.get?_push_of_some _ q) (Nat.le_refl _) (dk_empty s.heap I.big)
 refine wpAny_Dict_walk (knd:=mixKind X.prog X.w) hall hl h0 h15 (thn (h pins _ σ _ _ I1 (q _ hn)) fun ws s2 ⟨ps,H2,I2,rel,e,kvs,ep,lk,q2⟩=>?_)
 subst ep
 obtain ⟨rs,c,rk⟩:=carries_of (P:=X.prog) (w:=X.w) rel
 obtain ⟨z,hd,vs0,r0,dd⟩:=dk_of I2.hok e
 cases r0
 refine ⟨rs,c,dd,fun h' dd' hs=>⟨.ref s.heap.objs.size,_,?_,rfl,q2⟩⟩
 have hz:(mergeK [] kvs).length<=sizeLine:=by
  have h1:=length_mergeK kvs []
  rw [List.length_nil] at h1
  rw [sizeLine_eq]; omega
 have he:∃ q,h'.get? s.heap.objs.size=some q:=let ⟨q,_,_,hq,_⟩:=dd'; ⟨q,hq⟩
 exact d_write I2 (by rw [e]; exact True.intro) hs he (dk_new hz hd (rk.merge .nil) dd')
end L2
namespace PySem
open Sem (wp)
open AutoSeq1 (wpAny_loadPart')
end PySem
namespace L2
open PySem PySem.Spec PyProof.Rows
section
variable {X:Cx} {o i e f value:Expr} {td ty tv tx to ti te:TE} {pos pos' apos cpos:Pos}
theorem qe_dget (hu:X.A.units + 1 < cLine) (ho:QE X o td) (hi:QE X i ty) (hs:NoSl i):QE X (.Subscript o i pos) (tDGet td ty):=⟨pe_dget hu ho.run hi.run hs⟩
theorem qs_dput (hu:X.A.units + 1 < cLine) (ho:QE X o td) (hi:QE X i ty) (hv:QE X value tv) (hs:swapsWith value (some (.Subscript o i pos')) pos.line X.env=pure false:=by rfl):QS X (.Assign [.Subscript o i pos'] value pos) (sDPut td ty tv):=⟨ps_dput hu ho.run hi.run hv.run hs⟩
theorem IntsAre.of_vals:∀ {ns:List Int} {us:List Value},Vals (ns.map V.int) us->IntsAre us ns
 | [],us,h=>by cases h; exact .nil
 | n::ns,us,h=>by
  cases h with
  | cons r t =>
   obtain ⟨tk,rfl⟩:=r
   exact .cons n tk (IntsAre.of_vals t)
theorem Vals.of_ints:∀ {ns:List Int} {us:List Value},IntsAre us ns->Vals (ns.map V.int) us
 | _,_,.nil=>.nil
 | _,_,.cons n t r=>.cons ⟨t,rfl⟩ (Vals.of_ints r)
theorem call_sortedL (K:W.Frag) (hk:X.K=K:=by rfl):CallR X (.builtin "sorted") (fun xs H Q=>∃ (p:Addr) (ns:List Int),xs=[.ref p]/\SqL K H p (ns.map V.int)/\ns.length < 64/\∀ (l:Addr) (ms:List Int),ms.Perm ns->ms.Pairwise (·<=·)->H l=none->Q (.ref l) (upd H l (.lst (ms.map V.int)))):=by
 subst hk
 intro pins s σ H xs us Q I r h
 obtain ⟨p,ns,rfl,hp,h64,q⟩:=h
 obtain ⟨u,rfl,ru⟩:=vals1 r
 cases ru
 obtain ⟨its,rv,ht,hz⟩:=I.list hp
 have hl:=rv.length
 rw [List.length_map] at hl
 refine sorted_ints ht.isList (IntsAre.of_vals rv) (by omega) fun out ms h1 h2 h3=>?_
 have hm:=h2.length_eq
 have hv:Vals (ms.map V.int) out.toList:=Vals.of_ints h1
 have hsz:(ms.map V.int).length<=sizeLine:=by rw [List.length_map,show sizeLine=16777216 by decide]; omega
 have kp:∀ b o,s.heap.get? b=some o->(sortedAll s.heap its out).get? b=some o:=fun b o e=>sortedAll_old e
 have nw:=sortedAll_at s.heap its out
 obtain ⟨n,nw⟩:=nw
 refine ⟨.ref (s.heap.objs.size + 1),_,I.laid (t':=s.toks) (o:=.lst (ms.map V.int)) kp (Nat.le_succ _) ⟨hsz,out.toList,n,hv,by simpa using nw⟩,rfl,q _ ms h2 h3 (I.hok.fresh (Nat.le_succ _))⟩
end
end L2
namespace PySem
open Sem (wp)
end PySem
namespace L2
open PySem PySem.Spec PyProof.Rows
end L2
namespace PySem
open Sem (wp)
open AutoSeq1 (wpAny_loadPart')
section
variable {prog:Program} {w:World} {A:Around} {E:Value->Shared->Prop} {s:Shared}
theorem nextT_item {it t:Addr} {i:Nat} {xs:Array Value} {x:Value} {Q:Value->Shared->Prop} (hi:s.heap.IsTupleIter it t i) (ht:s.heap.IsTuple t xs) (hx:xs[i]? = some x)
  (q:∀ h',h'.IsTupleIter it t (i + 1)->Heap.SameBut it s.heap h'->Q x { s with heap:=h' }):wpAny (model prog w) A (Builtin.SmallTypes.nextOf (.ref it)) Q E s:=by
 obtain ⟨ob,e1,c1,d1⟩:=id hi
 obtain ⟨ot,e2,_,n2,d2⟩:=ht
 have nn:¬ ((Value.ref t == Value.none)=true):=Bool.false_ne_true
 unfold Builtin.SmallTypes.nextOf
 refine wpAny_bind (wpAny_callSpecial?_slot (name:=Str.ofString "__next__") hi.typeIs F.slot_tuple_iterator_next (wpAny_call_entry F.slot_tuple_iterator_next hi.typeIs F.entry_tuple_iterator_next ?_ (F.args_tuple_iterator_next_1 _)))
 show wpAny _ _ (field (.ref it) 0 >>= _) _ _ _
 refine wpAny_bind (wpAny_field e1 d1 (x:=.ref t) rfl ?_)
 show wpAny _ _ (if (Value.ref t == Value.none)=true then _ else _) _ _ _
 rw [if_neg nn]
 show wpAny _ _ (field (.ref it) 1 >>= _) _ _ _
 refine wpAny_bind (wpAny_field e1 d1 (x:=.int i 0) rfl (wpAny_bind (wpAny_seqItems e2 d2 ?_)))
 simp only [Int.toNat_natCast,hx]
 refine wpAny_bind (wpAny_setField e1 d1 (by simp) (wpAny_pure ⟨x,rfl,wpAny_pure (q _ ?_ (Heap.SameBut.update ..))⟩))
 refine ⟨_,Heap.get?_update_self _ e1 (Obj.isFreed_of_fields (Obj.data_mapFields d1 _)),(Obj.cls_mapFields ..).trans c1,?_⟩
 rw [Obj.data_mapFields d1]
 simp [rawInt]
theorem nextT_end {it t:Addr} {i:Nat} {xs:Array Value} {Q:Value->Shared->Prop} (hh:A.handled=none) (hi:s.heap.IsTupleIter it t i) (ht:s.heap.IsTuple t xs) (hx:xs[i]? = none)
  (q:∀ h' e,Heap.ExtBut it s.heap h'->(∃ o,h'.get? e=some o/\o.cls=.type "StopIteration")->E (.ref e) { s with heap:=h' }):wpAny (model prog w) A (Builtin.SmallTypes.nextOf (.ref it)) Q E s:=by
 obtain ⟨ob,e1,c1,d1⟩:=id hi
 obtain ⟨ot,e2,_,n2,d2⟩:=ht
 have nn:¬ ((Value.ref t == Value.none)=true):=Bool.false_ne_true
 unfold Builtin.SmallTypes.nextOf
 refine wpAny_bind (wpAny_callSpecial?_slot (name:=Str.ofString "__next__") hi.typeIs F.slot_tuple_iterator_next (wpAny_call_entry F.slot_tuple_iterator_next hi.typeIs F.entry_tuple_iterator_next ?_ (F.args_tuple_iterator_next_1 _)))
 show wpAny _ _ (field (.ref it) 0 >>= _) _ _ _
 refine wpAny_bind (wpAny_field e1 d1 (x:=.ref t) rfl ?_)
 show wpAny _ _ (if (Value.ref t == Value.none)=true then _ else _) _ _ _
 rw [if_neg nn]
 show wpAny _ _ (field (.ref it) 1 >>= _) _ _ _
 refine wpAny_bind (wpAny_field e1 d1 (x:=.int i 0) rfl (wpAny_bind (wpAny_seqItems e2 d2 ?_)))
 simp only [Int.toNat_natCast,hx]
 refine wpAny_bind (wpAny_rule (wpAny_bind (wpAny_setField e1 d1 (by simp) (wpAny_bind ?_))))
 simp only [newExc,newTuple]
 refine wpAny_bind (wpAny_newObj_type (wpAny_bind (m:=firstArgMember _ _) (wpAny_of_eq (a:=Value.none) (by first | rfl | (simp only [firstArgMember]; rfl)) (wpAny_newObj_type ?_ (by size_fits)))) (by size_fits))
 simp only [raiseNew]
 refine wpAny_bind (wpAny_handled ?_)
 first | rw [show A.in1.handled=none from hh] | rw [hh]
 exact wpAny_bind (wpAny_pure (wpAny_throw (q _ _ (((Heap.SameBut.update ..).extBut.push _).push _) ⟨_,Heap.get?_push_size _ rfl,rfl⟩)))
theorem enumT_next {e it t:Addr} {i:Nat} {xs:Array Value} {x old:Value} {Q:Value->Shared->Prop} (he:IsEnum s.heap e it i old) (hi:s.heap.IsTupleIter it t i) (ht:s.heap.IsTuple t xs) (hx:xs[i]? = some x) (hne:e≠it)
  (q:∀ h',IsEnumOut h' e it ((i:Int) + 1) x s.heap.objs.size->h'.IsTupleIter it t (i + 1)->h'.get? s.heap.objs.size=some { cls:=.type "tuple",data:=.seq #[.int i s.toks,x] } ->
   (∀ b o,b≠e->b≠it->s.heap.get? b=some o->h'.get? b=some o)->Q (.ref s.heap.objs.size) { s with heap:=h',toks:=s.toks + 1 }) :
  wpAny (model prog w) A (Builtin.«enumerate.__next__» ⟨[.ref e],[]⟩) (fun fin s'=>∃ v,fin=.done (.ret v)/\Q v s') E s:=by
 obtain ⟨hp,g,d,tk,os⟩:=s
 show wpAny _ _ (field (.ref e) 2 >>= _) _ _ _
 refine wpAny_bind (wpAny_field he rfl (x:=.ref it) rfl (wpAny_bind (nextT_item hi ht hx fun k1 i1 (b1:Heap.SameBut it hp k1)=>?_)))
 have e1:IsEnum k1 e it i old:=(b1.2 e hne).trans he
 refine wpAny_bind (wpAny_field e1 rfl (x:=rawInt i) rfl (wpAny_bind (wpAny_field e1 rfl (x:=.none) rfl ?_)))
 show wpAny _ _ (mkInt i >>= _) _ _ ⟨k1,g,d,tk,os⟩
 refine wpAny_bind (wpAny_mkInt (wpAny_bind (wpAny_setField_rec (x:=rawInt ((i:Int) + 1)) e1 (by simp) fun k2 e2 b2=>?_)))
 replace b2:Heap.SameBut e k1 k2:=b2
 replace e2:IsEnum k2 e it ((i:Int) + 1) old:=e2
 refine wpAny_bind (wpAny_setField_rec (x:=.none) e2 (by simp) fun k3 e3 b3=>?_)
 replace b3:Heap.SameBut e k2 k3:=b3
 replace e3:IsEnum k3 e it ((i:Int) + 1) old:=e3
 show wpAny _ _ (newTuple [.int i tk,x] >>= _) _ _ ⟨k3,g,d,tk + 1,os⟩
 refine wpAny_bind (wpAny_newTuple ?_)
 have sz:k3.objs.size=hp.objs.size:=by rw [b3.1,b2.1,b1.1]
 have el:hp.objs.size≠e:=Nat.ne_of_gt (Heap.lt_size he)
 have e4:IsEnum (k3.push { cls:=.type "tuple",data:=.seq #[.int i tk,x] }) e it ((i:Int) + 1) old:=Heap.get?_push_of_some _ e3
 have t4:(k3.push { cls:=.type "tuple",data:=.seq #[.int i tk,x] }).get? hp.objs.size=some { cls:=.type "tuple",data:=.seq #[.int i tk,x] }:=by rw [<- sz]; exact Heap.get?_push_size _ rfl
 have old4:∀ b o,b≠e->b≠it->hp.get? b=some o->(k3.push { cls:=.type "tuple",data:=.seq #[.int i tk,x] }).get? b=some o:=fun b o h1 h2 h3=>Heap.get?_push_of_some _ (b3.extBut b o h1 (b2.extBut b o h1 (b1.extBut b o h2 h3)))
 have i4:(k3.push { cls:=.type "tuple",data:=.seq #[.int i tk,x] }).IsTupleIter it t (i + 1):=by
  obtain ⟨o,ho,r⟩:=i1
  exact ⟨o,Heap.get?_push_of_some _ (b3.extBut it o (Ne.symm hne) (b2.extBut it o (Ne.symm hne) ho)),r⟩
 rw [sz]
 generalize k3.push { cls:=.type "tuple",data:=.seq #[.int i tk,x] }=k4 at e4 t4 old4 i4 ⊢
 show wpAny _ _ (Builtin.SmallTypes.ownedTupleIsFree (.ref e) >>= _) _ _ ⟨k4,g,d,tk + 1,os⟩
 refine wpAny_bind ?_
 unfold Builtin.SmallTypes.ownedTupleIsFree
 refine wpAny_bind (wpAny_field e4 rfl (x:=.none) rfl (wpAny_pure ?_))
 simp only [if_true]
 refine wpAny_bind (wpAny_rule (wpAny_bind (wpAny_field e4 rfl (x:=old) rfl (wpAny_bind (wpAny_setField_rec (x:=x) e4 (by simp) fun k5 e5 b5=>?_)))))
 replace b5:Heap.SameBut e k4 k5:=b5
 replace e5:IsEnum k5 e it ((i:Int) + 1) x:=e5
 show wpAny _ _ (Builtin.SmallTypes.ownedTupleHandOut (.ref e) (.ref hp.objs.size) >>= _) _ _ ⟨k5,g,d,tk + 1,os⟩
 refine wpAny_bind ?_
 unfold Builtin.SmallTypes.ownedTupleHandOut
 refine wpAny_bind (wpAny_setField_rec (x:=rawInt (hp.objs.size:Nat)) e5 (by simp) fun k6 e6 b6=>?_)
 replace b6:Heap.SameBut e k5 k6:=b6
 replace e6:IsEnumOut k6 e it ((i:Int) + 1) x hp.objs.size:=e6
 refine wpAny_setField_rec e6 (by simp) fun k7 e7 b7=>?_
 replace b7:Heap.SameBut e k6 k7:=b7
 have all7:∀ b o,b≠e->k4.get? b=some o->k7.get? b=some o:=fun b o h1 h2=>b7.extBut b o h1 (b6.extBut b o h1 (b5.extBut b o h1 h2))
 refine wpAny_bind (wpAny_letGo (wpAny_pure ⟨_,rfl,q k7 e7 ?_ (all7 _ _ el t4) fun b o h1 h2 h3=>all7 b o h1 (old4 b o h1 h2 h3)⟩))
 obtain ⟨o,ho,r⟩:=i4
 exact ⟨o,all7 it o (Ne.symm hne) ho,r⟩
theorem pyNext_enumT {e it t:Addr} {i:Nat} {xs:Array Value} {x old:Value} {Q:Option Value->Shared->Prop} (he:IsEnum s.heap e it i old) (hi:s.heap.IsTupleIter it t i) (ht:s.heap.IsTuple t xs) (hx:xs[i]? = some x) (hne:e≠it)
  (q:∀ h',IsEnumOut h' e it ((i:Int) + 1) x s.heap.objs.size->h'.IsTupleIter it t (i + 1)->h'.get? s.heap.objs.size=some { cls:=.type "tuple",data:=.seq #[.int i s.toks,x] } ->
   (∀ b o,b≠e->b≠it->s.heap.get? b=some o->h'.get? b=some o)->Q (some (.ref s.heap.objs.size)) { s with heap:=h',toks:=s.toks + 1 }) :
  wpAny (model prog w) A (pyNext (.ref e)) Q E s:=by
 have ty:s.TypeIs (.ref e) "enumerate" := ⟨_,he,rfl⟩
 unfold pyNext
 refine wpAny_bind (wpAny_attempt (wpAny_callSpecial?_slot (name:=Str.ofString "__next__") ty F.slot_enumerate_next (wpAny_call_entry F.slot_enumerate_next ty F.entry_enumerate_next ?_ (F.args_enumerate_next_1 _))))
 exact enumT_next he hi ht hx hne fun h' a b c k=>wpAny_pure (q h' a b c k)
theorem pyNext_enumT_end {e it t:Addr} {i:Nat} {xs:Array Value} {old:Value} {Q:Option Value->Shared->Prop} (hh:A.handled=none) (he:IsEnum s.heap e it i old) (hi:s.heap.IsTupleIter it t i) (ht:s.heap.IsTuple t xs) (hx:xs[i]? = none)
  (q:∀ h',Heap.ExtBut it s.heap h'->Q none { s with heap:=h' }):wpAny (model prog w) A (pyNext (.ref e)) Q E s:=by
 have ty:s.TypeIs (.ref e) "enumerate" := ⟨_,he,rfl⟩
 unfold pyNext
 refine wpAny_bind (wpAny_attempt (wpAny_callSpecial?_slot (name:=Str.ofString "__next__") ty F.slot_enumerate_next (wpAny_call_entry F.slot_enumerate_next ty F.entry_enumerate_next ?_ (F.args_enumerate_next_1 _))))
 show wpAny _ _ (field (.ref e) 2 >>= _) _ _ _
 refine wpAny_bind (wpAny_field he rfl (x:=.ref it) rfl (wpAny_bind (nextT_end hh hi ht hx fun h' x ex ⟨o,ho,hc⟩=>?_)))
 exact wpAny_bind (wpAny_isInstance (T := "StopIteration") (b:=true) ⟨o,ho,hc⟩ isSubtype_stop (wpAny_pure (q _ ex)))
theorem enum_newT (l:Addr) (items:Array Value) (n:Nat) (dct:Option Addr) (sl:Array (Option Value)) :
  Meets (Builtin.«enumerate.__new__» ⟨[.type "enumerate",.ref l],[]⟩) (fun _ R s=>s.heap.get? l=some { cls:=.type "tuple",dict:=dct,data:=.seq items n,slots:=sl } /\
   R (.ok (.ret (.ref (s.heap.push { cls:=.type "tuple_iterator",data:=.fields #[.ref l,.int 0 0] }).objs.size)))
    { s with heap:=(s.heap.push { cls:=.type "tuple_iterator",data:=.fields #[.ref l,.int 0 0] }).push { cls:=.type "enumerate",data:=.fields #[.none,.bool false,.ref s.heap.objs.size,rawInt 0,.none,.none] } }) :=
 .of_wp fun prog w A R s h=>by
  obtain ⟨hp,g,d,tk,os⟩:=s
  obtain ⟨hl,h⟩:=h
  have hsub:=sub_enumerate
  have isT:Heap.IsTuple (Shared.heap ⟨hp,g,d,tk,os⟩) l items:=⟨_,hl,rfl,n,rfl⟩
  wp_walk using wpAny_loadPart' hl
  refine wpAny_stack_any fun _=>wpAny_pure ?_
  split
  ·rename_i c _ _ _ _ _
   cases (c == Value.type "enumerate") <;> (wp_walk using wpAny_loadPart' hl,wpAny_pyIter_tuple isT; exact ⟨_,rfl,h⟩)
  ·wp_walk using wpAny_loadPart' hl,wpAny_pyIter_tuple isT
   exact ⟨_,rfl,h⟩
theorem call_enumT {l:Addr} {items:Array Value} {Q:Value->Shared->Prop} (ht:s.heap.IsTuple l items)
  (q:∀ h',IsEnum h' (s.heap.objs.size + 1) s.heap.objs.size 0 .none->h'.IsTupleIter s.heap.objs.size l 0->h'.objs.size=s.heap.objs.size + 2->(∀ b o,s.heap.get? b=some o->h'.get? b=some o)->Q (.ref (s.heap.objs.size + 1)) { s with heap:=h' }) :
  wpAny (model prog w) A (call (.type "enumerate") [.ref l]) Q E s:=by
 obtain ⟨⟨c,dct,dt,sl⟩,hl,hc,n,hd⟩:=ht
 replace hc:c=.type "tuple" := hc
 replace hd:dt=.seq items n:=hd
 subst hc hd
 refine callType_new F.called_enumerate (by decide) (F.typeCall_enumerate_1 _) (F.newCall_enumerate_1 _) (fun obj=>F.args_object_init_2 obj _) F.entry_enumerate_new (enum_newT l items n dct sl) ⟨hl,?_⟩
 have z1:(s.heap.push { cls:=.type "tuple_iterator",data:=.fields #[.ref l,.int 0 0] }).objs.size=s.heap.objs.size + 1:=Heap.size_push ..
 have g1:=Heap.get?_push_size (s.heap.push { cls:=.type "tuple_iterator",data:=.fields #[.ref l,.int 0 0] }) (o:={ cls:=.type "enumerate",data:=.fields #[.none,.bool false,.ref s.heap.objs.size,rawInt 0,.none,.none] }) rfl
 rw [z1] at g1
 show _/\_
 rw [z1]
 exact ⟨⟨_,g1,rfl⟩,q _ g1 ⟨_,Heap.get?_push_of_some _ (Heap.get?_push_size _ rfl),rfl,rfl⟩ (by rw [Heap.size_push,z1]) fun b o x=>Heap.get?_push_of_some _ (Heap.get?_push_of_some _ x)⟩
end
end PySem
namespace L2
open PySem PySem.Spec PyProof.Rows
def Ite (K:W.Frag) (a:Addr):It :=
 ⟨fun i H=>∃ xs x,SqT K H a xs/\xs[i]? = some x,fun i H x H'=>∃ T xi,x=.ref T/\H T=none/\H'=upd H T (.tup [.int (i:Nat),xi])/\∀ xs,SqT K H a xs->xs[i]? = some xi,fun i H=>∃ xs,SqT K H a xs/\xs.length<=i⟩
theorem turn_enumT {P:Program} {w:World} {K:W.Frag} {elts:List Expr} {k:Nat} {pos:Pos} (a e it:Addr) (hne:e≠it):Turn P w K (.Tuple elts k pos) (Ite K a) [e,it] e (fun i h=>(∃ old,IsEnum h e it (i:Nat) old)/\h.IsTupleIter it a i) where
 mem:=by simp
 obj:=fun i h st b hb=>by
  obtain ⟨⟨old,he⟩,o,ho,hc,hd⟩:=st
  rcases List.mem_cons.mp hb with z | z
  ·subst z
   exact ⟨_,he,fun v z=>by cases z⟩
  ·have z':b=it:=by simpa using z
   subst z'
   exact ⟨o,ho,fun v z=>by rw [hd] at z; cases z⟩
 keep:=fun i h h' st kp=>by
  obtain ⟨⟨old,he⟩,hi⟩:=st
  exact ⟨⟨old,kp e (by simp) _ he⟩,hi.at fun o q=>kp it (by simp) o q⟩
 item:=by
  intro X hP hw hK hc i pins s σ H E I hf st hg
  subst hP hw hK
  obtain ⟨⟨old,he⟩,hi⟩:=st
  obtain ⟨xs,x,hq,hx⟩:=hg
  obtain ⟨its,rv,p,hz⟩:=I.tuple hq
  obtain ⟨u,hu,ru⟩:=rv.get hx
  refine pyNext_enumT he hi (show s.heap.IsTuple a its.toArray from p) (x:=u) (by simpa using hu) hne fun h1 eo i1 t1 kp=>⟨_,rfl,wpAny_letOwnedTupleGo_enum eo fun h2 en sb=>?_⟩
  have elt:e < s.heap.objs.size:=Heap.lt_size he
  have ilt:it < s.heap.objs.size:=by obtain ⟨_,q,_⟩:=hi; exact Heap.lt_size q
  have kp2:∀ b o,b≠e->b≠it->s.heap.get? b=some o->h2.get? b=some o:=fun b o n1 n2 q=>(sb.2 b n1).trans (kp b o n1 n2 q)
  have i2:h2.IsTupleIter it a (i + 1):=i1.at fun o q=>(sb.2 it (Ne.symm hne)).trans q
  have t2:h2.get? s.heap.objs.size=some { cls:=.type "tuple",data:=.seq #[.int i s.toks,u] }:=(sb.2 _ (Nat.ne_of_gt elt)).trans t1
  obtain ⟨f0,f1,f2,f3,f4,f5⟩:=hf it (by simp)
  obtain ⟨g0,g1,g2,g3,g4,g5⟩:=hf e (by simp)
  obtain ⟨oi,hoi,hci,hdi⟩:=id i2
  obtain ⟨o0,ho0,_⟩:=id hi
  have m1:(s.heap.update it fun _=>oi).get? it=some oi:=Heap.get?_update_self (fun _=>oi) ho0 (Obj.isFreed_of_fields hdi)
  have I1:Inv X pins σ H { s with heap:=s.heap.update it fun _=>oi,toks:=s.toks + 1 }:=I.turned (fun b o hb q=>(Heap.get?_update_other _ _ (Ne.symm hb)).trans q) f0 f1 f3 f4 f5
  have aux:∀ b o,b≠e->(s.heap.update it fun _=>oi).get? b=some o->h2.get? b=some o:=fun b o hb q=>by
   by_cases hbi:b=it
   ·subst hbi
    rw [m1] at q
    cases q
    exact hoi
   ·exact kp2 b o hb hbi ((Heap.get?_update_other _ _ (Ne.symm hbi)).symm.trans q)
  have I2:Inv X pins σ H { s with heap:=h2,toks:=s.toks + 1 }:=Inv.turned (s:={ s with heap:=s.heap.update it fun _=>oi,toks:=s.toks + 1 }) (h':=h2) (t':=s.toks + 1) I1 aux g0 g1 g3 g4 g5
  obtain ⟨p0,p1,p2,p3,p4,p5⟩:=I.fpOk (Nat.le_refl s.heap.objs.size) (I.hok.fresh (Nat.le_refl _))
  have I3:Inv X pins σ (upd H s.heap.objs.size (.tup [.int (i:Nat),x])) { s with heap:=h2,toks:=s.toks + 1 } :=
   I2.track (o:=.tup [.int (i:Nat),x]) t2 p0 p1 p3 p4 p5 ⟨by show 2<=sizeLine; decide,[.int i s.toks,u],.cons ⟨_,rfl⟩ (.cons ru .nil),⟨_,t2,rfl,_,rfl,rfl⟩⟩
  refine ⟨.ref s.heap.objs.size,_,I3,rfl,⟨_,x,rfl,p0,rfl,fun ys hy=>by rw [I.tuple_inj hy hq]; exact hx⟩,⟨⟨u,by simpa using en⟩,i2⟩,fun b hb=>?_⟩
  have hbn:b≠s.heap.objs.size:=by
   rcases List.mem_cons.mp hb with z | z
   ·rw [z]; exact Nat.ne_of_lt elt
   ·have z':b=it:=by simpa using z
    rw [z']; exact Nat.ne_of_lt ilt
  rw [upd_ne hbn]
  exact (hf b hb).1
 done:=by
  intro X hP hw hK hc i pins s σ H E I hf st hg
  subst hP hw hK
  obtain ⟨⟨old,he⟩,hi⟩:=st
  obtain ⟨xs,hq,hx⟩:=hg
  obtain ⟨its,rv,p,hz⟩:=I.tuple hq
  obtain ⟨f0,f1,f2,f3,f4,f5⟩:=hf it (by simp)
  have hl:=rv.length
  exact pyNext_enumT_end (I.ok.hd hc) he hi (show s.heap.IsTuple a its.toArray from p) (by simp; omega) fun h' eb=>⟨rfl,I.turned (t':=s.toks) (fun b o hb q=>eb b o hb q) f0 f1 f3 f4 f5⟩
 self:=fun _ _ _ _ _ st h=>by
  obtain ⟨⟨old,he⟩,_⟩:=st
  exact wpAny_pyIter_enum he h
end L2
namespace PySem
namespace SetTable
theorem below_go (xs:Array Nat) (j:Nat):∀ (f lo hi:Nat),hi - lo<=f->lo<=hi->hi<=xs.size->xs.toList.Pairwise (· < ·)->(∀ (k:Nat) (v:Nat),k < lo->xs[k]? = some v->v < j) ->
  (∀ (k:Nat) (v:Nat),hi<=k->xs[k]? = some v->j<=v)->below.go xs j f lo hi<=xs.size/\(∀ (k:Nat) (v:Nat),k < below.go xs j f lo hi->xs[k]? = some v->v < j)/\(∀ (k:Nat) (v:Nat),below.go xs j f lo hi<=k->xs[k]? = some v->j<=v)
 | 0,lo,hi,hf,h1,h2,_,hl,hh=>by
  unfold below.go
  have e:lo=hi:=by omega
  subst e
  exact ⟨h2,hl,hh⟩
 | f + 1,lo,hi,hf,h1,h2,hs,hl,hh=>by
  unfold below.go
  by_cases c:lo < hi
  ·rw [if_pos c]
   dsimp only
   have hm:(lo + hi) / 2 < xs.size:=by omega
   have eg:xs.getD ((lo + hi) / 2) j=xs[(lo + hi) / 2]:=by simp [Array.getD,hm]
   rw [eg]
   have hr:∀ (a b:Nat) (va vb:Nat),a < b->xs[a]? = some va->xs[b]? = some vb->va < vb:=by
    intro a b va vb hab ea eb
    have la:a < xs.toList.length:=by
     rcases Nat.lt_or_ge a xs.toList.length with q | q
     ·exact q
     ·rw [Array.length_toList] at q; rw [Array.getElem?_eq_none q] at ea; cases ea
    have lb:b < xs.toList.length:=by
     rcases Nat.lt_or_ge b xs.toList.length with q | q
     ·exact q
     ·rw [Array.length_toList] at q; rw [Array.getElem?_eq_none q] at eb; cases eb
    have:=List.pairwise_iff_getElem.mp hs a b la lb hab
    rw [<- Array.getElem?_toList,List.getElem?_eq_getElem la] at ea
    rw [<- Array.getElem?_toList,List.getElem?_eq_getElem lb] at eb
    cases ea
    cases eb
    exact this
   have em:xs[(lo + hi) / 2]? = some xs[(lo + hi) / 2]:=by simp [hm]
   by_cases d:xs[(lo + hi) / 2] < j
   ·rw [if_pos d]
    refine below_go xs j f _ hi (by omega) (by omega) h2 hs (fun k v hk e=>?_) hh
    by_cases q:k=(lo + hi) / 2
    ·subst q; rw [em] at e; cases e; exact d
    ·exact Nat.lt_trans (hr k _ v _ (by omega) e em) d
   ·rw [if_neg d]
    refine below_go xs j f lo _ (by omega) (by omega) (by omega) hs hl fun k v hk e=>?_
    by_cases q:k=(lo + hi) / 2
    ·subst q; rw [em] at e; cases e; omega
    ·have:=hr _ k _ v (by omega) em e
     omega
  ·rw [if_neg c]
   have e:lo=hi:=by omega
   subst e
   exact ⟨h2,hl,hh⟩
theorem below_spec {xs:Array Nat} (j:Nat) (hs:xs.toList.Pairwise (· < ·)):below xs j<=xs.size/\(∀ (k:Nat) (v:Nat),k < below xs j->xs[k]? = some v->v < j)/\(∀ (k:Nat) (v:Nat),below xs j<=k->xs[k]? = some v->j<=v) :=
 below_go xs j xs.size 0 xs.size (by omega) (by omega) (Nat.le_refl _) hs (fun k v h=>absurd h (by omega)) (fun k v h e=>by rw [Array.getElem?_eq_none h] at e; cases e)
theorem insert_rising {xs:Array Nat} {j:Nat} (hs:xs.toList.Pairwise (· < ·)) (hn:xs[below xs j]? ≠ some j):(insertAt xs (below xs j) j).toList.Pairwise (· < ·):=by
 obtain ⟨a,b,c⟩:=below_spec j hs
 rw [toList_insertAt]
 have ht:∀ v∈xs.toList.take (below xs j),v < j:=by
  intro v hv
  obtain ⟨k,hk,e⟩:=List.getElem_of_mem hv
  rw [List.length_take] at hk
  rw [List.getElem_take] at e
  exact b k v (by omega) (by rw [<- Array.getElem?_toList,List.getElem?_eq_getElem (by omega)]; rw [e])
 have hd:∀ v∈xs.toList.drop (below xs j),j < v:=by
  intro v hv
  obtain ⟨k,hk,e⟩:=List.getElem_of_mem hv
  rw [List.length_drop] at hk
  rw [List.getElem_drop] at e
  have e':xs[below xs j + k]? = some v:=by rw [<- Array.getElem?_toList,List.getElem?_eq_getElem (by omega)]; rw [e]
  have h1:=c (below xs j + k) v (by omega) e'
  rcases Nat.lt_or_eq_of_le h1 with q | q
  ·exact q
  ·subst q
   exfalso
   rcases Nat.eq_zero_or_pos k with z | z
   ·subst z; exact hn e'
   ·have l0:below xs j < xs.toList.length:=by omega
    have:=List.pairwise_iff_getElem.mp hs (below xs j) (below xs j + k) l0 (by omega) (by omega)
    rw [e] at this
    have h2:=c (below xs j) _ (Nat.le_refl _) (by rw [<- Array.getElem?_toList,List.getElem?_eq_getElem l0])
    omega
 rw [List.pairwise_append]
 refine ⟨hs.sublist (List.take_sublist _ _),List.pairwise_cons.mpr ⟨hd,hs.sublist (List.drop_sublist _ _)⟩,fun x hx y hy=>?_⟩
 rcases List.mem_cons.mp hy with rfl | hy
 ·exact ht x hx
 ·exact Nat.lt_trans (ht x hx) (hd y hy)
theorem probe_free (t:SetTable) (f:Nat->Int) (h:Int):∀ (n:Nat) (p:Probe) (j:Nat) (d:Option Nat),(∀ k,p.dummy=some k->t.place[below t.place k]? ≠ some k) ->
  probe.go t f h n p=some (.empty j d)->t.place[below t.place (d.getD j)]? ≠ some (d.getD j)
 | 0,p,j,d,_,e=>by unfold probe.go at e; cases e
 | n + 1,p,j,d,hp,e=>by
  unfold probe.go at e
  have adv:∀ p:Probe,(t.advance p).dummy=p.dummy:=fun p=>by unfold advance; split <;> rfl
  have nl:∀ k,(∀ i,t.slot k≠.live i)->t.place[below t.place k]? ≠ some k:=fun k q z=>q (below t.place k) (by unfold slot; dsimp only; rw [z]; simp)
  cases hs:t.slot p.j with
  | empty =>
   rw [hs] at e
   cases e
   cases hd:p.dummy with
   | none=>exact nl p.j fun i z=>by rw [hs] at z; cases z
   | some k=>exact hp k hd
  | dummy =>
   rw [hs] at e
   refine probe_free t f h n _ j d (fun k hk=>?_) e
   rw [adv] at hk
   cases hk
   exact nl _ fun i z=>by rw [hs] at z; cases z
  | live i =>
   rw [hs] at e
   dsimp only at e
   split at e
   ·cases e
   ·exact probe_free t f h n _ j d (fun k hk=>hp k (by rw [adv] at hk; exact hk)) e
def Good (b:Bool) (t:SetTable):Prop:=t.led=b/\(t.plain=true->t.place.toList.Pairwise (· < ·))
variable {b:Bool} {t:SetTable}
theorem Good.stand (g:Good b t) (n:Nat):Good b (t.standIn n):=⟨g.1,fun z=>by cases z⟩
theorem Good.or (g:Good b t) (n:Nat):Good b (t.orStandIn n):=by
 unfold orStandIn
 split
 ·exact g
 ·exact g.stand n
theorem Good.off (g:Good b t):Good b { t with plain:=false }:=⟨g.1,fun z=>by cases z⟩
end SetTable
open SetTable in
theorem layNew_good {b:Bool} {t:SetTable} (g:Good b t) (es:Array (Int × Value)) (h:Int) (x:Value):Good b (layNew t es h x).2.1:=by
 unfold layNew
 cases e:t.freeSlot h with
 | none=>exact g.stand _
 | some q =>
  obtain ⟨slot,was⟩:=q
  dsimp only
  refine Good.or (t:=(t.put slot).1) ⟨g.1,fun z=>?_⟩ _
  have hs:=g.2 z
  refine insert_rising hs ?_
  unfold freeSlot at e
  unfold probe at e
  split at e
  ·rename_i j d hp
   cases e
   exact probe_free t _ h _ _ j d (fun k hk=>by cases hk) hp
  ·cases e
open SetTable in
theorem relayAll_good {b:Bool} {t:SetTable} (g:Good b t) (es:Array (Int × Value)) (n:Nat):Good b (relayAll t es n).2.1:=by
 unfold relayAll
 cases e:t.relaid (es.map (·.1)) n with
 | none=>exact g.stand _
 | some q =>
  obtain ⟨t',o⟩:=q
  dsimp only
  split
  ·unfold relaid laid at e
   cases hl:layClean (sizeAbove n - 1) (es.map (·.1)) with
   | none=>rw [hl] at e; cases e
   | some ow =>
    rw [hl] at e
    simp only [Option.bind_eq_bind,Option.bind_some,Option.pure_def,Option.some.injEq,Prod.mk.injEq] at e
    obtain ⟨rfl,_⟩:=e
    refine ⟨g.1,fun _=>?_⟩
    simp only [List.pairwise_map]
    refine List.Pairwise.filterMap (R:=(· < ·)) _ (fun a a' h c hc c' hc'=>?_) List.pairwise_lt_range
    cases h1:ow.getD a none with
    | none=>rw [h1] at hc; cases hc
    | some u =>
     rw [h1] at hc
     cases h2:ow.getD a' none with
     | none=>rw [h2] at hc'; cases hc'
     | some u'=>rw [h2] at hc'; cases hc; cases hc'; exact h
  ·exact g.stand _
end PySem
namespace PySem
open Sem (wp)
open PyProof.Rows
def byTx (w:World):Bool:=w.params.followText "set-order"
def iOf (e:Int × Value):Option Int:=match e.2 with | .int k _=>some k | _=>none
def IEl (es:List (Int × Value)):Prop:=∀ e∈es,∃ k t,e=(hashInt k,Value.int k t)
def SetI (w:World) (a:Addr) (ns:List Int) (h:Heap):Prop :=
 ∃ o es ep t,h.get? a=some o/\o.ExactSet/\o.data=.set es ep t/\IEl es.toList/\(es.toList.filterMap iOf).Perm ns/\es.size < scanBound/\t.fits es.size=true/\SetTable.Good (!byTx w) t
section
variable {prog:Program} {w:World} {A:Around} {E:Value->Shared->Prop} {s:Shared}
theorem IEl.elems {es:List (Int × Value)} (h:IEl es):ElemsOf (intKind prog w) es:=fun e he=>by
 obtain ⟨k,t,rfl⟩:=h e he
 exact ⟨⟨k,intKind_is _ _ _ _,rfl⟩,rfl⟩
theorem IEl.perm {l l':List (Int × Value)} (h:IEl l) (p:l'.Perm l):IEl l':=fun e he=>h e (p.mem_iff.mp he)
theorem IEl.len {l:List (Int × Value)}:IEl l->(l.filterMap iOf).length=l.length:=by
 induction l with
 | nil=>intro _; rfl
 | cons e l ih =>
  intro h
  obtain ⟨k,t,rfl⟩:=h e (by simp)
  have:=ih fun e he=>h e (by simp [he])
  simp [iOf] at this ⊢
  exact this
theorem IEl.has {l:List (Int × Value)} (h:IEl l) {k:Int}:k∈l.filterMap iOf↔∃ e∈l,(intKind prog w).is k e.2=true:=by
 rw [List.mem_filterMap]
 constructor
 ·rintro ⟨e,he,q⟩
  obtain ⟨j,t,rfl⟩:=h e he
  cases q
  exact ⟨_,he,intKind_is _ _ _ _⟩
 ·rintro ⟨e,he,q⟩
  obtain ⟨j,t,rfl⟩:=h e he
  have:k=j:=(intKind prog w).inj _ _ _ q (intKind_is _ _ j t)
  subst this
  exact ⟨_,he,rfl⟩
theorem SetI.keep {a:Addr} {ns:List Int} {h h':Heap} (x:SetI w a ns h) (k:∀ o,h.get? a=some o->h'.get? a=some o):SetI w a ns h':=by
 obtain ⟨o,es,ep,t,e,r⟩:=x
 exact ⟨o,es,ep,t,k o e,r⟩
theorem SetI.type {a:Addr} {ns:List Int} (x:SetI w a ns s.heap):s.TypeIs (.ref a) "set" := by
 obtain ⟨o,es,ep,t,e,c,_⟩:=x
 exact ⟨o,e,c.1⟩
theorem SetI.put {h:Heap} {a:Addr} {o:Obj} {es es':Array (Int × Value)} {ep:Nat} {t t':SetTable} {ns:List Int} (ho:h.get? a=some o) (x:o.ExactSet) (hd:o.data=.set es ep t) (h1:IEl es'.toList)
  (h2:(es'.toList.filterMap iOf).Perm ns) (h3:es'.size < scanBound) (h4:t'.fits es'.size=true) (h5:SetTable.Good (!byTx w) t') :
  (h.update a (Obj.putSet es' t')).get? a=some { o with data:=.set es' (ep + 1) t' }/\SetI w a ns (h.update a (Obj.putSet es' t')):=by
 have g:=Heap.get?_update_self (Obj.putSet es' t') ho (by rw [putSet_of es' t' hd]; rfl)
 rw [putSet_of es' t' hd] at g
 exact ⟨g,_,es',ep + 1,t',g,x,rfl,h1,h2,h3,h4,h5⟩
theorem seti_tail {g:Bool->Sem Unit} (hg:∀ (b:Bool) (z:Shared) (R:Unit->Shared->Prop),R () z->wpAny (model prog w) A (g b) R E z) {a:Addr} {o:Obj} {es:Array (Int × Value)} {ep:Nat} {t:SetTable} (ho:s.heap.get? a=some o)
  (x:o.ExactSet) (hd:o.data=.set es ep t) {es':Array (Int × Value)} {t':SetTable} {ns:List Int} (h1:IEl es'.toList) (h2:(es'.toList.filterMap iOf).Perm ns) (h3:es'.size < scanBound) (h4:t'.fits es'.size=true) (h5:SetTable.Good (!byTx w) t')
  {was:Bool} {R:Option Bool->Shared->Prop} (h:∀ h',Heap.SameBut a s.heap h'->SetI w a ns h'->R (some true) { s with heap:=h' }) :
  wpAny (model prog w) A (storeSet a es' t' >>= fun _=>if (!was && t'.tooFull)=true then (g (relayAll t' es' (SetTable.grown es'.size)).2.2 >>= fun _=>storeSet a (relayAll t' es' (SetTable.grown es'.size)).1 (relayAll t' es' (SetTable.grown es'.size)).2.1 >>= fun _=>pure (some true)) else pure (some true)) R E s:=by
 refine wpAny_bind (wpAny_storeSet_of ho hd ?_ (fits_of_scanBound h3))
 obtain ⟨p1,p2⟩:=SetI.put (w:=w) ho x hd h1 h2 h3 h4 h5
 have b1:=Heap.SameBut.update s.heap a (Obj.putSet es' t')
 split
 ·have q1:=relayAll_perm t' es' (SetTable.grown es'.size)
  have q2:=relayAll_fits t' es' (SetTable.grown es'.size)
  have q3:=relayAll_good h5 es' (SetTable.grown es'.size)
  generalize relayAll t' es' (SetTable.grown es'.size)=z at q1 q2 q3 ⊢
  obtain ⟨ez,tz,bz⟩:=z
  dsimp only at q1 q2 q3 ⊢
  have q4:ez.size=es'.size:=by have:=q1.length_eq; simpa using this
  refine wpAny_bind (hg _ _ _ ?_)
  refine wpAny_bind (wpAny_storeSet_of p1 rfl ?_ (fits_of_scanBound (by rw [q4]; exact h3)))
  obtain ⟨_,p4⟩:=SetI.put (w:=w) p1 x rfl (h1.perm q1) ((q1.filterMap iOf).trans h2) (by rw [q4]; exact h3) q2 q3
  exact wpAny_pure (h _ (b1.trans (Heap.SameBut.update _ a _)) p4)
 ·exact wpAny_pure (h _ b1 p2)
def addN (ns:List Int) (k:Int):List Int:=if k∈ns then ns else ns++[k]
theorem seti_add {a:Addr} {ns:List Int} {k:Int} {tk:Tok} {Q:Bool->Shared->Prop} (hS:SetI w a ns s.heap) (hr:ns.length + 1 < scanBound)
  (h:∀ r h',Heap.SameBut a s.heap h'->SetI w a (addN ns k) h'->Q r { s with heap:=h' }):wpAny (model prog w) A (setAddHashed a (.int k tk) (hashInt k)) Q E s:=by
 obtain ⟨o,es,ep,t,ho,x,hd,h1,h2,h3,h4,h5⟩:=hS
 have e1:ElemsOf (intKind prog w) es.toList:=h1.elems
 have hki:(intKind prog w).is k (.int k tk)=true:=intKind_is _ _ _ _
 unfold setAddHashed setAddHashedIn
 refine wpAny_holding (wpAny_bind (wpAny_setState_of ho hd h4 ?_))
 dsimp only
 rw [byScan_of (knd:=intKind prog w) (x:=.int k tk) rfl h3 e1]
 simp only [↓reduceIte]
 unfold setAddByScan
 refine wpAny_bind (wpAny_bind (wpAny_rule (wpAny_bind (wpAny_setScan_of (knd:=intKind prog w) hki ho hd h4 e1 ?_))))
 have hlen:es.size=ns.length:=by
  have a1:=h2.length_eq
  rw [h1.len,Array.length_toList] at a1
  exact a1
 cases hf:List.findIdx? (fun e=>(intKind prog w).is k e.2) es.toList with
 | some j =>
  dsimp only
  obtain ⟨hj,hpj,_⟩:=List.findIdx?_eq_some_iff_getElem.mp hf
  have hk:k∈ns:=h2.mem_iff.mp (h1.has.mpr ⟨_,List.getElem_mem hj,hpj⟩)
  refine wpAny_pure (wpAny_pure ?_)
  have:=h false s.heap (Heap.SameBut.refl a s.heap) (by unfold addN; rw [if_pos hk]; exact ⟨o,es,ep,t,ho,x,hd,h1,h2,h3,h4,h5⟩)
  exact this
 | none =>
  dsimp only
  have hk:¬ k∈ns:=fun z=>by
   obtain ⟨e,he,q⟩:=(h1.has (prog:=prog) (w:=w)).mp (h2.mem_iff.mpr z)
   have:=List.findIdx?_eq_none_iff.mp hf e he
   rw [q] at this
   cases this
  have q1:=layNew_perm t es (hashInt k) (.int k tk)
  have q2:=layNew_fits t es (hashInt k) (.int k tk)
  have q3:=layNew_good h5 es (hashInt k) (.int k tk)
  have hgw:∀ (b:Bool) (z:Shared) (R:Unit->Shared->Prop),R () z->wpAny (model prog w) A (match b with | true=>rule "set.scan.the-table-gave-way" | false=>pure ()) R E z :=
   fun b z R hq=>by cases b <;> first | exact wpAny_pure hq | exact wpAny_rule hq
  show wpAny _ _ ((match (layNew t es (hashInt k) (.int k tk)).2.2.2 with | true=>rule "set.scan.the-table-gave-way" | false=>pure ()) >>= _) _ _ _
  generalize hz:layNew t es (hashInt k) (.int k tk)=z at q1 q2 q3 ⊢
  obtain ⟨ez,tz,was,gave⟩:=z
  dsimp only at q1 q2 q3 ⊢
  have p0:ez.toList.Perm (es.toList++[(hashInt k,Value.int k tk)]):=by rw [Array.toList_push] at q1; exact q1
  have p1:IEl ez.toList:=IEl.perm (fun e he=>by
   rcases List.mem_append.mp he with he | he
   ·exact h1 e he
   ·have:e=(hashInt k,Value.int k tk):=by simpa using he
    exact ⟨k,tk,this⟩) p0
  have p2:(ez.toList.filterMap iOf).Perm (addN ns k):=by
   refine (p0.filterMap iOf).trans ?_
   unfold addN
   rw [if_neg hk,List.filterMap_append]
   exact List.Perm.append_right _ h2
  have p3:ez.size < scanBound:=by
   have:=p0.length_eq
   rw [Array.length_toList,List.length_append,Array.length_toList] at this
   simp at this
   omega
  refine wpAny_bind (hgw _ _ _ ?_)
  have fin:∀ h',Heap.SameBut a s.heap h'->SetI w a (addN ns k) h'->Q true { s with heap:=h' }:=fun h'=>h true h'
  split
  ·refine wpAny_bind ?_
   rw [hashByValue_scannable 8 (x:=.int k tk) rfl]
   refine wpAny_pure ?_
   refine seti_tail (g:=fun b=>match b with | true=>rule "set.scan.the-table-gave-way" | false=>pure ()) hgw ho x hd p1 p2 p3 ?_ ?_ ?_
   ·split
    ·exact q2
    ·exact SetTable.fits_plain_off q2
   ·split
    ·exact q3
    ·exact q3.off
   ·intro h' a1 a2; dsimp only; exact wpAny_pure (fin h' a1 a2)
  ·refine wpAny_bind (wpAny_pure ?_)
   simp only [↓reduceIte]
   refine seti_tail (g:=fun b=>match b with | true=>rule "set.scan.the-table-gave-way" | false=>pure ()) hgw ho x hd p1 p2 p3 q2 q3 ?_
   intro h' a1 a2; dsimp only; exact wpAny_pure (fin h' a1 a2)
end
open PyProof.Rows
section
variable {prog:Program} {w:World} {A:Around} {E:Value->Shared->Prop} {s:Shared} {R:Result->Shared->Prop}
def onceN (val:Nat->Int):Nat->List Int
 | 0=>[]
 | i + 1=>addN (onceN val i) (val i)
theorem onceN_len (val:Nat->Int):∀ i,(onceN val i).length<=i
 | 0=>Nat.le_refl _
 | i + 1=>by
  have:=onceN_len val i
  unfold onceN addN
  split
  ·omega
  ·simp; omega
theorem onceN_nd (val:Nat->Int):∀ i,(onceN val i).Nodup
 | 0=>List.nodup_nil
 | i + 1=>by
  have ih:=onceN_nd val i
  unfold onceN addN
  split
  ·exact ih
  ·rename_i h
   rw [List.nodup_append]
   refine ⟨ih,by simp,fun a ha b hb=>?_⟩
   have e:b=val i:=by simpa using hb
   subst e
   exact fun z=>h (z ▸ ha)
theorem onceN_mem (val:Nat->Int) (k:Int):∀ i,k∈onceN val i↔∃ j,j < i/\val j=k
 | 0=>⟨fun h=>absurd h (by simp [onceN]),fun ⟨j,h,_⟩=>absurd h (by omega)⟩
 | i + 1=>by
  have ih:=onceN_mem val k i
  have key:k∈onceN val (i + 1)↔k∈onceN val i\/k=val i:=by
   show k∈addN (onceN val i) (val i)↔_
   unfold addN
   split
   ·rename_i h
    exact ⟨.inl,fun z=>z.elim id fun e=>e ▸ h⟩
   ·simp
  rw [key,ih]
  constructor
  ·rintro (⟨j,h,e⟩ | rfl)
   ·exact ⟨j,by omega,e⟩
   ·exact ⟨i,by omega,rfl⟩
  ·rintro ⟨j,h,e⟩
   by_cases q:j=i
   ·subst q; exact .inr e.symm
   ·exact .inl ⟨j,by omega,e⟩
theorem seti_loop {I:Addr} {fp wr:List Addr} {G:Array GenState->Array GenState->Prop} {n:Nat} {P:Nat->Value->Prop} {St:Nat->Shared->Prop} (W:WalksS prog w A.in1 I fp wr G n P St) (S:Addr) (hSf:S ∉ fp)
  (val:Nat->Int) (hval:∀ i v,P i v->∃ t,v=.int (val i) t) (hb:n + 1 < scanBound):∀ (m i:Nat) (z:Shared),n - i=m->i<=n->St i z->SetI w S (onceN val i) z.heap ->
   (∀ z',Moved (S::wr) G z z'->SetI w S (onceN val n) z'.heap->R (.ok (.ret .none)) z')->codeAny (model prog w) A (.builtin "set.update.loop" ⟨[.ref S,.ref I],[]⟩) R z:=by
 have sw:S ∉ wr:=fun q=>hSf (W.sub _ q)
 have sb:∀ b∈wr,b∈S::wr:=fun b q=>List.mem_cons_of_mem _ q
 intro m
 induction m with
 | zero =>
  intro i z e1 e2 st x q
  have:i=n:=by omega
  subst this
  refine codeAny_builtin PyProof.Rows.F.entry_set_update_loop ?_
  rw [Around.under_plainId PyProof.Rows.F.plain_set_update_loop _]
  show wpAny _ A.in1 (pyNext (.ref I) >>= _) _ _ z
  refine wpAny_bind (W.done z _ _ st fun z' mv=>?_)
  exact wpAny_pure (q z' (mv.mono sb) (x.keep fun o e=>mv.heap S _ sw e))
 | succ m ih =>
  intro i z e1 e2 st x q
  refine codeAny_builtin PyProof.Rows.F.entry_set_update_loop ?_
  rw [Around.under_plainId PyProof.Rows.F.plain_set_update_loop _]
  show wpAny _ A.in1 (pyNext (.ref I) >>= _) _ _ z
  refine wpAny_bind (W.item i z _ _ (by omega) st fun v z' hv st' mv=>?_)
  obtain ⟨t,rfl⟩:=hval i v hv
  have x':=x.keep (h':=z'.heap) fun o e=>mv.heap S _ sw e
  show wpAny _ A.in1 (holding [Value.int (val i) t] (setAdd S (.int (val i) t)) >>= _) _ _ z'
  refine wpAny_bind (wpAny_holding ?_)
  unfold setAdd
  refine wpAny_holding (wpAny_bind ((intKind prog w).pyHash (k:=val i) (intKind_is _ _ _ _) ?_))
  refine seti_add (s:={ z' with toks:=z'.toks + 1 }) x' (by have:=onceN_len val i; omega) fun r h' a1 a2=>?_
  refine wpAny_pure ⟨plainId_quiet PyProof.Rows.F.plain_set_update_loop _,ih (i + 1) _ (by omega) (by omega) (W.frame _ z' _ _ st' (Nat.le_succ _) fun b hb o e=>?_) a2 fun z'' mv' x''=>?_⟩
  ·rw [a1.2 b fun h:b=S=>hSf (h ▸ hb)]; exact e
  ·refine q z'' (Moved.trans W.gtrans ((mv.mono sb).then_heap (Nat.le_succ _) fun b o hb e=>?_) mv') x''
   rw [a1.2 b fun h:b=S=>hb (by rw [h]; exact List.mem_cons_self)]; exact e
theorem set_new_1 (a:Value) {Q:Value->Shared->Prop} (h:Q (.ref s.heap.objs.size) { s with heap:=s.heap.push { cls:=.type "set",dict:=none,data:=.set #[] 0 (.fresh 0 0 (!byTx w)) } }) :
  codeAny (model prog w) A (.call (.builtin "set.__new__") ⟨[.type "set",a],[]⟩) (wants Q E) s:=by
 refine codeAny_of_tree ?_
 show wpAny _ A.in1 (checkBuiltinCall "set.__new__" ⟨[.type "set",a],[]⟩ >>= fun _=>again (.builtin "set.__new__" ⟨[.type "set",a],[]⟩)) _ _ s
 refine wpAny_bind (wpAny_of_eq (F.newCall_set_1 a) (wpAny_pure ⟨plainId_quiet F.plain_set_new _,codeAny_builtin F.entry_set_new ?_⟩))
 rw [Around.under_plainId F.plain_set_new _]
 unfold Builtin.«set.__new__» Builtin.Frozenset.newClass
 have q:=sub_set_self
 obtain ⟨hp,g,d,tk,os⟩:=s
 dsimp only
 wp_walk
 refine wpAny_askSetting (wpAny_pure ?_)
 dsimp only
 simp only [newObj]
 exact wpAny_bind (wpAny_alloc (wpAny_pure (wpAny_pure h)))
set_option maxHeartbeats 3200000 in
theorem call_setI {l:Addr} {T:String} {items:Array Value} {od:Option Addr} {nl:Nat} {os:Array (Option Value)} {ns:List Int} {ob:Obj} {Q:Value->Shared->Prop} (hol:s.heap.get? l=some { cls:=.type T,dict:=od,data:=.seq items nl,slots:=os })
  (hsls:isSubtype (.type T) (.type "set")=pure false) (hslf:isSubtype (.type T) (.type "frozenset")=pure false) (hne:(Value.type T == Value.type "dict")=false) (hi:IntsAre items.toList ns) (hb:items.size + 1 < scanBound) {St:Nat->Heap->Prop}
  (iter:∀ {A':Around} {E':Value->Shared->Prop} {Q':Value->Shared->Prop} {z:Shared},z.heap.get? l=some { cls:=.type T,dict:=od,data:=.seq items nl,slots:=os }->Q' (.ref z.heap.objs.size) { z with heap:=z.heap.push ob }->wpAny (model prog w) A' (pyIter (.ref l)) Q' E' z)
  (W:Walks prog w A.in1.in1.in1 (s.heap.objs.size + 1) [s.heap.objs.size + 1,l] [s.heap.objs.size + 1] items.size (fun i v=>items[i]? = some v) St)
  (hst:∀ z:Heap,z.objs.size=s.heap.objs.size + 1->z.get? l=some { cls:=.type T,dict:=od,data:=.seq items nl,slots:=os }->St 0 (z.push ob))
  (h:∀ (h':Heap) (tk:Nat),SetI w s.heap.objs.size (onceN (fun i=>ns.getD i 0) items.size) h'->(∀ b o,s.heap.get? b=some o->h'.get? b=some o)->Q (.ref s.heap.objs.size) { s with heap:=h',toks:=tk }) :
  wpAny (model prog w) A (call (.type "set") [.ref l]) Q E s:=by
 obtain ⟨c,tl,hmro⟩:=F.called_set.mro
 have hmade:=F.called_set.made
 have hsub:=F.called_set.sub
 refine wpAny_call (codeAny_of_tree ?_)
 show wpAny _ _ (callAny (.type "set") _) _ _ _
 refine wpAny_pure ⟨Code.quiet_builtin _ (by decide +kernel),codeAny_builtin F.entry_type_call ?_⟩
 rw [Around.under_plain (weight_type_call_type "set" [.ref l] []) rfl]
 have g1:=F.called_set.notType
 have g2:=F.called_set.canCreate
 have g3:=F.typeCall_set_1 (.ref l)
 repeat (any_goals (first | assumption | wp_step))
 refine codeAny_mono (set_new_1 (.ref l) (E:=E) (Q:=fun x z=>x=.ref s.heap.objs.size/\z={ s with heap:=s.heap.push { cls:=.type "set",dict:=none,data:=.set #[] 0 (.fresh 0 0 (!byTx w)) } }) ⟨rfl,rfl⟩) fun r z hr=>?_
 cases r with
 | error e=>exact hr
 | ok fl =>
  cases fl with
  | ret x =>
   obtain ⟨rfl,rfl⟩:=hr
   have kp:∀ b o,s.heap.get? b=some o->(s.heap.push { cls:=.type "set",dict:=none,data:=.set #[] 0 (.fresh 0 0 (!byTx w)) }).get? b=some o:=fun b o e=>Heap.get?_push_of_some _ e
   have hS:(s.heap.push { cls:=.type "set",dict:=none,data:=.set #[] 0 (.fresh 0 0 (!byTx w)) }).get? s.heap.objs.size=some { cls:=.type "set",dict:=none,data:=.set #[] 0 (.fresh 0 0 (!byTx w)) }:=Heap.get?_push_size _ rfl
   have hz:(s.heap.push { cls:=.type "set",dict:=none,data:=.set #[] 0 (.fresh 0 0 (!byTx w)) }).objs.size=s.heap.objs.size + 1:=by rw [Heap.size_push]
   have hol':=kp l _ hol
   have hlS:l < s.heap.objs.size:=Heap.lt_size hol
   generalize s.heap.push { cls:=.type "set",dict:=none,data:=.set #[] 0 (.fresh 0 0 (!byTx w)) }=h1 at hS kp hz hol' ⊢
   have hT:Shared.TypeIs { s with heap:=h1 } (.ref s.heap.objs.size) "set" := ⟨_,hS,rfl⟩
   have hli:=F.called_set.init.lookup
   have hbi:=F.called_set.init.bind (.ref s.heap.objs.size)
   repeat (any_goals (first | assumption | wp_step))
   refine codeAny_mono (codeAny_call_builtin (R:=wants (fun r z=>r=.none/\∃ h' tk,z={ s with heap:=h',toks:=tk }/\SetI w s.heap.objs.size (onceN (fun i=>ns.getD i 0) items.size) h'/\(∀ b o,s.heap.get? b=some o->h'.get? b=some o)) E)
    F.called_set.init.plain F.entry_set_init (check_set_init_1 hT ?_)) fun r₂ s₂ hr₂=>?_
   ·unfold Builtin.«set.__init__» noKeywords Builtin.Frozenset.updateFrom
    generalize hPI:pyIter=PI
    wp_walk
    subst hPI
    refine iter hol' ?_
    refine wpAny_bind (wpAny_runValue ?_)
    have hval:∀ (i:Nat) (v:Value),items[i]? = some v->∃ t,v=.int ((fun i=>ns.getD i 0) i) t:=fun i v hv=>IntsAre.int_at hi i v (by rw [Array.getElem?_toList]; exact hv)
    have hS1:s.heap.objs.size ∉ [s.heap.objs.size + 1,l]:=fun q=>by
     rcases List.mem_cons.mp q with q | q
     ·exact absurd q (Nat.ne_of_lt (Nat.lt_succ_self _))
     ·exact absurd (List.mem_singleton.mp q) (Nat.ne_of_gt hlS)
    show codeAny _ _ (.builtin "set.update.loop" ⟨[.ref s.heap.objs.size,.ref h1.objs.size],[]⟩) _ _
    rw [hz]
    refine seti_loop (A:=A.in1.in1) W.toS s.heap.objs.size hS1 (fun i=>ns.getD i 0) hval hb (items.size - 0) 0 _ (by omega) (Nat.zero_le _) (hst h1 hz hol') ?hS0 ?hR
    case hS0=>exact ⟨_,#[],0,_,Heap.get?_push_of_some _ hS,⟨rfl,rfl,rfl⟩,rfl,fun e he=>by simp at he,by simp [onceN],by decide,by rfl,rfl,fun _=>by simp [SetTable.fresh]⟩
    case hR =>
     intro z' mv x
     obtain ⟨h',g',d',tk',os'⟩:=z'
     have eg:g'=s.gens:=mv.gens
     have ed:d'=s.drawn:=mv.drawn
     have eo:os'=s.os:=mv.os
     subst eg ed eo
     show wpAny _ _ _ _ _ _
     refine wpAny_pure ?_
     show wpAny _ _ (ret Value.none) _ _ _
     refine wpAny_pure ⟨rfl,h',tk',rfl,x,fun b o e=>?_⟩
     have hb0:=Heap.lt_size e
     have hb1:b ∉ s.heap.objs.size::[s.heap.objs.size + 1]:=fun q=>by
      rcases List.mem_cons.mp q with q | q
      ·exact absurd q (Nat.ne_of_lt hb0)
      ·exact absurd (List.mem_singleton.mp q) (Nat.ne_of_lt (Nat.lt_succ_of_lt hb0))
     exact mv.heap b o hb1 (Heap.get?_push_of_some _ (kp b o e))
   ·cases r₂ with
    | error e=>exact hr₂
    | ok fl₂ =>
     cases fl₂ with
     | ret r =>
      obtain ⟨rfl,h',tk,rfl,x,kq⟩:=hr₂
      repeat (any_goals (first | assumption | wp_step))
      exact h _ _ x kq
     | _=>exact hr₂.elim
  | _=>exact hr.elim
end
open PyProof.Rows
section
variable {prog:Program} {w:World} {A:Around} {E:Value->Shared->Prop} {s:Shared}
def stSl (t:SetTable):Nat->Nat
 | 0=>0
 | i + 1=>t.place.getD i 0 + 1
def SMode (w:World) (a it pl:Addr) (es:Array (Int × Value)) (ep:Nat) (t:SetTable) (out:List Value) (i:Nat) (first:Value) (h:Heap):Prop :=
 (byTx w=true/\first=.int 0 0/\out=(pickOrder (w.params.setOrder a ep) es).toList.map (·.2)) \/
 (byTx w=false/\(!t.plain && decide (es.size > 1))=false/\t.place.toList.Pairwise (· < ·)/\first=.int (stSl t i:Nat) 0/\out=es.toList.map (·.2)) \/
 (byTx w=false/\first=.ref pl/\pl≠it/\∃ ord:List Nat,h.IsTuple pl (ord.map fun i:Nat=>rawInt i).toArray/\ord.Perm (List.range es.size)/\out=ord.map fun i=>((es[i]?).map (·.2)).getD .none)
def SSt (w:World) (a it pl:Addr) (o:Obj) (es:Array (Int × Value)) (ep:Nat) (t:SetTable) (out:List Value) (i:Nat) (h:Heap):Prop :=
 h.get? a=some o/\out.length=es.size/\∃ first,h.get? it=some { cls:=.type "set_iterator",data:=.fields #[first,.int i 0,.ref a,.int es.size 0,.int ep 0] }/\SMode w a it pl es ep t out i first h
theorem SSt.frame {a it pl:Addr} {o:Obj} {es:Array (Int × Value)} {ep:Nat} {t:SetTable} {out:List Value} {i:Nat} {h h':Heap} (x:SSt w a it pl o es ep t out i h) (k:∀ b∈[it,a,pl],∀ o,h.get? b=some o->h'.get? b=some o):SSt w a it pl o es ep t out i h':=by
 obtain ⟨x1,x2,f,x3,m⟩:=x
 refine ⟨k a (by simp) _ x1,x2,f,k it (by simp) _ x3,?_⟩
 rcases m with m | m | ⟨m1,m2,m3,ord,m4,m5⟩
 ·exact .inl m
 ·exact .inr (.inl m)
 ·exact .inr (.inr ⟨m1,m2,m3,ord,m4.at fun o e=>k pl (by simp) o e,m5⟩)
theorem SSt.type {a it pl:Addr} {o:Obj} {es:Array (Int × Value)} {ep:Nat} {t:SetTable} {out:List Value} {i:Nat} (x:SSt w a it pl o es ep t out i s.heap):s.TypeIs (.ref it) "set_iterator" := by
 obtain ⟨_,_,f,e,_⟩:=x
 exact ⟨_,e,rfl⟩
end
open PyProof.Rows
section
variable {prog:Program} {w:World} {A:Around} {E:Value->Shared->Prop} {s:Shared}
theorem IEl.ints {l:List (Int × Value)}:IEl l->IntsAre (l.map (·.2)) (l.filterMap iOf):=by
 induction l with
 | nil=>intro _; exact .nil
 | cons e l ih =>
  intro h
  obtain ⟨k,t,rfl⟩:=h e (by simp)
  exact .cons k t (ih fun e he=>h e (by simp [he]))
end
open PyProof.Rows
end PySem
namespace L2
open PySem PySem.Spec PyProof.Rows
section
variable {X:Cx}
theorem push_at {z:Heap} {n:Nat} {ob:Obj} (h:z.objs.size=n) (hf:ob.isFreed=false):(z.push ob).get? n=some ob:=h ▸ Heap.get?_push_size _ hf
theorem call_setS (K:W.Frag) (w:World) (hc:X.calm=true) (hk:X.K=K:=by rfl) (hw:X.w=w:=by rfl):CallR X (.type "set") (fun xs H Q=>∃ (p:Addr) (ns:List Int),xs=[.ref p]/\(SqL K H p (ns.map V.int)\/SqT K H p (ns.map V.int))/\ns.length < 4000 /\
  ∀ (l:Addr) (ms:List Int),ms.Nodup->(∀ k,k∈ms↔k∈ns)->ms.length<=ns.length->H l=none->Q (.ref l) (upd H l (.ext (SetI w l ms)))):=by
 subst hk hw
 intro pins s σ H xs us Q I r h
 obtain ⟨p,ns,rfl,hp,hlt,q⟩:=h
 obtain ⟨u,rfl,ru⟩:=vals1 r
 cases ru
 have mem:∀ (n:Nat) (k:Int),n=ns.length->(k∈onceN (fun i=>ns.getD i 0) n↔k∈ns):=by
  intro n k e
  subst e
  rw [onceN_mem,List.mem_iff_getElem]
  constructor
  ·rintro ⟨j,hj,e⟩
   exact ⟨j,hj,by rw [<- e]; simp [hj]⟩
  ·rintro ⟨j,hj,e⟩
   exact ⟨j,hj,by rw [<- e]; simp [hj]⟩
 have fin:∀ (n:Nat) (h':Heap) (tk:Nat),n=ns.length->SetI X.w s.heap.objs.size (onceN (fun i=>ns.getD i 0) n) h'->(∀ b o,s.heap.get? b=some o->h'.get? b=some o)->EP X pins σ Q (.ref s.heap.objs.size) { s with heap:=h',toks:=tk }:=by
  intro n h' tk e x kp
  have ol:=onceN_len (fun i=>ns.getD i 0) n
  refine ⟨.ref s.heap.objs.size,_,I.laid (t':=tk) (o:=.ext (SetI X.w s.heap.objs.size (onceN (fun i=>ns.getD i 0) n))) kp (Nat.le_refl _) ⟨x,?_,fun h1 h2 x k=>x.keep k⟩,rfl,q _ _ (onceN_nd _ _) (fun k=>mem n k e) (by omega) (I.hok.fresh (Nat.le_refl _))⟩
  obtain ⟨o,_,_,_,e,_⟩:=x
  exact ⟨o,e⟩
 have hd3:∀ B:Around,B.handled=none->B.in1.in1.in1.handled=none:=fun B h=>by simp [h]
 rcases hp with hp | hp
 ·obtain ⟨its,rv,pl,hz⟩:=I.list hp
  obtain ⟨o,ho,hcl,n,hd⟩:=pl.isList
  obtain ⟨oc,odi,oda,osl⟩:=o
  simp only at hcl hd
  subst hcl hd
  have hl:=rv.length
  rw [List.length_map] at hl
  have hpl:p < s.heap.objs.size:=Heap.lt_size ho
  exact call_setI (s:=s) (ns:=ns) ho PySem.F.sub_list_set PySem.F.sub_list_frozenset (by decide) (by simpa using IntsAre.of_vals rv) (by rw [show scanBound=4096 from rfl,List.size_toArray]; omega)
   (fun {A' E' Q' z} e h=>wpAny_pyIter_list ⟨_,e,rfl,_,rfl⟩ h) (Walks.list (hd3 _ (I.ok.hd hc)) _ p (Nat.ne_of_lt (Nat.lt_succ_of_lt hpl)) its.toArray)
   (fun z hz e=>⟨⟨_,push_at hz rfl,rfl,rfl⟩,⟨_,Heap.get?_push_of_some _ e,rfl,_,rfl⟩⟩) fun h' tk x kp=>fin _ h' tk (by rw [List.size_toArray]; omega) x kp
 ·obtain ⟨its,rv,pl,hz⟩:=I.tuple hp
  obtain ⟨o,ho,hcl,n,hd⟩:=pl
  obtain ⟨oc,odi,oda,osl⟩:=o
  simp only at hcl hd
  subst hcl hd
  have hl:=rv.length
  rw [List.length_map] at hl
  have hpl:p < s.heap.objs.size:=Heap.lt_size ho
  exact call_setI (s:=s) (ns:=ns) ho PySem.F.sub_tuple_set PySem.F.sub_tuple_frozenset (by decide) (by simpa using IntsAre.of_vals rv) (by rw [show scanBound=4096 from rfl,List.size_toArray]; omega)
   (fun {A' E' Q' z} e h=>wpAny_pyIter_tuple ⟨_,e,rfl,_,rfl⟩ h) (Walks.tuple (hd3 _ (I.ok.hd hc)) _ p (Nat.ne_of_lt (Nat.lt_succ_of_lt hpl)) its.toArray)
   (fun z hz e=>⟨⟨_,push_at hz rfl,rfl,rfl⟩,⟨_,Heap.get?_push_of_some _ e,rfl,_,rfl⟩⟩) fun h' tk x kp=>fin _ h' tk (by rw [List.size_toArray]; omega) x kp
end
def Iel (K:W.Frag) (a:Addr):It :=
 ⟨fun i H=>∃ xs x,SqL K H a xs/\xs[i]? = some x,fun i H x H'=>∃ T xi,x=.ref T/\H T=none/\H'=upd H T (.tup [.int (i:Nat),xi])/\∀ xs,SqL K H a xs->xs[i]? = some xi,fun i H=>∃ xs,SqL K H a xs/\xs.length<=i⟩
theorem turn_enumL {P:Program} {w:World} {K:W.Frag} {elts:List Expr} {k:Nat} {pos:Pos} (a e it:Addr) (hne:e≠it):Turn P w K (.Tuple elts k pos) (Iel K a) [e,it] e (fun i h=>(∃ old,IsEnum h e it (i:Nat) old)/\h.IsListIter it a i) where
 mem:=by simp
 obj:=fun i h st b hb=>by
  obtain ⟨⟨old,he⟩,o,ho,hc,hd⟩:=st
  rcases List.mem_cons.mp hb with z | z
  ·subst z
   exact ⟨_,he,fun v z=>by cases z⟩
  ·have z':b=it:=by simpa using z
   subst z'
   exact ⟨o,ho,fun v z=>by rw [hd] at z; cases z⟩
 keep:=fun i h h' st kp=>by
  obtain ⟨⟨old,he⟩,hi⟩:=st
  exact ⟨⟨old,kp e (by simp) _ he⟩,hi.at fun o q=>kp it (by simp) o q⟩
 item:=by
  intro X hP hw hK hc i pins s σ H E I hf st hg
  subst hP hw hK
  obtain ⟨⟨old,he⟩,hi⟩:=st
  obtain ⟨xs,x,hq,hx⟩:=hg
  obtain ⟨its,rv,p,hz⟩:=I.list hq
  obtain ⟨u,hu,ru⟩:=rv.get hx
  refine wpAny_pyNext_enum_item he hi p.isList (x:=u) (by simpa using hu) hne fun h1 eo i1 t1 _ kp=>⟨_,rfl,wpAny_letOwnedTupleGo_enum eo fun h2 en sb=>?_⟩
  have elt:e < s.heap.objs.size:=Heap.lt_size he
  have ilt:it < s.heap.objs.size:=by obtain ⟨_,q,_⟩:=hi; exact Heap.lt_size q
  have kp2:∀ b o,b≠e->b≠it->s.heap.get? b=some o->h2.get? b=some o:=fun b o n1 n2 q=>(sb.2 b n1).trans (kp b o n1 n2 q)
  have i2:h2.IsListIter it a (i + 1):=i1.at fun o q=>(sb.2 it (Ne.symm hne)).trans q
  have t2:h2.get? s.heap.objs.size=some { cls:=.type "tuple",data:=.seq #[.int i s.toks,u] }:=(sb.2 _ (Nat.ne_of_gt elt)).trans t1
  obtain ⟨f0,f1,f2,f3,f4,f5⟩:=hf it (by simp)
  obtain ⟨g0,g1,g2,g3,g4,g5⟩:=hf e (by simp)
  obtain ⟨oi,hoi,hci,hdi⟩:=id i2
  obtain ⟨o0,ho0,_⟩:=id hi
  have m1:(s.heap.update it fun _=>oi).get? it=some oi:=Heap.get?_update_self (fun _=>oi) ho0 (Obj.isFreed_of_fields hdi)
  have I1:Inv X pins σ H { s with heap:=s.heap.update it fun _=>oi,toks:=s.toks + 1 }:=I.turned (fun b o hb q=>(Heap.get?_update_other _ _ (Ne.symm hb)).trans q) f0 f1 f3 f4 f5
  have aux:∀ b o,b≠e->(s.heap.update it fun _=>oi).get? b=some o->h2.get? b=some o:=fun b o hb q=>by
   by_cases hbi:b=it
   ·subst hbi
    rw [m1] at q
    cases q
    exact hoi
   ·exact kp2 b o hb hbi ((Heap.get?_update_other _ _ (Ne.symm hbi)).symm.trans q)
  have I2:Inv X pins σ H { s with heap:=h2,toks:=s.toks + 1 }:=Inv.turned (s:={ s with heap:=s.heap.update it fun _=>oi,toks:=s.toks + 1 }) (h':=h2) (t':=s.toks + 1) I1 aux g0 g1 g3 g4 g5
  obtain ⟨p0,p1,p2,p3,p4,p5⟩:=I.fpOk (Nat.le_refl s.heap.objs.size) (I.hok.fresh (Nat.le_refl _))
  have I3:Inv X pins σ (upd H s.heap.objs.size (.tup [.int (i:Nat),x])) { s with heap:=h2,toks:=s.toks + 1 } :=
   I2.track (o:=.tup [.int (i:Nat),x]) t2 p0 p1 p3 p4 p5 ⟨by show 2<=sizeLine; decide,[.int i s.toks,u],.cons ⟨_,rfl⟩ (.cons ru .nil),⟨_,t2,rfl,_,rfl,rfl⟩⟩
  refine ⟨.ref s.heap.objs.size,_,I3,rfl,⟨_,x,rfl,p0,rfl,fun ys hy=>by rw [I.list_inj hy hq]; exact hx⟩,⟨⟨u,by simpa using en⟩,i2⟩,fun b hb=>?_⟩
  have hbn:b≠s.heap.objs.size:=by
   rcases List.mem_cons.mp hb with z | z
   ·rw [z]; exact Nat.ne_of_lt elt
   ·have z':b=it:=by simpa using z
    rw [z']; exact Nat.ne_of_lt ilt
  rw [upd_ne hbn]
  exact (hf b hb).1
 done:=by
  intro X hP hw hK hc i pins s σ H E I hf st hg
  subst hP hw hK
  obtain ⟨⟨old,he⟩,hi⟩:=st
  obtain ⟨xs,hq,hx⟩:=hg
  obtain ⟨its,rv,p,hz⟩:=I.list hq
  obtain ⟨f0,f1,f2,f3,f4,f5⟩:=hf it (by simp)
  have hl:=rv.length
  exact wpAny_pyNext_enum_end (I.ok.hd hc) he hi p.isList (by simp; omega) fun h' eb=>⟨rfl,I.turned (t':=s.toks) (fun b o hb q=>eb b o hb q) f0 f1 f3 f4 f5⟩
 self:=fun _ _ _ _ _ st h=>by
  obtain ⟨⟨old,he⟩,_⟩:=st
  exact wpAny_pyIter_enum he h
section
variable {X:Cx} {elts:List Expr} {k:Nat} {tpos:Pos}
def tMono (te:TE):TE:=fun σ H Q=>∃ D:VK,te σ H D/\∀ x H1,D x H1->Q x H1
theorem QE.mono {e:Expr} {te:TE} (he:QE X e te):QE X e (tMono te):=⟨fun pins s σ H Q I ⟨D,h,k⟩=>thn (he.run pins s σ H D I h) fun v s1 ⟨x,H1,I1,r1,q1⟩=>⟨x,H1,I1,r1,k x H1 q1⟩⟩
theorem lt_of_nodup {l:List Int} (h:l.Pairwise (·<=·)) (d:l.Nodup):l.Pairwise (· < ·):=by
 have:=h.and d
 exact this.imp fun {a b} ⟨h1,h2⟩=>by omega
end
theorem nd_sub_len:∀ {ms ns:List Int},ms.Nodup->(∀ k∈ms,k∈ns)->ms.length<=ns.length
 | [],_,_,_=>Nat.zero_le _
 | m::ms,ns,nd,h=>by
  have hm:=h m (List.mem_cons_self ..)
  obtain ⟨n1,n2⟩:=List.nodup_cons.mp nd
  have ih:=nd_sub_len (ms:=ms) (ns:=ns.erase m) n2 fun k hk=>(List.mem_erase_of_ne (fun (z:k=m)=>n1 (z ▸ hk))).mpr (h k (List.mem_cons_of_mem _ hk))
  rw [List.length_erase_of_mem hm] at ih
  have:=List.length_pos_of_mem hm
  simp only [List.length_cons]
  omega
theorem nd_of_len:∀ {ns ms:List Int},ms.Nodup->(∀ k,k∈ms↔k∈ns)->ms.length=ns.length->ns.Nodup
 | [],_,_,_,_=>List.nodup_nil
 | a::t,ms,nd,h,hl=>by
  have ha:a ∉ t:=fun hat=>by
   have:=nd_sub_len (ns:=t) nd fun k hk=>by
    rcases List.mem_cons.mp ((h k).mp hk) with z | z
    ·exact z ▸ hat
    ·exact z
   simp only [List.length_cons] at hl
   omega
  have hma:a∈ms:=(h a).mpr (List.mem_cons_self ..)
  refine List.nodup_cons.mpr ⟨ha,nd_of_len (ms:=ms.erase a) (nd.erase a) (fun k=>?_) ?_⟩
  ·constructor
   ·intro hk
    have hk':=(List.Nodup.mem_erase_iff nd).mp hk
    exact (List.mem_cons.mp ((h k).mp hk'.2)).resolve_left hk'.1
   ·intro hk
    exact (List.Nodup.mem_erase_iff nd).mpr ⟨fun z=>ha (z ▸ hk),(h k).mpr (List.mem_cons_of_mem _ hk)⟩
  ·rw [List.length_erase_of_mem hma]
   simp only [List.length_cons] at hl
   omega
end L2
namespace L2
open PySem
mutual
theorem Rep.more {S:List Addr} {H:Hp} {p:Addr} (hp:H p=none):∀ {d:PyData} {v:V},Rep S H d v->Rep (p::S) H d v
 | .none,_,h=>h
 | .bool _,_,h=>h
 | .int _,_,h=>h
 | .str _,_,h=>h
 | .tuple ds,_,h=>by
  unfold Rep at h ⊢
  obtain ⟨a,xs,e,ha,hr⟩:=h
  exact ⟨a,xs,e,ha,Reps.more hp hr⟩
 | .list ds,_,h=>by
  unfold Rep at h ⊢
  obtain ⟨a,xs,e,ha,hs,hr⟩:=h
  refine ⟨a,xs,e,ha,fun z=>?_,Reps.more hp hr⟩
  rcases List.mem_cons.mp z with z | z
  ·rw [z,hp] at ha; cases ha
  ·exact hs z
 | .dict _,_,h=>h
theorem Reps.more {S:List Addr} {H:Hp} {p:Addr} (hp:H p=none):∀ {ds:List PyData} {vs:List V},Reps S H ds vs->Reps (p::S) H ds vs
 | [],_,h=>h
 | d::ds,_,h=>by
  unfold Reps at h ⊢
  obtain ⟨y,r,e,h1,h2⟩:=h
  exact ⟨y,r,e,Rep.more hp h1,Reps.more hp h2⟩
end
end L2
namespace L2
open PySem PySem.Spec PyProof.Rows
section
variable {X:Cx}
def tMonoT (t:TT):TT:=fun σ H Q=>∃ D:Bool->Hp->Prop,t σ H D/\∀ b H1,D b H1->Q b H1
theorem QT.mono {e:Expr} {t:TT} (he:QT X e t):QT X e (tMonoT t):=⟨fun pins s σ H Q I ⟨D,h,k⟩=>thn (he.run pins s σ H D I h) fun b s1 ⟨H1,I1,q1⟩=>⟨H1,I1,k b H1 q1⟩⟩
theorem qs_whileM {c:Expr} {tA:TT} {body:List Stmt} {ts:TS} {pos:Pos} (hp:PassesOwn (model X.prog X.w) X.A X.env X.xe) (hc:QT X c tA) (hb:QSs X body ts):QS X (.While c body [] pos) (tWhile (tMonoT tA) ts):=qs_while hp hc.mono hb
end
theorem while_m {c:TT} {tb:TS} {D:Ends} {σ:St} {H:Hp} (Pv:St->Hp->Prop) (μ:St->Hp->Nat) (h0:Pv σ H)
  (hs:∀ σ H,Pv σ H->c σ H fun b H1=>if b=true then tb { D with nx:=fun σ' H'=>Pv σ' H'/\μ σ' H' < μ σ H,ct:=fun σ' H'=>Pv σ' H'/\μ σ' H' < μ σ H,bk:=D.nx } σ H1 else D.nx σ H1):tWhile (tMonoT c) tb D σ H :=
 while_by Pv μ h0 (fun σ H p=>⟨_,hs σ H p,fun _ _ h=>h⟩) (fun _ _ _ _ h ⟨D,a,b⟩=>⟨D,a,fun x H1 z=>h _ _ (b _ _ z)⟩)
structure ExcAt (h:Heap) (x:Addr) (cls:Value) (od tb:Option Addr):Prop where
 obj:∃ oe vs,h.get? x=some oe/\oe.cls=cls/\oe.dict=od/\oe.data=.fields vs/\vs[1]? = some (tb.elim Value.none Value.ref)
 hd:∀ T,tb=some T->T≠x/\∃ oT ts,h.get? T=some oT/\oT.data=.fields ts/\ts[3]? = some .none
structure Noted (fs:List Addr) (x:Addr) (tb:Option Addr) (h h':Heap):Prop where
 keep:∀ b o,h.get? b=some o->b≠x->tb≠some b->b ∉ fs->h'.get? b=some o
 slot:∀ b o,h.get? b=some o->b∈fs->∃ sl,h'.get? b=some { o with slots:=sl }
 there:∀ b o,h.get? b=some o->∃ o',h'.get? b=some o'
section
variable {M:Model} {A:Around} {E:Value->Shared->Prop} {s:Shared}
theorem frame_not {h base:Heap} {l:List Env} (hl:h.FunFrames base l) {b:Addr} {o:Obj} {vs:Array Value} (ho:h.get? b=some o) (hd:o.data=.fields vs):b ∉ frs l:=fun hm=>by
 obtain ⟨_,o',ho',hn⟩:=hl.mem hm
 rw [ho] at ho'
 cases ho'
 exact hn vs hd
theorem entry_flight {base:Heap} {env:Env} {outer:List Env} {L x:Addr} {oe:Obj} {vs:Array Value} {head:Value} {had:Bool} {Q:Unit->Shared->Prop}
  (hfr:A.frames=some (env::outer)) (hl:s.heap.FunFrames base (env::outer)) (hf:env.frame=some L) (he:s.heap.get? x=some oe) (hd:oe.data=.fields vs) (hsz:1 < vs.size)
  (h:∀ h' T,s.heap.objs.size<=T->Noted (frs (env::outer)) x none s.heap h'->ExcAt h' x oe.cls oe.dict (some T)->Q () { s with heap:=h' }) :
  wpAny M A (do setField (.ref x) 1 (<- EntryCells.newEntry head (<- frameOf env) .none (rawInt L) .none (<- entryPlaceOf L had))) (fun _ s'=>wpAny M A (setFlight (.ref x) none) Q E s') E s:=by
 have hxf:x ∉ frs (env::outer):=frame_not hl he hd
 refine wpAny_bind (wpAny_frameOf_fun hfr hl hf fun g hg=>wpAny_bind (wpAny_entryPlaceOf fun pl hpl=>?_))
 unfold EntryCells.newEntry newFields
 refine wpAny_bind (wpAny_newObj_type ?_ (hpl.sizeOk5 _ _ _ _ _))
 have hx1:g.get? x=some oe:=(hg.2.1 x hxf).trans he
 generalize hnew:([head,Value.ref L,.none,rawInt L,.none]++(if pl.isEmpty then List.replicate 6 Value.none else pl)).toArray=fs5
 have h3:3 < fs5.size:=by
  rw [<- hnew]
  simp only [List.size_toArray,List.length_append,List.length_cons]
  omega
 have hx2:=Heap.get?_push_of_some (h:=g) { cls:=.type "traceback",dict:=none,data:=.fields fs5 } hx1
 have hT2:(g.push { cls:=.type "traceback",dict:=none,data:=.fields fs5 }).get? g.objs.size=some { cls:=.type "traceback",dict:=none,data:=.fields fs5 }:=Heap.get?_push_size g rfl
 have hTx:g.objs.size≠x:=Nat.ne_of_gt (Heap.lt_size hx1)
 refine wpAny_setField hx2 hd hsz ?_
 have hd3:=Obj.data_mapFields hd (·.setIfInBounds 1 (Value.ref g.objs.size))
 have hx3:=Heap.get?_update_self (Obj.mapFields (·.setIfInBounds 1 (Value.ref g.objs.size))) hx2 (Obj.isFreed_of_fields hd3)
 have hT3:=(Heap.get?_update_other (g.push { cls:=.type "traceback",dict:=none,data:=.fields fs5 }) (Obj.mapFields (·.setIfInBounds 1 (Value.ref g.objs.size))) hTx.symm).trans hT2
 have ot3:∀ b,b≠x->((g.push { cls:=.type "traceback",dict:=none,data:=.fields fs5 }).update x (Obj.mapFields (·.setIfInBounds 1 (Value.ref g.objs.size)))).get? b=(g.push { cls:=.type "traceback",dict:=none,data:=.fields fs5 }).get? b:=fun b hb=>Heap.get?_update_other _ _ (Ne.symm hb)
 have v1:(vs.setIfInBounds 1 (Value.ref g.objs.size))[1]? = some (Value.ref g.objs.size):=by simp [hsz]
 have dsame:(Obj.mapFields (·.setIfInBounds 1 (Value.ref g.objs.size)) oe).dict=oe.dict:=by
  unfold Obj.mapFields
  split <;> rfl
 generalize (g.push { cls:=.type "traceback",dict:=none,data:=.fields fs5 }).update x (Obj.mapFields (·.setIfInBounds 1 (Value.ref g.objs.size)))=g3 at hx3 hT3 ot3 ⊢
 unfold setFlight
 refine wpAny_bind (wpAny_field hx3 hd3 (x:=.ref g.objs.size) v1 ?_)
 rw [if_pos (show (Value.ref g.objs.size != Value.none)=true by simp)]
 refine wpAny_setField hT3 rfl h3 ?_
 have hnone:s.heap.get? g.objs.size=none:=by
  rw [hg.1]
  exact Heap.get?_none_of_le (Nat.le_refl _)
 refine h _ g.objs.size (Nat.le_of_eq hg.1.symm) ⟨fun b o hb hbx _ hbf=>?_,fun b o hb hbf=>?_,fun b o hb=>?_⟩ ⟨⟨_,_,(Heap.get?_update_other _ _ hTx).trans hx3,Obj.cls_mapFields _ _,dsame,hd3,v1⟩,fun T eT=>?_⟩
 ·have hbT:g.objs.size≠b:=fun z=>by rw [<- z,hnone] at hb; cases hb
  have:g.get? b=some o:=(hg.2.1 b hbf).trans hb
  exact (Heap.get?_update_other _ _ hbT).trans ((ot3 b hbx).trans (Heap.get?_push_of_some _ this))
 ·have hbT:g.objs.size≠b:=fun z=>by rw [<- z,hnone] at hb; cases hb
  have hbx:b≠x:=fun z=>hxf (z ▸ hbf)
  obtain ⟨sl,e⟩:=hg.2.2 b o hb
  exact ⟨sl,(Heap.get?_update_other _ _ hbT).trans ((ot3 b hbx).trans (Heap.get?_push_of_some _ e))⟩
 ·have hbT:g.objs.size≠b:=fun z=>by rw [<- z,hnone] at hb; cases hb
  obtain ⟨sl,e⟩:=hg.2.2 b o hb
  by_cases hbx:b=x
  ·exact ⟨_,(Heap.get?_update_other _ _ hbT).trans (hbx ▸ hx3)⟩
  ·exact ⟨_,(Heap.get?_update_other _ _ hbT).trans ((ot3 b hbx).trans (Heap.get?_push_of_some _ e))⟩
 ·cases eT
  exact ⟨hTx,_,_,Heap.get?_update_self _ hT3 (Obj.isFreed_of_fields (Obj.data_mapFields rfl _)),Obj.data_mapFields rfl _,by simp [h3]⟩
theorem note_flight {base:Heap} {env:Env} {outer:List Env} {L x:Addr} {cls:Value} {od tb:Option Addr} {Q:Unit->Shared->Prop}
  (hfr:A.frames=some (env::outer)) (hl:s.heap.FunFrames base (env::outer)) (hf:env.frame=some L) (e:ExcAt s.heap x cls od tb)
  (h:∀ h' T,s.heap.objs.size<=T->Noted (frs (env::outer)) x tb s.heap h'->ExcAt h' x cls od (some T)->Q () { s with heap:=h' }) :
  wpAny M A (noteFrame (.ref x) env) (fun _ s'=>wpAny M A (setFlight (.ref x) none) Q E s') E s:=by
 obtain ⟨⟨oe,vs,he,rfl,rfl,hd,h1⟩,ht⟩:=e
 have hsz:1 < vs.size:=(Array.getElem?_eq_some_iff.mp h1).1
 unfold noteFrame
 simp only [hf]
 refine wpAny_bind (wpAny_field he hd h1 ?_)
 cases tb with
 | none =>
  rw [if_neg (show ¬ ((none:Option Addr).elim Value.none Value.ref != Value.none)=true by decide)]
  exact entry_flight hfr hl hf he hd hsz h
 | some T =>
  obtain ⟨hTx,oT,ts,hT,hdT,h3⟩:=ht T rfl
  have h3s:3 < ts.size:=(Array.getElem?_eq_some_iff.mp h3).1
  rw [if_pos (show ((some T:Option Addr).elim Value.none Value.ref != Value.none)=true by simp)]
  refine wpAny_bind (wpAny_field hT hdT h3 ?_)
  rw [if_neg (show ¬ (Value.none == rawInt L)=true by simp [rawInt])]
  refine wpAny_bind (wpAny_setField hT hdT h3s ?_)
  have ot:∀ b,b≠T->(s.heap.update T (Obj.mapFields (·.setIfInBounds 3 Value.none))).get? b=s.heap.get? b:=fun b hb=>Heap.get?_update_other _ _ (Ne.symm hb)
  have hT':=Heap.get?_update_self (Obj.mapFields (·.setIfInBounds 3 Value.none)) hT (Obj.isFreed_of_fields (Obj.data_mapFields hdT _))
  have hTf:T ∉ frs (env::outer):=frame_not hl hT hdT
  have hgs:(s.heap.update T (Obj.mapFields (·.setIfInBounds 3 Value.none))).objs.size=s.heap.objs.size:=Heap.size_after_update ..
  generalize hg:s.heap.update T (Obj.mapFields (·.setIfInBounds 3 Value.none))=g at ot hT' hgs ⊢
  have hl':g.FunFrames base (env::outer):=hl.of_keeps fun b o hb hn=>⟨o,(ot b fun z=>by rw [z,hT] at hb; cases hb; exact hn ts hdT).trans hb,rfl⟩
  refine entry_flight (s:={ s with heap:=g }) hfr hl' hf ((ot x hTx.symm).trans he) hd hsz fun h' T' hn nt ea=>h h' T' (hgs ▸ hn) ⟨fun b o hb hbx hbT hbf=>?_,fun b o hb hbf=>?_,fun b o hb=>?_⟩ ea
  ·have:b≠T:=fun z=>hbT (by rw [z])
   exact nt.keep b o ((ot b this).trans hb) hbx (by simp) hbf
  ·have:b≠T:=fun z=>hTf (z ▸ hbf)
   exact nt.slot b o ((ot b this).trans hb) hbf
  ·by_cases z:b=T
   ·subst z
    exact nt.there b _ hT'
   ·exact nt.there b o ((ot b z).trans hb)
end
def xfly (x:Addr) (cls:Value) (od:Option Addr):Heap->Prop:=fun h=>∃ oe vs,h.get? x=some oe/\oe.cls=cls/\oe.dict=od/\oe.data=.fields vs
theorem ExcAt.fly {h:Heap} {x:Addr} {cls:Value} {od tb:Option Addr} (e:ExcAt h x cls od tb):xfly x cls od h:=let ⟨oe,vs,a,b,c,d,_⟩:=e.obj; ⟨oe,vs,a,b,c,d⟩
theorem xfly_ok {P:Program} {w:World} {H:Hp} {h:Heap} {x:Addr} {cls:Value} {od:Option Addr} (r:xfly x cls od h):ObjOk P w H h x (.ext (xfly x cls od)):=by
 refine ⟨r,let ⟨oe,_,e,_⟩:=r; ⟨oe,e⟩,fun h1 h2 ⟨oe,vs,e,r⟩ k=>⟨oe,vs,k _ e,r⟩⟩
def CX1 (P:Program) (w:World):CXT:=fun outer H s E e s'=>∃ (x:Addr) (cls:Value) (od:Option Addr) (T:Addr) (H':Hp),e=.ref x/\s'.os=s.os/\AllBare s'.gens/\Un (frs outer) [] H H' s.heap s'.heap/\HOk P w H' s'.heap /\
 H' x=some (.ext (xfly x cls od))/\H' T=none/\s.heap.objs.size<=x/\s.heap.objs.size<=T/\ExcAt s'.heap x cls od (some T)/\E cls od H'
def XP (X:Cx) (pins:List (Addr × Obj)) (σ:St) (E:XK) (e:Value) (s':Shared):Prop:=∃ (x:Addr) (cls:Value) (od tb:Option Addr) (H':Hp),e=.ref x/\Inv X pins σ H' s'/\H' x=some (.ext (xfly x cls od))/\X.s₀.heap.objs.size<=x/\(∀ p∈X.pn++pins,p.1≠x) /\
 (∀ T,tb=some T->H' T=none/\X.s₀.heap.objs.size<=T/\∀ p∈X.pn++pins,p.1≠T)/\ExcAt s'.heap x cls od tb/\E cls od H'
def Leaves (X:Cx) (E:XK):Prop:=∀ (pins:List (Addr × Obj)) (σ:St) (e:Value) (s':Shared),XP X pins σ E e s'->X.xe e s'
section
variable {X:Cx} {pins:List (Addr × Obj)} {σ:St} {H:Hp} {s s':Shared} {E:XK} {e:Value}
theorem xp_of (I:Inv X pins σ H s) (h:CX1 X.prog X.w X.stack H s E e s'):XP X pins σ E e s':=by
 obtain ⟨x,cls,od,T,H',rfl,os,bare,un,hok,nx,nT,sx,sT,ea,q⟩:=h
 have sz:=I.sz
 have lt:∀ p∈X.pn++pins,p.1 < s.heap.objs.size:=fun p hp=>Heap.lt_size (I.pin p hp).1
 refine ⟨x,cls,od,some T,H',rfl,I.call' os un hok bare (fun b z=>absurd z (by simp)),nx,Nat.le_trans sz sx,fun p hp z=>absurd (z ▸ lt p hp) (Nat.not_lt.mpr sx),fun T' eT=>?_,ea,q⟩
 cases eT
 exact ⟨nT,Nat.le_trans sz sT,fun p hp z=>absurd (z ▸ lt p hp) (Nat.not_lt.mpr sT)⟩
theorem frs_mem {env:Env} {outer:List Env} {L b:Addr} (hf:env.frame=some L) (h:b∈frs (env::outer)):b=L\/b∈frs outer:=by
 unfold frs at *
 rw [List.filterMap_cons,hf] at h
 exact List.mem_cons.mp h
theorem frs_sub {env:Env} {outer:List Env} {b:Addr} (h:b∈frs outer):b∈frs (env::outer):=by
 unfold frs at *
 rw [List.filterMap_cons]
 split
 ·exact h
 ·exact List.mem_cons_of_mem _ h
theorem HOk.noted {P:Program} {w:World} {h h':Heap} {fs:List Addr} {x:Addr} {cls:Value} {od tb:Option Addr} (ok:HOk P w H h) (nt:Noted fs x tb h h') (nx:H x=some (.ext (xfly x cls od))) (fl:xfly x cls od h') (nT:∀ T,tb=some T->H T=none) (nf:∀ b∈fs,H b=none):HOk P w H h':=fun a o e=>by
 have key:∀ b (u:HO),b≠x->H b=some u->∀ v,h.get? b=some v->h'.get? b=some v:=fun b u hbx hb v hv =>
  nt.keep b v hv hbx (fun z=>by rw [nT b z] at hb; cases hb) fun z=>by rw [nf b z] at hb; cases hb
 by_cases hax:a=x
 ·subst hax
  rw [nx] at e
  cases e
  exact xfly_ok fl
 ·refine (ok a o e).stay (fun b v hb q=>?_) (fun b q=>q) fun b xs q=>q
  rcases hb with rfl | hb
  ·exact key b o hax e v q
  ·exact key b _ (fun z=>by rw [z,nx] at hb; cases hb) hb v q
end
theorem leaves_cx {P:Program} {w:World} {K:W.Frag} {mg:Str->Option Value} {base:Heap} {N:List Str} {qual:Str} {scope:Scope} {f:Addr} {cd:Value} {A:Around} {outer:List Env} {s:Shared} {H:Hp} {E:XK} :
  Leaves (cxOf (CX1 P w) P w K mg base N qual scope f cd A outer s H E) E:=by
 rintro pins σ e s' ⟨x,cls,od,tb,H',rfl,I,nx,sx,px,hT,ea,q⟩
 have frames:=I.ok.frames
 have stack:=I.stack
 have free:=I.stkFree
 show wpAny _ _ (leaving _ _) _ _ _
 unfold leaving
 have bs:Un (frs outer) [] H H' s.heap s'.heap:=I.base
 have above:s.heap.objs.size<=s.heap.objs.size:=Nat.le_refl _
 refine wpAny_bind (note_flight frames stack rfl ea fun h' T' hn nt ea'=>⟨x,cls,od,T',H',rfl,I.os,I.bare,?_,I.hok.noted nt nx ea'.fly (fun T e=>(hT T e).1) free,nx,?_,sx,?_,ea',q⟩)
 ·have out:∀ b (o:Obj),s.heap.get? b=some o->b≠x/\tb≠some b/\b≠s.heap.objs.size:=fun b o hb=>by
   have lt:=Heap.lt_size hb
   exact ⟨fun z=>absurd (z ▸ lt) (Nat.not_lt.mpr sx),fun z=>absurd lt (Nat.not_lt.mpr (hT b z).2.1),fun z=>absurd (z ▸ lt) (Nat.lt_irrefl _)⟩
  refine ⟨fun b o hb n hf hx=>?_,fun b o hb n hf hx=>?_,bs.free,fun b o hb hx=>?_,bs.tups,bs.frzs,bs.tbls⟩
  ·obtain ⟨o1,o2,o3⟩:=out b o hb
   exact nt.keep b o (bs.keep b o hb n hf hx) o1 o2 fun z=>(frs_mem rfl z).elim o3 hf
  ·obtain ⟨sl,e1⟩:=bs.slot b o hb n hf hx
   obtain ⟨sl',e2⟩:=nt.slot b _ e1 (frs_sub hf)
   exact ⟨sl',e2⟩
  ·obtain ⟨o',e1⟩:=bs.there b o hb hx
   exact nt.there b o' e1
 ·exact I.hok.fresh hn
 ·exact Nat.le_trans I.sz hn
section
variable {P:Program} {w:World} {K:W.Frag} {mg:Str->Option Value} {base:Heap}
theorem Fun.okX {x qual:Str} {st:Stmt} {f:Addr} {fd:FuncData} {N ps:List Str} {k:Nat} {sp:Sp} (F:Fun K x qual st f fd) (S:FnScope N ps (defScope st)) (len:∀ vs H Q E,sp vs H Q E->vs.length=ps.length)
  (hbody:∀ (cdv:Value) (A:Around) (outer:List Env) (s:Shared) (H:Hp) (vs:List V) (Q:VK) (E:XK),Room k (A.deeper (envOfC qual (defScope st) s.heap.objs.size f cdv))->sp vs H Q E ->
   ∃ t,QSs (cxOf (CX1 P w) P w K mg base N qual (defScope st) f cdv A outer s H E) (defBody st) t/\t { nx:=fun _ H'=>Q .non H',rt:=Q } (start N vs) H):FnOk P w K mg base (CX1 P w) (k + 1) f fd ps sp:=by
 obtain ⟨oc,od,kV,doc,pm,an,cdv,ct,osl,rfl,lk,hcd⟩:=F.ex
 refine fn_of lk hcd S len fun A outer s H vs Q E hr hsp=>?_
 obtain ⟨t,h,q⟩:=hbody cdv A outer s H vs Q E hr hsp
 exact ⟨t,h.run,q⟩
structure DefX (P:Program) (w:World) (K:W.Frag) (mg:Str->Option Value) (base:Heap) (k:Nat) (x:Str) (ps:List Str) (sp:Sp):Prop where
 ex:∃ (f:Addr) (fd:FuncData),FnOk P w K mg base (CX1 P w) k f fd ps sp/\mg x=some (.ref f)/\W.keepIn K (.ref f)=true/\Binds K fd ps []
theorem FnOk.lift {k:Nat} {f:Addr} {fd:FuncData} {ps:List Str} {sp:Sp} (F:FnOk P w K mg base CX0 k f fd ps sp):FnOk P w K mg base (CX1 P w) k f fd ps sp :=
 ⟨F.len,fun A outer s H args us vs Q E hr he hb hv hs=>codeAny_mono (F.run A outer s H args us vs Q E hr he hb hv hs) fun r s' h=>by
  cases r with
  | error e=>exact False.elim h
  | ok fl=>cases fl <;> exact h⟩
theorem DefOk.lift {k:Nat} {x:Str} {ps:List Str} {sp:Sp} (D:DefOk P w K mg base k x ps sp):DefX P w K mg base k x ps sp :=
 let ⟨f,fd,F,r⟩:=D.ex
 ⟨f,fd,F.lift,r⟩
end
def tCallX (sp:Sp) (E:XK) (t:TA):TE:=fun σ H Q=>t σ H fun vs H1=>sp vs H1 Q E
structure ClsX (K:W.Frag) (C:Addr):Prop where
 ga:W.findIn K (.ref C) "__getattribute__" = some (some (.builtin "BaseException.__getattribute__"))
 gh:W.findIn K (.ref C) "__getattr__" = some none
 sa:W.findIn K (.ref C) "__setattr__" = some (some (.builtin "object.__setattr__"))
 hd:W.hasDictIn K C=true
 isx:W.mroIn K C (.type "BaseException")=some true
 iso:W.mroIn K C (.type "object")=some true
section
variable {prog:Program} {w:World} {A:Around} {E:Value->Shared->Prop} {K:W.Frag} {x C dx:Addr} {o:Obj} {mA:Str->Option Value} {name:Str} {v:Value}
theorem gaKind:builtinKind "BaseException.__getattribute__" = some .slot:=by decide +kernel
theorem gaSplit:splitId "BaseException.__getattribute__" = some ("BaseException", "__getattribute__"):=by decide +kernel
theorem excget_code {s:Shared} {tk:Tok} {R:Result->Shared->Prop} {od:Obj} (X:K.In s.heap) (c:ClsX K C) (I:W.InstAt s.heap x o C (some od)) (na:W.findIn K (.ref C) name=some none) (hv:W.lookIn name od=some (some v))
  (q:R (.ok (.ret v)) s):codeAny (model prog w) A (.call (.builtin "BaseException.__getattribute__") ⟨[.ref x,.str name tk],[]⟩) R s:=by
 have L4:=W.looks_mroIn (M:=model prog w) X c.isx
 have L5:=W.looks_find (M:=model prog w) X I (W.findObj_own (attr:=none) c.hd na rfl hv)
 have L0:=I.type (M:=model prog w)
 refine codeAny_call_builtin PySem.F.excAttr_ValueError.ga.plain PySem.F.entry_bexc_ga ?_
 refine @W.check_slot (model prog w) _ _ s "BaseException.__getattribute__" "BaseException" "__getattribute__" (.ref x) [.str name tk] [] _ gaKind gaSplit (L0.andThen L4) (PySem.F.args_bexc_ga _ _) ?_
 show wpAny _ _ (Builtin.«object.__getattribute__» ⟨[.ref x,.str name tk],[]⟩) _ _ _
 unfold Builtin.«object.__getattribute__»
 refine wpAny_bind (wpAny_pure ?_)
 exact wpAny_bind (wpAny_pure (wpAny_bind (L0.here (wpAny_bind (L5.here (wpAny_pure q))))))
theorem excget {s:Shared} {expr:Bool} {od:Obj} {Q:Value->Shared->Prop} (X:K.In s.heap) (c:ClsX K C) (I:W.InstAt s.heap x o C (some od)) (na:W.findIn K (.ref C) name=some none) (hv:W.lookIn name od=some (some v)) (hh:handedOut v=pure v)
  (q:Q v { s with toks:=s.toks + 1 }):wpAny (model prog w) A (getAttr (.ref x) name expr) Q E s:=by
 obtain ⟨h,g,d,t,os⟩:=s
 have L0:=I.type (M:=model prog w)
 have L1:=W.looks_findIn (M:=model prog w) X c.ga
 have L2:=W.looks_findIn (M:=model prog w) X c.gh
 have f3:=PySem.F.excAttr_ValueError.ga.bind (.ref x)
 have hx0:(expr && onTheHeap (Value.builtin "BaseException.__getattribute__"))=false:=by cases expr <;> rfl
 have hx2:(Value.builtin "BaseException.__getattribute__" == Value.builtin "object.__getattribute__")=false:=by decide +kernel
 have hx1:(onTheHeap (Value.ref C) && Value.builtin "BaseException.__getattribute__" == Value.builtin "object.__getattribute__")=false:=by rw [hx2]; rfl
 unfold getAttr getAttrBy
 repeat (first | assumption | with_reducible refine L0.at ?_ | with_reducible refine L1.at ?_ | with_reducible refine L2.at ?_ | wp_step)
 refine excget_code (s:=⟨h,g,d,t + 1,os⟩) X c I na hv ?_
 show wpAny _ _ (handedOut v) _ _ _
 rw [hh]
 exact wpAny_pure q
def veTail:List Value->Bool
 | [.type a,.type b,.type c,.type d]=>a == "ValueError" && b == "Exception" && c == "BaseException" && d == "object"
 | .ref _::r=>veTail r
 | _=>false
theorem ve_refuse (self:Value):∀ {l:List Value},veTail l=true->refuseLoop self "__setattr__" l=pure ()
 | [.type a,.type b,.type c,.type d],e=>by
  simp only [veTail,Bool.and_eq_true,beq_iff_eq] at e
  obtain ⟨⟨⟨rfl,rfl⟩,rfl⟩,rfl⟩:=e
  exact PySem.F.store_ValueError.passes self
 | .ref c::r,e=>by
  rw [refuseLoop_ref]
  exact ve_refuse self (by cases r <;> first | exact e | cases e)
theorem excset_code {s:Shared} {tk:Tok} {R:Result->Shared->Prop} {od:Option Obj} {cd:ClassData} (X:K.In s.heap) (c:ClsX K C) (hcd:W.clsIn K C=some cd) (hve:veTail cd.mro=true) (I:W.InstAt s.heap x o C od) (na:W.findIn K (.ref C) name=some none)
  (q:wpAny (model prog w) A.in1 (Builtin.ObjectAttr.storeInOwnDict (.ref x) (.ref C) (.str name tk) name v false) (fun fin s'=>match fin with | .done f=>R (.ok f) s' | .again c'=>c'.quiet=true/\codeAny (model prog w) A c' R s') (fun e s'=>R (.error e) s') s) :
  codeAny (model prog w) A (.call (.builtin "object.__setattr__") ⟨[.ref x,.str name tk,v],[]⟩) R s:=by
 have SF:=PySem.F.store_object
 have L0:=I.type (M:=model prog w)
 have L3:=W.looks_findIn (M:=model prog w) X na
 have L4:=W.looks_mroIn (M:=model prog w) X c.iso
 have L6:W.Looks (model prog w) s.heap (mroOf (.ref C)) cd.mro:=(W.looks_clsIn X hcd).andThen .now
 refine codeAny_call_builtin SF.slot.plain SF.entry ?_
 refine @W.check_slot (model prog w) _ _ s "object.__setattr__" "object" "__setattr__" (.ref x) [.str name tk,v] [] _ SF.kind SF.split (L0.andThen L4) (SF.args (.ref x) (.str name tk) v) ?_
 show wpAny _ _ (Builtin.«object.__setattr__» ⟨[.ref x,.str name tk,v],[]⟩) _ _ _
 rw [W.osa_eq,refuse_eq]
 refine wpAny_bind (wpAny_bind (L0.here (wpAny_bind (L6.here ?_))))
 rw [ve_refuse _ hve]
 refine wpAny_pure (wpAny_bind (L0.here (wpAny_bind (L3.here ?_))))
 exact wpAny_bind (wpAny_pure q)
theorem excset_new {s:Shared} {Q:Unit->Shared->Prop} {cd:ClassData} {vs:Array Value} (X:K.In s.heap) (c:ClsX K C) (hcd:W.clsIn K C=some cd) (hve:veTail cd.mro=true) (hx:s.heap.get? x=some o) (hc:o.cls=.ref C) (hd:o.dict=none) (hf:o.data=.fields vs) (na:W.findIn K (.ref C) name=some none)
  (q:∀ h' tk,h'.get? x=some { o with dict:=some s.heap.objs.size }->h'.Ns1 s.heap.objs.size (fun y=>if y=name then some v else none)->(∀ b u,b≠x->s.heap.get? b=some u->h'.get? b=some u)->Q () { s with heap:=h',toks:=tk }) :
  wpAny (model prog w) A (setAttr (.ref x) name v) Q E s:=by
 have I:W.InstAt s.heap x o C none:=⟨hx,hc,by unfold W.notCls; rw [hf],by rw [hd]; trivial⟩
 have hhd:cd.hasDict=true:=by
  obtain ⟨cd',e1,e2⟩:=W.any_some c.hd
  rw [hcd] at e1
  cases e1
  exact e2
 have hxs:x≠s.heap.objs.size:=Nat.ne_of_lt (Heap.lt_size hx)
 refine W.set_plain X I c.sa (excset_code (s:={ s with toks:=s.toks + 1 }) X c hcd hve I na ?_)
 unfold Builtin.ObjectAttr.storeInOwnDict
 refine wpAny_bind (wpAny_pure ?_)
 show wpAny _ _ (Builtin.ObjectAttr.ownDictForStores (.ref x) >>= _) _ _ _
 refine wpAny_bind ?_
 show wpAny _ _ (instanceDict x true) _ _ _
 unfold instanceDict
 refine wpAny_bind (wpAny_loadPart hx ?_)
 rw [hc,hd,hf]
 refine wpAny_bind (W.Looks.here (s:={ s with toks:=s.toks + 1 }) (W.looks_clsIn X hcd) ?_)
 rw [hhd]
 show wpAny _ _ (alloc { cls:=.type "dict",data:=.dict #[] } >>= _) _ _ _
 have hx1:(s.heap.push { cls:=.type "dict",data:=.dict #[] }).get? x=some o:=Heap.get?_push_of_some _ hx
 have hfree:({ o with dict:=some s.heap.objs.size }:Obj).isFreed=false:=Obj.isFreed_of_fields (vs:=vs) hf
 refine wpAny_bind (wpAny_alloc' ?_)
 refine wpAny_bind (wpAny_update' hx1 ?_)
 refine wpAny_pure ?_
 have hg1:((s.heap.push { cls:=.type "dict",data:=.dict #[] }).update x (fun o=>{ o with dict:=some s.heap.objs.size })).get? s.heap.objs.size=some { cls:=.type "dict",data:=.dict #[] }:=(Heap.get?_update_ne _ _ _ _ hxs.symm).trans (Heap.get?_push_at rfl rfl)
 have hx2:=Heap.get?_update_self (fun o=>{ o with dict:=some s.heap.objs.size }) hx1 hfree
 have ot:∀ b u,b≠x->s.heap.get? b=some u->((s.heap.push { cls:=.type "dict",data:=.dict #[] }).update x (fun o=>{ o with dict:=some s.heap.objs.size })).get? b=some u:=fun b u hb hu=>(Heap.get?_update_ne _ _ _ _ hb).trans (Heap.get?_push_of_some _ hu)
 generalize (s.heap.push { cls:=.type "dict",data:=.dict #[] }).update x (fun o=>{ o with dict:=some s.heap.objs.size })=g at hg1 hx2 ot ⊢
 have hn0:g.Ns s.heap.objs.size (fun _=>none):=⟨_,#[],_,hg1,rfl,fun e he=>absurd he (by simp),fun _=>rfl⟩
 show wpAny _ _ (Builtin.ObjectAttr.storeInDict s.heap.objs.size (.str name s.toks) name v) _ _ _
 unfold Builtin.ObjectAttr.storeInDict Builtin.ObjectAttr.newKeyGuard
 refine wpAny_bind (wpAny_pure (wpAny_bind (wpAny_nsSet1 (Heap.Ns1.of_empty hn0) fun h' hn' hs=>?_)))
 obtain ⟨oD,esD,epD,hoD,hdD,hcD⟩:=hn'.count (PySem.Within.cons name v PySem.Within.nil)
 refine wpAny_bind (wpAny_lookBehind hoD (by rw [hdD]; exact pastItsLine_dict (Nat.le_trans hcD (by rw [List.length_cons,List.length_nil,sizeLine_eq]; omega))) ?_)
 refine wpAny_pure ?_
 exact q h' _ ((hs.2 x hxs).trans hx2) hn' fun b u hb hu=>(hs.2 b (Nat.ne_of_lt (Heap.lt_size hu))).trans (ot b u hb hu)
theorem excset_more {s:Shared} {Q:Unit->Shared->Prop} {cd:ClassData} {vs:Array Value} {ns:List Str} (X:K.In s.heap) (c:ClsX K C) (hcd:W.clsIn K C=some cd) (hve:veTail cd.mro=true) (hx:s.heap.get? x=some o) (hc:o.cls=.ref C) (hd:o.dict=some dx) (hf:o.data=.fields vs) (hn:s.heap.Ns1 dx mA) (na:W.findIn K (.ref C) name=some none)
  (hw:PySem.Within mA ns) (hz:ns.length<=1000) (q:∀ h' tk,h'.Ns1 dx (fun y=>if y=name then some v else mA y)->Heap.SameBut dx s.heap h'->Q () { s with heap:=h',toks:=tk }) :
  wpAny (model prog w) A (setAttr (.ref x) name v) Q E s:=by
 obtain ⟨od,hod,_⟩:=lookIn_ns hn
 have I:W.InstAt s.heap x o C (some od):=⟨hx,hc,by unfold W.notCls; rw [hf],by rw [hd]; exact hod⟩
 have hhd:cd.hasDict=true:=by
  obtain ⟨cd',e1,e2⟩:=W.any_some c.hd
  rw [hcd] at e1
  cases e1
  exact e2
 refine W.set_plain X I c.sa (excset_code (s:={ s with toks:=s.toks + 1 }) X c hcd hve I na ?_)
 unfold Builtin.ObjectAttr.storeInOwnDict
 refine wpAny_bind (wpAny_pure ?_)
 show wpAny _ _ (Builtin.ObjectAttr.ownDictForStores (.ref x) >>= _) _ _ _
 refine wpAny_bind ?_
 show wpAny _ _ (instanceDict x true) _ _ _
 unfold instanceDict
 refine wpAny_bind (wpAny_loadPart hx ?_)
 rw [hc,hd,hf]
 refine wpAny_bind (W.Looks.here (s:={ s with toks:=s.toks + 1 }) (W.looks_clsIn X hcd) ?_)
 rw [hhd]
 refine wpAny_pure (a:=some dx) ?_
 show wpAny _ _ (Builtin.ObjectAttr.storeInDict dx (.str name s.toks) name v) _ _ _
 unfold Builtin.ObjectAttr.storeInDict Builtin.ObjectAttr.newKeyGuard
 refine wpAny_bind (wpAny_pure (wpAny_bind (wpAny_nsSet1 (s:={ s with toks:=s.toks + 1 }) hn fun h' hn' hs=>?_)))
 obtain ⟨oD,esD,epD,hoD,hdD,hcD⟩:=hn'.count (PySem.Within.cons name v hw)
 refine wpAny_bind (wpAny_lookBehind hoD (by rw [hdD]; exact pastItsLine_dict (Nat.le_trans hcD (by rw [List.length_cons,sizeLine_eq]; omega))) ?_)
 exact wpAny_pure (q h' _ hn' hs)
end
abbrev veMro:List Value:=[.type "ValueError",.type "Exception",.type "BaseException",.type "object"]
section
variable {prog:Program} {w:World} {A:Around} {E:Value->Shared->Prop} {u:Heap} {gs:Array GenState} {dr:Drawn} {tk:Nat} {ost:OsState}
variable {nm qn:Str} {C N fI:Addr} {bs bm:List Value} {hdct:Bool} {sn:List Str} {sub:List Value} {ab:Bool} {col:Option Bool} {dd:Option Addr} {k0 k1 k2 k3 k5:Option Value} {us:List Value}
abbrev made2 (u:Heap) (C:Addr) (us:List Value):Heap:=(u.push { cls:=.type "tuple",data:=.seq us.toArray }).push { cls:=.ref C,data:=.fields #[.ref u.objs.size,.none,.none,.none,.bool false,.none] }
theorem made2_keep {b:Addr} {o:Obj} (h:u.get? b=some o):(made2 u C us).get? b=some o:=Heap.get?_push_of_some _ (Heap.get?_push_of_some _ h)
theorem made2_at:(made2 u C us).get? (u.objs.size + 1)=some { cls:=.ref C,data:=.fields #[.ref u.objs.size,.none,.none,.none,.bool false,.none] }:=by heap_get
theorem xtype_call {Q:Fin->Shared->Prop} (hK:u.get? C=some (excClassObj nm qn C N bs bm hdct sn sub ab col dd k0 k1 k2 k3 k5 "ValueError.__new__")) (tl:OwnTail u veMro bm) (LI:W.Looks (model prog w) u (typeLookup (.ref C) "__init__") (some (.ref fI))) (LF:W.Looks (model prog w) u (typeOf (.ref fI)) (.type "function")) (hl:us.length<=sizeLine)
  (q:wpAny (model prog w) A (call (.ref fI) (.ref (u.objs.size + 1)::us)) (fun r s'=>r=.none/\Q (.done (.ret (.ref (u.objs.size + 1)))) s') E ⟨made2 u C us,gs,dr,tk,ost⟩) :
  wpAny (model prog w) A (Builtin.«type.__call__» ⟨.ref C::us,[]⟩) Q E ⟨u,gs,dr,tk,ost⟩:=by
 have F:=PySem.F.excBase_ValueError
 have hK1:(made2 u C us).get? C=some (excClassObj nm qn C N bs bm hdct sn sub ab col dd k0 k1 k2 k3 k5 "ValueError.__new__"):=made2_keep hK
 have LI1:=LI.keeps (h':=made2 u C us) fun b o hb=>made2_keep hb
 have LF1:=LF.keeps (h':=made2 u C us) fun b o hb=>made2_keep hb
 have hCC:(Value.ref C::bm).contains (.ref C)=true:=by simp
 have hX:=made2_at (u:=u) (C:=C) (us:=us)
 repeat (first | (with_reducible refine wpAny_loadPart_at hK ?_) | (with_reducible refine wpAny_madeBy_exc hK ?_) | wp_step)
 refine codeAny_call_builtin_code (Code.quiet_builtin _ F.quiet) ?_
 refine wpAny_check_new_subT F tl hK (codeAny_exc_new_subT F tl hK ?_ hl)
 show wpAny _ _ _ _ _ ⟨made2 u C us,gs,dr,tk,ost⟩
 unfold isInstance
 repeat (first | (with_reducible refine wpAny_loadPart_at hX ?_) | ((with_reducible refine wpAny_isSubtype_exc hK1 ?_); rw [hCC]) | wp_step)
 show wpAny _ _ (typeLookup (.ref C) "__init__") _ _ _
 refine LI1.at (wpAny_holding (wpAny_bind ?_))
 unfold bindSpecial
 refine wpAny_bind (LF1.at ?_)
 rw [if_pos (by decide)]
 refine wpAny_pure (wpAny_bind (wpAny_mono q (fun r s' hr=>?_) fun _ _ z=>z))
 obtain ⟨rfl,hQ⟩:=hr
 wp_walk
 exact hQ
theorem xcall_init {Q:Value->Shared->Prop} (hK:u.get? C=some (excClassObj nm qn C N bs bm hdct sn sub ab col dd k0 k1 k2 k3 k5 "ValueError.__new__")) (tl:OwnTail u veMro bm) (LI:W.Looks (model prog w) u (typeLookup (.ref C) "__init__") (some (.ref fI))) (LF:W.Looks (model prog w) u (typeOf (.ref fI)) (.type "function")) (hl:us.length<=sizeLine)
  (q:wpAny (model prog w) (A.under (.builtin "type.__call__" ⟨.ref C::us,[]⟩)) (call (.ref fI) (.ref (u.objs.size + 1)::us)) (fun r s'=>r=.none/\Q (.ref (u.objs.size + 1)) s') E ⟨made2 u C us,gs,dr,tk,ost⟩) :
  wpAny (model prog w) A (call (.ref C) us) Q E ⟨u,gs,dr,tk,ost⟩:=by
 have g1:=tc_lookup
 have g2:=tc_bind (.ref C)
 have hTy:(⟨u,gs,dr,tk,ost⟩:Shared).TypeIs (.ref C) "type" := ⟨_,hK,rfl⟩
 refine wpAny_call (codeAny_of_tree ?_)
 show wpAny _ _ (callAny (.ref C) _) _ _ _
 repeat (any_goals (first | assumption | (with_reducible refine wpAny_loadPart_at hK ?_) | wp_step))
 refine ⟨rfl,codeAny_call_builtin_at (Code.quiet_builtin _ (by decide +kernel)) entry_typeCall ?_⟩
 exact wpAny_check_type_call_sub hK (xtype_call hK tl LI LF hl q)
end
def xraw (x C:Addr) (od:Option Addr):Heap->Prop:=fun h=>∃ (oe:Obj) (t:Addr),h.get? x=some oe/\oe.cls=.ref C/\oe.dict=od/\oe.data=.fields #[.ref t,.none,.none,.none,.bool false,.none]
def xdict (d:Addr) (fs:List (Str × V)):Heap->Prop:=fun h=>∃ mA,h.Ns1 d mA/\∀ g,RelO (fs.lookup g) (mA g)
theorem xraw_ok {P:Program} {w:World} {H:Hp} {h:Heap} {x C:Addr} {od:Option Addr} (r:xraw x C od h):ObjOk P w H h x (.ext (xraw x C od)):=by
 refine ⟨r,let ⟨oe,_,e,_⟩:=r; ⟨oe,e⟩,fun h1 h2 ⟨oe,vs,e,r⟩ k=>⟨oe,vs,k _ e,r⟩⟩
theorem xdict_ok {P:Program} {w:World} {H:Hp} {h:Heap} {d:Addr} {fs:List (Str × V)} (r:xdict d fs h):ObjOk P w H h d (.ext (xdict d fs)):=by
 refine ⟨r,let ⟨_,⟨o,_,_,e,_⟩,_⟩:=r; ⟨o,e⟩,fun h1 h2 ⟨mA,⟨o,es,ep,e,c⟩,r⟩ k=>⟨mA,⟨o,es,ep,k _ e,c⟩,r⟩⟩
theorem ext_of {P:Program} {w:World} {H:Hp} {h:Heap} {a:Addr} {φ:Heap->Prop} (ok:HOk P w H h) (e:H a=some (.ext φ)):φ h:=(show ObjOk P w H h a (.ext φ) from ok a _ e).1
structure ExcCls (K:W.Frag) (C:Addr):Prop where
 cls:ClsX K C
 ve:∃ cd,W.clsIn K C=some cd/\veTail cd.mro=true
 ty:∃ o,K.lookup C=some o/\o.cls=.type "type"
section
variable {X:Cx} {pins:List (Addr × Obj)} {σ:St} {H:Hp} {s:Shared} {x C dx:Addr} {f:Str} {y:V} {v:Value} {fs:List (Str × V)}
theorem setx_new {Q:Unit->Shared->Prop} (I:Inv X pins σ H s) (c:ExcCls X.K C) (na:W.findIn X.K (.ref C) f=some none) (e:H x=some (.ext (xraw x C none))) (r:RelV y v)
  (q:∀ d s',H d=none->d≠x->Inv X pins σ (upd (upd H x (.ext (xraw x C (some d)))) d (.ext (xdict d [(f,y)]))) s'->Q () s'):wpAny (model X.prog X.w) X.A (setAttr (.ref x) f v) Q X.xe s:=by
 obtain ⟨oe,t,hx,hc,hd,hf⟩:=ext_of I.hok e
 obtain ⟨cd,hcd,hve⟩:=c.ve
 have hxs:s.heap.objs.size≠x:=Nat.ne_of_gt (Heap.lt_size hx)
 have hfr:H s.heap.objs.size=none:=I.hok.fresh (Nat.le_refl _)
 refine excset_new I.kIn c.cls hcd hve hx hc hd hf na fun h' tk hx' hn' kp=>q s.heap.objs.size _ hfr hxs ?_
 have raw:xraw x C (some s.heap.objs.size) h':=⟨_,t,hx',hc,rfl,hf⟩
 have I1:Inv X pins σ (upd H x (.ext (xraw x C (some s.heap.objs.size)))) { s with heap:=h',toks:=tk } :=
  I.write (x:=x) (e:=x) (by rw [e]; trivial) (.inl rfl) (fun b u hb hu=>kp b u hb hu) ⟨_,hx'⟩ (xraw_ok raw)
 obtain ⟨od,es,ep,hod,rest⟩:=id hn'
 have sz:=I.sz
 refine I1.track (a:=s.heap.objs.size) hod ?_ (Nat.ne_of_gt I.lt) (.inr sz) (fun z cl hz e'=>?_) (fun p hp e'=>?_) (xdict_ok ⟨_,hn',fun g=>?_⟩)
 ·rw [upd_ne hxs]
  exact hfr
 ·obtain ⟨vv,ob,hb,_⟩:=I.cell z cl hz
  exact absurd (e' ▸ Heap.lt_size hb) (Nat.lt_irrefl _)
 ·exact absurd (e' ▸ Heap.lt_size (I.pin p hp).1) (Nat.lt_irrefl _)
 ·by_cases hg:g=f
  ·subst hg
   simp only [List.lookup_cons,beq_self_eq_true,if_true]
   exact r
  ·have hb:(g == f)=false:=by simpa using hg
   simp only [List.lookup_cons,hb,if_neg hg,List.lookup_nil]
   trivial
theorem setx_more {Q:Unit->Shared->Prop} (I:Inv X pins σ H s) (c:ExcCls X.K C) (na:W.findIn X.K (.ref C) f=some none) (e:H x=some (.ext (xraw x C (some dx)))) (ed:H dx=some (.ext (xdict dx fs))) (hl:fs.length<=900) (r:RelV y v)
  (q:∀ s',Inv X pins σ (upd H dx (.ext (xdict dx (putF f y fs)))) s'->Q () s'):wpAny (model X.prog X.w) X.A (setAttr (.ref x) f v) Q X.xe s:=by
 obtain ⟨oe,t,hx,hc,hd,hf⟩:=ext_of I.hok e
 obtain ⟨mA,hn,rm⟩:=ext_of I.hok ed
 obtain ⟨cd,hcd,hve⟩:=c.ve
 have hw:PySem.Within mA (fs.map (·.1)):=fun g hg=>by
  cases hk:fs.lookup g with
  | none =>
   have:=rm g
   rw [hk] at this
   cases hm:mA g with
   | none=>exact absurd hm hg
   | some u=>rw [hm] at this; exact this.elim
  | some z=>exact List.mem_map.mpr ⟨(g,z),PySem.mem_of_lookup hk,rfl⟩
 refine excset_more I.kIn c.cls hcd hve hx hc hd hf hn na hw (by rw [List.length_map]; omega) fun h' tk hn' sb=>q _ ?_
 obtain ⟨od,es,ep,hod,rest⟩:=id hn'
 refine I.write (x:=dx) (e:=dx) (by rw [ed]; trivial) (.inl rfl) (fun b u hb hu=>(sb.2 b hb).trans hu) ⟨_,hod⟩ (xdict_ok ⟨_,hn',fun g=>?_⟩)
 rw [lookup_putF]
 by_cases hg:g=f
 ·rw [if_pos hg,if_pos hg]; exact r
 ·rw [if_neg hg,if_neg hg]; exact rm g
def sFldX (K:W.Frag) (C:Addr) (ta tv:TE) (f:Str):TS:=fun D σ H=>tv σ H fun y H1=>ta σ H1 fun u H2=>∃ x,u=.ref x/\ExcCls K C/\W.findIn K (.ref C) f=some none /\
 ((H2 x=some (.ext (xraw x C none))/\∀ d,H2 d=none->d≠x->D.nx σ (upd (upd H2 x (.ext (xraw x C (some d)))) d (.ext (xdict d [(f,y)])))) \/
 ∃ dx fs,H2 x=some (.ext (xraw x C (some dx)))/\H2 dx=some (.ext (xdict dx fs))/\fs.length<=900/\D.nx σ (upd H2 dx (.ext (xdict dx (putF f y fs)))))
theorem qs_fldX {oe value:Expr} {pos pos':Pos} {ta tv:TE} (K:W.Frag) (C:Addr) (ha:QE X oe ta) (hv:QE X value tv) (hs:swapsWith value (some (.Attribute oe f pos')) pos.line X.env=pure false:=by rfl) (hk:X.K=K:=by rfl):QS X (.Assign [.Attribute oe f pos'] value pos) (sFldX K C ta tv f):=by
 subst hk
 refine ⟨fun pins s σ H D I h=>?_⟩
 refine plainObj_wpAny_Assign_Attribute (thn (hv.run pins s σ H _ I h) fun u s1 ⟨y,H1,I1,ry,q⟩=>thn (ha.run pins s1 σ H1 _ I1 q) fun ov s2 ⟨z,H2,I2,rz,x,ez,c,na,way⟩=>?_) hs
 subst ez
 obtain rfl:ov=Value.ref x:=rz
 rcases way with ⟨e,q2⟩ | ⟨dx,fs,e,ed,hl,q2⟩
 ·exact setx_new I2 c na e ry fun d s3 hd hdx I3=>⟨σ,_,I3,q2 d hd hdx⟩
 ·exact setx_more I2 c na e ed hl ry fun s3 I3=>⟨σ,_,I3,q2⟩
end
def spX1 (C:Addr) (f:Str):Sp:=fun vs H Q _=>∃ (x:Addr) (a:V),vs=[.ref x,a]/\H x=some (.ext (xraw x C none))/\∀ d,H d=none->d≠x->Q .non (upd (upd H x (.ext (xraw x C (some d)))) d (.ext (xdict d [(f,a)])))
structure JOk (K:W.Frag) (J:Addr):Prop where
 ex:∃ c0 dd cd sl c1 d1 es n sl1,K.lookup J=some ⟨c0,dd,.cls cd,sl⟩/\K.lookup cd.ns=some ⟨c1,d1,.dict es n,sl1⟩/\StrKeys es/\nsFind es "__init__" = none
theorem JOk.tail {K:W.Frag} {J:Addr} {h:Heap} (j:JOk K J) (X:K.In h):OwnTail h veMro (.ref J::veMro):=by
 obtain ⟨c0,dd,cd,sl,c1,d1,es,n,sl1,e1,e2,e3,e4⟩:=j.ex
 exact .own (X _ _ e1) ⟨_,es,n,X _ _ e2,rfl,e3,fun _=>rfl⟩ e4 .base
structure XMk (K:W.Frag) (C fI:Addr):Prop where
 obj:∃ J nm qn N bs hdct sn sub ab col dd k0 k1 k2 k3 k5,K.lookup C=some (excClassObj nm qn C N bs (.ref J::veMro) hdct sn sub ab col dd k0 k1 k2 k3 k5 "ValueError.__new__")/\JOk K J
 init:W.findIn K (.ref C) "__init__" = some (some (.ref fI))
 fn:W.isFn K (.ref fI)=true
 kp:W.keepIn K (.ref C)=true
 cls:ClsX K C
theorem XMk.ec {K:W.Frag} {C fI:Addr} (m:XMk K C fI):ExcCls K C:=by
 obtain ⟨J,nm,qn,N,bs,hdct,sn,sub,ab,col,dd,k0,k1,k2,k3,k5,e,_⟩:=m.obj
 refine ⟨m.cls,⟨{ name:=nm,bases:=bs,mro:=.ref C::.ref J::veMro,ns:=N,qualname:=qn,hasDict:=hdct,slotNames:=sn,subclasses:=sub,abstract:=ab,collection:=col,hasDel:=false },?_,by simp [veTail]⟩,_,e,rfl⟩
 unfold W.clsIn
 rw [e]
section
variable {X:Cx} {pins:List (Addr × Obj)} {σ:St} {H:Hp} {s:Shared} {C fI:Addr} {k:Nat} {fd:FuncData} {ps:List Str} {sp:Sp} {E:XK}
theorem Inv.madeX {us:List Value} (I:Inv X pins σ H s):Inv X pins σ (upd H (s.heap.objs.size + 1) (.ext (xraw (s.heap.objs.size + 1) C none))) { s with heap:=made2 s.heap C us }:=by
 have sz:(s.heap.push { cls:=.type "tuple",data:=.seq us.toArray }).objs.size=s.heap.objs.size + 1:=Heap.size_push _ _
 exact I.laid (a:=s.heap.objs.size + 1) (t':=s.toks) (fun b u q=>made2_keep q) (Nat.le_succ _) (xraw_ok ⟨_,_,made2_at,rfl,rfl,rfl⟩)
theorem run_makeX {R:Hp->Prop} {us:List Value} {vs:List V} (M:XMk X.K C fI) (F:FnOk X.prog X.w X.K X.mg X.base CX0 k fI fd ps sp) (hr:Room (k + 1) X.A) (hb:Binds X.K fd ps []) (I:Inv X pins σ H s) (r:Vals vs us) (hl:vs.length<=100)
  (hq:sp (.ref (s.heap.objs.size + 1)::vs) (upd H (s.heap.objs.size + 1) (.ext (xraw (s.heap.objs.size + 1) C none))) (fun v H2=>v=.non/\R H2) E0) :
  wpAny (model X.prog X.w) X.A (call (.ref C) us) (fun u s'=>u=.ref (s.heap.objs.size + 1)/\∃ H',Inv X pins σ H' s'/\R H') X.xe s:=by
 have I2:=Inv.madeX (C:=C) (us:=us) I
 have r2:Vals (V.ref (s.heap.objs.size + 1)::vs) (Value.ref (s.heap.objs.size + 1)::us):=.cons rfl r
 have hps:((Value.ref (s.heap.objs.size + 1)::us)++[]).length=ps.length:=by
  rw [List.append_nil,<- r2.length]
  exact F.len _ _ _ _ hq
 obtain ⟨J,nm,qn,N,bs,hdct,sn,sub,ab,col,dd,k0,k1,k2,k3,k5,e,hj⟩:=M.obj
 have X0:=I.kIn
 have hul:us.length<=sizeLine:=by rw [<- r.length]; exact Nat.le_trans hl (by decide)
 have hbt:=hb _ (Value.ref (s.heap.objs.size + 1)::us) I2.kIn hps
 rw [List.append_nil] at hbt
 refine xcall_init (X0 _ _ e) (hj.tail X0) (W.looks_findIn X0 M.init) (W.looks_typeIn X0 (beq_iff_eq.mp M.fn)) hul ?_
 refine wpAny_call (codeAny_mono (F.run _ X.stack _ _ ⟨Value.ref (s.heap.objs.size + 1)::us,[]⟩ (Value.ref (s.heap.objs.size + 1)::us) _ (fun v H2=>v=.non/\R H2) E0 (hr.make C us []) (I2.env0.make C us []) hbt r2 hq) fun rr s' hq'=>?_)
 cases rr with
 | error e=>exact False.elim hq'
 | ok fl =>
  cases fl with
  | ret u =>
   obtain ⟨v,H',I3,rv,ev,q3⟩:=I2.after hq'
   subst ev
   exact ⟨rv,rfl,_,I3,q3⟩
  | next=>exact False.elim hq'
  | brk=>exact False.elim hq'
  | cont=>exact False.elim hq'
def tRaise (C:Addr) (sp:Sp) (E:XK) (t:TA):TS:=fun _ σ H=>t σ H fun vs H1=>vs.length<=100/\∀ x,H1 x=none->sp (.ref x::vs) (upd H1 x (.ext (xraw x C none))) (fun v H2=>v=.non/\∃ od,H2 x=some (.ext (xraw x C od))/\E (.ref C) od (upd H2 x (.ext (xfly x (.ref C) od)))) E0
theorem qs_raise {x:Str} {e:Expr} {es:List Expr} {t:TA} {p cpos pos:Pos} (E:XK) (M:XMk X.K C fI) (F:FnOk X.prog X.w X.K X.mg X.base CX0 k fI fd ps sp) (hr:Room (k + 1) X.A) (hm:X.mg x=some (.ref C)) (hb:Binds X.K fd ps []) (hlv:Leaves X E) (hc:X.calm=true) (ha:QA X (e::es) t) (hg:Gl X x:=by rfl) (hdb:(x == ("__debug__" : Str))=false:=by decide) :
  QS X (.Raise (some (.Call (.Name x p) (e::es) [] cpos)) none pos) (tRaise C sp E t):=by
 refine ⟨fun pins s σ H D I h=>?_⟩
 rw [arm_exec_Raise]
 show wpAny _ _ (standAt pos >>= fun _=>raiseStmt X.env (some (eval (.Call (.Name x p) (e::es) [] cpos) X.env >>= fun v=>standAt pos >>= fun _=>pure v)) none) _ _ _
 refine wpAny_bind (wpAny_standAt ?_)
 unfold raiseStmt
 have ev:wpAny (model X.prog X.w) X.A (eval (.Call (.Name x p) (e::es) [] cpos) X.env) (fun u s2=>∃ (a:Addr) (H2:Hp) (od:Option Addr),u=.ref a/\X.s₀.heap.objs.size<=a/\(∀ p∈X.pn++pins,p.1≠a)/\Inv X pins σ H2 s2/\H2 a=some (.ext (xraw a C od))/\E (.ref C) od (upd H2 a (.ext (xfly a (.ref C) od)))) X.xe s:=by
  refine wpAny_Call_Name_kw (ld_glob I hg hm ?_ hdb)
  refine W.callWith_K (h₀:=X.base) I.ok.mod.kin M.kp (thn (ha.run cpos pins s σ H _ I h) fun us s1 ⟨vs,H1,I1,r,hl,q⟩=>⟨I1.kIn,?_⟩) (starEach_ns (ns_hd ha.ns).1) (backTo_ns (ns_hd ha.ns).2)
  refine thn (run_makeX M F hr hb I1 r hl (q (s1.heap.objs.size + 1) (I1.hok.fresh (Nat.le_succ _)))) fun u s2 ⟨eu,H2,I2,od,e2,q2⟩=>⟨_,H2,od,eu,Nat.le_trans I1.sz (Nat.le_succ _),fun p hp z=>?_,I2,e2,q2⟩
  exact absurd (z ▸ Heap.lt_size (I1.pin p hp).1) (Nat.not_lt.mpr (Nat.le_succ _))
 refine wpAny_bind (wpAny_bind (thn ev fun u s1 ⟨a,H1,od,eu,sa,pa,I1,ex,q⟩=>wpAny_bind (wpAny_standAt (wpAny_pure ?_))))
 subst eu
 obtain ⟨oe,t,hx,hcl,hod,hdt⟩:=ext_of I1.hok ex
 have L:=W.looks_mroIn (M:=model X.prog X.w) I1.kIn M.cls.isx
 obtain ⟨oC,hoC,hoT⟩:=M.ec.ty
 have hC:=I1.kIn _ _ hoC
 obtain ⟨oc,od',odt,osl⟩:=oe
 dsimp only at hcl hod hdt
 subst hcl hod hdt
 have fin:X.xe (.ref a) s1:=by
  have I2:Inv X pins σ (upd H1 a (.ext (xfly a (.ref C) od'))) s1 :=
   I1.write (x:=a) (e:=a) (h':=s1.heap) (t':=s1.toks) (o:=.ext (xfly a (.ref C) od')) (by rw [ex]; trivial) (.inl rfl) (fun b u _ hu=>hu) ⟨_,hx⟩ (xfly_ok ⟨_,_,hx,rfl,rfl,rfl⟩)
  exact hlv pins σ _ s1 ⟨a,.ref C,od',none,_,rfl,I2,upd_same,sa,pa,(fun T e=>nomatch e),⟨⟨_,_,hx,rfl,rfl,rfl,rfl⟩,fun T e=>nomatch e⟩,q⟩
 have hh:=I1.ok.hd hc
 obtain ⟨hp,g,d,tk,os⟩:=s1
 repeat (first | (with_reducible refine wpAny_loadPart_at hx ?_) | ((with_reducible refine wpAny_loadPart_at hC ?_); rw [hoT]) | (with_reducible refine L.at ?_) | wp_step)
 exact wpAny_raiseNew_none hh fin
end
structure ClsI (K:W.Frag) (C:Addr):Prop where
 cx:ClsX K C
 ha:W.findIn K (.ref C) "__class__" = some (some (.builtin "object.__class__"))
 hn:W.specialIn K (.builtin "object.__class__") "__get__" = some (some (.builtin "getset_descriptor.__get__"))
 tk:W.takesIn K (.builtin "object.__class__")=some true
section
variable {prog:Program} {w:World} {A:Around} {E:Value->Shared->Prop} {K:W.Frag} {x C:Addr} {o od:Obj} {s:Shared}
theorem excclass_code {tk:Tok} {R:Result->Shared->Prop} (X:K.In s.heap) (c:ClsI K C) (I:W.InstAt s.heap x o C (some od)) (q:R (.ok (.ret (.ref C))) s) :
  codeAny (model prog w) A (.call (.builtin "BaseException.__getattribute__") ⟨[.ref x,.str "__class__" tk],[]⟩) R s:=by
 have L4:=W.looks_mroIn (M:=model prog w) X c.cx.isx
 have hf:W.findObj K C (some od) "__class__" = some (.bind (.builtin "getset_descriptor.__get__") (.builtin "object.__class__")):=W.findObj_data (by obtain ⟨cd,hc,_⟩:=W.any_some c.cx.hd; rw [hc]; rfl) c.ha c.hn c.tk
 have L5:=W.looks_find (M:=model prog w) X I hf
 have L0:=I.type (M:=model prog w)
 refine codeAny_call_builtin PySem.F.excAttr_ValueError.ga.plain PySem.F.entry_bexc_ga ?_
 refine @W.check_slot (model prog w) _ _ s "BaseException.__getattribute__" "BaseException" "__getattribute__" (.ref x) [.str "__class__" tk] [] _ gaKind gaSplit (L0.andThen L4) (PySem.F.args_bexc_ga _ _) ?_
 show wpAny _ _ (Builtin.«object.__getattribute__» ⟨[.ref x,.str "__class__" tk],[]⟩) _ _ _
 unfold Builtin.«object.__getattribute__»
 refine wpAny_bind (wpAny_pure (wpAny_bind (wpAny_pure (wpAny_bind (L0.here (wpAny_bind (L5.here ?_)))))))
 show wpAny _ _ (holding [.builtin "object.__class__"] (call (.builtin "getset_descriptor.__get__") [.builtin "object.__class__",.ref x,.ref C]) >>= ret) _ _ _
 exact wpAny_bind (wpAny_holding (wpAny_call (W.class_get (ox:=o) (od:=some od) X I c.cx.iso (wpAny_pure q))))
theorem excclass {Q:Option Value->Shared->Prop} (X:K.In s.heap) (c:ClsI K C) (I:W.InstAt s.heap x o C (some od)) (q:Q (some (.ref C)) { s with toks:=s.toks + 1 }):wpAny (model prog w) A (getAttr? (.ref x) "__class__") Q E s:=by
 obtain ⟨h,g,d,t,os⟩:=s
 have L0:=I.type (M:=model prog w)
 have L1:=W.looks_findIn (M:=model prog w) X c.cx.ga
 have L2:=W.looks_findIn (M:=model prog w) X c.cx.gh
 have f3:=PySem.F.excAttr_ValueError.ga.bind (.ref x)
 have hx0:(false && onTheHeap (Value.builtin "BaseException.__getattribute__"))=false:=rfl
 have hx2:(Value.builtin "BaseException.__getattribute__" == Value.builtin "object.__getattribute__")=false:=by decide +kernel
 have hx1:(onTheHeap (Value.ref C) && Value.builtin "BaseException.__getattribute__" == Value.builtin "object.__getattribute__")=false:=by rw [hx2]; rfl
 unfold getAttr? getAttrBy? getAttrBy
 repeat (first | assumption | with_reducible refine L0.at ?_ | with_reducible refine L1.at ?_ | with_reducible refine L2.at ?_ | wp_step)
 refine excclass_code (s:=⟨h,g,d,t + 1,os⟩) X c I ?_
 exact W.handed_on (v:=.ref C) rfl (wpAny_pure q)
theorem kitx_exc (c:ClsI K C):W.KitX K (.ref x) (.ref C) (fun h=>∃ o od,W.InstAt h x o C (some od)) where
 ty:=fun _ _ _ ⟨_,_,I⟩=>I.type
 it:=fun _ _ X _=>by
  obtain ⟨cd,e,_⟩:=W.any_some c.cx.hd
  unfold W.clsIn at e
  split at e
  ·rename_i c1 d1 cd1 sl1 e1
   exact fun A' Q' E' s' k q=>by
    unfold isType loadHead
    exact wpAny_bind (wpAny_loadPart (k _ _ (X _ _ e1)) (wpAny_pure q))
  ·cases e
 ne:=fun h tp dd its n sl X htp=>by
  obtain ⟨cd,e,_⟩:=W.any_some c.cx.hd
  refine Bool.eq_false_iff.mpr fun q=>?_
  have e1:C=tp:=Value.ref.inj (beq_iff_eq.mp q)
  subst e1
  unfold W.clsIn at e
  split at e
  ·rename_i c1 d1 cd1 sl1 e2
   have z:=(X _ _ e2).symm.trans htp
   cases z
  ·cases e
 ca:=fun X ⟨_,_,I⟩ k=>excclass X c I k
end
inductive Asked (K:W.Frag) (H:Hp) (C:Addr):V->Bool->Prop where
 | own {D:Addr} {b:Bool} (e:W.kitOne K (.ref C) (.ref D)=some b):Asked K H C (.ref D) b
 | ty {T:String} {b:Bool} (e:W.kitOne K (.ref C) (.type T)=some b):Asked K H C (.ty T) b
 | tup {t:Addr} {ds:List Addr} {b:Bool} (h:H t=some (.tup (ds.map V.ref))) (e:W.kitAny K (.ref C) (ds.map Value.ref)=some b):Asked K H C (.ref t) b
theorem vals_refs:∀ {ds:List Addr} {us:List Value},Vals (ds.map V.ref) us->us=ds.map Value.ref
 | [],_,.nil=>rfl
 | d::ds,_,.cons r t=>by
  have e:=vals_refs t
  subst e
  have:_=Value.ref d:=r
  subst this
  rfl
section
variable {X:Cx}
def rIsiX (K:W.Frag):List V->Hp->VK->Prop:=fun xs H Q=>∃ (x C dx:Addr) (fs:List (Str × V)) (y:V) (b:Bool),xs=[.ref x,y]/\H x=some (.ext (xfly x (.ref C) (some dx)))/\H dx=some (.ext (xdict dx fs))/\ClsI K C/\Asked K H C y b/\Q (.bl b) H
theorem isi_inst {P:Program} {w:World} {H:Hp} {h:Heap} {x C dx:Addr} {fs:List (Str × V)} (ok:HOk P w H h) (e1:H x=some (.ext (xfly x (.ref C) (some dx)))) (e2:H dx=some (.ext (xdict dx fs))):∃ (o od:Obj) (mA:Str->Option Value),W.InstAt h x o C (some od)/\(∀ name,W.lookIn name od=some (mA name))/\∀ g,RelO (fs.lookup g) (mA g):=by
 obtain ⟨oe,vs,hx,hc,hd,hf⟩:=ext_of ok e1
 obtain ⟨mA,hn,rm⟩:=ext_of ok e2
 obtain ⟨od,hod,hl⟩:=lookIn_ns hn
 exact ⟨oe,od,mA,⟨hx,hc,by unfold W.notCls; rw [hf],by rw [hd]; exact hod⟩,hl,rm⟩
theorem call_isiX (K:W.Frag) (hk:X.K=K:=by rfl):CallR X (.builtin "isinstance") (rIsiX K):=by
 subst hk
 intro pins s σ H xs us Q I r h
 obtain ⟨x,C,dx,fs,y,b,rfl,e1,e2,c,a,q⟩:=h
 obtain ⟨o,od,mA,In,_,_⟩:=isi_inst I.hok e1 e2
 obtain ⟨u1,u2,rfl,r1,r2⟩:=r.two
 obtain rfl:u1=Value.ref x:=r1
 have fin:∀ tk,EP X pins σ Q (.bool b) { s with toks:=tk }:=fun tk=>⟨.bl b,H,I.tok tk,rfl,q⟩
 cases a with
 | own e =>
  obtain rfl:=(show u2=Value.ref _ from r2)
  exact W.kia_one (kitx_exc c) I.kIn ⟨_,_,In⟩ e (fun z=>nomatch z) fin
 | ty e =>
  obtain rfl:=(show u2=Value.type _ from r2)
  exact W.kia_one (kitx_exc c) I.kIn ⟨_,_,In⟩ e (fun z=>nomatch z) fin
 | tup h e =>
  obtain rfl:=(show u2=Value.ref _ from r2)
  obtain ⟨_,its,rv,ob,ho,hcl,n,hdt,_⟩:=(show ObjOk X.prog X.w H s.heap _ (.tup _) from I.hok _ _ h)
  have:=vals_refs rv
  subst this
  obtain ⟨oc,od1,odt,osl⟩:=ob
  dsimp only at hcl hdt
  subst hcl hdt
  exact W.kia_tup (kitx_exc c) I.kIn ⟨_,_,In⟩ ho e (fun z=>nomatch z) fin
def tFldX (K:W.Frag) (ta:TE) (f:Str):TE:=fun σ H Q=>ta σ H fun u H1=>∃ (x C dx:Addr) (fs:List (Str × V)) (v:V),u=.ref x/\H1 x=some (.ext (xfly x (.ref C) (some dx)))/\H1 dx=some (.ext (xdict dx fs))/\ClsX K C/\W.findIn K (.ref C) f=some none/\fs.lookup f=some v/\Q v H1
theorem qe_fldX {e:Expr} {ta:TE} {f:Str} {pos:Pos} (K:W.Frag) (he:QE X e ta) (hb:attributeBase e f X.env (eval e X.env)=eval e X.env:=by rfl) (hk:X.K=K:=by rfl):QE X (.Attribute e f pos) (tFldX K ta f):=by
 subst hk
 refine ⟨fun pins s σ H Q I h=>attr_of hb (thn (he.run pins s σ H _ I h) fun u s1 ⟨z,H1,I1,rz,x,C,dx,fs,v,ez,e1,e2,c,na,l,q⟩=>?_)⟩
 subst ez
 obtain rfl:u=Value.ref x:=rz
 obtain ⟨o,od,mA,In,hl,rm⟩:=isi_inst I1.hok e1 e2
 obtain ⟨u',hu,ru⟩:=RelO.some_of (v:=v) (o:=mA f) (by rw [<- l]; exact rm f)
 exact excget I1.kIn c In na (by rw [hl,hu]) (W.handedOut_of (handed_of ru)) ⟨v,H1,I1.tok _,ru,q⟩
end
structure QEx (X:Cx) (e:Expr) (t:XK->TE):Prop where
 run:∀ (E:XK) (pins:List (Addr × Obj)) (s:Shared) (σ:St) (H:Hp) (Q:VK),Inv X pins σ H s->t E σ H Q->wpAny (model X.prog X.w) X.A (eval e X.env) (EP X pins σ Q) (XP X pins σ E) s
section
variable {X:Cx} {pins:List (Addr × Obj)} {σ:St} {H:Hp} {s:Shared} {E:XK}
theorem run_fnX {k:Nat} {f:Addr} {fd:FuncData} {ps:List Str} {sp:Sp} {Q:VK} {us:List Value} {vs:List V} (F:FnOk X.prog X.w X.K X.mg X.base (CX1 X.prog X.w) k f fd ps sp) (hr:Room k X.A) (hb:Binds X.K fd ps []) (I:Inv X pins σ H s) (r:Vals vs us) (h:sp vs H Q E) :
  wpAny (model X.prog X.w) X.A (call (.ref f) us) (EP X pins σ Q) (XP X pins σ E) s:=by
 have hl:(us++[]).length=ps.length:=by rw [List.append_nil,<- r.length]; exact F.len _ _ _ _ h
 have hbt:=hb s us I.kIn hl
 rw [List.append_nil] at hbt
 refine wpAny_call (codeAny_mono (F.run X.A X.stack s H ⟨us,[]⟩ us vs Q E hr I.env0 hbt r h) fun rr s' hq=>?_)
 cases rr with
 | error e=>exact xp_of I hq
 | ok fl =>
  cases fl with
  | ret u=>exact I.after hq
  | next=>exact False.elim hq
  | brk=>exact False.elim hq
  | cont=>exact False.elim hq
theorem qx_call {k:Nat} {x:Str} {ps:List Str} {sp:Sp} {e:Expr} {es:List Expr} {t:TA} {p pos:Pos} (D:DefX X.prog X.w X.K X.mg X.base k x ps sp) (hr:Room k X.A) (ha:∀ Ex,QA (X.wish Ex) (e::es) t) (hg:Gl X x:=by rfl) (hdb:(x == ("__debug__" : Str))=false:=by decide) :
  QEx X (.Call (.Name x p) (e::es) [] pos) (fun E=>tCallX sp E t):=by
 obtain ⟨f,fd,F,hm,hk,hb⟩:=D.ex
 refine ⟨fun E pins s σ H Q I h=>wpAny_Call_Name_kw (ld_glob I hg hm ?_ hdb)⟩
 have hA:=ha (XP X pins σ E)
 refine W.callWith_K (h₀:=X.base) I.ok.mod.kin hk (thn (hA.run pos pins s σ H _ (I.wish _) h) fun us s1 ⟨vs,H1,I1,r,q⟩=>⟨I1.unwish.kIn,?_⟩) (starEach_ns (ns_hd hA.ns).1) (backTo_ns (ns_hd hA.ns).2)
 exact run_fnX F hr hb I1.unwish r q
theorem fly_not {x:Addr} {cls:Value} {od:Option Addr} (I:Inv X pins σ H s) (f:xfly x cls od s.heap):x≠X.env.locals/\∀ y c,X.env.cells.lookup y=some c->c≠x:=by
 obtain ⟨oe,vs,hx,_,_,hd⟩:=f
 refine ⟨fun z=>?_,fun y c hc z=>?_⟩
 ·obtain ⟨m,⟨o,es,ep,ho,hd',_⟩,_⟩:=I.loc
  rw [<- z,hx] at ho
  cases ho
  rw [hd] at hd'
  cases hd'
 ·obtain ⟨v,o,ho,hd'⟩:=I.cell y c hc
  rw [z,hx] at ho
  cases ho
  rw [hd] at hd'
  cases hd'
theorem Inv.noted {h':Heap} {x:Addr} {cls:Value} {od tb:Option Addr} (I:Inv X pins σ H s) (nt:Noted (frs X.stack) x tb s.heap h') (ex:H x=some (.ext (xfly x cls od))) (fl:xfly x cls od h') (sx:X.s₀.heap.objs.size<=x) (px:∀ p∈X.pn++pins,p.1≠x)
  (hT:∀ T,tb=some T->H T=none/\X.s₀.heap.objs.size<=T/\∀ p∈X.pn++pins,p.1≠T) (tT:∀ T,tb=some T->∃ oT ts,s.heap.get? T=some oT/\oT.data=.fields ts):Inv X pins σ H { s with heap:=h' }:=by
 have fx:=fly_not I (ext_of I.hok ex)
 refine I.call (g':=s.gens) (t':=s.toks) (d':=s.drawn) (ch:=x::tb.toList) ⟨fun b o hb n hf hc=>?_,fun b o hb n hf hc=>nt.slot b o hb hf,fun b o hb n _=>n,fun b o hb _=>nt.there b o hb,fun _ _ e=>e,fun _ _ _ e=>e,fun b ps e=>⟨#[],by rw [e]; simp⟩⟩ (I.hok.noted nt ex fl (fun T e=>(hT T e).1) I.stkFree) I.bare fun b hb=>?_
 ·refine nt.keep b o hb (fun z=>hc (by rw [z]; exact List.mem_cons_self ..)) (fun z=>hc (List.mem_cons_of_mem _ (by rw [z]; simp))) hf
 ·rcases List.mem_cons.mp hb with rfl | hb
  ·exact ⟨.inr sx,fx.1,fx.2,px⟩
  ·have e:tb=some b:=by
    cases tb with
    | none=>cases hb
    | some T=>simp at hb; rw [hb]
   obtain ⟨oT,ts,h1,h2⟩:=tT b e
   have fT:=fly_not (x:=b) (cls:=oT.cls) (od:=oT.dict) I ⟨oT,ts,h1,rfl,rfl,h2⟩
   exact ⟨.inr (hT b e).2.1,fT.1,fT.2,(hT b e).2.2⟩
theorem Inv.gone {h':Heap} {tk:Nat} {j:Nat} {n:Str} {m:Str->Option Value} {v:Option Value} (I:Inv X pins σ H s) (hN:X.N.Nodup) (hj:X.N[j]? = some n) (hl:∀ (i:Nat) (x:Str) (w:V),X.N[i]? = some x->σ[i]? = some (some w)->Vis X.env.scope x->∃ u,RelV w u/\Look X.env s.heap m x u)
  (hn':h'.Ns X.env.locals (fun y=>if y=n then v else m y)) (hs:Heap.SameBut X.env.locals s.heap h'):Inv X pins (σ.set j none) H { s with heap:=h',toks:=tk }:=by
 have cne:=I.cne
 have up:=I.ok.above
 have old:∀ b (o:Obj),X.s₀.heap.get? b=some o->b≠X.env.locals:=fun b o e=>Nat.ne_of_lt (Nat.lt_of_lt_of_le (Heap.lt_size e) up)
 refine ⟨I.ok,I.os,I.bare,⟨fun b o e n' hb hx=>?_,fun b o e n' hb hx=>?_,I.base.free,fun b o e hx=>?_,I.base.tups,I.base.frzs,I.base.tbls⟩,⟨_,hn',fun i y w e1 e2 e3=>?_⟩,fun y c e=>?_,I.free,I.freeC,fun p hp=>?_,fun b ob e=>?_,by simpa using I.len⟩
 ·exact (hs.2 b (old b o e)).trans (I.base.keep b o e n' hb hx)
 ·obtain ⟨sl,e1⟩:=I.base.slot b o e n' hb hx
  exact ⟨sl,(hs.2 b (old b o e)).trans e1⟩
 ·obtain ⟨o',e1⟩:=I.base.there b o e hx
  exact ⟨o',(hs.2 b (old b o e)).trans e1⟩
 ·have hij:i≠j:=fun z=>by
   subst z
   by_cases hlt:i < σ.length
   ·rw [List.getElem?_set_self hlt] at e2
    cases e2
   ·rw [List.getElem?_eq_none (by rw [List.length_set]; omega)] at e2
    cases e2
  rw [List.getElem?_set_ne (Ne.symm hij)] at e2
  obtain ⟨u,r,q⟩:=hl i y w e1 e2 e3
  refine ⟨u,r,?_⟩
  rcases q with ⟨k,e⟩ | ⟨k,c,e,ob,hob,hdc⟩
  ·have hyn:y≠n:=fun z=>hij (nodup_ix hN e1 (z ▸ hj))
   exact .inl ⟨k,by simp [hyn,e]⟩
  ·exact .inr ⟨k,c,e,ob,(hs.2 c (cne y c e)).trans hob,hdc⟩
 ·obtain ⟨w,ob,hob,hdc⟩:=I.cell y c e
  exact ⟨w,ob,(hs.2 c (cne y c e)).trans hob,hdc⟩
 ·obtain ⟨p1,p2,p3,p4,p5⟩:=I.pin p hp
  exact ⟨(hs.2 p.1 p3).trans p1,p2,p3,p4,p5⟩
 ·have free:=I.free
  refine (I.hok b ob e).stay (fun c w' hc q=>(hs.2 c fun z=>?_).trans q) (fun _ q=>q) fun _ _ q=>q
  rcases hc with rfl | hc
  ·rw [z,free] at e; cases e
  ·rw [z,free] at hc; cases hc
end
def hctx (X:Cx) (x:Addr):Cx:={ X with A:=X.A.mark (some (.ref x)),calm:=false,xe:=fun _ _=>False }
theorem Inv.hctx {X:Cx} {pins:List (Addr × Obj)} {σ:St} {H:Hp} {s:Shared} (I:Inv X pins σ H s) (x:Addr):Inv (hctx X x) pins σ H s :=
 ⟨⟨I.ok.mod,I.ok.kind,I.ok.glob,I.ok.blt,I.ok.above,I.ok.inj,I.ok.has,I.ok.cab,fun z=>(by cases z),I.ok.frames,I.ok.stk,I.ok.exf,I.ok.bs,I.ok.bsz,I.ok.noex,I.ok.exfs,I.ok.funs,I.ok.frf⟩,I.os,I.bare,I.base,I.loc,I.cell,I.free,I.freeC,I.pin,I.hok,I.len⟩
theorem Inv.unhctx {X:Cx} {pins:List (Addr × Obj)} {σ:St} {H:Hp} {s:Shared} {x:Addr} (ok:X.Ok) (I:Inv (L2.hctx X x) pins σ H s):Inv X pins σ H s :=
 ⟨ok,I.os,I.bare,I.base,I.loc,I.cell,I.free,I.freeC,I.pin,I.hok,I.len⟩
theorem flight_again {M:Model} {A:Around} {Ex:Value->Shared->Prop} {s:Shared} {base:Heap} {l:List Env} {x T:Addr} {cls:Value} {od:Option Addr} {Q:Unit->Shared->Prop} (hl:s.heap.FunFrames base l) (ea:ExcAt s.heap x cls od (some T))
  (h:∀ h',Noted (frs l) x (some T) s.heap h'->ExcAt h' x cls od (some T)->Q () { s with heap:=h' }):wpAny M A (setFlight (.ref x) none) Q Ex s:=by
 obtain ⟨⟨oe,vs,he,hc,hod,hd,h1⟩,ht⟩:=ea
 obtain ⟨hTx,oT,ts,hT,hdT,h3⟩:=ht T rfl
 have h3s:3 < ts.size:=(Array.getElem?_eq_some_iff.mp h3).1
 unfold setFlight
 refine wpAny_bind (wpAny_field he hd h1 ?_)
 rw [if_pos (show ((some T:Option Addr).elim Value.none Value.ref != Value.none)=true by simp)]
 refine wpAny_setField hT hdT h3s ?_
 have ot:∀ b,b≠T->(s.heap.update T (Obj.mapFields (·.setIfInBounds 3 ((none:Option Addr).elim Value.none fun f=>rawInt f)))).get? b=s.heap.get? b:=fun b hb=>Heap.get?_update_other _ _ (Ne.symm hb)
 have hT':=Heap.get?_update_self (Obj.mapFields (·.setIfInBounds 3 ((none:Option Addr).elim Value.none fun f=>rawInt f))) hT (Obj.isFreed_of_fields (Obj.data_mapFields hdT _))
 have hTf:T ∉ frs l:=frame_not hl hT hdT
 refine h _ ⟨fun b o hb _ hbT _=>?_,fun b o hb hbf=>?_,fun b o hb=>?_⟩ ⟨⟨oe,vs,(ot x hTx.symm).trans he,hc,hod,hd,h1⟩,fun T' e=>?_⟩
 ·exact (ot b fun z=>hbT (by rw [z])).trans hb
 ·exact ⟨o.slots,(ot b fun z=>hTf (z ▸ hbf)).trans hb⟩
 ·by_cases z:b=T
  ·subst z
   exact ⟨_,hT'⟩
  ·exact ⟨o,(ot b z).trans hb⟩
 ·cases e
  exact ⟨hTx,_,_,hT',Obj.data_mapFields hdT _,by simp [h3s]⟩
def Ends.after (D:Ends) (j:Nat):Ends:={ nx:=fun σ H=>D.nx (σ.set j none) H,rt:=D.rt,bk:=fun σ H=>D.bk (σ.set j none) H,ct:=fun σ H=>D.ct (σ.set j none) H }
section
variable {X:Cx} {pins:List (Addr × Obj)} {σ:St} {H:Hp} {s:Shared} {D:Ends} {th:TS} {cn n:Str} {C0:Addr} {np hpos:Pos} {b0:Stmt} {suite:List Stmt} {j:Nat} {e:Value}
def clauseAs (K:W.Frag) (C0:Addr) (j:Nat) (th:TS) (D:Ends) (σ:St):XK:=fun cls od H'=>W.exmOne K cls (.ref C0)=some true/\∀ x,H' x=some (.ext (xfly x cls od))->th (D.after j) (σ.set j (some (.ref x))) H'
def clauseNo (K:W.Frag) (C0:Addr) (th:TS) (D:Ends) (σ:St):XK:=fun cls od H'=>W.exmOne K cls (.ref C0)=some true/\th D σ H'
theorem looks_fly {M:Model} {h:Heap} {x:Addr} {cls:Value} {od tb:Option Addr} (ea:ExcAt h x cls od tb):W.Looks M h (typeOf (.ref x)) cls:=by
 obtain ⟨oe,vs,hx,hc,_⟩:=ea.obj
 exact hc ▸ (W.Looks.ld hx).andThen .now
theorem handle_as (hst:X.stack=X.env::X.outer) (hfr:X.env.frame=some X.env.locals) (hm:X.mg cn=some (.ref C0)) (hg:Gl X cn) (hdb:(cn == ("__debug__" : Str))=false) (hN:X.N.Nodup) (hj:X.N[j]? = some n) (hloc:X.env.scope.names.lookup n=some .local) (hs:∀ x,QSs (hctx X x) (b0::suite) th)
  (h:XP X pins σ (clauseAs X.K C0 j th D σ) e s) :
  wpAny (model X.prog X.w) X.A (noteFrame e X.env) (fun _ s₂=>wpAny (model X.prog X.w) X.A (setFlight e none) (fun _ s₃=>wpAny (model X.prog X.w) X.A (handleBy e X.env [.ExceptHandler (some (.Name cn np)) (some n) (b0::suite) hpos]) (SP X pins D) X.xe s₃) X.xe s₂) X.xe s:=by
 obtain ⟨x,cls,od,tb,H',rfl,I,ex,sx,px,hT,ea,he,q⟩:=h
 have frames:=I.ok.frames
 have stack:=I.stack
 rw [hst] at frames stack
 refine note_flight frames stack hfr ea fun h2 T2 hsz nt ea2=>?_
 have I2:Inv X pins σ H' { s with heap:=h2 }:=I.noted (by rw [hst]; exact nt) ex ea2.fly sx px hT fun T eT=>let ⟨_,oT,ts,a,b,_⟩:=ea.hd T eT; ⟨oT,ts,a,b⟩
 have hT2:∀ T,some T2=some T->H' T=none/\X.s₀.heap.objs.size<=T/\∀ p∈X.pn++pins,p.1≠T:=fun T eT=>by
  cases eT
  exact ⟨I.hok.fresh hsz,Nat.le_trans I.sz hsz,fun p hp z=>absurd (z ▸ Heap.lt_size (I.pin p hp).1) (Nat.not_lt.mpr hsz)⟩
 refine wpAny_handleBy_cons (codeAny_handlers_test ?_) (by intro z; cases z)
 refine ld_glob (X:=hctx X x) (I2.hctx x) hg hm ?_ hdb
 refine (W.exm_one (h:=h2) I2.kIn (looks_fly ea2) he).here ?_
 show codeAny _ _ (.handlers (.ref x) [.ExceptHandler none (some n) (b0::suite) hpos] X.env) _ _
 refine codeAny_handlers_suite_as ?_
 have stack2:=I2.stack
 refine flight_again (T:=T2) stack2 ea2 fun h3 nt3 ea3=>?_
 have I3:Inv X pins σ H' { s with heap:=h3 }:=I2.noted nt3 ex ea3.fly sx px hT2 fun T eT=>let ⟨_,oT,ts,a,b,_⟩:=ea2.hd T eT; ⟨oT,ts,a,b⟩
 refine store_ok (X:=hctx X x) (v:=.ref x) (I3.hctx x) hN hj (.inl hloc) rfl (fun s4 I4=>?_) (.inr hloc)
 refine wpAny_mono ((hs x).run pins s4 (σ.set j (some (.ref x))) H' (D.after j) I4 (q x ex)) (fun f s5 hsp=>?_) fun _ _ z=>z.elim
 have hk:(X.env.scope.kind == .class || (X.env.scope.kind == .module && X.env.locals != X.env.globals))=false:=by rw [I.ok.kind]; rfl
 have go:∀ {σ5:St} {H5:Hp} {R:Shared->Prop},Inv (hctx X x) pins σ5 H5 s5->(∀ s6,Inv X pins (σ5.set j none) H5 s6->R s6)->wpAny (model X.prog X.w) X.A (do bindName X.env n .none; unbindBehindTheSuite X.env n hpos) (fun _ s6=>R s6) X.xe s5:=fun {σ5 H5 R} I5 k=>by
  have J:=Inv.unhctx I.ok I5
  obtain ⟨m,hn,hl⟩:=id J.loc
  exact wpAny_nameGoes_keeps hloc hn hk fun h6 v hn' hs'=>k _ (J.gone hN hj hl hn' hs')
 cases f with
 | next=>obtain ⟨σ5,H5,I5,q5⟩:=hsp; exact go I5 fun s6 I6=>⟨_,H5,I6,q5⟩
 | brk=>obtain ⟨σ5,H5,I5,q5⟩:=hsp; exact go I5 fun s6 I6=>⟨_,H5,I6,q5⟩
 | cont=>obtain ⟨σ5,H5,I5,q5⟩:=hsp; exact go I5 fun s6 I6=>⟨_,H5,I6,q5⟩
 | ret u=>obtain ⟨v,σ5,H5,I5,r5,q5⟩:=hsp; exact go I5 fun s6 I6=>⟨v,_,H5,I6,r5,q5⟩
theorem handle_no (hst:X.stack=X.env::X.outer) (hfr:X.env.frame=some X.env.locals) (hm:X.mg cn=some (.ref C0)) (hg:Gl X cn) (hdb:(cn == ("__debug__" : Str))=false) (hs:∀ x,QSs (hctx X x) (b0::suite) th) (h:XP X pins σ (clauseNo X.K C0 th D σ) e s) :
  wpAny (model X.prog X.w) X.A (noteFrame e X.env) (fun _ s₂=>wpAny (model X.prog X.w) X.A (setFlight e none) (fun _ s₃=>wpAny (model X.prog X.w) X.A (handleBy e X.env [.ExceptHandler (some (.Name cn np)) none (b0::suite) hpos]) (SP X pins D) X.xe s₃) X.xe s₂) X.xe s:=by
 obtain ⟨x,cls,od,tb,H',rfl,I,ex,sx,px,hT,ea,he,q⟩:=h
 have frames:=I.ok.frames
 have stack:=I.stack
 rw [hst] at frames stack
 refine note_flight frames stack hfr ea fun h2 T2 hsz nt ea2=>?_
 have I2:Inv X pins σ H' { s with heap:=h2 }:=I.noted (by rw [hst]; exact nt) ex ea2.fly sx px hT fun T eT=>let ⟨_,oT,ts,a,b,_⟩:=ea.hd T eT; ⟨oT,ts,a,b⟩
 have hT2:∀ T,some T2=some T->H' T=none/\X.s₀.heap.objs.size<=T/\∀ p∈X.pn++pins,p.1≠T:=fun T eT=>by
  cases eT
  exact ⟨I.hok.fresh hsz,Nat.le_trans I.sz hsz,fun p hp z=>absurd (z ▸ Heap.lt_size (I.pin p hp).1) (Nat.not_lt.mpr hsz)⟩
 refine wpAny_handleBy_cons (codeAny_handlers_test ?_) (by intro z; cases z)
 refine ld_glob (X:=hctx X x) (I2.hctx x) hg hm ?_ hdb
 refine (W.exm_one (h:=h2) I2.kIn (looks_fly ea2) he).here ?_
 show codeAny _ _ (.handlers (.ref x) [.ExceptHandler none none (b0::suite) hpos] X.env) _ _
 refine codeAny_handlers_suite ?_
 have stack2:=I2.stack
 refine flight_again (T:=T2) stack2 ea2 fun h3 nt3 ea3=>?_
 have I3:Inv X pins σ H' { s with heap:=h3 }:=I2.noted nt3 ex ea3.fly sx px hT2 fun T eT=>let ⟨_,oT,ts,a,b,_⟩:=ea2.hd T eT; ⟨oT,ts,a,b⟩
 refine wpAny_mono ((hs x).run pins _ σ H' D (I3.hctx x) q) (fun f s5 hsp=>?_) fun _ _ z=>z.elim
 cases f with
 | next=>obtain ⟨σ5,H5,I5,q5⟩:=hsp; exact ⟨σ5,H5,Inv.unhctx I.ok I5,q5⟩
 | brk=>obtain ⟨σ5,H5,I5,q5⟩:=hsp; exact ⟨σ5,H5,Inv.unhctx I.ok I5,q5⟩
 | cont=>obtain ⟨σ5,H5,I5,q5⟩:=hsp; exact ⟨σ5,H5,Inv.unhctx I.ok I5,q5⟩
 | ret u=>obtain ⟨v,σ5,H5,I5,r5,q5⟩:=hsp; exact ⟨v,σ5,H5,Inv.unhctx I.ok I5,r5,q5⟩
def tTrySet (K:W.Frag) (C0:Addr) (i j:Nat) (te:XK->TE) (th:TS):TS:=fun D σ H=>te (clauseAs K C0 j th D σ) σ H fun v H1=>D.nx (σ.set i (some v)) H1
def tTryRetN (K:W.Frag) (C0:Addr) (te:XK->TE) (th:TS):TS:=fun D σ H=>te (clauseNo K C0 th D σ) σ H fun v H1=>D.rt v H1
variable {i:Nat} {x:Str} {ex:Expr} {te:XK->TE} {px apos pos:Pos}
theorem qs_trySet (K:W.Frag) (hm:X.mg cn=some (.ref C0)) (hN:X.N.Nodup) (hi:X.N[i]? = some x) (hx:Loc X.env.scope x) (hj:X.N[j]? = some n) (hloc:X.env.scope.names.lookup n=some .local) (he:QEx X ex te) (hs:∀ x,QSs (hctx X x) (b0::suite) th)
  (hst:X.stack=X.env::X.outer:=by rfl) (hfr:X.env.frame=some X.env.locals:=by rfl) (hg:Gl X cn:=by rfl) (hdb:(cn == ("__debug__" : Str))=false:=by decide) (hsw:swapsWith ex (some (.Name x px)) apos.line X.env=pure false:=by rfl) (hf:X.fn x=true\/X.env.scope.names.lookup x=some .local:=by first | exact .inl rfl | exact .inr rfl | assumption) (hk:X.K=K:=by rfl) :
  QS X (.Try [.Assign [.Name x px] ex apos] [.ExceptHandler (some (.Name cn np)) (some n) (b0::suite) hpos] [] [] pos) (tTrySet K C0 i j te th):=by
 subst hk
 refine ⟨fun pins s σ H D I h=>wpAny_Try_except (wpAny_execs_cons (wpAny_mono (wpAny_Assign_Name (E:=XP X pins σ (clauseAs X.K C0 j th D σ)) (thn (he.run _ pins s σ H _ I h) fun v s1 ⟨y,H1,I1,r1,q1⟩=>store_ok I1 hN hi hx r1 (fun s2 I2=>?_) hf) hsw) (fun f s1 q=>q) fun e s1 q=>handle_as hst hfr hm hg hdb hN hj hloc hs q))⟩
 exact wpAny_execs_nil (wpAny_execs_nil ⟨_,H1,I2,q1⟩)
theorem qs_tryRetN (K:W.Frag) (hm:X.mg cn=some (.ref C0)) (he:QEx X ex te) (hs:∀ x,QSs (hctx X x) (b0::suite) th)
  (hst:X.stack=X.env::X.outer:=by rfl) (hfr:X.env.frame=some X.env.locals:=by rfl) (hg:Gl X cn:=by rfl) (hdb:(cn == ("__debug__" : Str))=false:=by decide) (hk:X.K=K:=by rfl) :
  QS X (.Try [.Return (some ex) apos] [.ExceptHandler (some (.Name cn np)) none (b0::suite) hpos] [] [] pos) (tTryRetN K C0 te th):=by
 subst hk
 refine ⟨fun pins s σ H D I h=>wpAny_Try_except (wpAny_execs_cons (wpAny_mono (wpAny_Return_some (E:=XP X pins σ (clauseNo X.K C0 th D σ)) (thn (he.run _ pins s σ H _ I h) fun v s1 ⟨y,H1,I1,r1,q1⟩=>?_)) (fun f s1 q=>q) fun e s1 q=>handle_no hst hfr hm hg hdb hs q))⟩
 exact ⟨y,σ,H1,I1,r1,q1⟩
end
structure RaiseOk (P:Program) (w:World) (K:W.Frag) (mg:Str->Option Value) (base:Heap) (x:Str) (C:Addr) (sp:Sp):Prop where
 ex:∃ (fI:Addr) (fd:FuncData) (ps:List Str),XMk K C fI/\FnOk P w K mg base CX0 1 fI fd ps sp/\mg x=some (.ref C)/\Binds K fd ps []
theorem qs_raiseD {X:Cx} {C:Addr} {sp:Sp} {x:Str} {e:Expr} {es:List Expr} {t:TA} {p cpos pos:Pos} (E:XK) (R:RaiseOk X.prog X.w X.K X.mg X.base x C sp) (hr:Room 2 X.A) (hlv:Leaves X E) (hc:X.calm=true) (ha:QA X (e::es) t) (hg:Gl X x:=by rfl) (hdb:(x == ("__debug__" : Str))=false:=by decide) :
  QS X (.Raise (some (.Call (.Name x p) (e::es) [] cpos)) none pos) (tRaise C sp E t):=by
 obtain ⟨fI,fd,ps,M,F,hm,hb⟩:=R.ex
 exact qs_raise E M F hr hm hb hlv hc ha hg hdb
def Raised1 (C:Addr) (f:Str) (a:V) (H:Hp) (E:XK):Prop:=∀ d H',H' d=some (.ext (xdict d [(f,a)]))->Ext [] H H'->E (.ref C) (some d) H'
theorem raise1 {C x:Addr} {f:Str} {a:V} {H0 H:Hp} {E:XK} (r:Raised1 C f a H0 E) (x0:Ext [] H0 H) (hx:H x=none):spX1 C f [.ref x,a] (upd H x (.ext (xraw x C none))) (fun v H2=>v=.non/\∃ od,H2 x=some (.ext (xraw x C od))/\E (.ref C) od (upd H2 x (.ext (xfly x (.ref C) od)))) E0:=by
 refine ⟨x,a,rfl,upd_same,fun d hd hdx=>⟨rfl,some d,?_,r d _ ?_ ?_⟩⟩
 ·rw [upd_ne hdx.symm,upd_same]
 ·rw [upd_ne hdx,upd_same]
 ·have hd0:H d=none:=by rw [upd_ne hdx] at hd; exact hd
  refine x0.trans ⟨fun b o _ hb=>?_,fun b xs hb=>?_⟩
  ·rw [upd_ne (ne_of_none hb hx),upd_ne (ne_of_none hb hd0),upd_ne (ne_of_none hb hx),upd_ne (ne_of_none hb hx)]
   exact hb
  ·rw [upd_ne (ne_of_none hb hx),upd_ne (ne_of_none hb hd0),upd_ne (ne_of_none hb hx),upd_ne (ne_of_none hb hx)]
   exact hb
def clsFn (s:Stmt) (i:Nat):Stmt:=match s with
 | .ClassDef _ _ _ b _ _ _ _ _ _ _=>b.getD i (.Pass ⟨0,0,0,0⟩)
 | _=>.Pass ⟨0,0,0,0⟩
structure OwnC (K:W.Frag) (mg:Str->Option Value) (x:Str) (D:Addr):Prop where
 nm:mg x=some (.ref D)
 ty:W.typeIn K (.ref D)=some (.type "type")
 cl:(W.clsIn K D).isSome=true
structure ExcI (K:W.Frag) (C J:Addr):Prop where
 ci:ClsI K C
 own:W.mroIn K C (.ref C)=some true
 val:W.mroIn K C (.type "ValueError")=some true
 up:W.mroIn K C (.ref J)=some true
 jx:W.mroIn K J (.type "BaseException")=some true
section
variable {K:W.Frag} {mg:Str->Option Value} {x:Str} {C D J:Addr} {b:Bool}
theorem OwnC.kit (o:OwnC K mg x D):W.kitCls K (.ref C) (.ref D)=W.mroIn K C (.ref D):=by
 show (if ((W.clsIn K D).isSome && W.typeIn K (.ref D) == some (.type "type"))=true then W.subIn K (.ref C) (.ref D) else none)=_
 rw [o.cl,o.ty]
 rw [if_pos (by simp)]
 rfl
theorem ExcI.exm (e:ExcI K C J) (o:OwnC K mg x J):W.exmOne K (.ref C) (.ref J)=some true:=by
 unfold W.exmOne
 have h:W.subIn K (.ref J) (.type "BaseException")=some true:=e.jx
 rw [h,if_pos (by simp),o.kit]
 exact e.up
theorem ExcI.one (e:ExcI K C J) (o:OwnC K mg x D) (h:W.mroIn K C (.ref D)=some b):W.kitOne K (.ref C) (.ref D)=some b:=by
 unfold W.kitOne
 by_cases q:C=D
 ·subst q
  have:=e.own
  rw [h] at this
  rw [if_pos (by simp),<- this]
 ·rw [if_neg (by simpa using q),o.kit]
  exact h
theorem ExcI.isVal (e:ExcI K C J):W.kitOne K (.ref C) (.type "ValueError")=some true:=by
 unfold W.kitOne
 rw [if_neg (by simp)]
 show (if W.kitMeta "ValueError" = true then W.subIn K (.ref C) (.type "ValueError") else none)=_
 rw [if_pos (by decide +kernel)]
 exact e.val
end
def strKeysB (es:Array DictEntry):Bool:=es.toList.all fun e=>match e.key with | .str _ _=>true | _=>false
theorem strKeys_of {es:Array DictEntry} (h:strKeysB es=true):StrKeys es:=fun e he=>by
 have:=List.all_eq_true.mp h e (by simpa using he)
 revert this
 cases e.key <;> simp
theorem own_mk {K:W.Frag} {h:Heap} {mg:Str->Option Value} {x:Str} {D:Addr} {cd:ClassData} (X:K.In h) (G:h.Ns mainGlobals mg) (a:W.nsIn K mainGlobals x=some (some (.ref D))) (t:W.typeIn K (.ref D)=some (.type "type")) (c:W.clsIn K D=some cd):OwnC K mg x D :=
 ⟨W.mg_of X G a,t,by rw [c]; rfl⟩
structure RF (K:W.Frag) (C J fI:Addr):Prop where
 obj:∃ nm qn N bs hdct sn sub ab col dd k0 k1 k2 k3 k5,K.lookup C=some (excClassObj nm qn C N bs (.ref J::veMro) hdct sn sub ab col dd k0 k1 k2 k3 k5 "ValueError.__new__")
 init:W.findIn K (.ref C) "__init__" = some (some (.ref fI))
 fn:W.isFn K (.ref fI)=true
 kp:W.keepIn K (.ref C)=true
 ei:ExcI K C J
theorem RF.mk' {K:W.Frag} {C J fI:Addr} (r:RF K C J fI) (j:JOk K J):XMk K C fI :=
 let ⟨nm,qn,N,bs,hdct,sn,sub,ab,col,dd,k0,k1,k2,k3,k5,e⟩:=r.obj
 ⟨⟨J,nm,qn,N,bs,hdct,sn,sub,ab,col,dd,k0,k1,k2,k3,k5,e,j⟩,r.init,r.fn,r.kp,r.ei.ci.cx⟩
section
variable {P:Program} {w:World} {K:W.Frag} {mg:Str->Option Value} {base:Heap} {C J fI:Addr} {fd:FuncData} {x q f g:Str} {st:Stmt} {sp:Sp} {ps:List Str}
theorem raise_mk (r:RF K C J fI) (j:JOk K J) (m:mg x=some (.ref C)) (F:FnOk P w K mg base CX0 1 fI fd ps sp) (b:Binds K fd ps []):RaiseOk P w K mg base x C sp:=⟨fI,fd,ps,r.mk' j,F,m,b⟩
end
structure QPs (X:Cx) (pos:Pos) (keys:List (Option Expr)) (values:List Expr) (trs:List (TE × TE)):Prop where
 run:PPs X pos keys values trs
section
variable {X:Cx} {pos:Pos}
theorem qps_nil:QPs X pos [] [] []:=⟨pps_nil⟩
theorem qps_c {k v:Expr} {ks:List (Option Expr)} {vs:List Expr} {tk tv:TE} {trs:List (TE × TE)} (hk:QE X k tk) (hv:QE X v tv) (hr:QPs X pos ks vs trs):QPs X pos (some k::ks) (v::vs) ((tk,tv)::trs):=⟨pps_cons hk.run hv.run hr.run⟩
theorem qe_disp {keys:List (Option Expr)} {values:List Expr} {trs:List (TE × TE)} (h:QPs X pos keys values trs) (hall:keys.all (·.isSome)=true) (hl:keys.length=values.length) (h0:keys.isEmpty=false)
  (h15:keys.length<=15):QE X (.Dict keys values pos) (tDisp trs):=⟨pe_disp h.run hall hl (fun z=>by rw [z] at h0; cases h0) h15⟩
end
end L2
namespace PySem
theorem tuple_mul_one (l:Addr) (items:Array Value) (n:Nat) (dd:Option Addr) (sl:Array (Option Value)) (t:Tok) :
  Meets (Builtin.«tuple.__mul__» ⟨[.ref l,.int 1 t],[]⟩) (fun _ R s=>s.heap.get? l=some { cls:=.type "tuple",dict:=dd,data:=.seq items n,slots:=sl }/\R (.ok (.ret (Value.ref l))) s) :=
 .of_wp fun prog w A R s h=>by
  obtain ⟨hp,g,d,tk,os⟩:=s
  obtain ⟨hl,h⟩:=h
  have f1:=AutoSeq1.idx_int
  wp_walk
  exact ⟨_,rfl,h⟩
end PySem
namespace L2
open PySem PySem.Spec PyProof.Rows
variable {X:Cx}
def rRepT1 (K:W.Frag):R2:=fun x y H Q=>(∃ a xs,x=.ref a/\y=.int 1/\SqT K H a xs/\Q (.ref a) H)\/rRepT K x y H Q
theorem op_repT1 (K:W.Frag) (h:X.K=K:=by rfl):OpR X (binaryOp .Mult) (rRepT1 K):=by
 subst h
 intro pins s σ H x y v u Q I rx ry h
 rcases h with h | h
 ·obtain ⟨a,xs,rfl,rfl,hx,q⟩:=h
  cases rx
  obtain ⟨t,rfl⟩:=ry
  obtain ⟨its,r,ht,hl⟩:=I.tuple hx
  obtain ⟨⟨cls,dd,data,sl⟩,ho,hc,n,hd⟩:=id ht
  simp only at hc hd
  subst hc hd
  exact wpAny_binaryOp_repeat_ref (T := "tuple") (U := "int") (by decide) ⟨_,ho,rfl⟩ (fun s'=>typeIs_int s' 1 t) noFill_tuple_mul F.fills_int_mul F.slot_int_rmul repeat_tuple F.slot_int_index.lookup
   (call_meets F.slot_int_rmul (typeIs_int s 1 t) F.entry_int_rmul (F.args_int_rmul_2 _ _) (int_rmul_tuple 1 t a its.toArray n dd sl)
    ⟨ho,rfl,⟨_,ho,rfl⟩,call_meets F.slot_tuple_mul ⟨_,ho,rfl⟩ F.entry_tuple_mul (F.args_tuple_mul_2 _ _) (tuple_mul_one a its.toArray n dd sl t) ⟨ho,⟨.ref a,H,I,rfl,q⟩⟩⟩)
 ·exact op_repT X.K rfl pins s σ H x y v u Q I rx ry h
inductive Ent where
 | s (d:PyData)
 | o (ds:List PyData)
 | x (c:Str) (as:List PyData)
structure Xc where
 cl:Str->Addr
 fl:Str->List Str
abbrev PEnv:=List (Option Ent)
structure Fr where
 G:Hp->Int->Prop
 gs:List Addr
 S0:List Addr
 H0:Hp
 fa:V
 fd:List Nat
 xc:Xc
 gext:∀ {S:List Addr} {H H':Hp} {n:Int},G H n->Ext S H H'->(∀ a∈S,H0 a=none)->G H' n
 ghas:∀ {H:Hp} {n:Int},G H n->∀ a∈gs,H a≠none
 gnx:∀ {H:Hp} {n:Int},G H n->∀ a∈gs,∀ φ,H a≠some (.ext φ)
 gs0:∀ a∈gs,a∈S0
 has0:∀ a∈S0,H0 a≠none
def EntOk (M:Fr) (S:List Addr) (H:Hp):Ent->V->Prop
 | .s d,v=>Rep S H d v
 | .o ds,v=>∃ a xs,v=.ref a/\H a=some (.lst xs)/\Reps S H ds xs/\a∈S/\M.H0 a=none
 | .x c as,v=>∃ a dx vs,v=.ref a/\H a=some (.ext (xfly a (.ref (M.xc.cl c)) (some dx)))/\H dx=some (.ext (xdict dx ((M.xc.fl c).zip vs)))/\Reps S H as vs/\a ∉ M.gs/\dx ∉ M.gs
structure EnvOk (M:Fr) (env:PEnv) (pn:List (PyData × V)) (σ:St) (S:List Addr) (H:Hp) (n:Int):Prop where
 val:∀ (i:Nat) (e:Ent),env[i]? = some (some e)->∃ v,σ[i]? = some (some v)/\EntOk M S H e v
 ne:∀ (i j:Nat) (ds es:List PyData) (a:Addr),env[i]? = some (some (.o ds))->env[j]? = some (some (.o es))->σ[i]? = some (some (.ref a))->σ[j]? = some (some (.ref a))->i=j
 len:env.length=σ.length
 fdv:∀ i∈M.fd,σ[i]? = some (some M.fa)
 gd:M.G H n
 ext:Ext M.gs M.H0 H
 s0:∀ a∈M.S0,a∈S
 sn:∀ a∈S,a∈M.S0\/M.H0 a=none
 has:∀ a∈S,H a≠none
 pin:∀ p∈pn,Rep S H p.1 p.2
section
variable {M:Fr} {env:PEnv} {pn:List (PyData × V)} {σ:St} {S:List Addr} {H H':Hp} {n n':Int}
theorem Fr.out (M:Fr) {a:Addr} (h:M.H0 a=none):a ∉ M.gs:=fun z=>M.has0 a (M.gs0 a z) h
theorem EnvOk.gsS (ok:EnvOk M env pn σ S H n):∀ a∈M.gs,a∈S:=fun a h=>ok.s0 a (M.gs0 a h)
theorem Ext.some {S:List Addr} {H H':Hp} (x:Ext S H H') {a:Addr} (ha:a ∉ S) (h:H a≠none):H' a≠none:=by
 cases e:H a with
 | none=>exact absurd e h
 | some o=>rw [x.keep a o ha e]; simp
theorem EntOk.step {e:Ent} {v:V} (hg:∀ a∈M.gs,a∈S) (h:EntOk M S H e v) (x:Ext M.gs H H'):EntOk M S H' e v:=by
 cases e with
 | s d=>exact Rep.ext (x.mono hg) h
 | o ds =>
  obtain ⟨a,xs,e,ha,r,hs,h0⟩:=h
  exact ⟨a,xs,e,x.keep _ _ (M.out h0) ha,r.ext (x.mono hg),hs,h0⟩
 | x c as =>
  obtain ⟨a,dx,vs,e,ha,hd,r,g1,g2⟩:=h
  exact ⟨a,dx,vs,e,x.keep _ _ g1 ha,x.keep _ _ g2 hd,r.ext (x.mono hg),g1,g2⟩
theorem EnvOk.step (ok:EnvOk M env pn σ S H n) (x:Ext M.gs H H') (g:M.G H' n'):EnvOk M env pn σ S H' n':=by
 refine ⟨fun i e he=>?_,ok.ne,ok.len,ok.fdv,g,ok.ext.trans x,ok.s0,ok.sn,fun a ha=>?_,fun p hp=>(ok.pin p hp).ext (x.mono ok.gsS)⟩
 ·obtain ⟨v,hv,r⟩:=ok.val i e he
  exact ⟨v,hv,r.step ok.gsS x⟩
 ·by_cases z:a∈M.gs
  ·exact M.ghas g a z
  ·exact x.some z (ok.has a ha)
theorem EnvOk.fresh (ok:EnvOk M env pn σ S H n) {a:Addr} (h:H a=none):a ∉ S:=fun z=>ok.has a z h
theorem EnvOk.grow (ok:EnvOk M env pn σ S H n) (x:Ext [] H H'):M.G H' n:=M.gext ok.gd x (by simp)
end
mutual
theorem Rep.fresh {S:List Addr} {H:Hp} {a:Addr} (ha:H a=none):∀ {d:PyData} {v:V},Rep S H d v->Rep (a::S) H d v
 | .none,_,h=>h
 | .bool _,_,h=>h
 | .int _,_,h=>h
 | .str _,_,h=>h
 | .tuple ds,_,h=>by
  obtain ⟨b,xs,rfl,hb,r⟩:=h.of_tup
  exact .tup hb (Reps.fresh ha r)
 | .list ds,_,h=>by
  obtain ⟨b,xs,rfl,hb,hs,r⟩:=h.of_lst
  refine .lst hb (fun z=>?_) (Reps.fresh ha r)
  rcases List.mem_cons.mp z with z | z
  ·rw [z,ha] at hb; cases hb
  ·exact hs z
 | .dict _,_,h=>h
theorem Reps.fresh {S:List Addr} {H:Hp} {a:Addr} (ha:H a=none):∀ {ds:List PyData} {vs:List V},Reps S H ds vs->Reps (a::S) H ds vs
 | [],_,h=>h
 | d::ds,_,h=>by
  obtain ⟨x,r,rfl,h1,h2⟩:=h.of_cons
  exact .cons (Rep.fresh ha h1) (Reps.fresh ha h2)
end
def Sized (H:Hp):Prop:=∀ a xs,H a=some (.lst xs)\/H a=some (.tup xs)->xs.length<=sizeLine
theorem HOk.sized {P:Program} {w:World} {H:Hp} {h:Heap} (ok:HOk P w H h):Sized H:=fun a xs e=>by
 rcases e with e | e
 ·exact (ok a _ e).1
 ·exact (ok a _ e).1
def RepL (gs S:List Addr) (H:Hp) (d:PyData) (v:V):Prop:=Rep S H d v\/∃ ds a xs,d=.list ds/\v=.ref a/\H a=some (.lst xs)/\Reps S H ds xs/\a ∉ gs
section
variable {gs S:List Addr} {H H':Hp} {d:PyData} {v:V} {ds:List PyData}
theorem RepL.ext (h:RepL gs S H d v) (hg:∀ a∈gs,a∈S) (x:Ext gs H H'):RepL gs S H' d v:=by
 rcases h with h | ⟨ds,a,xs,e1,e2,e3,r,ha⟩
 ·exact .inl (h.ext (x.mono hg))
 ·exact .inr ⟨ds,a,xs,e1,e2,x.keep _ _ ha e3,r.ext (x.mono hg),ha⟩
theorem RepL.of_lst (h:RepL gs S H (.list ds) v):∃ a xs,v=.ref a/\H a=some (.lst xs)/\Reps S H ds xs:=by
 rcases h with h | ⟨ds',a,xs,e1,e2,e3,r,_⟩
 ·obtain ⟨a,xs,e,ha,_,r⟩:=h.of_lst
  exact ⟨a,xs,e,ha,r⟩
 ·cases e1
  exact ⟨a,xs,e2,e3,r⟩
theorem RepL.rep (h:RepL gs S H d v) (hd:∀ ds,d≠.list ds):Rep S H d v:=by
 rcases h with h | ⟨ds,a,xs,e1,_⟩
 ·exact h
 ·exact absurd e1 (hd ds)
theorem RepL.of_tup (h:RepL gs S H (.tuple ds) v):∃ a xs,v=.ref a/\H a=some (.tup xs)/\Reps S H ds xs:=(h.rep (by intro _ z; cases z)).of_tup
theorem RepL.of_int {i:Int} (h:RepL gs S H (.int i) v):v=.int i:=(h.rep (by intro _ z; cases z)).of_int
theorem RepL.of_bl {i:Bool} (h:RepL gs S H (.bool i) v):v=.bl i:=(h.rep (by intro _ z; cases z)).of_bl
theorem RepL.of_str {i:Str} (h:RepL gs S H (.str i) v):v=.str i:=(h.rep (by intro _ z; cases z)).of_str
theorem RepL.of_non (h:RepL gs S H .none v):v=.non:=(h.rep (by intro _ z; cases z)).of_non
end
abbrev UX:=PEnv->Int->(PyData->Int->Prop)->Prop
abbrev UT:=PEnv->Int->(Bool->Int->Prop)->Prop
abbrev UA:=PEnv->Int->(List PyData->Int->Prop)->Prop
structure UEnds where
 nx:PEnv->Int->Prop
 rt:PyData->Int->Prop
abbrev US:=UEnds->PEnv->Int->Prop
def lift (M:Fr) (u:UX):TE:=fun σ H R=>∃ env pn S n Q,EnvOk M env pn σ S H n/\u env n Q/\∀ v H' d n',Rep S H' d v->Ext M.gs H H'->M.G H' n'->Sized H'->Q d n'->R v H'
def liftL (M:Fr) (u:UX):TE:=fun σ H R=>∃ env pn S n Q,EnvOk M env pn σ S H n/\u env n Q/\∀ v H' d n',RepL M.gs S H' d v->Ext M.gs H H'->M.G H' n'->Sized H'->Q d n'->R v H'
def liftN (M:Fr) (u:PEnv->Int->(List PyData->Int->Prop)->Prop):TE:=fun σ H R=>∃ env pn S n Q,EnvOk M env pn σ S H n/\u env n Q /\
 ∀ a xs H' ds n',H a=none->H' a=some (.lst xs)->Reps (a::S) H' ds xs->Ext M.gs H H'->M.G H' n'->Sized H'->Q ds n'->R (.ref a) H'
def liftT (M:Fr) (u:UT):TT:=fun σ H R=>∃ env pn S n Q,EnvOk M env pn σ S H n/\u env n Q/\∀ b H' n',Ext M.gs H H'->M.G H' n'->Q b n'->R b H'
def liftA (M:Fr) (k:Nat) (u:UA):TA:=fun σ H R=>∃ env pn S n Q,EnvOk M env pn σ S H n/\u env n Q/\∀ vs H' ds n',vs.length=k->Reps S H' ds vs->Ext M.gs H H'->M.G H' n'->Sized H'->Q ds n'->R vs H'
def RepLs (gs S:List Addr) (H:Hp):List PyData->List V->Prop
 | [],vs=>vs=[]
 | d::ds,vs=>∃ v r,vs=v::r/\RepL gs S H d v/\RepLs gs S H ds r
theorem RepLs.ext {gs S:List Addr} {H H':Hp}:∀ {ds:List PyData} {vs:List V},RepLs gs S H ds vs->(∀ a∈gs,a∈S)->Ext gs H H'->RepLs gs S H' ds vs
 | [],_,h,_,_=>h
 | _::_,_,⟨v,r,e,h1,h2⟩,hg,x=>⟨v,r,e,h1.ext hg x,RepLs.ext h2 hg x⟩
def liftAL (M:Fr) (u:UA):TA:=fun σ H R=>∃ env pn S n Q,EnvOk M env pn σ S H n/\u env n Q/\∀ vs H' ds n',RepLs M.gs S H' ds vs->Ext M.gs H H'->M.G H' n'->Sized H'->Q ds n'->R vs H'
def liftS (M:Fr) (u:US):TS:=fun D σ H=>∃ env pn S n E,EnvOk M env pn σ S H n/\u E env n/\(∀ env' σ' S' H' n',EnvOk M env' pn σ' S' H' n'->E.nx env' n'->D.nx σ' H') /\
 (∀ v H' d n',Rep M.S0 H' d v->Ext M.gs M.H0 H'->M.G H' n'->E.rt d n'->D.rt v H')
structure KE (X:Cx) (M:Fr) (e:Expr) (u:UX):Prop where run:QE X e (lift M u)
structure KL (X:Cx) (M:Fr) (e:Expr) (u:UX):Prop where run:QE X e (liftL M u)
structure KN (X:Cx) (M:Fr) (e:Expr) (u:PEnv->Int->(List PyData->Int->Prop)->Prop):Prop where run:QE X e (liftN M u)
structure KB (X:Cx) (M:Fr) (e:Expr) (u:UT):Prop where run:QT X e (liftT M u)
structure KW (X:Cx) (M:Fr) (e:Expr) (u:UT):Prop where run:QW X e (liftT M u)
structure KA (X:Cx) (M:Fr) (es:List Expr) (u:UA):Prop where run:QA X es (liftA M es.length u)
structure KAL (X:Cx) (M:Fr) (es:List Expr) (u:UA):Prop where run:QA X es (liftAL M u)
structure KS (X:Cx) (M:Fr) (st:Stmt) (u:US):Prop where run:QS X st (liftS M u)
structure KSs (X:Cx) (M:Fr) (st:List Stmt) (u:US):Prop where run:QSs X st (liftS M u)
section
variable {X:Cx} {M:Fr} {e:Expr} {es:List Expr} {t:TE} {tT:TT} {ta:TA} {u:UX}
theorem ex5 {A B C D E:Type} {P:A->B->C->D->E->Prop} {r:Prop} (h:∃ a b c d e,P a b c d e) (k:∀ a b c d e,P a b c d e->r):r:=by
 obtain ⟨a,b,c,d,e,p⟩:=h
 exact k a b c d e p
theorem ex6 {A B C D E F:Type} {P:A->B->C->D->E->F->Prop} {r:Prop} (h:∃ a b c d e f,P a b c d e f) (k:∀ a b c d e f,P a b c d e f->r):r:=by
 obtain ⟨a,b,c,d,e,f,p⟩:=h
 exact k a b c d e f p
theorem QE.sized (h:QE X e t):QE X e (fun σ H R=>t σ H fun v H1=>Sized H1->R v H1) :=
 ⟨fun pins s σ H Q I q=>thn (h.run pins s σ H _ I q) fun v s1 ⟨x,H1,I1,r1,q1⟩=>⟨x,H1,I1,r1,q1 I1.hok.sized⟩⟩
theorem QA.sized (h:QA X es ta):QA X es (fun σ H R=>ta σ H fun v H1=>Sized H1->R v H1) :=
 ⟨fun pos pins s σ H Q I q=>thn (h.run pos pins s σ H _ I q) fun v s1 ⟨x,H1,I1,r1,q1⟩=>⟨x,H1,I1,r1,q1 I1.hok.sized⟩,h.ns⟩
theorem KE.of (h:QE X e t) (k:∀ σ H R env pn S n Q,EnvOk M env pn σ S H n->u env n Q->(∀ v H' d n',Rep S H' d v->Ext M.gs H H'->M.G H' n'->Q d n'->R v H')->t σ H R):KE X M e u :=
 ⟨h.sized.weaken fun σ H R h=>ex5 h fun env pn S n Q h=>k σ H _ env pn S n Q h.1 h.2.1 fun v H' d n' r x g qq sz=>h.2.2 v H' d n' r x g sz qq⟩
theorem KL.of (h:QE X e t) (k:∀ σ H R env pn S n Q,EnvOk M env pn σ S H n->u env n Q->(∀ v H' d n',RepL M.gs S H' d v->Ext M.gs H H'->M.G H' n'->Q d n'->R v H')->t σ H R):KL X M e u :=
 ⟨h.sized.weaken fun σ H R h=>ex5 h fun env pn S n Q h=>k σ H _ env pn S n Q h.1 h.2.1 fun v H' d n' r x g qq sz=>h.2.2 v H' d n' r x g sz qq⟩
theorem KN.of {u:PEnv->Int->(List PyData->Int->Prop)->Prop} (h:QE X e t) (k:∀ σ H R env pn S n Q,EnvOk M env pn σ S H n->u env n Q->(∀ a xs H' ds n',H a=none->H' a=some (.lst xs)->Reps (a::S) H' ds xs->Ext M.gs H H'->M.G H' n'->Q ds n'->R (.ref a) H')->t σ H R):KN X M e u :=
 ⟨h.sized.weaken fun σ H R h=>ex5 h fun env pn S n Q h=>k σ H _ env pn S n Q h.1 h.2.1 fun a xs H' ds n' h0 h1 r x g qq sz=>h.2.2 a xs H' ds n' h0 h1 r x g sz qq⟩
theorem KA.of {u:UA} (h:QA X es ta) (k:∀ σ H R env pn S n Q,EnvOk M env pn σ S H n->u env n Q->(∀ v H' d n',v.length=es.length->Reps S H' d v->Ext M.gs H H'->M.G H' n'->Q d n'->R v H')->ta σ H R):KA X M es u :=
 ⟨h.sized.weaken fun σ H R h=>ex5 h fun env pn S n Q h=>k σ H _ env pn S n Q h.1 h.2.1 fun v H' d n' hl r x g qq sz=>h.2.2 v H' d n' hl r x g sz qq⟩
theorem KAL.of {u:UA} (h:QA X es ta) (k:∀ σ H R env pn S n Q,EnvOk M env pn σ S H n->u env n Q->(∀ v H' d n',RepLs M.gs S H' d v->Ext M.gs H H'->M.G H' n'->Q d n'->R v H')->ta σ H R):KAL X M es u :=
 ⟨h.sized.weaken fun σ H R h=>ex5 h fun env pn S n Q h=>k σ H _ env pn S n Q h.1 h.2.1 fun v H' d n' r x g qq sz=>h.2.2 v H' d n' r x g sz qq⟩
theorem QT.weaken {t t':TT} (h:QT X e t) (w:∀ σ H Q,t' σ H Q->t σ H Q):QT X e t':=⟨fun pins s σ H Q I q=>h.run pins s σ H Q I (w σ H Q q)⟩
theorem QW.weaken {t t':TT} (h:QW X e t) (w:∀ σ H Q,t' σ H Q->t σ H Q):QW X e t':=⟨fun wh pins s σ H Q I q=>h.run wh pins s σ H Q I (w σ H Q q)⟩
theorem QS.weaken {st:Stmt} {t t':TS} (h:QS X st t) (w:∀ D σ H,t' D σ H->t D σ H):QS X st t':=⟨fun pins s σ H D I q=>h.run pins s σ H D I (w D σ H q)⟩
theorem QSs.weaken {st:List Stmt} {t t':TS} (h:QSs X st t) (w:∀ D σ H,t' D σ H->t D σ H):QSs X st t':=⟨fun pins s σ H D I q=>h.run pins s σ H D I (w D σ H q)⟩
theorem KB.of {u:UT} (h:QT X e tT) (k:∀ σ H R env pn S n Q,EnvOk M env pn σ S H n->u env n Q->(∀ b H' n',Ext M.gs H H'->M.G H' n'->Q b n'->R b H')->tT σ H R):KB X M e u :=
 ⟨h.weaken fun σ H R h=>ex5 h fun env pn S n Q h=>k σ H _ env pn S n Q h.1 h.2.1 h.2.2⟩
theorem KW.of {u:UT} (h:QW X e tT) (k:∀ σ H R env pn S n Q,EnvOk M env pn σ S H n->u env n Q->(∀ b H' n',Ext M.gs H H'->M.G H' n'->Q b n'->R b H')->tT σ H R):KW X M e u :=
 ⟨h.weaken fun σ H R h=>ex5 h fun env pn S n Q h=>k σ H _ env pn S n Q h.1 h.2.1 h.2.2⟩
theorem KE.loose (h:KE X M e u):KL X M e u:=.of h.run fun σ H R env pn S n Q ok hu k=>⟨env,pn,S,n,Q,ok,hu,fun v H' d n' r x g _ q=>k v H' d n' (.inl r) x g q⟩
def uL (u:PEnv->Int->(List PyData->Int->Prop)->Prop):UX:=fun env n Q=>u env n fun ds n'=>Q (.list ds) n'
theorem KN.data {u:PEnv->Int->(List PyData->Int->Prop)->Prop} (h:KN X M e u):KE X M e (uL u):=.of h.run fun σ H R env pn S n Q ok hu k =>
 ⟨env,pn,S,n,_,ok,hu,fun a xs H' ds n' h0 h1 r x g _ q=>k _ H' _ n' (.lst h1 (ok.fresh h0) (r.less fun _ h=>List.mem_cons_of_mem _ h)) x g q⟩
end
def bnd {α:Type} (o:Option α) (Q:α->Prop):Prop:=∃ d,o=some d/\Q d
@[simp] theorem bnd_some {α:Type} (d:α) (Q:α->Prop):bnd (some d) Q=Q d:=by simp [bnd]
@[simp] theorem bnd_none {α:Type} (Q:α->Prop):bnd (none:Option α) Q=False:=by simp [bnd]
def uVar (i:Nat):UX:=fun env n Q=>match env[i]? with | some (some (.s d))=>Q d n | _=>False
def uLoose (i:Nat):UX:=fun env n Q=>match env[i]? with | some (some (.s d))=>Q d n | some (some (.o ds))=>Q (.list ds) n | _=>False
def uC (d:PyData):UX:=fun _ n Q=>Q d n
section
variable {X:Cx} {M:Fr} {e:Expr}
theorem k_v (i:Nat) {x:Str} {pos:Pos} (hN:X.N[i]? = some x:=by rfl) (hv:Vis X.env.scope x:=by first | exact Or.inl rfl | exact Or.inr (Or.inl rfl) | exact Or.inr (Or.inr rfl)) (hd:(x == ("__debug__" : Str))=false:=by decide)
  (hcd:(x == ("__classdict__" : Str))=false:=by decide):KE X M (.Name x pos) (uVar i):=.of (qv i hN hv hd hcd) fun σ H R env pn S n Q ok hu k=>by
 unfold uVar at hu
 cases e:env[i]? with
 | none=>rw [e] at hu; exact hu.elim
 | some o =>
  cases o with
  | none=>rw [e] at hu; exact hu.elim
  | some en =>
   cases en with
   | o ds=>rw [e] at hu; exact hu.elim
   | x c as=>rw [e] at hu; exact hu.elim
   | s d =>
    rw [e] at hu
    obtain ⟨v,hv,r⟩:=ok.val i _ e
    exact ⟨v,hv,k v H d n r (.refl _ _) ok.gd hu⟩
theorem k_l (i:Nat) {x:Str} {pos:Pos} (hN:X.N[i]? = some x:=by rfl) (hv:Vis X.env.scope x:=by first | exact Or.inl rfl | exact Or.inr (Or.inl rfl) | exact Or.inr (Or.inr rfl)) (hd:(x == ("__debug__" : Str))=false:=by decide)
  (hcd:(x == ("__classdict__" : Str))=false:=by decide):KL X M (.Name x pos) (uLoose i):=.of (qv i hN hv hd hcd) fun σ H R env pn S n Q ok hu k=>by
 unfold uLoose at hu
 cases e:env[i]? with
 | none=>rw [e] at hu; exact hu.elim
 | some o =>
  cases o with
  | none=>rw [e] at hu; exact hu.elim
  | some en =>
   rw [e] at hu
   obtain ⟨v,hv,r⟩:=ok.val i _ e
   cases en with
   | o ds =>
    obtain ⟨a,xs,rfl,ha,r,hs,h0⟩:=r
    exact ⟨_,hv,k _ H _ n (.inr ⟨ds,a,xs,rfl,rfl,ha,r,M.out h0⟩) (.refl _ _) ok.gd hu⟩
   | s d=>exact ⟨v,hv,k v H d n (.inl r) (.refl _ _) ok.gd hu⟩
   | x c as=>exact hu.elim
theorem k_c {v:V} {d:PyData} (h:QE X e (tC v)) (r:∀ S H,Rep S H d v):KE X M e (uC d):=.of h fun σ H R env pn S n Q ok hu k=>k v H d n (r S H) (.refl _ _) ok.gd hu
theorem k_int {i j pos}:KE X M (.Constant (.int i) j pos) (uC (.int i)):=k_c qe_int fun _ _=>.int i
theorem k_bl {i j pos}:KE X M (.Constant (.bool i) j pos) (uC (.bool i)):=k_c qe_bl fun _ _=>.bl i
theorem k_non {j pos}:KE X M (.Constant .none j pos) (uC .none):=k_c qe_non fun _ _=>.non
theorem k_str {x j pos}:KE X M (.Constant (.str x) j pos) (uC (.str x)):=k_c qe_str fun _ _=>.str x
end
def uNil:UA:=fun _ n Q=>Q [] n
def uCons (u:UX) (r:UA):UA:=fun env n Q=>u env n fun d n1=>r env n1 fun ds n2=>Q (d::ds) n2
section
variable {X:Cx} {M:Fr} {e a b:Expr} {es:List Expr} {u ua ub:UX} {ur:UA} {pos:Pos}
theorem ka_nil:KA X M [] uNil:=.of qa_nil fun σ H R env pn S n Q ok hu k=>k [] H [] n rfl .nil (.refl _ _) ok.gd hu
theorem ka_c (h:KE X M e u) (hr:KA X M es ur) (hs:notStar e=true:=by rfl):KA X M (e::es) (uCons u ur):=.of (qa_c h.run hr.run hs) fun σ H R env pn S n Q ok hu k =>
 ⟨env,pn,S,n,_,ok,hu,fun v H1 d n1 r1 x1 g1 _ q1=>⟨env,pn,S,n1,_,ok.step x1 g1,q1,fun vs H2 ds n2 hl r2 x2 g2 _ q2=>k _ H2 _ n2 (by simp [hl]) (.cons (r1.ext (x2.mono ok.gsS)) r2) (x1.trans x2) g2 q2⟩⟩
theorem kal_nil:KAL X M [] uNil:=.of qa_nil fun σ H R env pn S n Q ok hu k=>k [] H [] n rfl (.refl _ _) ok.gd hu
theorem kal_c (h:KL X M e u) (hr:KAL X M es ur) (hs:notStar e=true:=by rfl):KAL X M (e::es) (uCons u ur):=.of (qa_c h.run hr.run hs) fun σ H R env pn S n Q ok hu k =>
 ⟨env,pn,S,n,_,ok,hu,fun v H1 d n1 r1 x1 g1 _ q1=>⟨env,pn,S,n1,_,ok.step x1 g1,q1,fun vs H2 ds n2 r2 x2 g2 _ q2=>k _ H2 (d::ds) n2 ⟨_,_,rfl,r1.ext ok.gsS x2,r2⟩ (x1.trans x2) g2 q2⟩⟩
def uTup (ur:UA):UX:=fun env n Q=>ur env n fun ds n1=>Q (.tuple ds) n1
theorem k_tup {x1} (h:KA X M es ur) (hl:es.length<=sizeLine:=by decide):KE X M (.Tuple es x1 pos) (uTup ur) :=
 .of (qe_tup h.run) fun σ H R env pn S n Q ok hu k=>⟨env,pn,S,n,_,ok,hu,fun vs H1 ds n1 el r1 x1 g1 sz q1=>⟨by rw [el]; exact hl,fun p hp =>
  have x2:=Ext.new (S:=[]) (o:=.tup vs) hp
  k _ _ _ n1 (.tup upd_same (r1.ext (x2.mono (by simp)))) (x1.trans (x2.mono (by simp))) (M.gext g1 x2 (by simp)) q1⟩⟩
theorem kn_lst (h:KA X M es ur) (hl:es.length<=sizeLine:=by decide):KN X M (.List es pos) ur :=
 .of (qe_lst h.run) fun σ H R env pn S n Q ok hu k=>⟨env,pn,S,n,_,ok,hu,fun vs H1 ds n1 el r1 x1 g1 sz q1=>⟨by rw [el]; exact hl,fun p hp =>
  have x2:=Ext.new (S:=[]) (o:=.lst vs) hp
  have hp0:H p=none:=by
   by_cases z:p∈M.gs
   ·exact absurd hp (M.ghas g1 p z)
   ·exact x1.fresh z hp
  k p vs _ _ n1 hp0 upd_same ((r1.fresh hp).ext (x2.mono (by simp))) (x1.trans (x2.mono (by simp))) (M.gext g1 x2 (by simp)) q1⟩⟩
end
theorem RelV.one {v w:V} {u:Value} (h:RelV v u) (k:RelV w u):v=w:=by
 cases v <;> cases w <;> simp only [RelV] at h k <;> first | rfl | (obtain ⟨t,rfl⟩:=h; obtain ⟨t',e⟩:=k; cases e; rfl) | (subst h; cases k; rfl) | (subst h; obtain ⟨t',e⟩:=k; cases e) | (obtain ⟨t,rfl⟩:=h; obtain ⟨t',e⟩:=k; cases e; done) | (obtain ⟨t,rfl⟩:=h; cases k; done) | (subst h; cases k; done)
mutual
theorem Rep.one {S:List Addr} {H:Hp}:∀ {d d':PyData} {v:V},Rep S H d v->Rep S H d' v->d=d'
 | .none,d',v,h,k=>by cases h.of_non; cases d' <;> simp [Rep] at k; rfl
 | .bool b,d',v,h,k=>by cases h.of_bl; cases d' <;> simp [Rep] at k; rw [k]
 | .int b,d',v,h,k=>by cases h.of_int; cases d' <;> simp [Rep] at k; rw [k]
 | .str b,d',v,h,k=>by cases h.of_str; cases d' <;> simp [Rep] at k; rw [k]
 | .tuple ds,d',v,h,k=>by
  obtain ⟨a,xs,rfl,ha,r⟩:=h.of_tup
  cases d' with
  | tuple es =>
   obtain ⟨b,ys,e,hb,r'⟩:=k.of_tup
   cases e
   rw [ha] at hb
   cases hb
   rw [Reps.one r r']
  | list es=>obtain ⟨b,ys,e,hb,_⟩:=k.of_lst; cases e; rw [ha] at hb; cases hb
  | _=>simp [Rep] at k
 | .list ds,d',v,h,k=>by
  obtain ⟨a,xs,rfl,ha,_,r⟩:=h.of_lst
  cases d' with
  | list es =>
   obtain ⟨b,ys,e,hb,_,r'⟩:=k.of_lst
   cases e
   rw [ha] at hb
   cases hb
   rw [Reps.one r r']
  | tuple es=>obtain ⟨b,ys,e,hb,_⟩:=k.of_tup; cases e; rw [ha] at hb; cases hb
  | _=>simp [Rep] at k
 | .dict _,d',v,h,k=>by unfold Rep at h; exact h.elim
theorem Reps.one {S:List Addr} {H:Hp}:∀ {ds ds':List PyData} {vs:List V},Reps S H ds vs->Reps S H ds' vs->ds=ds'
 | [],ds',vs,h,k=>by
  cases h.of_nil
  cases ds' with
  | nil=>rfl
  | cons d ds=>obtain ⟨x,r,e,_⟩:=k.of_cons; cases e
 | d::ds,ds',vs,h,k=>by
  obtain ⟨x,r,rfl,h1,h2⟩:=h.of_cons
  cases ds' with
  | nil=>cases k.of_nil
  | cons d' ds' =>
   obtain ⟨x',r',e,k1,k2⟩:=k.of_cons
   cases e
   rw [Rep.one h1 k1,Reps.one h2 k2]
end
structure OpD (X:Cx) (f:Value->Value->Sem Value) (op:PyData->PyData->Option PyData):Prop where
 ex:∃ r,OpR X f r/\∀ gs S H dx dy x y d (R:VK),(∀ a∈S,H a≠none)->Sized H->RepL gs S H dx x->RepL gs S H dy y->op dx dy=some d->(∀ v H',Rep S H' d v->Ext [] H H'->R v H')->r x y H R
def uOp (f:PyData->PyData->Option PyData) (ua ub:UX):UX:=fun env n Q=>ua env n fun x n1=>ub env n1 fun y n2=>bnd (f x y) fun d=>Q d n2
def isB (d:PyData) (Q:Bool->Prop):Prop:=match d with | .bool b=>Q b | _=>False
@[simp] theorem isB_bool (b:Bool) (Q:Bool->Prop):isB (.bool b) Q=Q b:=rfl
def uTst (u:UX):UT:=fun env n Q=>u env n fun d n'=>isB d fun b=>Q b n'
section
variable {X:Cx} {M:Fr} {a b c e:Expr} {ua ub uc:UX} {pos:Pos} {f:PyData->PyData->Option PyData}
theorem op_go {r:R2} {R:VK} {σ:St} {H:Hp} {env:PEnv} {pn:List (PyData × V)} {S:List Addr} {n:Int} {Q:PyData->Int->Prop}
  (hr:∀ gs S H dx dy x y d (R:VK),(∀ a∈S,H a≠none)->Sized H->RepL gs S H dx x->RepL gs S H dy y->f dx dy=some d->(∀ v H',Rep S H' d v->Ext [] H H'->R v H')->r x y H R)
  (ok:EnvOk M env pn σ S H n) (hu:uOp f ua ub env n Q) (k:∀ v H' d n',Rep S H' d v->Ext M.gs H H'->M.G H' n'->Q d n'->R v H'):tOp r (liftL M ua) (liftL M ub) σ H R :=
 ⟨env,pn,S,n,_,ok,hu,fun x H1 dx n1 r1 x1 g1 _ q1=>⟨env,pn,S,n1,_,ok.step x1 g1,q1,fun y H2 dy n2 r2 x2 g2 sz q2=>by
  obtain ⟨d,e,q⟩:=q2
  exact hr M.gs S H2 dx dy x y d R ((ok.step x1 g1).step x2 g2).has sz (r1.ext ok.gsS x2) r2 e fun v H3 r3 x3=>k v H3 d n2 r3 ((x1.trans x2).trans (x3.mono (by simp))) (M.gext g2 x3 (by simp)) q⟩⟩
theorem k_op {op:Operator} (ho:OpD X (binaryOp op) f) (ha:KL X M a ua) (hb:KL X M b ub):KE X M (.BinOp a op b pos) (uOp f ua ub):=by
 obtain ⟨r,h1,h2⟩:=ho.ex
 exact .of (qe_op h1 ha.run hb.run) fun σ H R env pn S n Q ok hu k=>op_go h2 ok hu k
theorem k_cmp {op:CmpOp} (ho:OpD X (compareOp op) f) (ha:KL X M a ua) (hb:KL X M b ub) (hm:behindInMarks op b=false:=by first | exact nomark _ | rfl):KE X M (.Compare a [op] [b] pos) (uOp f ua ub):=by
 obtain ⟨r,h1,h2⟩:=ho.ex
 exact .of (qe_cmpR h1 ha.run hb.run hm) fun σ H R env pn S n Q ok hu k=>op_go h2 ok hu k
theorem b_cmp {op:CmpOp} (ho:OpD X (compareOp op) f) (ha:KL X M a ua) (hb:KL X M b ub) (hm:behindInMarks op b=false:=by first | exact nomark _ | rfl):KB X M (.Compare a [op] [b] pos) (uTst (uOp f ua ub)):=by
 obtain ⟨r,h1,h2⟩:=ho.ex
 refine .of (qt_cmpR h1 ha.run hb.run hm) fun σ H R env pn S n Q ok hu k=>op_go (R:=fun x H'=>∃ k,x=.bl k/\R k H') h2 ok hu fun v H' d n' r x g q=>?_
 cases d with
 | bool b=>exact ⟨b,r.of_bl,k b H' n' x g q⟩
 | _=>exact False.elim q
def uChn (f g:PyData->PyData->Option PyData) (ua ub uc:UX):UX:=fun env n Q=>ua env n fun x n1=>ub env n1 fun y n2=>bnd (f x y) fun d=>isB d fun b=>if b=true then uc env n2 fun z n3=>bnd (g y z) fun d=>Q d n3 else Q (.bool false) n2
theorem b_val (h:KE X M e ua) (he:∀ whole,isTrue e X.env whole=(do let v <- whole; standAt e.pos; holding [v] (truthy v)):=by intro _; rfl):KB X M e (uTst ua) :=
 .of (qt_val h.run he) fun σ H R env pn S n Q ok hu k=>⟨env,pn,S,n,_,ok,hu,fun v H' d n' r x g _ q=>by
  cases d with
  | bool b=>exact ⟨b,r.of_bl,k b H' n' x g q⟩
  | _=>exact False.elim q⟩
def uAnd (u w:UT):UT:=fun env n Q=>u env n fun b n1=>if b=true then w env n1 Q else Q false n1
def uOr (u w:UT):UT:=fun env n Q=>u env n fun b n1=>if b=true then Q true n1 else w env n1 Q
def uNot (u:UT):UT:=fun env n Q=>u env n fun b n1=>Q (!b) n1
variable {u w:UT} {rest:List Expr}
theorem w_and1 (h:KB X M a u):KW X M (.BoolOp .And [a] pos) u:=⟨qw_and1 h.run⟩
theorem w_or1 (h:KB X M a u):KW X M (.BoolOp .Or [a] pos) u:=⟨qw_or1 h.run⟩
theorem w_and (ha:KB X M a u) (hb:KW X M (.BoolOp .And (b::rest) pos) w):KW X M (.BoolOp .And (a::b::rest) pos) (uAnd u w) :=
 .of (qw_and ha.run hb.run) fun σ H R env pn S n Q ok hu k=>⟨env,pn,S,n,_,ok,hu,fun c H1 n1 x1 g1 q=>by
  cases c with
  | true=>exact ⟨env,pn,S,n1,Q,ok.step x1 g1,q,fun b H2 n2 x2 g2 q2=>k b H2 n2 (x1.trans x2) g2 q2⟩
  | false=>exact k false H1 n1 x1 g1 q⟩
theorem w_or (ha:KB X M a u) (hb:KW X M (.BoolOp .Or (b::rest) pos) w):KW X M (.BoolOp .Or (a::b::rest) pos) (uOr u w) :=
 .of (qw_or ha.run hb.run) fun σ H R env pn S n Q ok hu k=>⟨env,pn,S,n,_,ok,hu,fun c H1 n1 x1 g1 q=>by
  cases c with
  | false=>exact ⟨env,pn,S,n1,Q,ok.step x1 g1,q,fun b H2 n2 x2 g2 q2=>k b H2 n2 (x1.trans x2) g2 q2⟩
  | true=>exact k true H1 n1 x1 g1 q⟩
theorem KW.kb (h:KW X M e u):KB X M e u:=⟨h.run.pt⟩
theorem b_not (h:KB X M a u):KB X M (.UnaryOp .Not a pos) (uNot u):=.of (qt_not h.run) fun σ H R env pn S n Q ok hu k=>⟨env,pn,S,n,_,ok,hu,fun c H1 n1 x1 g1 q=>k _ H1 n1 x1 g1 q⟩
def uAndV (ua ub:UX):UX:=fun env n Q=>ua env n fun x n1=>isB x fun b=>if b=true then ub env n1 Q else Q (.bool false) n1
def uOrV (ua ub:UX):UX:=fun env n Q=>ua env n fun x n1=>isB x fun b=>if b=true then Q (.bool true) n1 else ub env n1 Q
def uNotV (ua:UX):UX:=fun env n Q=>ua env n fun x n1=>isB x fun b=>Q (.bool (!b)) n1
theorem k_one {op} (h:KE X M a ua):KE X M (.BoolOp op [a] pos) ua:=⟨qe_one h.run⟩
theorem k_and (ha:KE X M a ua) (hb:KE X M (.BoolOp .And (b::rest) pos) ub):KE X M (.BoolOp .And (a::b::rest) pos) (uAndV ua ub) :=
 .of (qe_and ha.run hb.run) fun σ H R env pn S n Q ok hu k=>⟨env,pn,S,n,_,ok,hu,fun v H1 d n1 r1 x1 g1 _ q=>by
  cases d with
  | bool c =>
   refine ⟨c,r1.of_bl,?_⟩
   cases c with
   | true=>exact ⟨env,pn,S,n1,Q,ok.step x1 g1,q,fun v H2 d n2 r2 x2 g2 _ q2=>k v H2 d n2 r2 (x1.trans x2) g2 q2⟩
   | false=>exact k _ H1 _ n1 (.bl false) x1 g1 q
  | _=>exact False.elim q⟩
theorem k_or (ha:KE X M a ua) (hb:KE X M (.BoolOp .Or (b::rest) pos) ub):KE X M (.BoolOp .Or (a::b::rest) pos) (uOrV ua ub) :=
 .of (qe_or ha.run hb.run) fun σ H R env pn S n Q ok hu k=>⟨env,pn,S,n,_,ok,hu,fun v H1 d n1 r1 x1 g1 _ q=>by
  cases d with
  | bool c =>
   refine ⟨c,r1.of_bl,?_⟩
   cases c with
   | false=>exact ⟨env,pn,S,n1,Q,ok.step x1 g1,q,fun v H2 d n2 r2 x2 g2 _ q2=>k v H2 d n2 r2 (x1.trans x2) g2 q2⟩
   | true=>exact k _ H1 _ n1 (.bl true) x1 g1 q
  | _=>exact False.elim q⟩
theorem k_not (ha:KE X M a ua):KE X M (.UnaryOp .Not a pos) (uNotV ua) :=
 .of (qe_not ha.run) fun σ H R env pn S n Q ok hu k=>⟨env,pn,S,n,_,ok,hu,fun v H1 d n1 r1 x1 g1 _ q=>by
  cases d with
  | bool c=>exact ⟨c,r1.of_bl,k _ H1 _ n1 (.bl _) x1 g1 q⟩
  | _=>exact False.elim q⟩
def uIf (t:UT) (ua ub:UX):UX:=fun env n Q=>t env n fun c n1=>if c=true then ua env n1 Q else ub env n1 Q
theorem k_if (hc:KB X M c u) (ha:KE X M a ua) (hb:KE X M b ub):KE X M (.IfExp c a b pos) (uIf u ua ub) :=
 .of (qe_ifExp hc.run ha.run hb.run) fun σ H R env pn S n Q ok hu k=>⟨env,pn,S,n,_,ok,hu,fun c H1 n1 x1 g1 q=>by
  cases c with
  | true=>exact ⟨env,pn,S,n1,Q,ok.step x1 g1,q,fun v H2 d n2 r2 x2 g2 _ q2=>k v H2 d n2 r2 (x1.trans x2) g2 q2⟩
  | false=>exact ⟨env,pn,S,n1,Q,ok.step x1 g1,q,fun v H2 d n2 r2 x2 g2 _ q2=>k v H2 d n2 r2 (x1.trans x2) g2 q2⟩⟩
def negD:PyData->Option PyData | .int i=>some (.int (-i)) | _=>none
def uUn (f:PyData->Option PyData) (ua:UX):UX:=fun env n Q=>ua env n fun x n1=>bnd (f x) fun d=>Q d n1
theorem k_neg (ha:KE X M a ua):KE X M (.UnaryOp .USub a pos) (uUn negD ua) :=
 .of (qe_un un_neg ha.run) fun σ H R env pn S n Q ok hu k=>⟨env,pn,S,n,_,ok,hu,fun v H1 d n1 r1 x1 g1 _ q=>by
  obtain ⟨d',e,q⟩:=q
  cases d with
  | int i=>cases e; exact ⟨i,r1.of_int,k _ H1 _ n1 (.int _) x1 g1 q⟩
  | _=>cases e⟩
end
def addD:PyData->PyData->Option PyData
 | .int i,.int j=>some (.int (i + j))
 | .tuple xs,.tuple ys=>if xs.length + ys.length<=sizeLine then some (.tuple (xs++ys)) else none
 | .list xs,.list ys=>if xs.length + ys.length<=sizeLine then some (.list (xs++ys)) else none
 | .str x,.str y=>if x.length + y.length<=sizeLine then some (.str (x++y)) else none
 | _,_=>none
def subD:PyData->PyData->Option PyData | .int i,.int j=>some (.int (i - j)) | _,_=>none
instance (i j:Int):Decidable (CMul i j):=by unfold CMul; infer_instance
instance (i j:Int):Decidable (CPow i j):=by unfold CPow; infer_instance
instance (i j:Int):Decidable (CDiv i j):=by unfold CDiv; infer_instance
def mulD:PyData->PyData->Option PyData
 | .int i,.int j=>if CMul i j then some (.int (i * j)) else none
 | .list xs,.int k=>if -(2 ^ 63)<=k/\k < 2 ^ 63/\xs.length * k.toNat<=sizeLine then some (.list (List.replicate k.toNat xs).flatten) else none
 | .tuple xs,.int k=>if 1<=k/\k < 2 ^ 40/\xs≠[]/\xs.length * k.toNat<=16000000 then some (.tuple (List.replicate k.toNat xs).flatten) else none
 | _,_=>none
def modD:PyData->PyData->Option PyData | .int i,.int j=>if 0 < j then some (.int (i % j)) else none | _,_=>none
def powD:PyData->PyData->Option PyData | .int i,.int j=>if CPow i j then some (.int (i ^ j.toNat)) else none | _,_=>none
def ltD:PyData->PyData->Option PyData | .int i,.int j=>some (.bool (decide (i < j))) | _,_=>none
def gtD:PyData->PyData->Option PyData | .int i,.int j=>some (.bool (decide (j < i))) | _,_=>none
def eqD (x y:PyData):Option PyData:=if x.canLay0=true/\y.canLay0=true/\x.depth<=60 then some (.bool (PyData.eqv x y)) else none
def neD (x y:PyData):Option PyData:=if x.canLay0=true/\y.canLay0=true/\x.depth<=60 then some (.bool (!PyData.eqv x y)) else none
def inL (x:PyData) (ds:List PyData):Option Bool:=if x.canLay0=true/\PyData.canLayAll0 ds=true/\x.depth<=60 then some (ds.any fun d=>PyData.eqv d x) else none
def inD (x y:PyData):Option PyData:=match y with | .tuple ds=>(inL x ds).map .bool | .list ds=>(inL x ds).map .bool | _=>none
section
variable {X:Cx}
theorem opI0D {f:Value->Value->Sem Value} {g:Int->Int->PyData} {gv:Int->Int->V} {op:PyData->PyData->Option PyData} (h:OpR X f (rI0 gv)) (hg:∀ i j S H,Rep S H (g i j) (gv i j)) (ho:∀ x y d,op x y=some d->∃ i j,x=.int i/\y=.int j/\d=g i j):OpD X f op :=
 ⟨_,h,fun gs S H dx dy x y d R _ _ r1 r2 e k=>by
  obtain ⟨i,j,rfl,rfl,rfl⟩:=ho _ _ _ e
  exact ⟨i,j,r1.of_int,r2.of_int,k _ H (hg i j S H) (.refl _ _)⟩⟩
theorem opID {f:Value->Value->Sem Value} {C:Int->Int->Prop} {g:Int->Int->PyData} {gv:Int->Int->V} {op:PyData->PyData->Option PyData} (h:OpR X f (rI C gv)) (hg:∀ i j S H,Rep S H (g i j) (gv i j)) (ho:∀ x y d,op x y=some d->∃ i j,x=.int i/\y=.int j/\C i j/\d=g i j):OpD X f op :=
 ⟨_,h,fun gs S H dx dy x y d R _ _ r1 r2 e k=>by
  obtain ⟨i,j,rfl,rfl,hc,rfl⟩:=ho _ _ _ e
  exact ⟨i,j,r1.of_int,r2.of_int,hc,k _ H (hg i j S H) (.refl _ _)⟩⟩
theorem o_sub:OpD X (binaryOp .Sub) subD:=opI0D (g:=fun i j=>.int (i - j)) op_sub (fun _ _ _ _=>.int _) fun x y d e=>by
 cases x <;> cases y <;> simp [subD] at e; exact ⟨_,_,rfl,rfl,e.symm⟩
theorem o_lt:OpD X (compareOp .Lt) ltD:=opI0D (g:=fun i j=>.bool (decide (i < j))) op_lt (fun _ _ _ _=>.bl _) fun x y d e=>by
 cases x <;> cases y <;> simp [ltD] at e; exact ⟨_,_,rfl,rfl,e.symm⟩
theorem o_gt:OpD X (compareOp .Gt) gtD:=opI0D (g:=fun i j=>.bool (decide (j < i))) op_gt (fun _ _ _ _=>.bl _) fun x y d e=>by
 cases x <;> cases y <;> simp [gtD] at e; exact ⟨_,_,rfl,rfl,e.symm⟩
theorem o_mod:OpD X (binaryOp .Mod) modD:=opID (g:=fun i j=>.int (i % j)) op_mod (fun _ _ _ _=>.int _) fun x y d e=>by
 cases x <;> cases y <;> simp [modD] at e; exact ⟨_,_,rfl,rfl,e.1,e.2.symm⟩
theorem o_pow:OpD X (binaryOp .Pow) powD:=opID (g:=fun i j=>.int (i ^ j.toNat)) op_pow (fun _ _ _ _=>.int _) fun x y d e=>by
 cases x <;> cases y <;> simp [powD] at e; exact ⟨_,_,rfl,rfl,e.1,e.2.symm⟩
theorem RepL.reads {gs S:List Addr} {H:Hp} {d:PyData} {v:V} {P:Program} {w:World} {h:Heap} {u:Value} (r:RepL gs S H d v) (ok:HOk P w H h) (rv:RelV v u):∃ as,Reads h u d as:=by
 rcases r with r | ⟨ds,a,xs,rfl,rfl,ha,rs,_⟩
 ·exact r.reads ok rv
 ·cases (show u=Value.ref a from rv)
  obtain ⟨_,its,n,rv,e⟩:=ok a _ ha
  obtain ⟨as,ra⟩:=Reps.reads ok rs rv
  exact ⟨_,.list e rfl rfl (by simpa using ra)⟩
def rEqL (neg:Bool):R2:=fun x y H Q=>∃ gs S dx dy,RepL gs S H dx x/\RepL gs S H dy y/\dx.canLay0=true/\dy.canLay0=true/\dx.depth<=60/\Q (.bl (if neg then !PyData.eqv dx dy else PyData.eqv dx dy)) H
theorem op_eqL (hun:X.A.units + 64 < cLine):OpR X (compareOp .Eq) (rEqL false):=by
 intro pins s σ H x y v u Q I rx ry h
 obtain ⟨gs,S,dx,dy,h1,h2,c1,c2,d1,q⟩:=h
 obtain ⟨as,ra⟩:=h1.reads I.hok rx
 obtain ⟨bs,rb⟩:=h2.reads I.hok ry
 exact SeqAt.compareEq_reads ra rb c1 c2 (by omega) ⟨.bl _,H,I,rfl,q⟩
theorem op_neL (hun:X.A.units + 64 < cLine):OpR X (compareOp .NotEq) (rEqL true):=by
 intro pins s σ H x y v u Q I rx ry h
 obtain ⟨gs,S,dx,dy,h1,h2,c1,c2,d1,q⟩:=h
 obtain ⟨as,ra⟩:=h1.reads I.hok rx
 obtain ⟨bs,rb⟩:=h2.reads I.hok ry
 exact SeqAt.compareNe_reads ra rb c1 c2 (by omega) ⟨.bl _,H,I,rfl,q⟩
theorem o_eq (hun:X.A.units + 64 < cLine):OpD X (compareOp .Eq) eqD:=⟨_,op_eqL hun,fun gs S H dx dy x y d R _ _ r1 r2 e k=>by
 unfold eqD at e
 split at e
 ·rename_i hc
  cases e
  exact ⟨gs,S,dx,dy,r1,r2,hc.1,hc.2.1,hc.2.2,k _ H (.bl _) (.refl _ _)⟩
 ·cases e⟩
theorem o_ne (hun:X.A.units + 64 < cLine):OpD X (compareOp .NotEq) neD:=⟨_,op_neL hun,fun gs S H dx dy x y d R _ _ r1 r2 e k=>by
 unfold neD at e
 split at e
 ·rename_i hc
  cases e
  exact ⟨gs,S,dx,dy,r1,r2,hc.1,hc.2.1,hc.2.2,k _ H (.bl _) (.refl _ _)⟩
 ·cases e⟩
end
section
variable {X:Cx}
theorem RepL.sqT {K:W.Frag} {gs S:List Addr} {H:Hp} {ds:List PyData} {v:V} (h:RepL gs S H (.tuple ds) v):∃ a xs,v=.ref a/\SqT K H a xs/\H a=some (.tup xs)/\Reps S H ds xs:=let ⟨a,xs,e,ha,r⟩:=h.of_tup; ⟨a,xs,e,SqT.of ha,ha,r⟩
theorem RepL.sqL {K:W.Frag} {gs S:List Addr} {H:Hp} {ds:List PyData} {v:V} (h:RepL gs S H (.list ds) v):∃ a xs,v=.ref a/\SqL K H a xs/\H a=some (.lst xs)/\Reps S H ds xs:=let ⟨a,xs,e,ha,r⟩:=h.of_lst; ⟨a,xs,e,SqL.of ha,ha,r⟩
theorem new_tup {S:List Addr} {H:Hp} {ds:List PyData} {xs:List V} {p:Addr} (hp:H p=none) (r:Reps S H ds xs):Rep S (upd H p (.tup xs)) (.tuple ds) (.ref p):=.tup upd_same (r.ext (.new hp))
theorem new_lst {S:List Addr} {H:Hp} {ds:List PyData} {xs:List V} {p:Addr} (has:∀ a∈S,H a≠none) (hp:H p=none) (r:Reps S H ds xs):Rep S (upd H p (.lst xs)) (.list ds) (.ref p):=.lst upd_same (fun z=>has p z hp) (r.ext (.new hp))
theorem Reps.flat {S:List Addr} {H:Hp} {ds:List PyData} {xs:List V} (r:Reps S H ds xs) (k:Nat):Reps S H (List.replicate k ds).flatten (List.replicate k xs).flatten:=by
 induction k with
 | zero=>exact .nil
 | succ k ih=>rw [List.replicate_succ,List.replicate_succ,List.flatten_cons,List.flatten_cons]; exact r.append ih
theorem o_add:OpD X (binaryOp .Add) addD:=⟨_,((op_add.or (catT X.K)).or op_cat).or op_add_str,fun gs S H dx dy x y d R has sz r1 r2 e k=>by
 cases dx with
 | int i=>cases dy with
  | int j=>cases e; exact .inl (.inl (.inl ⟨i,j,r1.of_int,r2.of_int,k _ H (.int _) (.refl _ _)⟩))
  | _=>cases e
 | str i=>cases dy with
  | str j =>
   simp only [addD] at e
   split at e
   ·rename_i hz
    cases e
    exact .inr ⟨i,j,r1.of_str,r2.of_str,hz,k _ H (.str _) (.refl _ _)⟩
   ·cases e
  | _=>cases e
 | tuple ds=>cases dy with
  | tuple es =>
   simp only [addD] at e
   split at e
   ·rename_i hz
    cases e
    obtain ⟨a,xs,rfl,s1,h1,q1⟩:=r1.sqT (K:=X.K)
    obtain ⟨b,ys,rfl,s2,h2,q2⟩:=r2.sqT (K:=X.K)
    refine .inl (.inl (.inr ⟨a,b,xs,ys,rfl,rfl,s1,s2,by rw [q1.length,q2.length]; exact hz,fun e=>?_,fun e=>?_,fun p hp=>k _ _ (new_tup hp (q1.append q2)) (.new hp)⟩))
    ·subst e
     cases ds with
     | nil=>exact k _ H (.tup h2 q2) (.refl _ _)
     | cons d ds=>have:=q1.length; simp at this
    ·subst e
     cases es with
     | nil=>rw [List.append_nil] at k; exact k _ H (.tup h1 q1) (.refl _ _)
     | cons d ds=>have:=q2.length; simp at this
   ·cases e
  | _=>cases e
 | list ds=>cases dy with
  | list es =>
   simp only [addD] at e
   split at e
   ·rename_i hz
    cases e
    obtain ⟨a,xs,rfl,h1,q1⟩:=r1.of_lst
    obtain ⟨b,ys,rfl,h2,q2⟩:=r2.of_lst
    exact .inl (.inr ⟨a,b,xs,ys,rfl,rfl,h1,h2,by rw [q1.length,q2.length]; exact hz,fun p hp=>k _ _ (new_lst has hp (q1.append q2)) (.new hp)⟩)
   ·cases e
  | _=>cases e
 | _=>cases dy <;> cases e⟩
theorem o_mul:OpD X (binaryOp .Mult) mulD:=⟨_,(op_mul.or op_rep).or (op_repT1 X.K),fun gs S H dx dy x y d R has sz r1 r2 e k=>by
 cases dx with
 | int i=>cases dy with
  | int j =>
   simp only [mulD] at e
   split at e
   ·rename_i hz
    cases e
    exact .inl (.inl ⟨i,j,r1.of_int,r2.of_int,hz,k _ H (.int _) (.refl _ _)⟩)
   ·cases e
  | _=>cases e
 | list ds=>cases dy with
  | int j =>
   simp only [mulD] at e
   split at e
   ·rename_i hz
    cases e
    obtain ⟨a,xs,rfl,h1,q1⟩:=r1.of_lst
    exact .inl (.inr ⟨a,j,xs,rfl,r2.of_int,h1,hz.1,hz.2.1,by rw [q1.length]; exact hz.2.2,fun p hp=>k _ _ (new_lst has hp (q1.flat _)) (.new hp)⟩)
   ·cases e
  | _=>cases e
 | tuple ds=>cases dy with
  | int j =>
   simp only [mulD] at e
   split at e
   ·rename_i hz
    cases e
    obtain ⟨a,xs,rfl,s1,h1,q1⟩:=r1.sqT (K:=X.K)
    by_cases h:j=1
    ·subst h
     refine .inr (.inl ⟨a,xs,rfl,r2.of_int,s1,k _ H ?_ (.refl _ _)⟩)
     simpa using Rep.tup h1 q1
    ·refine .inr (.inr ⟨a,j,xs,rfl,r2.of_int,s1,fun z=>?_,by omega,hz.2.1,by rw [q1.length]; exact hz.2.2.2,fun p hp=>k _ _ (new_tup hp (q1.flat _)) (.new hp)⟩)
     subst z
     have:=q1.length
     exact hz.2.2.1 (by simpa using this.symm)
   ·cases e
  | _=>cases e
 | _=>cases dy <;> cases e⟩
def rInD (neg:Bool):R2:=fun x y H Q=>∃ gs S dx ds p xs,RepL gs S H dx x/\y=.ref p/\(H p=some (.lst xs)\/H p=some (.tup xs))/\Reps S H ds xs/\dx.canLay0=true/\PyData.canLayAll0 ds=true/\dx.depth<=60/\Q (.bl (if neg then !(ds.any fun d=>PyData.eqv d dx) else ds.any fun d=>PyData.eqv d dx)) H
open Classical in
noncomputable def eqW (S:List Addr) (H:Hp) (xs:List V) (dx:PyData) (y:Value):Bool:=decide (∃ v d,RelV v y/\Rep S H d v/\PyData.eqv d dx=true)
open Classical in
theorem eqW_at {S:List Addr} {H:Hp} {xs:List V} {dx d:PyData} {v:V} {y:Value} (h1:RelV v y) (h2:Rep S H d v):eqW S H xs dx y=PyData.eqv d dx:=by
 unfold eqW
 cases e:PyData.eqv d dx with
 | true=>exact decide_eq_true ⟨v,d,h1,h2,e⟩
 | false =>
  refine decide_eq_false fun ⟨v',d',k1,k2,k3⟩=>?_
  cases RelV.one h1 k1
  cases Rep.one h2 k2
  rw [e] at k3
  cases k3
theorem any_eqW {S:List Addr} {H:Hp} {zs:List V} {dx:PyData}:∀ {ds:List PyData} {xs:List V} {us:List Value},Reps S H ds xs->Vals xs us->us.any (eqW S H zs dx)=ds.any fun d=>PyData.eqv d dx
 | [],_,_,h,r=>by cases h.of_nil; cases r; rfl
 | d::ds,_,_,h,r=>by
  obtain ⟨x,t,rfl,h1,h2⟩:=h.of_cons
  cases r with
  | cons q1 q2=>rw [List.any_cons,List.any_cons,any_eqW h2 q2,eqW_at q1 h1]
theorem at_eqW {P:Program} {w:World} {A:Around} {s:Shared} {S gs:List Addr} {H:Hp} {zs:List V} {dx:PyData} {x:V} {v:Value} (ok:HOk P w H s.heap) (rx:RepL gs S H dx x) (rv:RelV x v) (c1:dx.canLay0=true) (hu:A.units + 60 < cLine) (hd:dx.depth<=60) :
  ∀ {ds:List PyData} {xs:List V} {us:List Value},PyData.canLayAll0 ds=true->Reps S H ds xs->Vals xs us->∀ u∈us,SeqAt.EqAt A s u v (eqW S H zs dx u)
 | [],_,_,_,h,r=>by cases h.of_nil; cases r; intro u hu; cases hu
 | d::ds,_,_,hc,h,r=>by
  obtain ⟨y,t,rfl,h1,h2⟩:=h.of_cons
  simp only [PyData.canLayAll0,Bool.and_eq_true] at hc
  cases r with
  | cons q1 q2 =>
   intro u hu'
   rcases List.mem_cons.mp hu' with rfl | hu'
   ·rw [eqW_at q1 h1]
    obtain ⟨as,ra⟩:=h1.reads ok q1
    obtain ⟨bs,rb⟩:=rx.reads ok rv
    exact SeqAt.eqAt_reads d dx A s _ v as bs ra rb hc.1 c1 (by have:min d.depth dx.depth<=60:=(by omega); omega)
   ·exact at_eqW ok rx rv c1 hu hd hc.2 h2 q2 u hu'
theorem op_inD (hun:X.A.units + 64 < cLine):OpR X (compareOp .In) (rInD false):=by
 intro pins s σ H x y v u Q I rx ry h
 obtain ⟨gs,S,dx,ds,p,xs,r1,rfl,hq,rs,c1,c2,hd,q⟩:=h
 cases ry
 have hu1:X.A.in1.units + 60 < cLine:=by show X.A.units + 1 + 60 < cLine; omega
 rcases hq with hq | hq
 ·obtain ⟨its,r,pl,hz⟩:=I.list (SqL.of (K:=X.K) hq)
  refine SeqAt.in_listAt (eqW S H xs dx) pl.isList (fun w hw=>at_eqW I.hok r1 rx c1 hu1 hd c2 rs r w (by simpa using hw)) ⟨.bl _,H,I,rfl,?_⟩
  rw [show its.toArray.any (eqW S H xs dx)=its.any (eqW S H xs dx) by simp,any_eqW rs r]
  exact q
 ·obtain ⟨its,r,pl,hz⟩:=I.tuple (SqT.of (K:=X.K) hq)
  refine SeqAt.in_tupleAt (eqW S H xs dx) pl (fun w hw=>at_eqW I.hok r1 rx c1 hu1 hd c2 rs r w (by simpa using hw)) ⟨.bl _,H,I,rfl,?_⟩
  rw [show its.toArray.any (eqW S H xs dx)=its.any (eqW S H xs dx) by simp,any_eqW rs r]
  exact q
theorem inL_ok {x:PyData} {ds:List PyData} {b:Bool} (h:inL x ds=some b):x.canLay0=true/\PyData.canLayAll0 ds=true/\x.depth<=60/\(ds.any fun d=>PyData.eqv d x)=b:=by
 unfold inL at h
 split at h
 ·rename_i hc
  cases h
  exact ⟨hc.1,hc.2.1,hc.2.2,rfl⟩
 ·cases h
theorem o_in (hun:X.A.units + 64 < cLine):OpD X (compareOp .In) inD:=⟨_,op_inD hun,fun gs S H dx dy x y d R _ _ r1 r2 e k=>by
 cases dy with
 | tuple ds =>
  obtain ⟨b,hb,rfl⟩:=Option.map_eq_some_iff.mp (show (inL dx ds).map PyData.bool=some d from e)
  obtain ⟨c1,c2,c3,rfl⟩:=inL_ok hb
  obtain ⟨a,xs,rfl,ha,rs⟩:=r2.of_tup
  exact ⟨gs,S,dx,ds,a,xs,r1,rfl,.inr ha,rs,c1,c2,c3,k _ H (.bl _) (.refl _ _)⟩
 | list ds =>
  obtain ⟨b,hb,rfl⟩:=Option.map_eq_some_iff.mp (show (inL dx ds).map PyData.bool=some d from e)
  obtain ⟨c1,c2,c3,rfl⟩:=inL_ok hb
  obtain ⟨a,xs,rfl,ha,rs⟩:=r2.of_lst
  exact ⟨gs,S,dx,ds,a,xs,r1,rfl,.inl ha,rs,c1,c2,c3,k _ H (.bl _) (.refl _ _)⟩
 | _=>cases e⟩
end
def ixD (x y:PyData):Option PyData:=match x,y with | .tuple ds,.int i=>atI ds i | .list ds,.int i=>atI ds i | _,_=>none
theorem atI_reps {S:List Addr} {H:Hp} {ds:List PyData} {xs:List V} {i:Int} {d:PyData} (r:Reps S H ds xs) (h:atI ds i=some d):∃ v,atI xs i=some v/\Rep S H d v:=by
 unfold atI at h ⊢
 rw [r.length]
 cases e:ixN ds.length i with
 | none=>rw [e] at h; cases h
 | some j =>
  rw [e] at h
  obtain ⟨x,hx,rx⟩:=r.at (show ds[j]? = some d from h)
  exact ⟨x,hx,rx⟩
section
variable {X:Cx} {M:Fr} {a b e:Expr} {ua ub:UX} {pos p2:Pos}
theorem k_ix (ha:KL X M a ua) (hb:KL X M b ub) (hs:PlainIx b:=by exact fun _ _=>rfl):KE X M (.Subscript a b pos) (uOp ixD ua ub) :=
 .of (qe_ix ((ixT X.K).or (ixL X.K)) ha.run hb.run hs) fun σ H R env pn S n Q ok hu k=>op_go (fun gs S H dx dy x y d R _ _ r1 r2 e k=>by
  cases dx with
  | tuple ds=>cases dy with
   | int i =>
    obtain ⟨a,xs,rfl,sq,_,rs⟩:=r1.sqT (K:=X.K)
    obtain ⟨v,hv,rv⟩:=atI_reps rs (show atI ds i=some d from e)
    exact .inl ⟨a,xs,i,v,rfl,r2.of_int,sq,hv,k v H rv (.refl _ _)⟩
   | _=>cases e
  | list ds=>cases dy with
   | int i =>
    obtain ⟨a,xs,rfl,sq,_,rs⟩:=r1.sqL (K:=X.K)
    obtain ⟨v,hv,rv⟩:=atI_reps rs (show atI ds i=some d from e)
    exact .inr ⟨a,xs,i,v,rfl,r2.of_int,sq,hv,k v H rv (.refl _ _)⟩
   | _=>cases e
  | _=>cases dy <;> cases e) ok hu k
abbrev UO:=PEnv->Int->(Option Int->Int->Prop)->Prop
structure KO (X:Cx) (M:Fr) (e:Option Expr) (u:UO):Prop where run:∃ t,QO X e t/\∀ σ H R env pn S n Q,EnvOk M env pn σ S H n->u env n Q->(∀ o H' n',Ext M.gs H H'->M.G H' n'->Q o n'->R o H')->t σ H R
def uNo:UO:=fun _ n Q=>Q none n
def uSo (u:UX):UO:=fun env n Q=>u env n fun d n1=>match d with | .int i=>Q (some i) n1 | _=>False
theorem ko_none:KO X M none uNo:=⟨_,qo_none,fun σ H R env pn S n Q ok hu k=>k none H n (.refl _ _) ok.gd hu⟩
theorem ko_some (h:KE X M e ua):KO X M (some e) (uSo ua):=⟨_,qo_some h.run,fun σ H R env pn S n Q ok hu k=>⟨env,pn,S,n,_,ok,hu,fun v H1 d n1 r1 x1 g1 _ q=>by
 cases d with
 | int i=>exact ⟨i,r1.of_int,k _ H1 n1 x1 g1 q⟩
 | _=>exact False.elim q⟩⟩
def cutG {α:Type} (xs:List α) (lo hi:Option Int):List α:=(xs.drop (HT.sIx xs.length 0 lo)).take (HT.sIx xs.length xs.length hi - HT.sIx xs.length 0 lo)
def slD (d:PyData) (lo hi:Option Int):Option PyData:=match d with | .tuple ds=>some (.tuple (cutG ds lo hi)) | .list ds=>some (.list (cutG ds lo hi)) | _=>none
def uSl (u:UX) (ul uh:UO):UX:=fun env n Q=>u env n fun d n1=>ul env n1 fun lo n2=>uh env n2 fun hi n3=>bnd (slD d lo hi) fun d=>Q d n3
theorem cut_reps {S:List Addr} {H:Hp} {ds:List PyData} {xs:List V} (r:Reps S H ds xs) (lo hi:Option Int):Reps S H (cutG ds lo hi) (cutV xs lo hi):=by
 unfold cutG cutV
 rw [r.length]
 exact (r.drop _).take _
theorem cut_reps' {S:List Addr} {H:Hp} {ds:List PyData} {xs:List V} (r:Reps S H ds xs) {lo hi:Option Int} (h:cutV xs lo hi=xs):cutG ds lo hi=ds:=by
 have:=cut_reps r lo hi
 rw [h] at this
 exact Reps.one this r
theorem k_sl {lo hi:Option Expr} {ul uh:UO} (he:KL X M e ua) (hl:KO X M lo ul) (hu:KO X M hi uh):KE X M (.Subscript e (.Slice lo hi none p2) pos) (uSl ua ul uh):=by
 obtain ⟨tl,q1,l1⟩:=hl.run
 obtain ⟨th,q2,l2⟩:=hu.run
 refine .of (qe_slice ((slT X.K).or (slL X.K)) he.run q1 q2) fun σ H R env pn S n Q ok hu k=>⟨env,pn,S,n,_,ok,hu,fun v H1 d n1 r1 x1 g1 _ q=>?_⟩
 refine l1 σ H1 _ env pn S n1 _ (ok.step x1 g1) q fun lo H2 n2 x2 g2 q=>?_
 refine l2 σ H2 _ env pn S n2 _ ((ok.step x1 g1).step x2 g2) q fun hi H3 n3 x3 g3 q=>?_
 obtain ⟨d',e,q⟩:=q
 have ok3:=((ok.step x1 g1).step x2 g2).step x3 g3
 have r3:=(r1.ext ok.gsS x2).ext ok.gsS x3
 have x123:=(x1.trans x2).trans x3
 cases d with
 | tuple ds =>
  cases e
  obtain ⟨a,xs,rfl,sq,ha,rs⟩:=r3.sqT (K:=X.K)
  refine .inl ⟨a,xs,rfl,sq,fun h=>?_,fun p hp=>k _ _ _ n3 (new_tup hp (cut_reps rs lo hi)) (x123.trans (.new hp)) (M.gext g3 (.new (S:=[]) hp) (by simp)) q⟩
  have:=cut_reps' rs h
  exact k _ H3 _ n3 (.tup ha (by rw [this]; exact rs)) x123 g3 q
 | list ds =>
  cases e
  obtain ⟨a,xs,rfl,sq,ha,rs⟩:=r3.sqL (K:=X.K)
  exact .inr ⟨a,xs,rfl,sq,fun p hp=>k _ _ _ n3 (new_lst ok3.has hp (cut_reps rs lo hi)) (x123.trans (.new hp)) (M.gext g3 (.new (S:=[]) hp) (by simp)) q⟩
 | _=>cases e
end
structure CallD (X:Cx) (fv:Value) (f:List PyData->Option PyData):Prop where
 ex:∃ r,CallR X fv r/\∀ gs S H ds vs d (R:VK),(∀ a∈S,H a≠none)->Sized H->RepLs gs S H ds vs->f ds=some d->(∀ v H',Rep S H' d v->Ext [] H H'->R v H')->r vs H R
def uCB (f:List PyData->Option PyData) (ua:UA):UX:=fun env n Q=>ua env n fun ds n1=>bnd (f ds) fun d=>Q d n1
section
variable {X:Cx} {M:Fr} {e:Expr} {es:List Expr} {ua:UA} {p pos:Pos} {f:List PyData->Option PyData} {id T:String} {x:Str}
theorem cb_go {r:List V->Hp->VK->Prop} (hr:∀ gs S H ds vs d (R:VK),(∀ a∈S,H a≠none)->Sized H->RepLs gs S H ds vs->f ds=some d->(∀ v H',Rep S H' d v->Ext [] H H'->R v H')->r vs H R)
  {σ:St} {H:Hp} {R:VK} {env:PEnv} {pn:List (PyData × V)} {S:List Addr} {n:Int} {Q:PyData->Int->Prop} (ok:EnvOk M env pn σ S H n) (hu:uCB f ua env n Q) (k:∀ v H' d n',Rep S H' d v->Ext M.gs H H'->M.G H' n'->Q d n'->R v H'):tCB r (liftAL M ua) σ H R :=
 ⟨env,pn,S,n,_,ok,hu,fun vs H1 ds n1 r1 x1 g1 sz q=>by
  obtain ⟨d,e,q⟩:=q
  exact hr M.gs S H1 ds vs d R (ok.step x1 g1).has sz r1 e fun v H2 r2 x2=>k v H2 d n1 r2 (x1.trans (x2.mono (by simp))) (M.gext g1 x2 (by simp)) q⟩
theorem k_cB (hc:CallD X (.builtin id) f) (hm:X.mg x=none) (ha:KAL X M (e::es) ua) (hg:Gl X x:=by rfl) (hv:bootBuiltins x=some (.builtin id):=by decide +kernel) (hn:x ≠ "__name__" := by decide) (hdb:(x == ("__debug__" : Str))=false:=by decide) :
  KE X M (.Call (.Name x p) (e::es) [] pos) (uCB f ua):=by
 obtain ⟨r,h1,h2⟩:=hc.ex
 exact .of (qe_callB h1 hg hm hv ha.run hn hdb) fun σ H R env pn S n Q ok hu k=>cb_go h2 ok hu k
theorem k_cT (hc:CallD X (.type T) f) (hm:X.mg x=none) (ha:KAL X M (e::es) ua) (hg:Gl X x:=by rfl) (hv:bootBuiltins x=some (.type T):=by decide +kernel) (hn:x ≠ "__name__" := by decide) (hdb:(x == ("__debug__" : Str))=false:=by decide) :
  KE X M (.Call (.Name x p) (e::es) [] pos) (uCB f ua):=by
 obtain ⟨r,h1,h2⟩:=hc.ex
 exact .of (qe_callTy h1 hg hm hv ha.run hn hdb) fun σ H R env pn S n Q ok hu k=>cb_go h2 ok hu k
end
theorem RepLs.one {gs S:List Addr} {H:Hp} {d:PyData} {vs:List V} (h:RepLs gs S H [d] vs):∃ v,vs=[v]/\RepL gs S H d v:=let ⟨v,r,e,h1,h2⟩:=h; ⟨v,by rw [e,show r=[] from h2],h1⟩
theorem RepLs.two {gs S:List Addr} {H:Hp} {d e:PyData} {vs:List V} (h:RepLs gs S H [d,e] vs):∃ v w,vs=[v,w]/\RepL gs S H d v/\RepL gs S H e w:=let ⟨v,r,e,h1,h2⟩:=h; let ⟨w,e2,h3⟩:=RepLs.one h2; ⟨v,w,by rw [e,e2],h1,h3⟩
def lenD':List PyData->Option PyData | [.tuple ds]=>some (.int ds.length) | [.list ds]=>some (.int ds.length) | _=>none
def min2D:List PyData->Option PyData | [.int i,.int j]=>some (.int (if j < i then j else i)) | _=>none
def max2D:List PyData->Option PyData | [.int i,.int j]=>some (.int (if j > i then j else i)) | _=>none
def intD:List PyData->Option PyData | [.int i]=>some (.int i) | [.bool b]=>some (.int (if b then 1 else 0)) | _=>none
def tupleD:List PyData->Option PyData | [.tuple ds]=>some (.tuple ds) | [.list ds]=>some (.tuple ds) | _=>none
section
variable {X:Cx}
theorem c_len:CallD X (.builtin "len") lenD':=⟨_,lenK X.K,fun gs S H ds vs d R _ _ rs e k=>by
 rcases ds with _ | ⟨d1,_ | ⟨d2,l⟩⟩
 ·cases e
 ·obtain ⟨v,rfl,r⟩:=rs.one
  cases d1 with
  | tuple ds =>
   cases e
   obtain ⟨a,xs,rfl,sq,_,rr⟩:=r.sqT (K:=X.K)
   refine ⟨a,xs,rfl,.inr sq,?_⟩
   rw [rr.length]
   exact k _ H (.int _) (.refl _ _)
  | list ds =>
   cases e
   obtain ⟨a,xs,rfl,sq,_,rr⟩:=r.sqL (K:=X.K)
   refine ⟨a,xs,rfl,.inl sq,?_⟩
   rw [rr.length]
   exact k _ H (.int _) (.refl _ _)
  | _=>cases e
 ·cases d1 <;> cases e⟩
theorem two_ints {f:List PyData->Option PyData} (hf:∀ ds d,f ds=some d->∃ i j,ds=[.int i,.int j]) {gs S:List Addr} {H:Hp} {ds:List PyData} {vs:List V} {d:PyData} (rs:RepLs gs S H ds vs) (e:f ds=some d):∃ i j,ds=[.int i,.int j]/\vs=[.int i,.int j]:=by
 obtain ⟨i,j,rfl⟩:=hf _ _ e
 obtain ⟨v,w,rfl,r,r2⟩:=rs.two
 exact ⟨i,j,rfl,by rw [r.of_int,r2.of_int]⟩
theorem min2_of (ds:List PyData) (d:PyData) (e:min2D ds=some d):∃ i j,ds=[.int i,.int j]:=by
 unfold min2D at e
 split at e
 ·exact ⟨_,_,rfl⟩
 ·cases e
theorem max2_of (ds:List PyData) (d:PyData) (e:max2D ds=some d):∃ i j,ds=[.int i,.int j]:=by
 unfold max2D at e
 split at e
 ·exact ⟨_,_,rfl⟩
 ·cases e
theorem c_min2 (hc:X.calm=true):CallD X (.builtin "min") min2D:=⟨_,call_min2 hc,fun gs S H ds vs d R _ _ rs e k=>by
 obtain ⟨i,j,rfl,rfl⟩:=two_ints min2_of rs e
 cases e
 exact ⟨i,j,rfl,k _ H (.int _) (.refl _ _)⟩⟩
theorem c_max2 (hc:X.calm=true):CallD X (.builtin "max") max2D:=⟨_,call_max2 hc,fun gs S H ds vs d R _ _ rs e k=>by
 obtain ⟨i,j,rfl,rfl⟩:=two_ints max2_of rs e
 cases e
 exact ⟨i,j,rfl,k _ H (.int _) (.refl _ _)⟩⟩
theorem c_int:CallD X (.type "int") intD:=⟨_,call_int1,fun gs S H ds vs d R _ _ rs e k=>by
 rcases ds with _ | ⟨d1,_ | ⟨d2,l⟩⟩
 ·cases e
 ·obtain ⟨v,rfl,r⟩:=rs.one
  cases d1 with
  | int i=>cases e; exact .inl ⟨i,by rw [r.of_int],k _ H (.int _) (.refl _ _)⟩
  | bool i=>cases e; exact .inr ⟨i,by rw [r.of_bl],k _ H (.int _) (.refl _ _)⟩
  | _=>cases e
 ·cases d1 <;> cases e⟩
theorem c_tuple:CallD X (.type "tuple") tupleD:=⟨_,tupleK X.K,fun gs S H ds vs d R _ _ rs e k=>by
 rcases ds with _ | ⟨d1,_ | ⟨d2,l⟩⟩
 ·cases e
 ·obtain ⟨v,rfl,r⟩:=rs.one
  cases d1 with
  | tuple ds =>
   cases e
   obtain ⟨a,xs,rfl,sq,ha,rr⟩:=r.sqT (K:=X.K)
   exact ⟨a,xs,rfl,.inr ⟨sq,k _ H (.tup ha rr) (.refl _ _)⟩⟩
  | list ds =>
   cases e
   obtain ⟨a,xs,rfl,sq,_,rr⟩:=r.sqL (K:=X.K)
   exact ⟨a,xs,rfl,.inl ⟨sq,fun l hl=>k _ _ (new_tup hl rr) (.new hl)⟩⟩
  | _=>cases e
 ·cases d1 <;> cases e⟩
end
section
variable {M:Fr} {env:PEnv} {pn:List (PyData × V)} {σ:St} {S:List Addr} {H H':Hp} {n n':Int} {i:Nat} {d:PyData} {v:V}
theorem get_set {α:Type} {l:List (Option α)} {i j:Nat} {x:α} {y:Option α} (h:(l.set i y)[j]? = some (some x)):(i=j/\y=some x)\/(i≠j/\l[j]? = some (some x)):=by
 by_cases e:i=j
 ·subst e
  by_cases hl:i < l.length
  ·rw [List.getElem?_set_self hl] at h; exact .inl ⟨rfl,Option.some.inj h⟩
  ·rw [List.getElem?_eq_none (by rw [List.length_set]; omega)] at h; cases h
 ·rw [List.getElem?_set_ne e] at h; exact .inr ⟨e,h⟩
theorem set_get {α:Type} {l:List (Option α)} {i:Nat} {y:Option α} (h:i < l.length):(l.set i y)[i]? = some y:=List.getElem?_set_self h
theorem EnvOk.set (ok:EnvOk M env pn σ S H n) (r:Rep S H d v) (hi:i ∉ M.fd):EnvOk M (env.set i (some (.s d))) pn (σ.set i (some v)) S H n:=by
 refine ⟨fun j e he=>?_,fun j k ds es a h1 h2 h3 h4=>?_,by rw [List.length_set,List.length_set,ok.len],fun j hj=>?_,ok.gd,ok.ext,ok.s0,ok.sn,ok.has,ok.pin⟩
 ·have hl:i < env.length->i < σ.length:=fun z=>by rw [<- ok.len]; exact z
  rcases get_set he with ⟨rfl,e1⟩ | ⟨ne,e1⟩
  ·cases e1
   have:i < env.length:=by
    by_cases z:i < env.length
    ·exact z
    ·rw [List.getElem?_eq_none (by rw [List.length_set]; omega)] at he; cases he
   exact ⟨v,set_get (hl this),r⟩
  ·obtain ⟨v',hv,rv⟩:=ok.val j e e1
   exact ⟨v',by rw [List.getElem?_set_ne ne]; exact hv,rv⟩
 ·rcases get_set h1 with ⟨_,e1⟩ | ⟨n1,e1⟩
  ·cases e1
  ·rcases get_set h2 with ⟨_,e2⟩ | ⟨n2,e2⟩
   ·cases e2
   ·rw [List.getElem?_set_ne n1] at h3
    rw [List.getElem?_set_ne n2] at h4
    exact ok.ne j k ds es a e1 e2 h3 h4
 ·have:i≠j:=fun z=>hi (z ▸ hj)
  rw [List.getElem?_set_ne this]
  exact ok.fdv j hj
theorem EnvOk.anew (ok:EnvOk M env pn σ S H n) {a:Addr} (h0:H a=none):M.H0 a=none:=by
 by_cases z:a∈M.gs
 ·exact absurd h0 (M.ghas ok.gd a z)
 ·exact ok.ext.fresh z h0
theorem EntOk.fresh {e:Ent} {a:Addr} (h:EntOk M S H e v) (h0:H a=none):EntOk M (a::S) H e v:=by
 cases e with
 | s d=>exact Rep.fresh h0 h
 | o ds =>
  obtain ⟨b,xs,e,hb,r,hs,h1⟩:=h
  exact ⟨b,xs,e,hb,r.fresh h0,List.mem_cons_of_mem _ hs,h1⟩
 | x c as =>
  obtain ⟨b,dx,vs,e,ha,hd,r,g1,g2⟩:=h
  exact ⟨b,dx,vs,e,ha,hd,r.fresh h0,g1,g2⟩
theorem EnvOk.setN (ok:EnvOk M env pn σ S H n) {a:Addr} {xs:List V} {ds:List PyData} (h0:H a=none) (h1:H' a=some (.lst xs)) (r:Reps (a::S) H' ds xs) (x:Ext M.gs H H') (g:M.G H' n') (hi:i ∉ M.fd) :
  EnvOk M (env.set i (some (.o ds))) pn (σ.set i (some (.ref a))) (a::S) H' n':=by
 have hg:∀ b∈M.gs,b∈a::S:=fun b hb=>List.mem_cons_of_mem _ (ok.gsS b hb)
 have inS:∀ (j:Nat) (es:List PyData) (b:Addr),env[j]? = some (some (.o es))->σ[j]? = some (some (.ref b))->b≠a:=fun j es b e1 e2 z=>by
  obtain ⟨v',hv,rv⟩:=ok.val j _ e1
  obtain ⟨c,xs,e,hc,_,hs,_⟩:=rv
  subst e
  rw [e2] at hv
  cases hv
  rw [z] at hs
  exact ok.has _ hs h0
 have ok':=ok.step x g
 refine ⟨fun j e he=>?_,fun j k ds' es b h2 h3 h4 h5=>?_,by rw [List.length_set,List.length_set,ok.len],fun j hj=>?_,g,ok'.ext,fun b hb=>List.mem_cons_of_mem _ (ok.s0 b hb),fun b hb=>?_,fun b hb=>?_,fun p hp=>?_⟩
 ·rcases get_set he with ⟨rfl,e1⟩ | ⟨ne,e1⟩
  ·cases e1
   have:i < env.length:=by
    by_cases z:i < env.length
    ·exact z
    ·rw [List.getElem?_eq_none (by rw [List.length_set]; omega)] at he; cases he
   exact ⟨.ref a,set_get (by rw [<- ok.len]; exact this),a,xs,rfl,h1,r,List.mem_cons_self ..,ok.anew h0⟩
  ·obtain ⟨v',hv,rv⟩:=ok.val j e e1
   exact ⟨v',by rw [List.getElem?_set_ne ne]; exact hv,(rv.fresh h0).step hg x⟩
 ·rcases get_set h2 with ⟨rfl,e1⟩ | ⟨n1,e1⟩
  ·have hil:i < σ.length:=by
    by_cases z:i < σ.length
    ·exact z
    ·rw [List.getElem?_eq_none (by rw [List.length_set]; omega)] at h4; cases h4
   rw [set_get hil] at h4
   cases h4
   rcases get_set h3 with ⟨e3,_⟩ | ⟨n2,e2⟩
   ·exact e3
   ·rw [List.getElem?_set_ne n2] at h5
    exact absurd rfl (inS k _ _ e2 h5)
  ·rw [List.getElem?_set_ne n1] at h4
   rcases get_set h3 with ⟨rfl,e2⟩ | ⟨n2,e2⟩
   ·have hil:i < σ.length:=by
     by_cases z:i < σ.length
     ·exact z
     ·rw [List.getElem?_eq_none (by rw [List.length_set]; omega)] at h5; cases h5
    rw [set_get hil] at h5
    cases h5
    exact absurd rfl (inS j _ _ e1 h4)
   ·rw [List.getElem?_set_ne n2] at h5
    exact ok.ne j k _ _ b e1 e2 h4 h5
 ·have:i≠j:=fun z=>hi (z ▸ hj)
  rw [List.getElem?_set_ne this]
  exact ok.fdv j hj
 ·rcases List.mem_cons.mp hb with z | z
  ·rw [z]; exact .inr (ok.anew h0)
  ·exact ok.sn b z
 ·rcases List.mem_cons.mp hb with z | z
  ·rw [z,h1]; simp
  ·exact ok'.has b z
 ·exact ((ok.pin p hp).fresh h0).ext (x.mono hg)
theorem EnvOk.put (ok:EnvOk M env pn σ S H n) {ds es:List PyData} {a:Addr} {xs ys:List V} (he:env[i]? = some (some (.o ds))) (hv:σ[i]? = some (some (.ref a))) (ha:H a=some (.lst xs)) (r:Reps S H es ys):EnvOk M (env.set i (some (.o es))) pn σ S (upd H a (.lst ys)) n:=by
 obtain ⟨v',hv',a',xs',e',ha',_,hs,h0⟩:=ok.val i _ he
 subst e'
 rw [hv] at hv'
 cases hv'
 have x:Ext [a] H (upd H a (.lst ys)):=.set (by simp) ha
 have xS:Ext S H (upd H a (.lst ys)):=x.mono (by simpa using hs)
 refine ⟨fun j e hj=>?_,fun j k ds' es' b h2 h3 h4 h5=>?_,by rw [List.length_set,ok.len],ok.fdv,M.gext ok.gd x (by simpa using h0),ok.ext.set' h0 ha,ok.s0,ok.sn,fun b hb=>?_,fun p hp=>(ok.pin p hp).ext xS⟩
 ·rcases get_set hj with ⟨rfl,e1⟩ | ⟨ne,e1⟩
  ·cases e1
   exact ⟨_,hv,a,ys,rfl,upd_same,r.ext xS,hs,h0⟩
  ·obtain ⟨w,hw,rw'⟩:=ok.val j e e1
   refine ⟨w,hw,?_⟩
   cases e with
   | s d=>exact Rep.ext xS rw'
   | o es' =>
    obtain ⟨b,zs,e2,hb,r2,hs2,h02⟩:=rw'
    subst e2
    have:b≠a:=fun z=>ne (ok.ne i j _ _ a he e1 hv (z ▸ hw))
    exact ⟨b,zs,rfl,by rw [upd_ne this]; exact hb,r2.ext xS,hs2,h02⟩
   | x c as =>
    obtain ⟨b,dx,vs,e2,hb,hd,r2,g1,g2⟩:=rw'
    exact ⟨b,dx,vs,e2,by rw [upd_ne (fun z=>by rw [z,ha] at hb; cases hb)]; exact hb,by rw [upd_ne (fun z=>by rw [z,ha] at hd; cases hd)]; exact hd,r2.ext xS,g1,g2⟩
 ·have g1:∃ l,env[j]? = some (some (.o l)):=by
   rcases get_set h2 with ⟨rfl,_⟩ | ⟨_,e1⟩
   ·exact ⟨_,he⟩
   ·exact ⟨_,e1⟩
  have g2:∃ l,env[k]? = some (some (.o l)):=by
   rcases get_set h3 with ⟨rfl,_⟩ | ⟨_,e1⟩
   ·exact ⟨_,he⟩
   ·exact ⟨_,e1⟩
  obtain ⟨l1,g1⟩:=g1
  obtain ⟨l2,g2⟩:=g2
  exact ok.ne j k _ _ b g1 g2 h4 h5
 ·by_cases z:b=a
  ·rw [z,upd_same]; simp
  ·rw [upd_ne z]; exact ok.has b hb
theorem EnvOk.pins {qn:List (PyData × V)} (ok:EnvOk M env pn σ S H n) (h:∀ p∈qn,p∈pn):EnvOk M env qn σ S H n:=⟨ok.val,ok.ne,ok.len,ok.fdv,ok.gd,ok.ext,ok.s0,ok.sn,ok.has,fun p hp=>ok.pin p (h p hp)⟩
theorem EnvOk.pin1 (ok:EnvOk M env pn σ S H n) (h:Rep S H d v):EnvOk M env ((d,v)::pn) σ S H n:=⟨ok.val,ok.ne,ok.len,ok.fdv,ok.gd,ok.ext,ok.s0,ok.sn,ok.has,fun p hp=>by
 rcases List.mem_cons.mp hp with rfl | hp
 ·exact h
 ·exact ok.pin p hp⟩
end
abbrev UG:=PyData->PEnv->(PEnv->Prop)->Prop
def uNm (i:Nat):UG:=fun d env Q=>Q (env.set i (some (.s d)))
def uTps:List UG->List PyData->PEnv->(PEnv->Prop)->Prop
 | [],[],env,Q=>Q env
 | u::us,d::ds,env,Q=>u d env fun env'=>uTps us ds env' Q
 | _,_,_,_=>False
def uTp (us:List UG):UG:=fun d env Q=>match d with | .tuple ds=>uTps us ds env Q | _=>False
def liftG (M:Fr) (u:UG):TG:=fun v σ H R=>∃ env pn S n d N,EnvOk M env pn σ S H n/\Rep S H d v/\u d env N/\∀ env' σ',EnvOk M env' pn σ' S H n->N env'->R σ' H
def liftGs (M:Fr) (us:List UG):TGs:=fun vs σ H R=>∃ env pn S n ds N,EnvOk M env pn σ S H n/\Reps S H ds vs/\uTps us ds env N/\∀ env' σ',EnvOk M env' pn σ' S H n->N env'->R σ' H
structure KG (X:Cx) (M:Fr) (e:Expr) (u:UG):Prop where run:QG X e (liftG M u)
structure KGs (X:Cx) (M:Fr) (es:List Expr) (us:List UG):Prop where run:QGs X es (liftGs M us)
theorem QG.weaken {X:Cx} {e:Expr} {t t':TG} (h:QG X e t) (w:∀ v σ H Q,t' v σ H Q->t v σ H Q):QG X e t':=⟨fun pins s σ H v u D I r q=>h.run pins s σ H v u D I r (w _ σ H _ q)⟩
theorem QGs.weaken {X:Cx} {es:List Expr} {t t':TGs} (h:QGs X es t) (w:∀ v σ H Q,t' v σ H Q->t v σ H Q):QGs X es t':=⟨fun pins s σ H v u D I r q=>h.run pins s σ H v u D I r (w _ σ H _ q)⟩
section
variable {X:Cx} {M:Fr} {e:Expr} {es:List Expr} {pos:Pos} {u:UG} {us:List UG}
theorem g_n {i:Nat} {x:Str} (hN:X.N.Nodup) (hx:Loc X.env.scope x) (hi:X.N[i]? = some x:=by rfl) (hf:X.fn x=true\/X.env.scope.names.lookup x=some .local:=by first | exact .inl rfl | exact .inr rfl | assumption) (hfd:i ∉ M.fd:=by decide):KG X M (.Name x pos) (uNm i) :=
 ⟨(qg_name hN hi hx hf).weaken fun v σ H R h=>ex6 h fun env pn S n d N h=>h.2.2.2 _ _ (h.1.set h.2.1 hfd) h.2.2.1⟩
theorem gs_nil:KGs X M [] []:=⟨qgs_nil.weaken fun vs σ H R h=>ex6 h fun env pn S n ds N h=>by
 obtain ⟨ok,r,hu,k⟩:=h
 cases ds with
 | nil=>exact ⟨r.of_nil,k _ _ ok hu⟩
 | cons d ds=>exact False.elim hu⟩
theorem gs_c (h:KG X M e u) (hr:KGs X M es us) (hs:(assignEach (e::es) X.env).map (·.2)=assign e X.env::(assignEach es X.env).map (·.2):=by rfl):KGs X M (e::es) (u::us) :=
 ⟨(qgs_cons h.run hr.run hs).weaken fun vs σ H R h=>ex6 h fun env pn S n ds N h=>by
  obtain ⟨ok,r,hu,k⟩:=h
  cases ds with
  | nil=>exact False.elim hu
  | cons d ds =>
   obtain ⟨x,t,rfl,r1,r2⟩:=r.of_cons
   exact ⟨x,t,rfl,env,pn,S,n,d,_,ok,r1,hu,fun env' σ' ok' q=>⟨env',pn,S,n,ds,N,ok',r2,q,k⟩⟩⟩
theorem uTps_len:∀ {us:List UG} {ds:List PyData} {env:PEnv} {Q:PEnv->Prop},uTps us ds env Q->(∀ u∈us,∀ d env (Q:PEnv->Prop),u d env Q->∃ env',Q env')->ds.length=us.length
 | [],[],_,_,_,_=>rfl
 | [],_::_,_,_,h,_=>False.elim h
 | _::_,[],_,_,h,_=>False.elim h
 | u::us,d::ds,env,Q,h,k=>by
  obtain ⟨env',h'⟩:=k u (List.mem_cons_self ..) d env _ h
  simp only [List.length_cons]
  rw [uTps_len h' fun w hw=>k w (List.mem_cons_of_mem _ hw)]
theorem nm_ex {i:Nat}:∀ d env (Q:PEnv->Prop),uNm i d env Q->∃ env',Q env':=fun _ _ _ h=>⟨_,h⟩
theorem g_t {n':Nat} (hc:X.calm=true) (h:KGs X M es us) (hu:∀ u∈us,∀ d env (Q:PEnv->Prop),u d env Q->∃ env',Q env') (hl:us.length=n') (hn:(assignEach es X.env).length=n':=by rfl) (hst:(assignEach es X.env).findIdx? (·.1)=none:=by rfl) {k:Nat}:KG X M (.Tuple es k pos) (uTp us) :=
 ⟨(qg_tup hc h.run hn hst).weaken fun v σ H R h=>ex6 h fun env pn S n d N h=>by
  obtain ⟨ok,r,hh,k⟩:=h
  cases d with
  | tuple ds =>
   obtain ⟨a,xs,rfl,ha,rs⟩:=r.of_tup
   exact ⟨a,xs,rfl,SqT.of ha,by rw [rs.length,uTps_len hh hu,hl],env,pn,S,n,ds,N,ok,rs,hh,k⟩
  | _=>exact False.elim hh⟩
end
structure ItD (S:List Addr) (J:It) (its:List PyData) (H:Hp):Prop where
 go:∀ i,i < its.length->J.go i H
 yld:∀ i x H',i < its.length->J.yld i H x H'->∃ d,its[i]? = some d/\Ext [] H H'/\Rep S H' d x
 stop:∀ i,its.length<=i->J.stop i H
abbrev UI:=PEnv->Int->(List PyData->PEnv->Int->Prop)->Prop
abbrev UJ:=PEnv->Int->(List PyData->Int->Prop)->Prop
theorem QI.sized {X:Cx} {tg iter:Expr} {wi:TI} (h:QI X tg iter wi):QI X tg iter (fun σ H R=>wi σ H fun J H1=>Sized H1->R J H1) :=
 ⟨fun pins s σ H R I q=>thn (h.run pins s σ H _ I q) fun v s1 q1=>thn q1 fun it s2 ⟨a,fp,tn,J,H',e,I2,t,t0,f,r⟩=>⟨a,fp,tn,J,H',e,I2,t,t0,f,r I2.hok.sized⟩⟩
structure KI (X:Cx) (M:Fr) (tg iter:Expr) (u:UI):Prop where
 ex:∃ wi,QI X tg iter wi/\∀ σ H R env pn S n Q,EnvOk M env pn σ S H n->u env n Q ->
  (∀ J H' its env' S' n' p,EnvOk M env' (p++pn) σ S' H' n'->(∀ S2 H2,(∀ q∈p,Rep S2 H2 q.1 q.2)->ItD S2 J its H2)->Q its env' n'->R J H')->wi σ H R
structure KJ (X:Cx) (M:Fr) (tg iter:Expr) (u:UJ):Prop where
 ex:∃ wi,QI X tg iter wi/\∀ σ H R env pn S n Q,EnvOk M env pn σ S H n->u env n Q ->
  (∀ J H' its n',Ext M.gs H H'->M.G H' n'->(∀ H2,Ext M.gs H' H2->ItD S J its H2)->its.length<=sizeLine->Q its n'->R J H')->wi σ H R
theorem it_tup {K:W.Frag} {S:List Addr} {H:Hp} {a:Addr} {xs:List V} {ds:List PyData} (ha:H a=some (.tup xs)) (r:Reps S H ds xs):ItD S (Itt K a) ds H :=
 ⟨fun i hi=>⟨xs,xs[i]'(by rw [r.length]; exact hi),SqT.of ha,by simp⟩,fun i x H' _ ⟨e,y⟩=>by
  subst e
  obtain ⟨d,hd,rd⟩:=r.get (y xs (SqT.of ha))
  exact ⟨d,hd,.refl _ _,rd⟩,fun i hi=>⟨xs,SqT.of ha,by rw [r.length]; exact hi⟩⟩
theorem it_lst {K:W.Frag} {S:List Addr} {H:Hp} {a:Addr} {xs:List V} {ds:List PyData} (ha:H a=some (.lst xs)) (r:Reps S H ds xs):ItD S (Itl K a) ds H :=
 ⟨fun i hi=>⟨xs,xs[i]'(by rw [r.length]; exact hi),SqL.of ha,by simp⟩,fun i x H' _ ⟨e,y⟩=>by
  subst e
  obtain ⟨d,hd,rd⟩:=r.get (y xs (SqL.of ha))
  exact ⟨d,hd,.refl _ _,rd⟩,fun i hi=>⟨xs,SqL.of ha,by rw [r.length]; exact hi⟩⟩
def enumP (ds:List PyData):List PyData:=ds.zipIdx.map fun p=>.tuple [.int (p.2:Nat),p.1]
theorem enumP_len (ds:List PyData):(enumP ds).length=ds.length:=by simp [enumP]
theorem enumP_at {ds:List PyData} {i:Nat} {d:PyData} (h:ds[i]? = some d):(enumP ds)[i]? = some (.tuple [.int (i:Nat),d]):=by
 unfold enumP
 rw [List.getElem?_map,List.getElem?_zipIdx,h]
 simp
theorem it_enumT {K:W.Frag} {S:List Addr} {H:Hp} {a:Addr} {xs:List V} {ds:List PyData} (ha:H a=some (.tup xs)) (r:Reps S H ds xs):ItD S (Ite K a) (enumP ds) H :=
 ⟨fun i hi=>⟨xs,xs[i]'(by rw [r.length,<- enumP_len]; exact hi),SqT.of ha,by simp⟩,fun i x H' _ ⟨T,xi,e1,hT,e2,hxi⟩=>by
  subst e1 e2
  obtain ⟨d,hd,rd⟩:=r.get (hxi xs (SqT.of ha))
  exact ⟨_,enumP_at hd,.new hT,.tup upd_same (.cons (.int _) (.cons (rd.ext (.new hT)) .nil))⟩,fun i hi=>⟨xs,SqT.of ha,by rw [r.length,<- enumP_len]; exact hi⟩⟩
theorem it_enumL {K:W.Frag} {S:List Addr} {H:Hp} {a:Addr} {xs:List V} {ds:List PyData} (ha:H a=some (.lst xs)) (r:Reps S H ds xs):ItD S (Iel K a) (enumP ds) H :=
 ⟨fun i hi=>⟨xs,xs[i]'(by rw [r.length,<- enumP_len]; exact hi),SqL.of ha,by simp⟩,fun i x H' _ ⟨T,xi,e1,hT,e2,hxi⟩=>by
  subst e1 e2
  obtain ⟨d,hd,rd⟩:=r.get (hxi xs (SqL.of ha))
  exact ⟨_,enumP_at hd,.new hT,.tup upd_same (.cons (.int _) (.cons (rd.ext (.new hT)) .nil))⟩,fun i hi=>⟨xs,SqL.of ha,by rw [r.length,<- enumP_len]; exact hi⟩⟩
def rngD (lo:Int) (n:Nat):List PyData:=(List.range n).map fun (k:Nat)=>.int (lo + k)
theorem it_rng {S:List Addr} {H:Hp} {lo:Int} {n:Nat}:ItD S (Itr lo n) (rngD lo n) H :=
 have hl:(rngD lo n).length=n:=by simp [rngD]
 ⟨fun i hi=>by rw [hl] at hi; exact hi,fun i x H' hi ⟨e1,e2⟩=>by
  subst e1 e2
  rw [hl] at hi
  exact ⟨.int (lo + (i:Nat)),by simp [rngD,List.getElem?_range hi],.refl _ _,.int _⟩,fun i hi=>by rw [hl] at hi; exact hi⟩
def uItV (i:Nat):UI:=fun env n Q=>match env[i]? with | some (some (.s (.tuple ds)))=>Q ds env n | some (some (.s (.list ds)))=>Q ds env n | some (some (.o ds))=>Q ds (env.set i (some (.s (.list ds)))) n | _=>False
def seqD (d:PyData):Option (List PyData):=match d with | .tuple ds=>some ds | .list ds=>some ds | _=>none
def uIt (u:UX):UI:=fun env n Q=>u env n fun d n1=>bnd (seqD d) fun ds=>Q ds env n1
def uJt (u:UX):UJ:=fun env n Q=>u env n fun d n1=>bnd (seqD d) fun ds=>Q ds n1
def uJe (u:UX):UJ:=fun env n Q=>u env n fun d n1=>bnd (seqD d) fun ds=>Q (enumP ds) n1
def uIe (u:UX):UI:=fun env n Q=>u env n fun d n1=>bnd (seqD d) fun ds=>Q (enumP ds) env n1
def uJr (u:UX):UJ:=fun env n Q=>u env n fun d n1=>match d with | .int j=>(-(2 ^ 62)<=j/\j<=16777216)/\Q (rngD 0 j.toNat) n1 | _=>False
def uIr (u:UX):UI:=fun env n Q=>u env n fun d n1=>match d with | .int j=>-(2 ^ 62)<=j/\j < 2 ^ 62/\Q (rngD 0 j.toNat) env n1 | _=>False
def uJr2 (u w:UX):UJ:=fun env n Q=>u env n fun d n1=>w env n1 fun e n2=>match d,e with | .int i,.int j=>(-(2 ^ 62)<=i/\i < 2 ^ 62/\-(2 ^ 62)<=j/\j < 2 ^ 62)/\j - i<=16777216/\Q (rngD i (j - i).toNat) n2 | _,_=>False
def uIr2 (u w:UX):UI:=fun env n Q=>u env n fun d n1=>w env n1 fun e n2=>match d,e with | .int i,.int j=>(-(2 ^ 62)<=i/\i < 2 ^ 62/\-(2 ^ 62)<=j/\j < 2 ^ 62)/\Q (rngD i (j - i).toNat) env n2 | _,_=>False
def iSeq (K:W.Frag) (te:TE):TI:=fun σ H R=>te σ H fun x H1=>∃ a,x=.ref a/\(((∃ xs,SqL K H1 a xs)/\R (Itl K a) H1)\/((∃ xs,SqT K H1 a xs)/\R (Itt K a) H1))
def iEnS (K:W.Frag) (ta:TA):TI:=fun σ H R=>ta σ H fun vs H1=>∃ a,vs=[.ref a]/\(((∃ xs,SqL K H1 a xs)/\R (Iel K a) H1)\/((∃ xs,SqT K H1 a xs)/\R (Ite K a) H1))
section
variable {X:Cx} {M:Fr} {tg e a b:Expr} {u w:UX} {p pos tpos:Pos} {elts:List Expr} {k:Nat}
theorem qi_seq {te:TE} (h:QE X e te):QI X tg e (iSeq X.K te):=by
 refine ⟨fun pins s σ H R I q=>thn (h.run pins s σ H _ I q) fun v s1 ⟨x,H1,I1,r1,q1⟩=>?_⟩
 obtain ⟨a,e,q1⟩:=q1
 subst e
 cases r1
 rcases q1 with ⟨⟨xs,hq⟩,q⟩ | ⟨⟨xs,hq⟩,q⟩
 ·obtain ⟨its,rv,p,hz⟩:=I1.list hq
  refine wpAny_pyIter_list p.isList ?_
  refine ⟨s1.heap.objs.size,[s1.heap.objs.size],_,_,H1,rfl,I1.kept (t':=s1.toks) fun b o e=>Heap.get?_push_of_some _ e,turn_list a _,⟨_,Heap.get?_push_size _ rfl,rfl,rfl⟩,fun b hb=>?_,q⟩
  have e:b=s1.heap.objs.size:=by simpa using hb
  subst e
  exact I1.fpOk (Nat.le_refl _) (I1.hok.fresh (Nat.le_refl _))
 ·obtain ⟨its,rv,p,hz⟩:=I1.tuple hq
  refine wpAny_pyIter_tuple (show s1.heap.IsTuple a its.toArray from p) ?_
  refine ⟨s1.heap.objs.size,[s1.heap.objs.size],_,_,H1,rfl,I1.kept (t':=s1.toks) fun b o e=>Heap.get?_push_of_some _ e,turn_tuple a _,⟨_,Heap.get?_push_size _ rfl,rfl,rfl⟩,fun b hb=>?_,q⟩
  have e:b=s1.heap.objs.size:=by simpa using hb
  subst e
  exact I1.fpOk (Nat.le_refl _) (I1.hok.fresh (Nat.le_refl _))
theorem qi_enS {ta:TA} (hg:Gl X "enumerate") (hm:X.mg "enumerate" = none) (ha:QA X [a] ta):QI X (.Tuple elts k tpos) (.Call (.Name "enumerate" p) [a] [] pos) (iEnS X.K ta):=by
 refine ⟨fun pins s σ H R I h=>?_⟩
 have hs:=starEach_ns (env:=X.env) (es:=[]) (ns_hd ha.ns).1
 refine Call_ (ld_blt I hg hm (by decide +kernel:bootBuiltins "enumerate" = some (.type "enumerate")) (PyProof.Rows.callWith_type1 (thn (ha.run pos pins s σ H _ I h) fun us s1 ⟨vs,H1,I1,r1,q1⟩=>?_) hs rfl))
 obtain ⟨t,e,q1⟩:=q1
 subst e
 have hfp:∀ b∈[s1.heap.objs.size + 1,s1.heap.objs.size],FpOk X pins H1 b:=fun b hb=>by
  have hb':s1.heap.objs.size<=b:=by
   rcases List.mem_cons.mp hb with z | z
   ·rw [z]; exact Nat.le_succ _
   ·have z':b=s1.heap.objs.size:=by simpa using z
    rw [z']; exact Nat.le_refl _
  obtain ⟨p0,p1,p2,p3,p4,p5⟩:=I1.fpOk hb' (I1.hok.fresh hb')
  exact ⟨p0,p1,p2,p3,p4,p5⟩
 cases r1 with
 | cons r rr =>
  cases rr
  cases (show _=Value.ref t from r)
  rcases q1 with ⟨⟨xs,hq⟩,q⟩ | ⟨⟨xs,hq⟩,q⟩
  ·obtain ⟨its,rv,pp,hz⟩:=I1.list hq
   refine call_enumerate_list pp.isList fun h' en it' sz kp=>?_
   refine wpAny_pyIter_enum en ?_
   have I2:Inv X pins σ H1 { s1 with heap:=h' }:=I1.kept (t':=s1.toks) kp
   exact ⟨s1.heap.objs.size + 1,[s1.heap.objs.size + 1,s1.heap.objs.size],_,_,H1,rfl,I2,turn_enumL t _ _ (Nat.succ_ne_self _),⟨⟨_,en⟩,it'⟩,hfp,q⟩
  ·obtain ⟨its,rv,pp,hz⟩:=I1.tuple hq
   refine call_enumT (show s1.heap.IsTuple t its.toArray from pp) fun h' en it' sz kp=>?_
   refine wpAny_pyIter_enum en ?_
   have I2:Inv X pins σ H1 { s1 with heap:=h' }:=I1.kept (t':=s1.toks) kp
   exact ⟨s1.heap.objs.size + 1,[s1.heap.objs.size + 1,s1.heap.objs.size],_,_,H1,rfl,I2,turn_enumT t _ _ (Nat.succ_ne_self _),⟨⟨_,en⟩,it'⟩,hfp,q⟩
theorem RepL.its {K:W.Frag} {gs S:List Addr} {H:Hp} {d:PyData} {v:V} {ds:List PyData} (r:RepL gs S H d v) (e:seqD d=some ds) (hg:∀ a∈gs,a∈S):∃ a,v=.ref a /\
  (((∃ xs,H a=some (.lst xs)/\xs.length=ds.length)/\∀ H2,Ext gs H H2->ItD S (Itl K a) ds H2/\ItD S (Iel K a) (enumP ds) H2)\/((∃ xs,H a=some (.tup xs)/\xs.length=ds.length)/\∀ H2,Ext gs H H2->ItD S (Itt K a) ds H2/\ItD S (Ite K a) (enumP ds) H2)):=by
 cases d with
 | tuple es =>
  cases e
  obtain ⟨a,xs,rfl,ha,rs⟩:=r.of_tup
  exact ⟨a,rfl,.inr ⟨⟨xs,ha,rs.length⟩,fun H2 x=>⟨it_tup (x.tup _ _ ha) (rs.ext (x.mono hg)),it_enumT (x.tup _ _ ha) (rs.ext (x.mono hg))⟩⟩⟩
 | list es =>
  cases e
  have r0:=r
  obtain ⟨a,xs,rfl,ha,rs⟩:=r.of_lst
  refine ⟨a,rfl,.inl ⟨⟨xs,ha,rs.length⟩,fun H2 x=>?_⟩⟩
  obtain ⟨a',xs',e',ha',rs'⟩:=(r0.ext hg x).of_lst
  cases e'
  exact ⟨it_lst ha' rs',it_enumL ha' rs'⟩
 | _=>cases e
theorem j_seq (h:KL X M e u):KJ X M tg e (uJt u):=⟨_,(qi_seq h.run).sized,fun σ H R env pn S n Q ok hu k=>⟨env,pn,S,n,_,ok,hu,fun v H1 d n1 r1 x1 g1 sz q=>by
 obtain ⟨ds,e,q⟩:=q
 obtain ⟨a,rfl,h⟩:=r1.its (K:=X.K) e ok.gsS
 rcases h with ⟨⟨xs,ha,hl⟩,h⟩ | ⟨⟨xs,ha,hl⟩,h⟩
 ·exact ⟨a,rfl,.inl ⟨⟨xs,SqL.of ha⟩,fun sz=>k _ H1 ds n1 x1 g1 (fun H2 x2=>(h H2 x2).1) (by rw [<- hl]; exact sz a xs (.inl ha)) q⟩⟩
 ·exact ⟨a,rfl,.inr ⟨⟨xs,SqT.of ha⟩,fun sz=>k _ H1 ds n1 x1 g1 (fun H2 x2=>(h H2 x2).1) (by rw [<- hl]; exact sz a xs (.inr ha)) q⟩⟩⟩⟩
theorem j_enum (hm:X.mg "enumerate" = none) (h:KL X M a u) (hs:notStar a=true:=by rfl) (hg:Gl X "enumerate" := by rfl):KJ X M (.Tuple elts k tpos) (.Call (.Name "enumerate" p) [a] [] pos) (uJe u) :=
 ⟨_,(qi_enS hg hm (qa_c h.run qa_nil hs)).sized,fun σ H R env pn S n Q ok hu k=>⟨env,pn,S,n,_,ok,hu,fun v H1 d n1 r1 x1 g1 sz q=>by
  obtain ⟨ds,e,q⟩:=q
  obtain ⟨a,rfl,h⟩:=r1.its (K:=X.K) e ok.gsS
  rcases h with ⟨⟨xs,ha,hl⟩,h⟩ | ⟨⟨xs,ha,hl⟩,h⟩
  ·exact ⟨a,rfl,.inl ⟨⟨xs,SqL.of ha⟩,fun sz=>k _ H1 _ n1 x1 g1 (fun H2 x2=>(h H2 x2).2) (by rw [enumP_len,<- hl]; exact sz a xs (.inl ha)) q⟩⟩
  ·exact ⟨a,rfl,.inr ⟨⟨xs,SqT.of ha⟩,fun sz=>k _ H1 _ n1 x1 g1 (fun H2 x2=>(h H2 x2).2) (by rw [enumP_len,<- hl]; exact sz a xs (.inr ha)) q⟩⟩⟩⟩
theorem rngD_len (lo:Int) (n:Nat):(rngD lo n).length=n:=by simp [rngD]
theorem j_range (hm:X.mg "range" = none) (h:KE X M a u) (hs:notStar a=true:=by rfl) (hg:Gl X "range" := by rfl):KJ X M tg (.Call (.Name "range" p) [a] [] pos) (uJr u) :=
 ⟨_,qi_range1 hg hm (qa_c h.run qa_nil hs),fun σ H R env pn S n Q ok hu k=>⟨env,pn,S,n,_,ok,hu,fun v H1 d n1 r1 x1 g1 sz q=>by
  cases d with
  | int j =>
   have hsz:sizeLine=16777216:=by decide
   exact ⟨j,by rw [r1.of_int],q.1.1,by have:=q.1.2; omega,k _ H1 _ n1 x1 g1 (fun H2 _=>it_rng) (by rw [rngD_len,hsz]; have:=q.1.2; omega) q.2⟩
  | _=>exact False.elim q⟩⟩
theorem pin_its {K:W.Frag} {d:PyData} {v:V} {ds:List PyData} (e:seqD d=some ds) {S:List Addr} {H:Hp} (r:Rep S H d v):∃ a,v=.ref a /\
  (((∃ xs,H a=some (.lst xs))/\∀ S2 H2,(∀ q∈[(d,v)],Rep S2 H2 q.1 q.2)->ItD S2 (Itl K a) ds H2/\ItD S2 (Iel K a) (enumP ds) H2)\/((∃ xs,H a=some (.tup xs))/\∀ S2 H2,(∀ q∈[(d,v)],Rep S2 H2 q.1 q.2)->ItD S2 (Itt K a) ds H2/\ItD S2 (Ite K a) (enumP ds) H2)):=by
 cases d with
 | tuple es =>
  cases e
  obtain ⟨a,xs,rfl,ha,rs⟩:=r.of_tup
  refine ⟨a,rfl,.inr ⟨⟨xs,ha⟩,fun S2 H2 h=>?_⟩⟩
  obtain ⟨a',xs',e',ha',rs'⟩:=(h _ (List.mem_singleton.mpr rfl)).of_tup
  cases e'
  exact ⟨it_tup ha' rs',it_enumT ha' rs'⟩
 | list es =>
  cases e
  obtain ⟨a,xs,rfl,ha,_,rs⟩:=r.of_lst
  refine ⟨a,rfl,.inl ⟨⟨xs,ha⟩,fun S2 H2 h=>?_⟩⟩
  obtain ⟨a',xs',e',ha',_,rs'⟩:=(h _ (List.mem_singleton.mpr rfl)).of_lst
  cases e'
  exact ⟨it_lst ha' rs',it_enumL ha' rs'⟩
 | _=>cases e
theorem i_seq (h:KE X M e u):KI X M tg e (uIt u):=⟨_,qi_seq h.run,fun σ H R env pn S n Q ok hu k=>⟨env,pn,S,n,_,ok,hu,fun v H1 d n1 r1 x1 g1 sz q=>by
 obtain ⟨ds,e,q⟩:=q
 have ok1:=(ok.step x1 g1).pin1 r1
 obtain ⟨a,rfl,h⟩:=pin_its (K:=X.K) e r1
 rcases h with ⟨⟨xs,ha⟩,h⟩ | ⟨⟨xs,ha⟩,h⟩
 ·exact ⟨a,rfl,.inl ⟨⟨xs,SqL.of ha⟩,k _ H1 ds env S n1 [_] ok1 (fun S2 H2 hh=>(h S2 H2 hh).1) q⟩⟩
 ·exact ⟨a,rfl,.inr ⟨⟨xs,SqT.of ha⟩,k _ H1 ds env S n1 [_] ok1 (fun S2 H2 hh=>(h S2 H2 hh).1) q⟩⟩⟩⟩
theorem i_enum (hm:X.mg "enumerate" = none) (h:KE X M a u) (hs:notStar a=true:=by rfl) (hg:Gl X "enumerate" := by rfl):KI X M (.Tuple elts k tpos) (.Call (.Name "enumerate" p) [a] [] pos) (uIe u) :=
 ⟨_,qi_enS hg hm (qa_c h.run qa_nil hs),fun σ H R env pn S n Q ok hu k=>⟨env,pn,S,n,_,ok,hu,fun v H1 d n1 r1 x1 g1 sz q=>by
  obtain ⟨ds,e,q⟩:=q
  have ok1:=(ok.step x1 g1).pin1 r1
  obtain ⟨a,rfl,h⟩:=pin_its (K:=X.K) e r1
  rcases h with ⟨⟨xs,ha⟩,h⟩ | ⟨⟨xs,ha⟩,h⟩
  ·exact ⟨a,rfl,.inl ⟨⟨xs,SqL.of ha⟩,k _ H1 _ env S n1 [_] ok1 (fun S2 H2 hh=>(h S2 H2 hh).2) q⟩⟩
  ·exact ⟨a,rfl,.inr ⟨⟨xs,SqT.of ha⟩,k _ H1 _ env S n1 [_] ok1 (fun S2 H2 hh=>(h S2 H2 hh).2) q⟩⟩⟩⟩
theorem i_range (hm:X.mg "range" = none) (h:KE X M a u) (hs:notStar a=true:=by rfl) (hg:Gl X "range" := by rfl):KI X M tg (.Call (.Name "range" p) [a] [] pos) (uIr u) :=
 ⟨_,qi_range1 hg hm (qa_c h.run qa_nil hs),fun σ H R env pn S n Q ok hu k=>⟨env,pn,S,n,_,ok,hu,fun v H1 d n1 r1 x1 g1 sz q=>by
  cases d with
  | int j=>exact ⟨j,by rw [r1.of_int],q.1,q.2.1,k _ H1 _ env S n1 [] (ok.step x1 g1) (fun S2 H2 _=>it_rng) q.2.2⟩
  | _=>exact False.elim q⟩⟩
end
def uSeq (u w:US):US:=fun E env n=>u { E with nx:=w E } env n
def uCut (u w:US):US:=fun E env n=>∃ C:PEnv->Int->Prop,u { E with nx:=C } env n/\∀ env' n',C env' n'->w E env' n'
def uNext:US:=fun E env n=>E.nx env n
def uIfS (c:UT) (u w:US):US:=fun E env n=>c env n fun b n1=>if b=true then u E env n1 else w E env n1
def uRet (u:UX):US:=fun E env n=>u env n E.rt
def uRetO (i:Nat):US:=fun E env n=>match env[i]? with | some (some (.s d))=>E.rt d n | some (some (.o ds))=>E.rt (.list ds) n | _=>False
def uRetN:US:=fun E _ n=>E.rt .none n
def uSet (i:Nat) (u:UX):US:=fun E env n=>u env n fun d n1=>E.nx (env.set i (some (.s d))) n1
def uNew (i:Nat) (u:PEnv->Int->(List PyData->Int->Prop)->Prop):US:=fun E env n=>u env n fun ds n1=>E.nx (env.set i (some (.o ds))) n1
def uAsg (u:UX) (g:UG):US:=fun E env n=>u env n fun d n1=>g d env fun env'=>E.nx env' n1
def uDrop (u:UX):US:=fun E env n=>u env n fun _ n1=>E.nx env n1
section
variable {X:Cx} {M:Fr} {st:Stmt} {sts body els:List Stmt} {u w:US} {e c tg iter a b:Expr} {ue ua ub:UX} {uc:UT} {pos:Pos}
theorem KS.of {t:TS} (h:QS X st t) (k:∀ D σ H env pn S n E,EnvOk M env pn σ S H n->u E env n->(∀ env' σ' S' H' n',EnvOk M env' pn σ' S' H' n'->E.nx env' n'->D.nx σ' H')->(∀ v H' d n',Rep M.S0 H' d v->Ext M.gs M.H0 H'->M.G H' n'->E.rt d n'->D.rt v H')->t D σ H):KS X M st u :=
 ⟨h.weaken fun D σ H h=>ex5 h fun env pn S n E h=>k D σ H env pn S n E h.1 h.2.1 h.2.2.1 h.2.2.2⟩
theorem kss_nil:KSs X M [] uNext:=⟨qss_nil.weaken fun D σ H h=>ex5 h fun env pn S n E h=>h.2.2.1 _ _ _ _ _ h.1 h.2.1⟩
theorem kss_one (h:KS X M st u):KSs X M [st] u:=⟨qss_one h.run⟩
theorem kss_c (h:KS X M st u) (hr:KSs X M sts w):KSs X M (st::sts) (uSeq u w):=⟨(qss_cons h.run hr.run).weaken fun D σ H h=>ex5 h fun env pn S n E h =>
 ⟨env,pn,S,n,_,h.1,h.2.1,fun env' σ' S' H' n' ok' q=>⟨env',pn,S',n',E,ok',q,h.2.2.1,h.2.2.2⟩,h.2.2.2⟩⟩
theorem kss_x (h:KS X M st u) (hr:KSs X M sts w):KSs X M (st::sts) (uCut u w):=⟨(qss_cons h.run hr.run).weaken fun D σ H h=>ex5 h fun env pn S n E h=>Exists.elim h.2.1 fun C hC =>
 ⟨env,pn,S,n,_,h.1,hC.1,fun env' σ' S' H' n' ok' q=>⟨env',pn,S',n',E,ok',hC.2 _ _ q,h.2.2.1,h.2.2.2⟩,h.2.2.2⟩⟩
theorem s_if (hc:KB X M c uc) (ha:KSs X M body u) (hb:KSs X M els w):KS X M (.If c body els pos) (uIfS uc u w):=.of (qs_if hc.run ha.run hb.run) fun D σ H env pn S n E ok hu k1 k2 =>
 ⟨env,pn,S,n,_,ok,hu,fun b H1 n1 x1 g1 q=>by
  cases b with
  | true=>exact ⟨env,pn,S,n1,E,ok.step x1 g1,q,k1,k2⟩
  | false=>exact ⟨env,pn,S,n1,E,ok.step x1 g1,q,k1,k2⟩⟩
theorem s_ret (h:KE X M e ue):KS X M (.Return (some e) pos) (uRet ue):=.of (qs_ret h.run) fun D σ H env pn S n E ok hu k1 k2 =>
 ⟨env,pn,S,n,_,ok,hu,fun v H1 d n1 r1 x1 g1 _ q=>k2 v H1 d n1 (r1.less ok.s0) (ok.step x1 g1).ext g1 q⟩
theorem s_retO (i:Nat) {x:Str} {pos':Pos} (hN:X.N[i]? = some x:=by rfl) (hv:Vis X.env.scope x:=by first | exact Or.inl rfl | exact Or.inr (Or.inl rfl) | exact Or.inr (Or.inr rfl)) (hd:(x == ("__debug__" : Str))=false:=by decide)
  (hcd:(x == ("__classdict__" : Str))=false:=by decide):KS X M (.Return (some (.Name x pos')) pos) (uRetO i):=.of (qs_ret (qv i hN hv hd hcd)) fun D σ H env pn S n E ok hu k1 k2=>by
 unfold uRetO at hu
 split at hu
 ·rename_i d he
  obtain ⟨v,hv,r⟩:=ok.val i _ he
  exact ⟨v,hv,k2 v H d n (Rep.less ok.s0 r) ok.ext ok.gd hu⟩
 ·rename_i ds he
  obtain ⟨v,hv,a,xs,rfl,ha,r,hs,h0⟩:=ok.val i _ he
  exact ⟨_,hv,k2 _ H _ n (.lst ha (fun z=>M.has0 a z h0) (r.less ok.s0)) ok.ext ok.gd hu⟩
 ·exact hu.elim
theorem s_set {i:Nat} {x:Str} {pos':Pos} (hN:X.N.Nodup) (hx:Loc X.env.scope x) (h:KE X M e ue) (hi:X.N[i]? = some x:=by rfl) (hs:swapsWith e (some (.Name x pos')) pos.line X.env=pure false:=by rfl)
  (hf:X.fn x=true\/X.env.scope.names.lookup x=some .local:=by first | exact .inl rfl | exact .inr rfl | assumption) (hfd:i ∉ M.fd:=by decide):KS X M (.Assign [.Name x pos'] e pos) (uSet i ue):=.of (qs_set hN hi hx h.run hs hf) fun D σ H env pn S n E ok hu k1 k2 =>
 ⟨env,pn,S,n,_,ok,hu,fun v H1 d n1 r1 x1 g1 _ q=>k1 _ _ _ _ _ ((ok.step x1 g1).set r1 hfd) q⟩
theorem s_new {i:Nat} {x:Str} {pos':Pos} {un:PEnv->Int->(List PyData->Int->Prop)->Prop} (hN:X.N.Nodup) (hx:Loc X.env.scope x) (h:KN X M e un) (hi:X.N[i]? = some x:=by rfl) (hs:swapsWith e (some (.Name x pos')) pos.line X.env=pure false:=by rfl)
  (hf:X.fn x=true\/X.env.scope.names.lookup x=some .local:=by first | exact .inl rfl | exact .inr rfl | assumption) (hfd:i ∉ M.fd:=by decide):KS X M (.Assign [.Name x pos'] e pos) (uNew i un):=.of (qs_set hN hi hx h.run hs hf) fun D σ H env pn S n E ok hu k1 k2 =>
 ⟨env,pn,S,n,_,ok,hu,fun a xs H1 ds n1 h0 h1 r1 x1 g1 _ q=>k1 _ _ _ _ _ (ok.setN h0 h1 r1 x1 g1 hfd) q⟩
def uPar (i j:Nat) (ua:UA):US:=fun E env n=>ua env n fun ds n1=>match ds with | [d,e]=>E.nx ((env.set i (some (.s d))).set j (some (.s e))) n1 | _=>False
theorem s_par {i j:Nat} {x y:Str} {px py pt:Pos} {kt k2 pt2} {us:UA} (hc:X.calm=true) (hN:X.N.Nodup) (hij:i≠j)
  (ha:KA X M [a,b] us)
  (hi:X.N[i]? = some x:=by rfl) (hj:X.N[j]? = some y:=by rfl) (hx:X.env.scope.names.lookup x=some .local:=by rfl) (hy:X.env.scope.names.lookup y=some .local:=by rfl)
  (hw:swappedStores [.Tuple [.Name x px,.Name y py] kt pt] (.Tuple [a,b] k2 pt2) X.env=pure (some [x,y]):=by rfl)
  (hs:swapsWithSole [.Tuple [.Name x px,.Name y py] kt pt] (.Tuple [a,b] k2 pt2) pos.line X.env=pure false:=by rfl) (hfi:i ∉ M.fd:=by decide) (hfj:j ∉ M.fd:=by decide) :
  KS X M (.Assign [.Tuple [.Name x px,.Name y py] kt pt] (.Tuple [a,b] k2 pt2) pos) (uPar i j us):=.of (qs_par hc hN hi hj hij hx hy ha.run hw hs) fun D σ H env pn S n E ok hu k1 k2 =>
 ⟨env,pn,S,n,_,ok,hu,fun vs H1 ds n1 el r1 x1 g1 _ q=>by
  obtain ⟨d,e,rfl⟩:∃ d e,ds=[d,e]:=by
   split at q
   ·exact ⟨_,_,rfl⟩
   ·exact q.elim
  obtain ⟨v,t,rfl,ra,rb⟩:=r1.of_cons
  obtain ⟨w,t,rfl,rb2,rc⟩:=rb.of_cons
  cases rc.of_nil
  exact ⟨v,w,rfl,k1 _ _ _ _ _ (((ok.step x1 g1).set ra hfi).set rb2 hfj) q⟩⟩
def uLoop (ug:UG) (ub:US) (E:UEnds):List PyData->PEnv->Int->Prop
 | [],env,n=>E.nx env n
 | d::ds,env,n=>ug d env fun env'=>ub { nx:=uLoop ug ub E ds,rt:=E.rt } env' n
def uFor (ui:UI) (ug:UG) (ub:US):US:=fun E env n=>ui env n fun its env1 n1=>uLoop ug ub E its env1 n1
theorem s_for {ui:UI} {ug:UG} (hp:PassesOwn (model X.prog X.w) X.A X.env X.xe) (hc:X.calm=true) (hi:KI X M tg iter ui) (hg:KG X M tg ug) (hb:KSs X M body u) (hs:∀ x,foldedSetIterable iter X.env x=pure x:=by intro _; rfl):KS X M (.For tg iter body [] pos) (uFor ui ug u):=by
 obtain ⟨wi,qi,hwi⟩:=hi.ex
 refine .of (qs_for hp hc qi hg.run hb.run hs) fun D σ H env pn S n E ok hu k1 k2=>hwi σ H _ env pn S n _ ok hu fun J H1 its env1 S1 n1 p ok1 hJ q=>?_
 refine ⟨fun i m σ' H'=>m=its.length - i/\i<=its.length/\∃ env' S' n',EnvOk M env' (p++pn) σ' S' H' n'/\uLoop ug u E (its.drop i) env' n',⟨its.length,by simp,Nat.zero_le _,env1,S1,n1,ok1,q⟩,?_⟩
 rintro i m σ' H' ⟨rfl,hle,env',S',n',ok',q'⟩
 have it:=hJ S' H' fun r hr=>ok'.pin r (List.mem_append_left _ hr)
 by_cases hlt:i < its.length
 ·refine .inr ⟨it.go i hlt,fun σ2 H2=>∃ env2 S2 n2,EnvOk M env2 (p++pn) σ2 S2 H2 n2/\uLoop ug u E (its.drop (i + 1)) env2 n2,fun σ2 H2 h=>⟨its.length - (i + 1),by omega,rfl,hlt,h⟩,fun x H2 hy=>?_⟩
  obtain ⟨d,hd,x2,rd⟩:=it.yld i x H2 hlt hy
  have e:its.drop i=d::its.drop (i + 1):=by
   rw [List.drop_eq_getElem_cons hlt]
   congr
   exact (List.getElem?_eq_some_iff.mp hd).2
  rw [e] at q'
  have ok2:=ok'.step (x2.mono (by simp)) (M.gext ok'.gd x2 (by simp))
  exact ⟨env',p++pn,S',n',d,_,ok2,rd,q',fun env3 σ3 ok3 q3=>⟨env3,p++pn,S',n',_,ok3,q3,fun env4 σ4 S4 H4 n4 ok4 q4=>⟨env4,S4,n4,ok4,q4⟩,k2⟩⟩
 ·refine .inl ⟨it.stop i (by omega),?_⟩
  rw [List.drop_of_length_le (by omega)] at q'
  exact k1 _ _ _ _ _ (ok'.pins fun r hr=>List.mem_append_right _ hr) q'
end
def seedP (mp:List (Option Nat)) (env:PEnv):PEnv:=mp.map fun o=>match o with | none=>none | some i=>(env[i]?).join
def Fr.sub (M:Fr) (fd:List Nat):Fr:={ M with fd:=fd }
def uCompGo (ug:UG) (uc:UT) (ue:UX) (Q:List PyData->Int->Prop):List PyData->List PyData->PEnv->Int->Prop
 | [],acc,_,n=>Q acc n
 | d::ds,acc,env,n=>ug d env fun env'=>uc env' n fun b n1=>if b=true then ue env' n1 fun y n2=>uCompGo ug uc ue Q ds (acc++[y]) env' n2 else uCompGo ug uc ue Q ds acc env' n1
def uComp (ui:UJ) (mp:List (Option Nat)) (ug:UG) (uc:UT) (ue:UX):PEnv->Int->(List PyData->Int->Prop)->Prop:=fun env n Q=>ui env n fun its n1=>uCompGo ug uc ue Q its [] (seedP mp env) n1
def uYes:UT:=fun _ n Q=>Q true n
structure KK (X:Cx) (M:Fr) (ifs:List Expr) (u:UT):Prop where run:QK X ifs (liftT M u)
section
variable {X:Cx} {M:Fr} {env:PEnv} {pn:List (PyData × V)} {σ:St} {S:List Addr} {H:Hp} {n:Int} {mp:List (Option Nat)} {fd:List Nat}
theorem EnvOk.seed (ok:EnvOk M env pn σ S H n) (hfd:∀ j∈fd,∃ i∈M.fd,mp[j]? = some (some i)) (hmp:(mp.filterMap id).Nodup):EnvOk (M.sub fd) (seedP mp env) pn (seed mp σ) S H n:=by
 have at':∀ (j:Nat) (e:Ent),(seedP mp env)[j]? = some (some e)->∃ i,mp[j]? = some (some i)/\env[i]? = some (some e):=fun j e he=>by
  unfold seedP at he
  rw [List.getElem?_map] at he
  cases hm:mp[j]? with
  | none=>rw [hm] at he; cases he
  | some o =>
   rw [hm] at he
   cases o with
   | none=>cases he
   | some i =>
    refine ⟨i,rfl,?_⟩
    have he':(env[i]?).join=some e:=Option.some.inj he
    cases hv:env[i]? with
    | none=>rw [hv] at he'; cases he'
    | some z=>rw [hv] at he'; exact congrArg some (show z=some e from he')
 have sat:∀ (j i:Nat) (v:V),mp[j]? = some (some i)->σ[i]? = some (some v)->(L2.seed mp σ)[j]? = some (some v):=fun j i v h1 h2=>by
  unfold L2.seed
  rw [List.getElem?_map,h1]
  simp [h2]
 have inv:∀ (j i:Nat) (v:V),mp[j]? = some (some i)->(L2.seed mp σ)[j]? = some (some v)->σ[i]? = some (some v):=fun j i v h1 h2=>by
  unfold L2.seed at h2
  rw [List.getElem?_map,h1] at h2
  have he':(σ[i]?).join=some v:=Option.some.inj h2
  cases hv:σ[i]? with
  | none=>rw [hv] at he'; cases he'
  | some z=>rw [hv] at he'; exact congrArg some (show z=some v from he')
 refine ⟨fun j e he=>?_,fun j k ds es a h1 h2 h3 h4=>?_,by simp [seedP,L2.seed],fun j hj=>?_,ok.gd,ok.ext,ok.s0,ok.sn,ok.has,ok.pin⟩
 ·obtain ⟨i,hm,hv⟩:=at' j e he
  obtain ⟨v,hv',r⟩:=ok.val i e hv
  exact ⟨v,sat j i v hm hv',r⟩
 ·obtain ⟨i,hm,hv⟩:=at' j _ h1
  obtain ⟨i2,hm2,hv2⟩:=at' k _ h2
  have e:=ok.ne i i2 _ _ a hv hv2 (inv _ _ _ hm h3) (inv _ _ _ hm2 h4)
  subst e
  have hj:j < mp.length:=(List.getElem?_eq_some_iff.mp hm).1
  have hk:k < mp.length:=(List.getElem?_eq_some_iff.mp hm2).1
  clear h1 h2 h3 h4 at' sat inv hfd
  induction mp generalizing j k with
  | nil=>cases hm
  | cons o mp ih =>
   have nd:∀ {i:Nat},i∈mp.filterMap id->o≠some i:=fun {i} hi z=>by
    subst z
    simp only [List.filterMap_cons,id] at hmp
    exact (List.nodup_cons.mp hmp).1 hi
   have hmp':(mp.filterMap id).Nodup:=by
    cases o with
    | none=>simpa using hmp
    | some z=>simp only [List.filterMap_cons,id] at hmp; exact (List.nodup_cons.mp hmp).2
   have mem:∀ {k:Nat},mp[k]? = some (some i)->i∈mp.filterMap id:=fun {k} hk=>List.mem_filterMap.mpr ⟨some i,List.mem_of_getElem? hk,rfl⟩
   cases j with
   | zero=>cases k with
    | zero=>rfl
    | succ k =>
     have h1:o=some i:=by simpa using hm
     have h2:mp[k]? = some (some i):=by simpa using hm2
     exact absurd h1 (nd (mem h2))
   | succ j=>cases k with
    | zero =>
     have h1:o=some i:=by simpa using hm2
     have h2:mp[j]? = some (some i):=by simpa using hm
     exact absurd h1 (nd (mem h2))
    | succ k=>rw [ih hmp' j k (by simpa using hm) (by simpa using hm2) (by simpa using hj) (by simpa using hk)]
 ·obtain ⟨i,hi,hm⟩:=hfd j hj
  exact sat j i _ hm (ok.fdv i hi)
variable {elt tg iter c:Expr} {ifs:List Expr} {sc:Scope} {pos:Pos} {N:List Str} {ui:UJ} {ug:UG} {uc:UT} {ue:UX}
theorem kk_nil:KK X M [] uYes:=⟨⟨fun pins s σ H Q I h=>ex5 h fun env pn S n R h=>qk_nil.run pins s σ H Q I (h.2.2 true H n (.refl _ _) h.1.gd h.2.1)⟩⟩
theorem kk_one (h:KB X M c uc):KK X M [c] uc:=⟨qk_one h.run⟩
theorem comp_go {wi:TI} (hwi:∀ σ H R env pn S n Q,EnvOk M env pn σ S H n->ui env n Q ->
  (∀ J H' its n',Ext M.gs H H'->M.G H' n'->(∀ H2,Ext M.gs H' H2->ItD S J its H2)->its.length<=sizeLine->Q its n'->R J H')->wi σ H R)
  (hfd:∀ j∈fd,∃ i∈M.fd,mp[j]? = some (some i)) (hmp:(mp.filterMap id).Nodup) {Q:List PyData->Int->Prop} {R:List V->Hp->Prop} (ok:EnvOk M env pn σ S H n) (hu:uComp ui mp ug uc ue env n Q)
  (k:∀ ys H' ds n',Reps S H' ds ys->Ext M.gs H H'->M.G H' n'->Q ds n'->R ys H'):tComp wi mp (liftG (M.sub fd) ug) (liftT (M.sub fd) uc) (lift (M.sub fd) ue) σ H R:=by
 refine hwi σ H _ env pn S n _ ok hu fun J H1 its n1 x1 g1 hJ hl q=>?_
 have ok1:=ok.step x1 g1
 refine ⟨fun i m ys σ' H'=>m=its.length - i/\i<=its.length/\∃ env' n' acc,EnvOk (M.sub fd) env' pn σ' S H' n'/\Reps S H' acc ys/\acc.length<=i/\Ext M.gs H1 H'/\uCompGo ug uc ue Q (its.drop i) acc env' n',
  ⟨its.length,by simp,Nat.zero_le _,_,n1,[],ok1.seed hfd hmp,.nil,Nat.le_refl _,.refl _ _,q⟩,?_⟩
 rintro i m ys σ' H' ⟨rfl,hle,env',n',acc,ok',ra,ha,x',q'⟩
 have it:=hJ H' x'
 by_cases hlt:i < its.length
 ·refine .inr ⟨it.go i hlt,by rw [ra.length]; omega,fun x H2 hy=>?_⟩
  obtain ⟨d,hd,x2,rd⟩:=it.yld i x H2 hlt hy
  have e:its.drop i=d::its.drop (i + 1):=by
   rw [List.drop_eq_getElem_cons hlt]
   congr
   exact (List.getElem?_eq_some_iff.mp hd).2
  rw [e] at q'
  have ok2:EnvOk (M.sub fd) env' pn σ' S H2 n':=ok'.step (x2.mono (by simp)) (M.gext ok'.gd x2 (by simp))
  refine ⟨env',pn,S,n',d,_,ok2,rd,q',fun env3 σ3 ok3 q3=>⟨env3,pn,S,n',_,ok3,q3,fun b H4 n4 x4 g4 q4=>?_⟩⟩
  have x24:Ext M.gs H' H4:=(x2.mono (by simp)).trans x4
  cases b with
  | true=>exact ⟨env3,pn,S,n4,_,ok3.step x4 g4,q4,fun y H5 dy n5 r5 x5 g5 _ q5=>⟨its.length - (i + 1),by omega,rfl,hlt,env3,n5,acc++[dy],(ok3.step x4 g4).step x5 g5,(ra.ext ((x24.trans x5).mono ok.gsS)).append (.cons r5 .nil),by simp; omega,x'.trans (x24.trans x5),q5⟩⟩
  | false=>exact ⟨its.length - (i + 1),by omega,rfl,hlt,env3,n4,acc,ok3.step x4 g4,ra.ext (x24.mono ok.gsS),by omega,x'.trans x24,q4⟩
 ·refine .inl ⟨it.stop i (by omega),by rw [ra.length]; omega,?_⟩
  rw [List.drop_of_length_le (by omega)] at q'
  exact k ys H' acc n' ra (x1.trans x') ok'.gd q'
theorem n_comp (fd:List Nat) (hc:X.calm=true) (hi:KJ X M tg iter ui) (hk:sc.kind=.function) (hm:compOk X.N X.env.scope sc N mp=true)
  (hb:∀ (cl:List (Str × Addr)) (C:Addr) (s₂:Shared) (H₂:Hp) (fp:List Addr),KG (cxComp X sc N cl C s₂ H₂ fp) (M.sub fd) tg ug/\KK (cxComp X sc N cl C s₂ H₂ fp) (M.sub fd) ifs uc/\KE (cxComp X sc N cl C s₂ H₂ fp) (M.sub fd) elt ue)
  (hfd:∀ j∈fd,∃ i∈M.fd,mp[j]? = some (some i):=by decide) (hmp:(mp.filterMap id).Nodup:=by decide) (hs:∀ x,foldedSetIterable iter X.env x=pure x:=by intro _; rfl):KN X M (.ListComp elt [⟨tg,iter,ifs,0⟩] sc pos) (uComp ui mp ug uc ue):=by
 obtain ⟨wi,qi,hwi⟩:=hi.ex
 refine .of (qe_comp hc qi hk hm (fun cl C s₂ H₂ fp=>⟨(hb cl C s₂ H₂ fp).1.run,(hb cl C s₂ H₂ fp).2.1.run,(hb cl C s₂ H₂ fp).2.2.run⟩) hs) fun σ H R env pn S n Q ok hu k=>?_
 refine comp_go hwi hfd hmp ok hu fun ys H' ds n' r x g q D hD=>?_
 have ok':=ok.step x g
 have hD0:H D=none:=by
  by_cases z:D∈M.gs
  ·exact absurd hD (M.ghas g D z)
  ·exact x.fresh z hD
 exact k D ys _ ds n' hD0 upd_same ((r.fresh hD).ext (.new hD)) (x.trans (.new hD)) (M.gext g (.new (S:=[]) hD) (by simp)) q
theorem s_comp {i:Nat} {x:Str} {py spos:Pos} (own:Bool) (fd:List Nat) (hN:X.N.Nodup) (hc:X.calm=true) (hi:KJ X M tg iter ui) (hk:sc.kind=.function) (hm:compOk X.N X.env.scope sc N mp=true)
  (hb:∀ (cl:List (Str × Addr)) (C:Addr) (s₂:Shared) (H₂:Hp) (fp:List Addr),KG (cxComp X sc N cl C s₂ H₂ fp) (M.sub fd) tg ug/\KK (cxComp X sc N cl C s₂ H₂ fp) (M.sub fd) ifs uc/\KE (cxComp X sc N cl C s₂ H₂ fp) (M.sub fd) elt ue)
  (hix:X.N[i]? = some x:=by rfl) (hx:X.env.scope.names.lookup x=some .local:=by rfl)
  (hfd:∀ j∈fd,∃ i∈M.fd,mp[j]? = some (some i):=by decide) (hmp:(mp.filterMap id).Nodup:=by decide) (hfi:i ∉ M.fd:=by decide)
  (hsw:swapsWith (.ListComp elt [⟨tg,iter,ifs,0⟩] sc pos) (some (.Name x py)) spos.line X.env=pure true:=by rfl) (hs:∀ x,foldedSetIterable iter X.env x=pure x:=by intro _; rfl) :
  KS X M (.Assign [.Name x py] (.ListComp elt [⟨tg,iter,ifs,0⟩] sc pos) spos) (if own then uNew i (uComp ui mp ug uc ue) else uSet i (uL (uComp ui mp ug uc ue))):=by
 obtain ⟨wi,qi,hwi⟩:=hi.ex
 have q:=qs_comp (i:=i) (py:=py) (spos:=spos) (pos:=pos) hN hix hx hc qi hk hm (fun cl C s₂ H₂ fp=>⟨(hb cl C s₂ H₂ fp).1.run,(hb cl C s₂ H₂ fp).2.1.run,(hb cl C s₂ H₂ fp).2.2.run⟩) hsw hs
 cases own with
 | true =>
  refine .of q fun D σ H env pn S n E ok hu k1 k2=>comp_go hwi hfd hmp ok hu fun ys H' ds n' r x g q D hD=>?_
  have hD0:H D=none:=by
   by_cases z:D∈M.gs
   ·exact absurd hD (M.ghas g D z)
   ·exact x.fresh z hD
  exact k1 _ _ _ _ _ (ok.setN hD0 upd_same ((r.fresh hD).ext (.new hD)) (x.trans (.new hD)) (M.gext g (.new (S:=[]) hD) (by simp)) hfi) q
 | false =>
  refine .of q fun D σ H env pn S n E ok hu k1 k2=>comp_go hwi hfd hmp ok hu fun ys H' ds n' r x g q D hD=>?_
  have ok':=ok.step x g
  exact k1 _ _ _ _ _ ((ok'.step (.new hD) (M.gext g (.new (S:=[]) hD) (by simp))).set (new_lst ok'.has hD r) hfi) q
end
def uMeth (i:Nat) (f:List PyData->List PyData->Option (List PyData)) (ua:UA):US:=fun E env n=>match env[i]? with | some (some (.o ds))=>ua env n fun as n1=>bnd (f ds as) fun ds'=>E.nx (env.set i (some (.o ds'))) n1 | _=>False
def appendD (ds as:List PyData):Option (List PyData):=match as with | [d]=>if ds.length < sizeLine then some (ds++[d]) else none | _=>none
structure MtD (X:Cx) (id:String) (f:List PyData->List PyData->Option (List PyData)):Prop where
 ex:∃ r,MtR X id r/\∀ S H a xs ds as vs ds' (R:VK),H a=some (.lst xs)->Reps S H ds xs->Reps S H as vs->f ds as=some ds'->(∀ ys v,Reps S H ds' ys->R v (upd H a (.lst ys)))->r (.ref a) vs H R
section
variable {X:Cx} {M:Fr} {e o:Expr} {es:List Expr} {ua:UA} {pos apos cpos:Pos} {name:Str} {id:String} {f:List PyData->List PyData->Option (List PyData)}
theorem m_append:MtD X "list.append" appendD:=⟨_,mt_append,fun S H a xs ds as vs ds' R ha r ra e k=>by
 obtain ⟨d,rfl⟩:∃ d,as=[d]:=by
  unfold appendD at e
  split at e
  ·exact ⟨_,rfl⟩
  ·cases e
 simp only [appendD] at e
 split at e
 ·rename_i hl
  cases e
  obtain ⟨v,t,rfl,r1,r2⟩:=ra.of_cons
  cases r2.of_nil
  exact ⟨a,xs,v,rfl,rfl,ha,by rw [r.length]; exact hl,k _ _ (r.append (.cons r1 .nil))⟩
 ·cases e⟩
theorem s_meth (i:Nat) {x:Str} {p:Pos} (pa:PlainAttrs "list") (slot:Slot "list" name id) (hty:typeOf (.builtin id)=pure (.type "method_descriptor")) (hm:MtD X id f) (ha:KA X M (e::es) ua)
  (hN:X.N[i]? = some x:=by rfl) (hv:Vis X.env.scope x:=by first | exact Or.inl rfl | exact Or.inr (Or.inl rfl) | exact Or.inr (Or.inr rfl)) (hd:(x == ("__debug__" : Str))=false:=by decide) (hcd:(x == ("__classdict__" : Str))=false:=by decide)
  (hbase:attributeBase (.Name x p) name X.env (eval (.Name x p) X.env)=eval (.Name x p) X.env:=by rfl) (hl:decide ((e::es).length + 0 + 0 < 30)=true:=by rfl) (hline:(apos.endLine == cpos.line)=true:=by rfl)
  (hs:swapsWith (.Call (.Attribute (.Name x p) name apos) (e::es) [] cpos) none pos.line X.env=pure false:=by rfl):KS X M (.Expr (.Call (.Attribute (.Name x p) name apos) (e::es) [] cpos) pos) (uMeth i f ua):=by
 obtain ⟨r,h1,h2⟩:=hm.ex
 refine .of (qs_expr (qe_bmK X.K pa slot hty h1 (qv i hN hv hd hcd) ha.run rfl hbase hl hline) hs) fun D σ H env pn S n E ok hu k1 k2=>?_
 unfold uMeth at hu
 split at hu
 ·rename_i ds he
  obtain ⟨v,hv,a,xs,rfl,ha,ra,hs,h0⟩:=ok.val i _ he
  refine ⟨_,hv,.inl ⟨rfl,xs,SqL.of ha⟩,env,pn,S,n,_,ok,hu,fun vs H1 as n1 el r1 x1 g1 _ q=>?_⟩
  obtain ⟨ds',e',q⟩:=q
  have ok1:=ok.step x1 g1
  obtain ⟨v',hv',a',xs',e'',ha',ra',_,_⟩:=ok1.val i _ he
  subst e''
  rw [hv] at hv'
  cases hv'
  exact h2 S H1 a xs' ds as vs ds' _ ha' ra' r1 e' fun ys w ry=>k1 _ _ _ _ _ (ok1.put he hv ha' ry) q
 ·exact hu.elim
def uSetI (i:Nat) (ui ue:UX):US:=fun E env n=>match env[i]? with | some (some (.o ds))=>ue env n fun d n1=>ui env n1 fun k n2=>(match k with | .int k=>bnd (ixN ds.length k) fun j=>E.nx (env.set i (some (.o (ds.set j d)))) n2 | _=>False) | _=>False
def uAugI (i:Nat) (g:Int->Int->Int) (ui ue:UX):US:=fun E env n=>match env[i]? with | some (some (.o ds))=>ui env n fun k n1=>(match k with | .int k=>0<=k/\(match ds[k.toNat]? with | some (.int a)=>ue env n1 fun d n2=>(match d with | .int b=>E.nx (env.set i (some (.o (ds.set k.toNat (.int (g a b)))))) n2 | _=>False) | _=>False) | _=>False) | _=>False
def uAug (i:Nat) (g:Int->Int->Int) (ue:UX):US:=fun E env n=>match env[i]? with | some (some (.s (.int a)))=>ue env n fun d n1=>(match d with | .int b=>E.nx (env.set i (some (.s (.int (g a b))))) n1 | _=>False) | _=>False
theorem Reps.set {S:List Addr} {H:Hp} {d:PyData} {v:V} (h:Rep S H d v):∀ {ds:List PyData} {xs:List V} (j:Nat),Reps S H ds xs->Reps S H (ds.set j d) (xs.set j v)
 | [],_,j,r=>by cases r.of_nil; exact .nil
 | e::es,_,0,r=>by obtain ⟨x,t,rfl,r1,r2⟩:=r.of_cons; exact .cons h r2
 | e::es,_,j + 1,r=>by obtain ⟨x,t,rfl,r1,r2⟩:=r.of_cons; exact .cons r1 (Reps.set h j r2)
variable {ie:Expr} {ui ue:UX}
def uAppPop (i j:Nat) (ue:UX):US:=fun E env n=>match env[i]?,env[j]? with
 | some (some (.o ds)),some (some (.o es))=>ue env n fun d n1=>(match d with | .int k=>(0<=k/\k < es.length/\ds.length < sizeLine)/\(match es[k.toNat]? with | some y=>E.nx ((env.set j (some (.o (es.eraseIdx k.toNat)))).set i (some (.o (ds++[y])))) n1 | _=>False) | _=>False)
 | _,_=>False
theorem s_appPop (i j:Nat) {x y:Str} {p p2 apos2 cpos2:Pos} (hij:i≠j) (he:KE X M e ue) (hse:notStar e=true:=by rfl)
  (hN:X.N[i]? = some x:=by rfl) (hv:Vis X.env.scope x:=by first | exact Or.inl rfl | exact Or.inr (Or.inl rfl) | exact Or.inr (Or.inr rfl)) (hd:(x == ("__debug__" : Str))=false:=by decide) (hcd:(x == ("__classdict__" : Str))=false:=by decide)
  (hN2:X.N[j]? = some y:=by rfl) (hv2:Vis X.env.scope y:=by first | exact Or.inl rfl | exact Or.inr (Or.inl rfl) | exact Or.inr (Or.inr rfl)) (hd2:(y == ("__debug__" : Str))=false:=by decide) (hcd2:(y == ("__classdict__" : Str))=false:=by decide)
  (hbase:attributeBase (.Name x p) "append" X.env (eval (.Name x p) X.env)=eval (.Name x p) X.env:=by rfl) (hline:(apos.endLine == cpos.line)=true:=by rfl)
  (hbase2:attributeBase (.Name y p2) "pop" X.env (eval (.Name y p2) X.env)=eval (.Name y p2) X.env:=by rfl) (hline2:(apos2.endLine == cpos2.line)=true:=by rfl)
  (hs:swapsWith (.Call (.Attribute (.Name x p) "append" apos) [.Call (.Attribute (.Name y p2) "pop" apos2) [e] [] cpos2] [] cpos) none pos.line X.env=pure false:=by rfl) :
  KS X M (.Expr (.Call (.Attribute (.Name x p) "append" apos) [.Call (.Attribute (.Name y p2) "pop" apos2) [e] [] cpos2] [] cpos) pos) (uAppPop i j ue):=by
 have inner:=qe_bmK (name := "pop") (apos:=apos2) (cpos:=cpos2) X.K PySem.F.plainAttrs_list PySem.F.slot_list_pop PySem.F.type_list_pop mt_popAt (qv (X:=X) (pos:=p2) j hN2 hv2 hd2 hcd2) (qa_c he.run qa_nil hse) rfl hbase2 rfl hline2
 refine .of (qs_expr (qe_bmK X.K PySem.F.plainAttrs_list PySem.F.slot_list_append PySem.F.type_list_append mt_append (qv i hN hv hd hcd) (qa_c inner qa_nil rfl) rfl hbase rfl hline) hs) fun D σ H env pn S n E ok hu k1 k2=>?_
 unfold uAppPop at hu
 split at hu
 ·rename_i ds es hen1 hen2
  obtain ⟨v1,hv1,a,xs,rfl,ha,ra,hs1,h01⟩:=ok.val i _ hen1
  obtain ⟨v2,hv2,b,ys,rfl,hb,rb,hs2,h02⟩:=ok.val j _ hen2
  refine ⟨_,hv1,.inl ⟨rfl,xs,SqL.of ha⟩,_,hv2,.inl ⟨rfl,ys,SqL.of hb⟩,env,pn,S,n,_,ok,hu,fun w H1 d n1 r1 x1 g1 sz q=>?_⟩
  have ok1:=ok.step x1 g1
  cases d with
  | int k =>
   obtain ⟨⟨q0,q1,q2⟩,q⟩:=q
   obtain ⟨v1',hv1',a',xs',e1,ha',ra',_,_⟩:=ok1.val i _ hen1
   obtain ⟨v2',hv2',b',ys',e2,hb',rb',_,_⟩:=ok1.val j _ hen2
   subst e1 e2
   rw [hv1] at hv1'
   cases hv1'
   rw [hv2] at hv2'
   cases hv2'
   cases hy:es[k.toNat]? with
   | none=>rw [hy] at q; exact q.elim
   | some y' =>
    rw [hy] at q
    obtain ⟨yv,hyv,ryv⟩:=rb'.at hy
    have hyl:=rb'.length
    have hys:=sz b ys' (.inl hb')
    have hn:=line63
    have hsz:=(by decide:sizeLine=16777216)
    have ok2:=ok1.put hen2 hv2 hb' (rb'.eraseIdx k.toNat)
    have hab:a≠b:=fun z=>hij (ok.ne i j _ _ a hen1 hen2 hv1 (z ▸ hv2))
    have x2:Ext S H1 (upd H1 b (.lst (ys'.eraseIdx k.toNat))):=(Ext.set (S:=[b]) (by simp) hb').mono (by simpa using hs2)
    have ha2:(upd H1 b (.lst (ys'.eraseIdx k.toNat))) a=some (.lst xs'):=by rw [upd_ne hab]; exact ha'
    have hen1':(env.set j (some (.o (es.eraseIdx k.toNat))))[i]? = some (some (.o ds)):=by rw [List.getElem?_set_ne hij.symm]; exact hen1
    cases r1.of_int
    exact ⟨b,ys',k,k.toNat,yv,rfl,rfl,hb',by omega,by omega,seqIndex_of q0 (by omega),hyv,a,xs',yv,rfl,rfl,ha2,by rw [ra'.length]; exact q2,k1 _ _ _ _ _ (ok2.put hen1' hv1 ha2 ((ra'.ext x2).append (.cons (ryv.ext x2) .nil))) q⟩
  | _=>exact False.elim q
 ·exact hu.elim
end
abbrev XQ:=Str->List PyData->Prop
abbrev UF:=List PyData->Int->(PyData->Int->Prop)->XQ->Prop
def noX:XQ:=fun _ _=>False
def Rz (C:Xc) (S gs:List Addr) (H:Hp) (E:XK) (c:Str) (as:List PyData):Prop:=∀ (dx:Addr) (H':Hp) (vs:List V),Reps S H' as vs->H' dx=some (.ext (xdict dx ((C.fl c).zip vs)))->Ext gs H H'->E (.ref (C.cl c)) (some dx) H'
def spU (C:Xc) (F:UF):Sp:=fun vs H Q E=>∃ S ds n Qp Xp,Reps S H ds vs/\(∀ a∈S,H a≠none)/\F ds n Qp Xp/\(∀ d v H',Rep S H' d v->Ext [] H H'->Qp d n->Q v H')/\∀ c as,Xp c as->Rz C S [] H E c as
structure Fam where
 Feed:Hp->Addr->Addr->Int->Prop
 ext:∀ {S:List Addr} {H H':Hp} {fa sa:Addr} {n:Int},Feed H fa sa n->Ext S H H'->fa ∉ S->sa ∉ S->Feed H' fa sa n
 fa:∀ {H:Hp} {fa sa:Addr} {n:Int},Feed H fa sa n->H fa≠none
 sa:∀ {H:Hp} {fa sa:Addr} {n:Int},Feed H fa sa n->H sa≠none
 nx:∀ {H:Hp} {fa sa:Addr} {n:Int},Feed H fa sa n->∀ φ,H fa≠some (.ext φ)
def spUF (Y:Fam) (F:UF):Sp:=fun vs H Q E=>∃ fa sa us S ds n Qp,vs=.ref fa::us/\Y.Feed H fa sa n/\fa∈S/\Reps S H ds us/\(∀ a∈S,H a≠none)/\F ds n Qp noX/\(∀ d n' v H',Rep S H' d v->Y.Feed H' fa sa n'->Ext [fa] H H'->Qp d n'->Q v H')
def Fr.pure (C:Xc) (n0:Int) (S:List Addr) (H:Hp) (has:∀ a∈S,H a≠none):Fr where
 G:=fun _ n=>n=n0
 gs:=[]
 S0:=S
 H0:=H
 fa:=.non
 fd:=[]
 xc:=C
 gext:=fun h _ _=>h
 ghas:=fun _ a h=>by cases h
 gnx:=fun _ a h=>by cases h
 gs0:=fun a h=>by cases h
 has0:=has
def Fr.feed (C:Xc) (Y:Fam) (i:Nat) (fa sa:Addr) (n0:Int) (S:List Addr) (H:Hp) (hf:Y.Feed H fa sa n0) (hS:fa∈S) (has:∀ a∈S,H a≠none):Fr where
 G:=fun H n=>Y.Feed H fa sa n
 gs:=[fa]
 S0:=S
 H0:=H
 fa:=.ref fa
 fd:=[i]
 xc:=C
 gext:=fun h x k=>Y.ext h x (fun z=>Y.fa hf (k _ z)) (fun z=>Y.sa hf (k _ z))
 ghas:=fun h a ha=>by have e:=List.mem_singleton.mp ha; subst e; exact Y.fa h
 gnx:=fun h a ha=>by have e:=List.mem_singleton.mp ha; subst e; exact Y.nx h
 gs0:=fun a ha=>by have e:=List.mem_singleton.mp ha; subst e; exact hS
 has0:=has
def envOf (N:Nat) (ds:List PyData):PEnv:=ds.map (fun d=>some (.s d))++List.replicate (N - ds.length) none
def mkF (N np:Nat) (u:XQ->US):UF:=fun ds n Q Ex=>ds.length=np/\u Ex { nx:=fun _ n'=>Q .none n',rt:=Q } (envOf N ds) n
def mkFF (N np:Nat) (u:XQ->US):UF:=fun ds n Q Ex=>ds.length + 1=np/\u Ex { nx:=fun _ n'=>Q .none n',rt:=Q } (none::envOf (N - 1) ds) n
theorem env_start {M:Fr} {S:List Addr} {H:Hp} {ds:List PyData} {vs:List V} {n:Int} {N:List Str} (h0:M.H0=H) (hS:M.S0=S) (r:Reps S H ds vs) (hfd:M.fd=[]) (g:M.G H n):EnvOk M (envOf N.length ds) [] (start N vs) S H n:=by
 subst h0 hS
 have hl:=r.length
 have key:∀ (i:Nat) (e:Ent),(envOf N.length ds)[i]? = some (some e)->∃ d,ds[i]? = some d/\e=.s d:=fun i e h=>by
  unfold envOf at h
  by_cases hi:i < ds.length
  ·rw [List.getElem?_append_left (by simpa using hi),List.getElem?_map] at h
   cases hd:ds[i]? with
   | none=>rw [hd] at h; cases h
   | some d=>rw [hd] at h; exact ⟨d,rfl,(Option.some.inj (Option.some.inj h)).symm⟩
  ·rw [List.getElem?_append_right (by simp; omega),List.getElem?_replicate] at h
   split at h <;> cases h
 refine ⟨fun i e h=>?_,fun i j a b c h1=>?_,?_,(by rw [hfd]; intro i hi; cases hi),g,.refl _ _,fun a h=>h,fun a h=>.inl h,M.has0,fun p hp=>by cases hp⟩
 ·obtain ⟨d,hd,rfl⟩:=key i e h
  obtain ⟨v,hv,rv⟩:=r.at hd
  refine ⟨v,?_,rv⟩
  unfold start
  rw [List.getElem?_append_left (by rw [List.length_map]; exact (List.getElem?_eq_some_iff.mp hv).1),List.getElem?_map,hv]
  rfl
 ·obtain ⟨d,_,e⟩:=key _ _ h1
  cases e
 ·unfold envOf start
  simp [hl]
theorem env_startF {M:Fr} {S:List Addr} {H:Hp} {ds:List PyData} {vs:List V} {n:Int} {N:List Str} {fa:Addr} (h0:M.H0=H) (hS:M.S0=S) (r:Reps S H ds vs) (hfd:M.fd=[0]) (hfa:M.fa=.ref fa) (hN:1<=N.length) (g:M.G H n):EnvOk M (none::envOf (N.length - 1) ds) [] (start N (.ref fa::vs)) S H n:=by
 subst h0 hS
 have hl:=r.length
 have key:∀ (i:Nat) (e:Ent),(none::envOf (N.length - 1) ds)[i]? = some (some e)->∃ j d,i=j + 1/\ds[j]? = some d/\e=.s d:=fun i e h=>by
  cases i with
  | zero=>cases h
  | succ i =>
   rw [List.getElem?_cons_succ] at h
   unfold envOf at h
   by_cases hi:i < ds.length
   ·rw [List.getElem?_append_left (by simpa using hi),List.getElem?_map] at h
    cases hd:ds[i]? with
    | none=>rw [hd] at h; cases h
    | some d=>rw [hd] at h; exact ⟨i,d,rfl,hd,(Option.some.inj (Option.some.inj h)).symm⟩
   ·rw [List.getElem?_append_right (by simp; omega),List.getElem?_replicate] at h
    split at h <;> cases h
 refine ⟨fun i e h=>?_,fun i j a b c h1=>?_,?_,?_,g,.refl _ _,fun a h=>h,fun a h=>.inl h,M.has0,fun p hp=>by cases hp⟩
 ·obtain ⟨j,d,rfl,hd,rfl⟩:=key i e h
  obtain ⟨v,hv,rv⟩:=r.at hd
  refine ⟨v,?_,rv⟩
  unfold start
  have hjl:j < vs.length:=(List.getElem?_eq_some_iff.mp hv).1
  rw [List.getElem?_append_left (by rw [List.length_map,List.length_cons]; omega),List.map_cons,List.getElem?_cons_succ,List.getElem?_map,hv]
  rfl
 ·obtain ⟨j,d,_,_,e⟩:=key _ _ h1
  cases e
 ·unfold envOf start
  simp [hl]
  omega
 ·rw [hfd,hfa]
  intro i hi
  have e:=List.mem_singleton.mp hi
  subst e
  unfold start
  simp
section
variable {P:Program} {w:World} {K:W.Frag} {mg:Str->Option Value} {base:Heap} {f:Addr} {fd:FuncData} {x:Str} {qual:Str} {st:Stmt} {N ps:List Str} {k:Nat} {C:Xc} {u:XQ->US} {Y:Fam}
theorem defU (F:Fun K x qual st f fd) (hm:mg x=some (.ref f)) (sc:FnScope N ps (defScope st)) (hb:Binds K fd ps [])
  (body:∀ (cdv:Value) (A:Around) (outer:List Env) (s:Shared) (H:Hp) (E:XK) (n0:Int) (S:List Addr) (has:∀ a∈S,H a≠none),Room k (A.deeper (envOfC qual (defScope st) s.heap.objs.size f cdv))->KSs (cxOf CX0 P w K mg base N qual (defScope st) f cdv A outer s H E).nox (Fr.pure C n0 S H has) (defBody st) (u noX)) :
  DefOk P w K mg base (k + 1) x ps (spU C (mkF N.length ps.length fun _=>u noX)):=by
 refine ⟨f,fd,F.okQ sc (fun vs H Q E h=>?_) (fun cdv A outer s H vs Q E hr h=>?_),hm,F.kp,hb⟩
 ·obtain ⟨S,ds,n,Qp,Xp,r,_,hF,_⟩:=h
  rw [r.length]
  exact hF.1
 ·obtain ⟨S,ds,n,Qp,Xp,r,has,hF,hq,hx⟩:=h
  refine ⟨_,(body cdv A outer s H E n S has hr).run,envOf N.length ds,[],S,n,_,env_start rfl rfl r rfl rfl,hF.2,fun env' σ' S' H' n' ok q=>?_,fun v H' d n' rv x g q=>?_⟩
  ·have e:n'=n:=ok.gd
   subst e
   exact hq _ _ H' .non ok.ext q
  ·have e:n'=n:=g
   subst e
   exact hq d v H' rv x q
theorem defX (F:Fun K x qual st f fd) (hm:mg x=some (.ref f)) (sc:FnScope N ps (defScope st)) (hb:Binds K fd ps [])
  (body:∀ (cdv:Value) (A:Around) (outer:List Env) (s:Shared) (H:Hp) (E:XK) (n0:Int) (S:List Addr) (has:∀ a∈S,H a≠none) (Ex:XQ),(∀ c as,Ex c as->Rz C S [] H E c as)->Room k (A.deeper (envOfC qual (defScope st) s.heap.objs.size f cdv)) ->
   KSs (cxOf (CX1 P w) P w K mg base N qual (defScope st) f cdv A outer s H E) (Fr.pure C n0 S H has) (defBody st) (u Ex)) :
  DefX P w K mg base (k + 1) x ps (spU C (mkF N.length ps.length u)):=by
 refine ⟨f,fd,F.okX sc (fun vs H Q E h=>?_) (fun cdv A outer s H vs Q E hr h=>?_),hm,F.kp,hb⟩
 ·obtain ⟨S,ds,n,Qp,Xp,r,_,hF,_⟩:=h
  rw [r.length]
  exact hF.1
 ·obtain ⟨S,ds,n,Qp,Xp,r,has,hF,hq,hx⟩:=h
  refine ⟨_,(body cdv A outer s H E n S has Xp hx hr).run,envOf N.length ds,[],S,n,_,env_start rfl rfl r rfl rfl,hF.2,fun env' σ' S' H' n' ok q=>?_,fun v H' d n' rv x g q=>?_⟩
  ·have e:n'=n:=ok.gd
   subst e
   exact hq _ _ H' .non ok.ext q
  ·have e:n'=n:=g
   subst e
   exact hq d v H' rv x q
theorem defF (F:Fun K x qual st f fd) (hm:mg x=some (.ref f)) (sc:FnScope N ps (defScope st)) (hb:Binds K fd ps []) (hN:1<=N.length)
  (body:∀ (cdv:Value) (A:Around) (outer:List Env) (s:Shared) (H:Hp) (E:XK) (fa sa:Addr) (n0:Int) (S:List Addr) (hf:Y.Feed H fa sa n0) (hS:fa∈S) (has:∀ a∈S,H a≠none),Room k (A.deeper (envOfC qual (defScope st) s.heap.objs.size f cdv)) ->
   KSs (cxOf CX0 P w K mg base N qual (defScope st) f cdv A outer s H E).nox (Fr.feed C Y 0 fa sa n0 S H hf hS has) (defBody st) (u noX)) :
  DefOk P w K mg base (k + 1) x ps (spUF Y (mkFF N.length ps.length fun _=>u noX)):=by
 refine ⟨f,fd,F.okQ sc (fun vs H Q E h=>?_) (fun cdv A outer s H vs Q E hr h=>?_),hm,F.kp,hb⟩
 ·obtain ⟨fa,sa,us,S,ds,n,Qp,rfl,_,_,r,_,hF,_⟩:=h
  rw [List.length_cons,r.length]
  exact hF.1
 ·obtain ⟨fa,sa,us,S,ds,n,Qp,rfl,fe,hS,r,has,hF,hq⟩:=h
  refine ⟨_,(body cdv A outer s H E fa sa n S fe hS has hr).run,none::envOf (N.length - 1) ds,[],S,n,_,env_startF rfl rfl r rfl rfl hN fe,hF.2,fun env' σ' S' H' n' ok q=>?_,fun v H' d n' rv x g q=>?_⟩
  ·exact hq _ n' _ H' .non ok.gd ok.ext q
  ·exact hq d n' v H' rv g x q
end
def uCall (F:UF) (ua:UA):UX:=fun env n Q=>ua env n fun ds n1=>F ds n1 Q noX
def uCallX (F:UF) (Ex:XQ) (ua:UA):UX:=fun env n Q=>ua env n fun ds n1=>F ds n1 Q Ex
mutual
def noLst:PyData->Bool
 | .list _=>false
 | .tuple ds=>noLsts ds
 | .dict _=>false
 | _=>true
def noLsts:List PyData->Bool
 | []=>true
 | d::ds=>noLst d && noLsts ds
end
mutual
theorem Rep.any {S S':List Addr} {H:Hp}:∀ {d:PyData} {v:V},noLst d=true->Rep S H d v->Rep S' H d v
 | .none,_,_,h=>h
 | .bool _,_,_,h=>h
 | .int _,_,_,h=>h
 | .str _,_,_,h=>h
 | .tuple ds,_,hn,h=>by
  obtain ⟨a,xs,rfl,ha,r⟩:=h.of_tup
  exact .tup ha (Reps.any (by simpa [noLst] using hn) r)
 | .list ds,_,hn,h=>by simp [noLst] at hn
 | .dict _,_,_,h=>h
theorem Reps.any {S S':List Addr} {H:Hp}:∀ {ds:List PyData} {vs:List V},noLsts ds=true->Reps S H ds vs->Reps S' H ds vs
 | [],_,_,h=>h
 | d::ds,_,hn,h=>by
  obtain ⟨x,t,rfl,h1,h2⟩:=h.of_cons
  simp only [noLsts,Bool.and_eq_true] at hn
  exact .cons (Rep.any hn.1 h1) (Reps.any hn.2 h2)
end
def uCallL (F:UF) (ua:UA):UX:=fun env n Q=>ua env n fun ds n1=>F ds n1 (fun d n'=>noLst d=true/\Q d n') noX
section
variable {X:Cx} {M:Fr} {k:Nat} {x:Str} {ps:List Str} {F:UF} {e:Expr} {es:List Expr} {ua:UA} {p pos:Pos} {C:Xc} {Y:Fam}
theorem k_call (D:DefOk X.prog X.w X.K X.mg X.base k x ps (spU C F)) (hr:Room k X.A) (ha:KA X M (e::es) ua) (hg:Gl X x:=by rfl) (hdb:(x == ("__debug__" : Str))=false:=by decide):KE X M (.Call (.Name x p) (e::es) [] pos) (uCall F ua) :=
 .of (qe_callD D hr ha.run hg hdb) fun σ H R env pn S n Q ok hu k=>⟨env,pn,S,n,_,ok,hu,fun vs H1 ds n1 el r1 x1 g1 _ q=>⟨S,ds,n1,Q,noX,r1,(ok.step x1 g1).has,q,fun d v H2 r2 x2 q2=>k v H2 d n1 r2 (x1.trans (x2.mono (by simp))) (M.gext g1 x2 (by simp)) q2,fun c as z=>z.elim⟩⟩
theorem k_callF (i:Nat) {y:Str} {p2:Pos} {fa sa:Addr} (D:DefOk X.prog X.w X.K X.mg X.base k x ps (spUF Y F)) (hr:Room k X.A) (ha:KA X M es ua)
  (hG:M.G=fun H n=>Y.Feed H fa sa n:=by rfl) (hfa:M.fa=.ref fa:=by rfl) (hgs:M.gs=[fa]:=by rfl) (hfd:i∈M.fd:=by decide)
  (hN:X.N[i]? = some y:=by rfl) (hv:Vis X.env.scope y:=by first | exact Or.inl rfl | exact Or.inr (Or.inl rfl) | exact Or.inr (Or.inr rfl)) (hd:(y == ("__debug__" : Str))=false:=by decide) (hcd:(y == ("__classdict__" : Str))=false:=by decide)
  (hg:Gl X x:=by rfl) (hdb:(x == ("__debug__" : Str))=false:=by decide):KE X M (.Call (.Name x p) (.Name y p2::es) [] pos) (uCall F ua) :=
 .of (qe_callD D hr (qa_c (qv i hN hv hd hcd) ha.run rfl) hg hdb) fun σ H R env pn S n Q ok hu k=>⟨_,ok.fdv i hfd,env,pn,S,n,_,ok,hu,fun vs H1 ds n1 el r1 x1 g1 _ q=>by
  have ok1:=ok.step x1 g1
  refine ⟨fa,sa,vs,S,ds,n1,Q,by rw [hfa],by rw [hG] at g1; exact g1,ok.gsS fa (by rw [hgs]; simp),r1,ok1.has,q,fun d n2 v H2 r2 f2 x2 q2=>k v H2 d n2 r2 (x1.trans (by rw [hgs]; exact x2)) (by rw [hG]; exact f2) q2⟩⟩
def uRaise (Ex:XQ) (c:Str) (ua:UA):US:=fun _ env n=>ua env n fun as _=>Ex c as
theorem s_raise1 (E:XK) (Ex:XQ) (C:Xc) {f:Str} (R:RaiseOk X.prog X.w X.K X.mg X.base x (C.cl x) (spX1 (C.cl x) f)) (hf:C.fl x=[f]) (hr:Room 2 X.A) (hl:Leaves X E) (hc:X.calm=true) (hx:∀ c as,Ex c as->Rz C M.S0 M.gs M.H0 E c as) (ha:KA X M [e] ua) {cpos:Pos} (hg:Gl X x:=by rfl) (hdb:(x == ("__debug__" : Str))=false:=by decide) :
  KS X M (.Raise (some (.Call (.Name x p) [e] [] cpos)) none pos) (uRaise Ex x ua):=.of (qs_raiseD E R hr hl hc ha.run hg hdb) fun D σ H env pn S n En ok hu k1 k2=>⟨env,pn,S,n,_,ok,hu,fun vs H1 as n1 el r1 x1 g1 _ q=>by
 have hv:∃ v,vs=[v]:=by
  match vs,el with
  | [v],_=>exact ⟨v,rfl⟩
 obtain ⟨v,rfl⟩:=hv
 refine ⟨by show 1<=100; decide,fun y hy=>raise1 (H0:=H1) (fun dx H' hd x'=>?_) (.refl _ _) hy⟩
 refine hx x as q dx H' [v] ((r1.ext (x'.mono (by simp))).less ok.s0) (by rw [hf]; exact hd) ((ok.step x1 g1).ext.trans (x'.mono (by simp)))⟩
end
def isiD (c:String) (d:PyData):Bool:=match c,d with
 | "int",.int _=>true | "int",.bool _=>true | "bool",.bool _=>true | "tuple",.tuple _=>true | "list",.list _=>true | "str",.str _=>true | _,_=>false
def uIsi (c:String) (u:UX):UX:=fun env n Q=>u env n fun d n1=>Q (.bool (isiD c d)) n1
theorem kitD {K:W.Frag} {c:String} (hc:c = "int" \/ c = "bool" \/ c = "tuple" \/ c = "list" \/ c = "str") (d:PyData):W.kitOne K (.type (tyD d)) (.type c)=some (isiD c d):=by
 rcases hc with rfl | rfl | rfl | rfl | rfl <;> cases d <;> rfl
theorem RepL.ty {K:W.Frag} {gs S:List Addr} {H:Hp} {d:PyData} {v:V} (h:RepL gs S H d v):TyOf K H v (.type (tyD d)):=by
 rcases h with h | ⟨ds,a,xs,rfl,rfl,ha,_⟩
 ·exact h.ty
 ·exact .lst ha
section
variable {X:Cx} {M:Fr} {e a b:Expr} {u w:UX} {p p2 q2 pos:Pos} {c:String} {x:Str}
theorem k_isi (hm:X.mg "isinstance" = none) (hx:X.mg x=none) (h:KL X M e u) (hc:c = "int" \/ c = "bool" \/ c = "tuple" \/ c = "list" \/ c = "str" := by decide) (hv:bootBuiltins x=some (.type c):=by decide +kernel) (hg:Gl X "isinstance" := by rfl) (hgx:Gl X x:=by rfl) (hs:notStar e=true:=by rfl) (hn:x ≠ "__name__" := by decide) (hdb:(x == ("__debug__" : Str))=false:=by decide) :
  KE X M (.Call (.Name "isinstance" p) [e,.Name x p2] [] pos) (uIsi c u) :=
 .of (qe_callB (isiK X.K) hg hm (by decide +kernel) (qa_c h.run (qa_c (qe_ty c hgx hx hv hn hdb) qa_nil rfl) hs)) fun σ H R env pn S n Q ok hu k=>⟨env,pn,S,n,_,ok,hu,fun v H1 d n1 r1 x1 g1 _ q=>⟨v,_,c,_,rfl,r1.ty,kitD hc d,k _ H1 _ n1 (.bl _) x1 g1 q⟩⟩
def uSeqL (u:UX):PEnv->Int->(List PyData->Int->Prop)->Prop:=fun env n Q=>u env n fun d n1=>bnd (seqD d) fun ds=>Q ds n1
theorem fresh0 {env:PEnv} {pn:List (PyData × V)} {σ:St} {S:List Addr} {H H':Hp} {n n':Int} (ok:EnvOk M env pn σ S H n) (x:Ext M.gs H H') (g:M.G H' n') {l:Addr} (h:H' l=none):H l=none:=by
 by_cases z:l∈M.gs
 ·exact absurd h (M.ghas g l z)
 ·exact x.fresh z h
theorem n_list (hm:X.mg "list" = none) (h:KL X M e u) (hg:Gl X "list" := by rfl) (hs:notStar e=true:=by rfl):KN X M (.Call (.Name "list" p) [e] [] pos) (uSeqL u) :=
 .of (qe_callTy (listK X.K) hg hm (by decide +kernel) (qa_c h.run qa_nil hs)) fun σ H R env pn S n Q ok hu k=>⟨env,pn,S,n,_,ok,hu,fun v H1 d n1 r1 x1 g1 _ q=>by
  obtain ⟨ds,e,q⟩:=q
  have fin:∀ xs,Reps S H1 ds xs->∀ l,H1 l=none->R (.ref l) (upd H1 l (.lst xs)):=fun xs rs l hl=>k l xs _ ds n1 (fresh0 ok x1 g1 hl) upd_same ((rs.fresh hl).ext (.new hl)) (x1.trans (.new hl)) (M.gext g1 (.new (S:=[]) hl) (by simp)) q
  cases d with
  | tuple es =>
   cases e
   obtain ⟨a,xs,rfl,ha,rs⟩:=r1.of_tup
   exact ⟨a,xs,rfl,.inr (SqT.of ha),fin xs rs⟩
  | list es =>
   cases e
   obtain ⟨a,xs,rfl,ha,rs⟩:=r1.of_lst
   exact ⟨a,xs,rfl,.inl (SqL.of ha),fin xs rs⟩
  | _=>cases e⟩
def uRngL (u:UX):PEnv->Int->(List PyData->Int->Prop)->Prop:=fun env n Q=>u env n fun d n1=>match d with | .int j=>(-(2 ^ 62)<=j/\j<=16777216)/\Q (rngD 0 j.toNat) n1 | _=>False
def uTupL (u:PEnv->Int->(List PyData->Int->Prop)->Prop):UX:=fun env n Q=>u env n fun ds n'=>Q (.tuple ds) n'
def asInt:PyData->Option Int | .int i=>some i | _=>none
def asInts (ds:List PyData):Option (List Int):=ds.mapM asInt
@[simp] theorem asInts_map (ns:List Int):asInts (ns.map .int)=some ns:=by
 unfold asInts
 induction ns with
 | nil=>rfl
 | cons n ns ih=>rw [List.map_cons,List.mapM_cons,ih]; rfl
theorem asInts_of:∀ {ds:List PyData} {ns:List Int},asInts ds=some ns->ds=ns.map .int
 | [],ns,h=>by cases h; rfl
 | d::ds,ns,h=>by
  unfold asInts at h
  rw [List.mapM_cons] at h
  cases d with
  | int i =>
   cases e:ds.mapM asInt with
   | none=>simp [asInt,e] at h
   | some ms =>
    simp [asInt,e] at h
    subst h
    rw [asInts_of (ds:=ds) e]
    rfl
  | _=>simp [asInt] at h
theorem reps_ints {S:List Addr} {H:Hp}:∀ {ns:List Int} {xs:List V},Reps S H (ns.map .int) xs->xs=ns.map V.int
 | [],_,r=>r.of_nil
 | n::ns,_,r=>by
  obtain ⟨x,t,rfl,r1,r2⟩:=r.of_cons
  rw [r1.of_int,reps_ints r2]
  rfl
def insI (a:Int):List Int->List Int | []=>[a] | b::l=>if a<=b then a::b::l else b::insI a l
def sortI:List Int->List Int | []=>[] | a::l=>insI a (sortI l)
theorem insI_perm (a:Int):∀ l,(insI a l).Perm (a::l)
 | []=>.refl _
 | b::l=>by
  unfold insI
  split
  ·exact .refl _
  ·exact ((insI_perm a l).cons b).trans (.swap a b l)
theorem sortI_perm:∀ l,(sortI l).Perm l
 | []=>.refl _
 | a::l=>(insI_perm a (sortI l)).trans ((sortI_perm l).cons a)
theorem insI_sorted (a:Int):∀ l:List Int,l.Pairwise (·<=·)->(insI a l).Pairwise (·<=·)
 | [],_=>by simp [insI]
 | b::l,h=>by
  unfold insI
  obtain ⟨h1,h2⟩:=List.pairwise_cons.mp h
  split
  ·rename_i hab
   exact List.pairwise_cons.mpr ⟨fun c hc=>by rcases List.mem_cons.mp hc with rfl | hc; exact hab; exact Int.le_trans hab (h1 c hc),h⟩
  ·rename_i hab
   refine List.pairwise_cons.mpr ⟨fun c hc=>?_,insI_sorted a l h2⟩
   rcases List.mem_cons.mp ((insI_perm a l).mem_iff.mp hc) with rfl | hc
   ·omega
   ·exact h1 c hc
theorem sortI_sorted:∀ l,(sortI l).Pairwise (·<=·)
 | []=>.nil
 | a::l=>insI_sorted a _ (sortI_sorted l)
theorem sorted_one {l m:List Int} (h:l.Perm m) (hl:l.Pairwise (·<=·)) (hm:m.Pairwise (·<=·)):l=m:=h.eq_of_pairwise (fun a b _ _ h1 h2=>Int.le_antisymm h1 h2) hl hm
def onceI:List Int->List Int | []=>[] | a::l=>if a∈l then onceI l else a::onceI l
theorem mem_onceI {k:Int}:∀ {l:List Int},k∈onceI l↔k∈l
 | []=>Iff.rfl
 | a::l=>by
  unfold onceI
  split
  ·rename_i h
   rw [mem_onceI,List.mem_cons]
   exact ⟨.inr,fun z=>z.elim (fun e=>e ▸ h) id⟩
  ·rw [List.mem_cons,mem_onceI,List.mem_cons]
theorem nodup_onceI:∀ l:List Int,(onceI l).Nodup
 | []=>List.nodup_nil
 | a::l=>by
  unfold onceI
  split
  ·exact nodup_onceI l
  ·rename_i h
   exact List.nodup_cons.mpr ⟨fun z=>h (mem_onceI.mp z),nodup_onceI l⟩
def usortI (l:List Int):List Int:=sortI (onceI l)
theorem mem_usortI {k:Int} {l:List Int}:k∈usortI l↔k∈l:=((sortI_perm _).mem_iff).trans mem_onceI
theorem usortI_lt (l:List Int):(usortI l).Pairwise (· < ·):=lt_of_nodup (sortI_sorted _) ((sortI_perm _).nodup_iff.mpr (nodup_onceI l))
theorem lt_one:∀ {l m:List Int},l.Pairwise (· < ·)->m.Pairwise (· < ·)->(∀ k,k∈l↔k∈m)->l=m:=fun {l m} hl hm h=>by
 have nl:l.Nodup:=hl.imp fun h=>by omega
 have nm:m.Nodup:=hm.imp fun h=>by omega
 exact sorted_one ((List.perm_ext_iff_of_nodup nl nm).mpr h) (hl.imp fun h=>by omega) (hm.imp fun h=>by omega)
def uSort (u:UX):PEnv->Int->(List PyData->Int->Prop)->Prop:=fun env n Q=>u env n fun d n1=>bnd (seqD d) fun ds=>bnd (asInts ds) fun ns=>ns.length < 64/\Q ((sortI ns).map .int) n1
def uSortS (u:UX):PEnv->Int->(List PyData->Int->Prop)->Prop:=fun env n Q=>u env n fun d n1=>bnd (seqD d) fun ds=>bnd (asInts ds) fun ns=>ns.length < 64/\Q ((usortI ns).map .int) n1
def uRepr (u:UX):UX:=fun env n Q=>u env n fun d n1=>Good d/\Q (.str d.shown) n1
theorem k_repr {kk:Nat} (hr:Room kk X.A) (hm:X.mg "repr" = none) (h:KE X M e u) (hg:Gl X "repr" := by rfl) (hs:notStar e=true:=by rfl):KE X M (.Call (.Name "repr" p) [e] [] pos) (uRepr u) :=
 .of (qe_callB (call_reprD hr) hg hm (by decide +kernel) (qa_c h.run qa_nil hs)) fun σ H R env pn S n Q ok hu k=>⟨env,pn,S,n,_,ok,hu,fun v H1 d n1 r1 x1 g1 _ q=>⟨S,d,v,rfl,r1,q.1,k _ H1 _ n1 (.str _) x1 g1 q.2⟩⟩
def asBool:PyData->Option Bool | .bool i=>some i | _=>none
def asBools (ds:List PyData):Option (List Bool):=ds.mapM asBool
@[simp] theorem asBools_map (ns:List Bool):asBools (ns.map .bool)=some ns:=by
 unfold asBools
 induction ns with
 | nil=>rfl
 | cons n ns ih=>rw [List.map_cons,List.mapM_cons,ih]; rfl
theorem asBools_of:∀ {ds:List PyData} {ns:List Bool},asBools ds=some ns->ds=ns.map .bool
 | [],ns,h=>by cases h; rfl
 | d::ds,ns,h=>by
  unfold asBools at h
  rw [List.mapM_cons] at h
  cases d with
  | bool i =>
   cases e:ds.mapM asBool with
   | none=>simp [asBool,e] at h
   | some ms =>
    simp [asBool,e] at h
    subst h
    rw [asBools_of (ds:=ds) e]
    rfl
  | _=>simp [asBool] at h
theorem reps_bools {S:List Addr} {H:Hp}:∀ {ns:List Bool} {xs:List V},Reps S H (ns.map .bool) xs->xs=ns.map V.bl
 | [],_,r=>r.of_nil
 | n::ns,_,r=>by
  obtain ⟨x,t,rfl,r1,r2⟩:=r.of_cons
  rw [r1.of_bl,reps_bools r2]
  rfl
def allD:List PyData->Option PyData | [.list ds]=>(asBools ds).map fun bs=>.bool (bs.all id) | _=>none
theorem c_all (hc:X.calm=true):CallD X (.builtin "all") allD:=⟨_,call_allL X.K hc,fun gs S H ds vs d R _ _ rs e k=>by
 obtain ⟨ds,rfl⟩:∃ l,ds=[.list l]:=by
  unfold allD at e
  split at e
  ·exact ⟨_,rfl⟩
  ·cases e
 obtain ⟨v,rfl,r⟩:=rs.one
 obtain ⟨a,xs,rfl,sq,_,rr⟩:=r.sqL (K:=X.K)
 simp only [allD] at e
 cases ei:asBools ds with
 | none=>rw [ei] at e; cases e
 | some ns =>
  rw [ei] at e
  cases e
  rw [asBools_of ei] at rr
  rw [reps_bools rr] at sq
  exact ⟨a,ns,rfl,sq,k _ H (.bl _) (.refl _ _)⟩⟩
end
theorem nf (i:Nat) (l:List Nat) (h:l.contains i=false:=by rfl):i ∉ l:=fun z=>by
 have:l.contains i=true:=List.contains_iff_mem.mpr z
 rw [h] at this
 cases this
theorem fd0 {P:Nat->Prop}:∀ j∈([]:List Nat),P j:=fun j h=>by cases h
theorem fd1 {i j:Nat} {mp:List (Option Nat)} (h:mp[j]? = some (some i)):∀ j'∈[j],∃ i'∈[i],mp[j']? = some (some i'):=fun j' hj=>by
 have e:=List.mem_singleton.mp hj
 subst e
 exact ⟨i,List.mem_singleton.mpr rfl,h⟩
def uSrt (u:UX):PEnv->Int->(List PyData->Int->Prop)->Prop:=fun env n Q=>u env n fun d n1=>match d with | .list ds=>bnd (asInts ds) fun ns=>ns.length < 64/\Q ((sortI ns).map .int) n1 | _=>False
def uMul (ua ub:UX):PEnv->Int->(List PyData->Int->Prop)->Prop:=fun env n Q=>ua env n fun x n1=>ub env n1 fun y n2=>match x,y with | .list xs,.int k=>(-(2 ^ 63)<=k/\k < 2 ^ 63/\xs.length * k.toNat<=sizeLine)/\Q (List.replicate k.toNat xs).flatten n2 | _,_=>False
def uCat (ua ub:UX):PEnv->Int->(List PyData->Int->Prop)->Prop:=fun env n Q=>ua env n fun x n1=>ub env n1 fun y n2=>match x,y with | .list xs,.list ys=>xs.length + ys.length<=sizeLine/\Q (xs++ys) n2 | _,_=>False
def uSlL (u:UX) (ul uh:UO):PEnv->Int->(List PyData->Int->Prop)->Prop:=fun env n Q=>u env n fun d n1=>ul env n1 fun lo n2=>uh env n2 fun hi n3=>match d with | .list ds=>Q (cutG ds lo hi) n3 | _=>False
section
variable {X:Cx} {M:Fr} {e a b:Expr} {u ua ub:UX} {p p2 q2 pos:Pos}
def uLenSet (u:UX):UX:=fun env n Q=>u env n fun d n1=>bnd (seqD d) fun ds=>bnd (asInts ds) fun ns=>ns.length < 4000/\Q (.int (onceI ns).length) n1
end
structure XF (K:W.Frag) (mg:Str->Option Value) (C:Xc) (exc all:List Str):Prop where
 nm:∀ c∈all,mg c=some (.ref (C.cl c))
 exm:∀ c∈exc,∀ h,(h=c\/h = "JoinError")->W.exmOne K (.ref (C.cl c)) (.ref (C.cl h))=some true
 isi:∀ c∈exc,∀ h∈all,W.kitOne K (.ref (C.cl c)) (.ref (C.cl h))=some (decide (h=c\/h = "JoinError"))
 val:∀ c∈exc,W.kitOne K (.ref (C.cl c)) (.type "ValueError")=some true
 ci:∀ c∈exc,ClsI K (C.cl c)
 fld:∀ c∈exc,∀ f∈C.fl c,W.findIn K (.ref (C.cl c)) f=some none
section
variable {X:Cx} {M:Fr} {C:Xc} {exc all:List Str} {e:Expr} {es:List Expr} {ua:UA} {F:UF} {k i j:Nat} {x f cn nm:Str} {ps:List Str} {b0:Stmt} {suite:List Stmt} {uh:US} {p pos apos px np hpos cpos:Pos}
theorem caught_go {D:Ends} {σ:St} {H H1:Hp} {env:PEnv} {pn:List (PyData × V)} {S:List Addr} {n n1:Int} {E:UEnds} (hM:M.xc=C) (xf:XF X.K X.mg C exc all) (ok:EnvOk M env pn σ S H n) (x1:Ext M.gs H H1) (g1:M.G H1 n1)
  (k1:∀ env' σ' S' H' n',EnvOk M env' pn σ' S' H' n'->E.nx env' n'->D.nx σ' H') (k2:∀ v H' d n',Rep M.S0 H' d v->Ext M.gs M.H0 H'->M.G H' n'->E.rt d n'->D.rt v H') {c:Str} {as:List PyData}
  (q:(c∈exc/\(cn=c\/cn = "JoinError"))/\uh E env n1):Rz C S [] H1 (clauseNo X.K (C.cl cn) (liftS M uh) D σ) c as:=fun dx H' vs rv hd x' =>
 ⟨xf.exm c q.1.1 cn q.1.2,env,pn,S,n1,E,(ok.step x1 g1).step (x'.mono (by simp)) (M.gext g1 x' (by simp)),q.2,k1,k2⟩
def uTryR (F:UF) (cn:Str) (exc:List Str) (ua:UA) (uh:US):US:=fun E env n=>ua env n fun ds n1=>F ds n1 E.rt (fun c as=>(c∈exc/\(cn=c\/cn = "JoinError"))/\uh E env n1)
theorem s_tryR (hM:M.xc=C) (xf:XF X.K X.mg C exc all) (hcn:cn∈all) (D:DefX X.prog X.w X.K X.mg X.base k f ps (spU C F)) (hr:Room k X.A) (ha:∀ Ex,KA (X.wish Ex) M (e::es) ua) (hs:∀ x,KSs (hctx X x) M (b0::suite) uh)
  (hst:X.stack=X.env::X.outer:=by rfl) (hfr:X.env.frame=some X.env.locals:=by rfl) (hg:Gl X cn:=by rfl) (hdb:(cn == ("__debug__" : Str))=false:=by decide) (hgf:Gl X f:=by rfl) (hdf:(f == ("__debug__" : Str))=false:=by decide) :
  KS X M (.Try [.Return (some (.Call (.Name f p) (e::es) [] cpos)) apos] [.ExceptHandler (some (.Name cn np)) none (b0::suite) hpos] [] [] pos) (uTryR F cn exc ua uh) :=
 .of (qs_tryRetN X.K (xf.nm cn hcn) (qx_call D hr (fun Ex=>(ha Ex).run) hgf hdf) (fun y=>(hs y).run) hst hfr hg hdb) fun D σ H env pn S n E ok hu k1 k2=>⟨env,pn,S,n,_,ok,hu,fun vs H1 ds n1 el r1 x1 g1 _ q =>
  ⟨S,ds,n1,_,_,r1,(ok.step x1 g1).has,q,fun d v H2 r2 x2 q2=>k2 v H2 d n1 (r2.less ok.s0) ((ok.step x1 g1).ext.trans (x2.mono (by simp))) (M.gext g1 x2 (by simp)) q2,fun c as z=>caught_go hM xf ok x1 g1 k1 k2 z⟩⟩
def uTryA (i j:Nat) (F:UF) (cn:Str) (exc:List Str) (ua:UA) (uh:US):US:=fun E env n=>ua env n fun ds n1=>F ds n1 (fun d n'=>E.nx (env.set i (some (.s d))) n') (fun c as=>(c∈exc/\(cn=c\/cn = "JoinError"))/\uh { E with nx:=fun env' n'=>E.nx (env'.set j none) n' } (env.set j (some (.x c as))) n1)
theorem EnvOk.drop {env:PEnv} {pn:List (PyData × V)} {σ:St} {S:List Addr} {H:Hp} {n:Int} (ok:EnvOk M env pn σ S H n) (hj:j ∉ M.fd):EnvOk M (env.set j none) pn (σ.set j none) S H n:=by
 refine ⟨fun i e he=>?_,fun i k ds es a h1 h2 h3 h4=>?_,by rw [List.length_set,List.length_set,ok.len],fun i hi=>?_,ok.gd,ok.ext,ok.s0,ok.sn,ok.has,ok.pin⟩
 ·rcases get_set he with ⟨_,e1⟩ | ⟨ne,e1⟩
  ·cases e1
  ·obtain ⟨v,hv,r⟩:=ok.val i e e1
   exact ⟨v,by rw [List.getElem?_set_ne ne]; exact hv,r⟩
 ·rcases get_set h1 with ⟨_,e1⟩ | ⟨n1,e1⟩
  ·cases e1
  ·rcases get_set h2 with ⟨_,e2⟩ | ⟨n2,e2⟩
   ·cases e2
   ·rw [List.getElem?_set_ne n1] at h3
    rw [List.getElem?_set_ne n2] at h4
    exact ok.ne i k ds es a e1 e2 h3 h4
 ·have:j≠i:=fun z=>hj (z ▸ hi)
  rw [List.getElem?_set_ne this]
  exact ok.fdv i hi
theorem EnvOk.setX {env:PEnv} {pn:List (PyData × V)} {σ:St} {S:List Addr} {H:Hp} {n:Int} {c:Str} {as:List PyData} {v:V} (ok:EnvOk M env pn σ S H n) (r:EntOk M S H (.x c as) v) (hj:j ∉ M.fd):EnvOk M (env.set j (some (.x c as))) pn (σ.set j (some v)) S H n:=by
 refine ⟨fun i e he=>?_,fun i k ds es a h1 h2 h3 h4=>?_,by rw [List.length_set,List.length_set,ok.len],fun i hi=>?_,ok.gd,ok.ext,ok.s0,ok.sn,ok.has,ok.pin⟩
 ·rcases get_set he with ⟨rfl,e1⟩ | ⟨ne,e1⟩
  ·cases e1
   have:j < env.length:=by
    by_cases z:j < env.length
    ·exact z
    ·rw [List.getElem?_eq_none (by rw [List.length_set]; omega)] at he; cases he
   exact ⟨v,set_get (by rw [<- ok.len]; exact this),r⟩
  ·obtain ⟨v,hv,r⟩:=ok.val i e e1
   exact ⟨v,by rw [List.getElem?_set_ne ne]; exact hv,r⟩
 ·rcases get_set h1 with ⟨_,e1⟩ | ⟨n1,e1⟩
  ·cases e1
  ·rcases get_set h2 with ⟨_,e2⟩ | ⟨n2,e2⟩
   ·cases e2
   ·rw [List.getElem?_set_ne n1] at h3
    rw [List.getElem?_set_ne n2] at h4
    exact ok.ne i k ds es a e1 e2 h3 h4
 ·have:j≠i:=fun z=>hj (z ▸ hi)
  rw [List.getElem?_set_ne this]
  exact ok.fdv i hi
theorem s_tryA (hM:M.xc=C) (xf:XF X.K X.mg C exc all) (hcn:cn∈all) (D:DefX X.prog X.w X.K X.mg X.base k f ps (spU C F)) (hr:Room k X.A) (hN:X.N.Nodup) (hx:Loc X.env.scope x) (ha:∀ Ex,KA (X.wish Ex) M (e::es) ua) (hs:∀ x,KSs (hctx X x) M (b0::suite) uh)
  (hfd:i ∉ M.fd) (hfj:j ∉ M.fd) (hi:X.N[i]? = some x:=by rfl) (hj:X.N[j]? = some nm:=by rfl) (hloc:X.env.scope.names.lookup nm=some .local:=by rfl) (hst:X.stack=X.env::X.outer:=by rfl) (hfr:X.env.frame=some X.env.locals:=by rfl) (hg:Gl X cn:=by rfl) (hdb:(cn == ("__debug__" : Str))=false:=by decide) (hgf:Gl X f:=by rfl) (hdf:(f == ("__debug__" : Str))=false:=by decide)
  (hsw:swapsWith (.Call (.Name f p) (e::es) [] cpos) (some (.Name x px)) apos.line X.env=pure false:=by rfl) (hf:X.fn x=true\/X.env.scope.names.lookup x=some .local:=by first | exact .inl rfl | exact .inr rfl | assumption) :
  KS X M (.Try [.Assign [.Name x px] (.Call (.Name f p) (e::es) [] cpos) apos] [.ExceptHandler (some (.Name cn np)) (some nm) (b0::suite) hpos] [] [] pos) (uTryA i j F cn exc ua uh) :=
 .of (qs_trySet X.K (xf.nm cn hcn) hN hi hx hj hloc (qx_call D hr (fun Ex=>(ha Ex).run) hgf hdf) (fun y=>(hs y).run) hst hfr hg hdb hsw hf) fun D σ H env pn S n E ok hu k1 k2=>⟨env,pn,S,n,_,ok,hu,fun vs H1 ds n1 el r1 x1 g1 _ q =>
  ⟨S,ds,n1,_,_,r1,(ok.step x1 g1).has,q,fun d v H2 r2 x2 q2=>k1 _ _ _ _ _ (((ok.step x1 g1).step (x2.mono (by simp)) (M.gext g1 x2 (by simp))).set r2 hfd) q2,fun c as z dx H' vs rv hd x'=>by
   refine ⟨xf.exm c z.1.1 cn z.1.2,fun y hy=>?_⟩
   have ok':=(ok.step x1 g1).step (x'.mono (by simp)) (M.gext g1 x' (by simp))
   subst hM
   have gy:y ∉ M.gs/\dx ∉ M.gs:=⟨fun zz=>M.gnx ok'.gd y zz _ hy,fun zz=>M.gnx ok'.gd dx zz _ hd⟩
   exact ⟨env.set j (some (.x c as)),pn,S,n1,_,ok'.setX ⟨y,dx,vs,rfl,hy,hd,rv,gy.1,gy.2⟩ hfj,z.2,fun env' σ' S' H'' n' ok'' q''=>k1 _ _ _ _ _ (ok''.drop hfj) q'',k2⟩⟩⟩
def uIsx (i:Nat) (exc:List Str) (h:Str):UX:=fun env n Q=>match env[i]? with | some (some (.x c _))=>c∈exc/\Q (.bool (decide (h=c\/h = "JoinError"))) n | _=>False
def uIsxV (i:Nat) (exc:List Str):UX:=fun env n Q=>match env[i]? with | some (some (.x c _))=>c∈exc/\Q (.bool true) n | _=>False
def uIsxT (i:Nat) (exc hs:List Str):UX:=fun env n Q=>match env[i]? with | some (some (.x c _))=>c∈exc/\Q (.bool (hs.any fun h=>decide (h=c\/h = "JoinError"))) n | _=>False
def uFlx (i:Nat) (exc:List Str) (fl:Str->List Str) (f:Str):UX:=fun env n Q=>match env[i]? with | some (some (.x c as))=>(c∈exc/\f∈fl c)/\bnd (((fl c).zip as).lookup f) fun d=>Q d n | _=>False
theorem zip_lookup {S:List Addr} {H:Hp} {f:Str} {d:PyData}:∀ {fs:List Str} {as:List PyData} {vs:List V},Reps S H as vs->(fs.zip as).lookup f=some d->∃ v,(fs.zip vs).lookup f=some v/\Rep S H d v
 | [],_,_,_,h=>by cases h
 | g::fs,[],_,_,h=>by cases h
 | g::fs,a::as,_,r,h=>by
  obtain ⟨v,t,rfl,r1,r2⟩:=r.of_cons
  rw [List.zip_cons_cons,List.lookup_cons] at h
  rw [List.zip_cons_cons,List.lookup_cons]
  cases e:f == g with
  | true=>rw [e] at h; cases h; exact ⟨v,rfl,r1⟩
  | false=>rw [e] at h; exact zip_lookup r2 h
theorem k_isx (i:Nat) {y h:Str} {p2 p3:Pos} (hM:M.xc=C) (xf:XF X.K X.mg C exc all) (hh:h∈all) (hm:X.mg "isinstance" = none) (hN:X.N[i]? = some y:=by rfl) (hv:Vis X.env.scope y:=by first | exact Or.inl rfl | exact Or.inr (Or.inl rfl) | exact Or.inr (Or.inr rfl)) (hd:(y == ("__debug__" : Str))=false:=by decide) (hcd:(y == ("__classdict__" : Str))=false:=by decide)
  (hg:Gl X "isinstance" := by rfl) (hgh:Gl X h:=by rfl) (hdh:(h == ("__debug__" : Str))=false:=by decide):KE X M (.Call (.Name "isinstance" p) [.Name y p2,.Name h p3] [] pos) (uIsx i exc h) :=
 .of (qe_callB (call_isiX X.K) hg hm (by decide +kernel) (qa_c (qv i hN hv hd hcd) (qa_c (qe_glob (v:=.ref (C.cl h)) hgh (xf.nm h hh) rfl hdh) qa_nil rfl) rfl)) fun σ H R env pn S n Q ok hu k=>by
  unfold uIsx at hu
  split at hu
  ·rename_i c as he
   obtain ⟨v,hv,a,dx,vs,rfl,ha,hdx,rv,_⟩:=ok.val i _ he
   subst hM
   exact ⟨_,hv,a,_,dx,_,_,_,rfl,ha,hdx,xf.ci c hu.1,.own (xf.isi c hu.1 h hh),k _ H _ n (.bl _) (.refl _ _) ok.gd hu.2⟩
  ·exact hu.elim
theorem k_isxV (i:Nat) {y:Str} {p2 p3:Pos} (hM:M.xc=C) (xf:XF X.K X.mg C exc all) (hm:X.mg "isinstance" = none) (hmv:X.mg "ValueError" = none) (hN:X.N[i]? = some y:=by rfl) (hv:Vis X.env.scope y:=by first | exact Or.inl rfl | exact Or.inr (Or.inl rfl) | exact Or.inr (Or.inr rfl)) (hd:(y == ("__debug__" : Str))=false:=by decide) (hcd:(y == ("__classdict__" : Str))=false:=by decide)
  (hg:Gl X "isinstance" := by rfl) (hgh:Gl X "ValueError" := by rfl):KE X M (.Call (.Name "isinstance" p) [.Name y p2,.Name "ValueError" p3] [] pos) (uIsxV i exc) :=
 .of (qe_callB (call_isiX X.K) hg hm (by decide +kernel) (qa_c (qv i hN hv hd hcd) (qa_c (qe_ty "ValueError" hgh hmv (by decide +kernel)) qa_nil rfl) rfl)) fun σ H R env pn S n Q ok hu k=>by
  unfold uIsxV at hu
  split at hu
  ·rename_i c as he
   obtain ⟨v,hv,a,dx,vs,rfl,ha,hdx,rv,_⟩:=ok.val i _ he
   subst hM
   exact ⟨_,hv,a,_,dx,_,_,_,rfl,ha,hdx,xf.ci c hu.1,.ty (xf.val c hu.1),k _ H _ n (.bl _) (.refl _ _) ok.gd hu.2⟩
  ·exact hu.elim
structure QCs (X:Cx) (C:Xc) (es:List Expr) (hs:List Str):Prop where
 run:∃ t,QA X es t/\∀ σ H (R:List V->Hp->Prop),R (hs.map fun h=>.ref (C.cl h)) H->t σ H R
theorem cs_nil:QCs X C [] []:=⟨_,qa_nil,fun σ H R h=>h⟩
theorem cs_c {h:Str} {hs:List Str} {p3:Pos} (xf:XF X.K X.mg C exc all) (hh:h∈all) (r:QCs X C es hs) (hgh:Gl X h:=by rfl) (hdh:(h == ("__debug__" : Str))=false:=by decide):QCs X C (.Name h p3::es) (h::hs):=by
 obtain ⟨t,q,k⟩:=r.run
 exact ⟨_,qa_c (qe_glob (v:=.ref (C.cl h)) hgh (xf.nm h hh) rfl hdh) q rfl,fun σ H R hR=>k σ H _ hR⟩
theorem kit_any {K:W.Frag} {mg:Str->Option Value} (xf:XF K mg C exc all) {c:Str} (hc:c∈exc):∀ {hs:List Str},(∀ h∈hs,h∈all)->W.kitAny K (.ref (C.cl c)) ((hs.map fun h=>C.cl h).map Value.ref)=some (hs.any fun h=>decide (h=c\/h = "JoinError"))
 | [],_=>rfl
 | h::hs,ha=>by
  rw [List.map_cons,List.map_cons,List.any_cons]
  show (match W.kitOne K (.ref (C.cl c)) (.ref (C.cl h)) with | some true=>some true | some false=>W.kitAny K (.ref (C.cl c)) ((hs.map fun h=>C.cl h).map Value.ref) | none=>none)=_
  rw [xf.isi c hc h (ha h (List.mem_cons_self ..))]
  cases e:decide (h=c\/h = "JoinError") with
  | true=>rfl
  | false=>exact kit_any xf hc fun g hg=>ha g (List.mem_cons_of_mem _ hg)
theorem k_isxT (i:Nat) {y:Str} {hs:List Str} {p2 p3:Pos} {k2:Nat} (hM:M.xc=C) (xf:XF X.K X.mg C exc all) (hh:∀ h∈hs,h∈all) (hm:X.mg "isinstance" = none) (cs:QCs X C es hs) (hl:hs.length<=sizeLine:=by decide) (hN:X.N[i]? = some y:=by rfl) (hv:Vis X.env.scope y:=by first | exact Or.inl rfl | exact Or.inr (Or.inl rfl) | exact Or.inr (Or.inr rfl)) (hd:(y == ("__debug__" : Str))=false:=by decide) (hcd:(y == ("__classdict__" : Str))=false:=by decide)
  (hg:Gl X "isinstance" := by rfl):KE X M (.Call (.Name "isinstance" p) [.Name y p2,.Tuple es k2 p3] [] pos) (uIsxT i exc hs):=by
 obtain ⟨t,qt,kt⟩:=cs.run
 refine .of (qe_callB (call_isiX X.K) hg hm (by decide +kernel) (qa_c (qv i hN hv hd hcd) (qa_c (qe_tup qt) qa_nil rfl) rfl)) fun σ H R env pn S n Q ok hu k=>?_
 unfold uIsxT at hu
 split at hu
 ·rename_i c as he
  obtain ⟨v,hv,a,dx,vs,rfl,ha,hdx,rv,_⟩:=ok.val i _ he
  subst hM
  refine ⟨_,hv,kt σ H _ ⟨by rw [List.length_map]; exact hl,fun t ht=>?_⟩⟩
  have x1:Ext [] H (upd H t (.tup (hs.map fun h=>.ref (M.xc.cl h)))):=.new ht
  refine ⟨a,_,dx,_,_,_,rfl,x1.keep _ _ (by simp) ha,x1.keep _ _ (by simp) hdx,xf.ci c hu.1,.tup (ds:=hs.map fun h=>M.xc.cl h) ?_ (kit_any xf hu.1 hh),k _ _ _ n (.bl _) (x1.mono (by simp)) (M.gext ok.gd x1 (by simp)) hu.2⟩
  rw [upd_same,List.map_map]
  rfl
 ·exact hu.elim
theorem k_flx (i:Nat) {y f:Str} {p2:Pos} (hM:M.xc=C) (xf:XF X.K X.mg C exc all) (hN:X.N[i]? = some y:=by rfl) (hv:Vis X.env.scope y:=by first | exact Or.inl rfl | exact Or.inr (Or.inl rfl) | exact Or.inr (Or.inr rfl)) (hd:(y == ("__debug__" : Str))=false:=by decide) (hcd:(y == ("__classdict__" : Str))=false:=by decide)
  (hb:attributeBase (.Name y p2) f X.env (eval (.Name y p2) X.env)=eval (.Name y p2) X.env:=by rfl):KE X M (.Attribute (.Name y p2) f pos) (uFlx i exc C.fl f) :=
 .of (qe_fldX X.K (qv i hN hv hd hcd) hb) fun σ H R env pn S n Q ok hu k=>by
  unfold uFlx at hu
  split at hu
  ·rename_i c as he
   obtain ⟨v,hv,a,dx,vs,rfl,ha,hdx,rv,_⟩:=ok.val i _ he
   subst hM
   obtain ⟨⟨h1,h2⟩,d,hl,q⟩:=hu
   obtain ⟨w,hw,rw'⟩:=zip_lookup rv hl
   exact ⟨_,hv,a,_,dx,_,w,rfl,ha,hdx,(xf.ci c h1).cx,xf.fld c h1 f h2,hw,k w H d n rw' (.refl _ _) ok.gd q⟩
  ·exact hu.elim
end
def mostN:Int:=1099511627776
def F_draw:UF:=fun ds n Q _=>match ds with | [.int m]=>(0 < m/\m < 1073741824/\n < mostN)/\∀ r:Int,0<=r->r < m->Q (.int r) (n + 1) | _=>False
def spDrawY (Y:Fam):Sp:=fun vs H Q _=>∃ (fa sa:Addr) (n many:Int),vs=[.ref fa,.int many]/\Y.Feed H fa sa n/\0 < many/\many < 1073741824/\n < mostN/\∀ (r:Int) (H':Hp),0<=r->r < many->Y.Feed H' fa sa (n + 1)->Ext [fa] H H'->Q (.int r) H'
def spFeedY (Y:Fam) (K:W.Frag):Sp:=fun vs H Q _=>∃ (a:Addr) (ns:List Int),vs=[.ref a]/\SqL K H a (ns.map V.int)/\∀ (fa sa:Addr) (H':Hp),Y.Feed H' fa sa 0->Ext [] H H'->H fa=none->H sa=none->Q (.ref fa) H'
def spLaw (K:W.Frag):Sp:=fun vs H Q _=>∃ (a:Addr) (ns:List Int),vs=[.ref a]/\SqL K H a (ns.map V.int)/\ns.length<=63/\∀ H',Q (.bl true) H'
section
variable {P:Program} {w:World} {K:W.Frag} {mg:Str->Option Value} {base:Heap} {f:Addr} {fd:FuncData} {x:Str} {ps:List Str} {k:Nat} {C:Xc} {u:US} {Y:Fam} {st st0:Stmt} {rest:List Stmt} {N:List Str} {sn:Str}
theorem DefOk.imp {sp sp':Sp} (D:DefOk P w K mg base k x ps sp) (h:∀ vs H Q E,sp' vs H Q E->sp vs H Q E):DefOk P w K mg base k x ps sp':=let ⟨f,fd,F,r⟩:=D.ex; ⟨f,fd,F.imp h,r⟩
theorem DefOk.up {sp:Sp} {k':Nat} (D:DefOk P w K mg base k x ps sp) (h:k<=k'):DefOk P w K mg base k' x ps sp:=let ⟨f,fd,F,r⟩:=D.ex; ⟨f,fd,F.mono h,r⟩
theorem DefOk.draw (D:DefOk P w K mg base k x ps (spDrawY Y)):DefOk P w K mg base k x ps (spUF Y F_draw):=D.imp fun vs H Q E h=>by
 obtain ⟨fa,sa,us,S,ds,n,Qp,rfl,fe,hS,r,has,hF,hq⟩:=h
 unfold F_draw at hF
 split at hF
 ·rename_i m
  obtain ⟨⟨h1,h2,h3⟩,h4⟩:=hF
  obtain ⟨v,t,rfl,r1,r2⟩:=r.of_cons
  cases r2.of_nil
  cases r1.of_int
  exact ⟨fa,sa,n,m,rfl,fe,h1,h2,h3,fun r H' r0 r1 fe' x=>hq _ _ _ H' (.int r) fe' x (h4 r r0 r1)⟩
 ·exact hF.elim
theorem lawU (F:Fun K "law" "law" st f fd) (sc:FnScope N [sn] (defScope st)) (hN:2<=N.length)
  (body:∀ (cdv:Value) (A:Around) (outer:List Env) (s:Shared) (H:Hp) (E:XK),Room k (A.deeper (envOfC "law" (defScope st) s.heap.objs.size f cdv)) ->
   QS (cxOf CX0 P w K mg base N "law" (defScope st) f cdv A outer s H E).nox st0 (tAsg (tCallD (spFeedY Y K) (tCons (tVar 0) tNil)) (gName 1)) /\
   ∀ (fa sa:Addr) (n0:Int) (S:List Addr) (H1:Hp) (hf:Y.Feed H1 fa sa n0) (hS:fa∈S) (has:∀ a∈S,H1 a≠none),KSs (cxOf CX0 P w K mg base N "law" (defScope st) f cdv A outer s H E).nox (Fr.feed C Y 1 fa sa n0 S H1 hf hS has) rest u)
  (hb:defBody st=st0::rest) (hu:u { nx:=fun _ _=>False,rt:=fun d _=>d=.bool true } (List.replicate N.length none) 0):FnOk P w K mg base CX0 (k + 1) f fd [sn] (spLaw K):=by
 refine F.okQ sc (fun vs H Q E h=>?_) (fun cdv A outer s H vs Q E hr h=>?_)
 ·obtain ⟨a,ns,rfl,_⟩:=h
  rfl
 ·obtain ⟨a,ns,rfl,hs,_,q⟩:=h
  obtain ⟨q0,qr⟩:=body cdv A outer s H E hr
  have qrest:QSs (cxOf CX0 P w K mg base N "law" (defScope st) f cdv A outer s H E).nox rest (fun D σ H'=>∃ fa sa n0 S H1 hf hS has,liftS (Fr.feed C Y 1 fa sa n0 S H1 hf hS has) u D σ H') :=
   ⟨fun pins s σ H D I ⟨fa,sa,n0,S,H1,hf,hS,has,h⟩=>(qr fa sa n0 S H1 hf hS has).run.run pins s σ H D I h⟩
  rw [hb]
  have hst:start N [V.ref a]=some (.ref a)::List.replicate (N.length - 1) none:=rfl
  refine ⟨_,qss_cons q0 qrest,_,by rw [hst]; rfl,a,ns,rfl,hs,fun fa sa H1 fe x1 hfa hsa=>?_⟩
  have has:∀ b∈[fa],H1 b≠none:=fun b hb=>by have e:=List.mem_singleton.mp hb; subst e; exact Y.fa fe
  refine ⟨fa,sa,0,[fa],H1,fe,List.mem_singleton.mpr rfl,has,List.replicate N.length none,[],[fa],0,_,⟨fun i e he=>?_,fun i j ds es b h1=>?_,?_,?_,fe,.refl _ _,fun b hb=>hb,fun b hb=>.inl hb,has,fun p hp=>by cases hp⟩,hu,fun _ _ _ _ _ _ z=>z.elim,fun v H' d n' r _ _ e=>?_⟩
  ·rw [List.getElem?_replicate] at he
   split at he <;> cases he
  ·rw [List.getElem?_replicate] at h1
   split at h1 <;> cases h1
  ·rw [List.length_set,hst,List.length_cons,List.length_replicate,List.length_replicate]
   omega
  ·intro i hi
   have e:i=1:=List.mem_singleton.mp hi
   subst e
   rw [hst]
   exact set_get (by rw [List.length_cons,List.length_replicate]; omega)
  ·subst e
   rw [r.of_bl]
   exact q H'
end
def F_no:UF:=fun _ _ _ _=>False
section
variable {P:Program} {w:World} {K:W.Frag} {mg:Str->Option Value} {base:Heap} {f:Addr} {fd:FuncData} {x qual:Str} {st:Stmt} {ps:List Str} {k:Nat} {Y:Fam} {C:Xc}
theorem def0F (F:Fun K x qual st f fd) (hm:mg x=some (.ref f)) (hb:Binds K fd ps []):DefOk P w K mg base k x ps (spUF Y F_no) :=
 ⟨f,fd,⟨fun vs H Q E ⟨_,_,_,_,_,_,_,_,_,_,_,_,h,_⟩=>h.elim,fun _ _ _ _ _ _ _ _ _ _ _ _ _ ⟨_,_,_,_,_,_,_,_,_,_,_,_,h,_⟩=>h.elim⟩,hm,F.kp,hb⟩
end
theorem ExcI.exmS {K:W.Frag} {mg:Str->Option Value} {x:Str} {C J:Addr} (e:ExcI K C J) (o:OwnC K mg x C) (bx:W.mroIn K C (.type "BaseException")=some true):W.exmOne K (.ref C) (.ref C)=some true:=by
 unfold W.exmOne
 have h:W.subIn K (.ref C) (.type "BaseException")=some true:=bx
 rw [h,if_pos (by simp),o.kit]
 exact e.own
end L2
namespace L2
open PySem
mutual
def Gd (B:Nat):PyData->Prop
 | .none=>True
 | .bool _=>True
 | .int i=>i.natAbs<=B
 | .str x=>(∀ c∈x.cps.toList,c < 1114112)/\x.cps.size<=60
 | .tuple ds=>GdL B ds
 | .list ds=>GdL B ds
 | .dict _=>False
def GdL (B:Nat):List PyData->Prop
 | []=>True
 | d::ds=>Gd B d/\GdL B ds
end
theorem big50:(10:Nat) ^ 50 < 2 ^ 1920:=by decide +kernel
mutual
theorem gd_lay:∀ d:PyData,Gd (10 ^ 50) d->d.canLay0=true/\d.showable=true/\d.leavesShort 60=true
 | .none,_=>⟨rfl,rfl,rfl⟩
 | .bool _,_=>⟨rfl,rfl,rfl⟩
 | .int i,g=>by
  simp only [Gd] at g
  refine ⟨rfl,?_,?_⟩
  ·simp only [PyData.showable,decide_eq_true_eq]
   by_cases h:i.natAbs=0
   ·rw [h]; decide
   ·exact (Nat.log2_lt h).mpr (Nat.lt_of_le_of_lt g big50)
  ·simp only [PyData.leavesShort,decide_eq_true_eq]
   have e:=int_text_length_le10 (k:=51) (by decide) (Nat.lt_of_le_of_lt g (by decide +kernel:(10:Nat) ^ 50 < 10 ^ 51))
   show (Str.ofString (toString i)).length<=60
   rw [ofString_length]
   omega
 | .str x,g=>by
  simp only [Gd] at g
  refine ⟨?_,rfl,?_⟩
  ·show PyData.strOk x=true
   unfold PyData.strOk
   rw [Array.all_eq_true']
   intro c hc
   exact decide_eq_true (g.1 c (by simpa using hc))
  ·simp only [PyData.leavesShort,List.all_eq_true,decide_eq_true_eq]
   intro c hc
   exact Nat.lt_of_lt_of_le (g.1 c hc) (by decide)
 | .tuple ds,g=>by simp only [Gd] at g; simpa only [PyData.canLay0,PyData.showable,PyData.leavesShort] using gdl_lay ds g
 | .list ds,g=>by simp only [Gd] at g; simpa only [PyData.canLay0,PyData.showable,PyData.leavesShort] using gdl_lay ds g
 | .dict _,g=>by simp only [Gd] at g
theorem gdl_lay:∀ ds:List PyData,GdL (10 ^ 50) ds->PyData.canLayAll0 ds=true/\PyData.showableAll ds=true/\PyData.leavesShortAll 60 ds=true
 | [],_=>⟨rfl,rfl,rfl⟩
 | d::ds,g=>by
  simp only [GdL] at g
  obtain ⟨a1,a2,a3⟩:=gd_lay d g.1
  obtain ⟨b1,b2,b3⟩:=gdl_lay ds g.2
  simp only [PyData.canLayAll0,PyData.showableAll,PyData.leavesShortAll,a1,a2,a3,b1,b2,b3]
  exact ⟨rfl,rfl,rfl⟩
end
theorem good_of {d:PyData} (g:Gd (10 ^ 50) d) (hd:d.depth<=60) (hw:d.weight<=200000):Good d:=⟨(gd_lay d g).1,(gd_lay d g).2.1,(gd_lay d g).2.2,hd,hw⟩
theorem wA_append:∀ xs ys:List PyData,PyData.weightAll (xs++ys)=PyData.weightAll xs + PyData.weightAll ys
 | [],ys=>by simp [PyData.weightAll]
 | x::xs,ys=>by simp only [List.cons_append,PyData.weightAll,wA_append xs ys]; omega
theorem dA_append:∀ xs ys:List PyData,PyData.depthAll (xs++ys)=max (PyData.depthAll xs) (PyData.depthAll ys)
 | [],ys=>by simp [PyData.depthAll]
 | x::xs,ys=>by simp only [List.cons_append,PyData.depthAll,dA_append xs ys]; exact (Nat.max_assoc _ _ _).symm
theorem wA_split (xs:List PyData) (n:Nat):PyData.weightAll xs=PyData.weightAll (xs.take n) + PyData.weightAll (xs.drop n):=by rw [<- wA_append,List.take_append_drop]
theorem dA_split (xs:List PyData) (n:Nat):PyData.depthAll xs=max (PyData.depthAll (xs.take n)) (PyData.depthAll (xs.drop n)):=by rw [<- dA_append,List.take_append_drop]
theorem wA_rev:∀ xs:List PyData,PyData.weightAll xs.reverse=PyData.weightAll xs
 | []=>rfl
 | x::xs=>by rw [List.reverse_cons,wA_append,wA_rev xs]; simp only [PyData.weightAll]; omega
theorem dA_rev:∀ xs:List PyData,PyData.depthAll xs.reverse=PyData.depthAll xs
 | []=>rfl
 | x::xs=>by rw [List.reverse_cons,dA_append,dA_rev xs]; simp only [PyData.depthAll]; omega
theorem len_wA:∀ xs:List PyData,xs.length<=PyData.weightAll xs
 | []=>Nat.le_refl _
 | x::xs=>by have:=len_wA xs; simp only [List.length_cons,PyData.weightAll]; omega
theorem w_int {i:Int} {k:Nat} (h:i.natAbs < 2 ^ k):PyData.weight (.int i)<=k:=by
 simp only [PyData.weight]
 split
 ·omega
 ·rename_i hne
  have:i.natAbs≠0:=fun z=>hne (by simp; omega)
  have:=(Nat.log2_lt this).mpr h
  omega
theorem dA_mem:∀ {ds:List PyData} {d:PyData},d∈ds->d.depth<=PyData.depthAll ds
 | e::es,d,h=>by
  simp only [PyData.depthAll]
  rcases List.mem_cons.mp h with rfl | h
  ·omega
  ·have:=dA_mem h; omega
theorem wA_mem:∀ {ds:List PyData} {d:PyData},d∈ds->d.weight + 1<=PyData.weightAll ds
 | e::es,d,h=>by
  simp only [PyData.weightAll]
  rcases List.mem_cons.mp h with rfl | h
  ·omega
  ·have:=wA_mem h; omega
mutual
def Gq (B L:Nat):PyData->Prop
 | .none=>True
 | .bool _=>True
 | .int i=>i.natAbs<=B
 | .str x=>(∀ c∈x.cps.toList,c < 1114112)/\x.cps.size<=L
 | .tuple ds=>GqL B L ds
 | .list ds=>GqL B L ds
 | .dict _=>False
def GqL (B L:Nat):List PyData->Prop
 | []=>True
 | d::ds=>Gq B L d/\GqL B L ds
end
theorem gql_iff {B L:Nat}:∀ {ds:List PyData},GqL B L ds↔∀ d∈ds,Gq B L d
 | []=>by simp [GqL]
 | d::ds=>by simp [GqL,gql_iff (ds:=ds)]
mutual
theorem gq_mono {B L B' L':Nat} (h:B<=B') (k:L<=L'):∀ d:PyData,Gq B L d->Gq B' L' d
 | .none,_=>by simp [Gq]
 | .bool _,_=>by simp [Gq]
 | .int i,g=>by simp only [Gq] at g ⊢; omega
 | .str x,g=>by simp only [Gq] at g ⊢; exact ⟨g.1,by omega⟩
 | .tuple ds,g=>by simp only [Gq] at g ⊢; exact gql_mono h k ds g
 | .list ds,g=>by simp only [Gq] at g ⊢; exact gql_mono h k ds g
 | .dict _,g=>by simp only [Gq] at g
theorem gql_mono {B L B' L':Nat} (h:B<=B') (k:L<=L'):∀ ds:List PyData,GqL B L ds->GqL B' L' ds
 | [],_=>by simp [GqL]
 | d::ds,g=>by simp only [GqL] at g ⊢; exact ⟨gq_mono h k d g.1,gql_mono h k ds g.2⟩
end
mutual
theorem gq_gd:∀ d:PyData,Gq (10 ^ 50) 60 d->Gd (10 ^ 50) d
 | .none,_=>by simp [Gd]
 | .bool _,_=>by simp [Gd]
 | .int i,g=>by simp only [Gq] at g; simp only [Gd]; exact g
 | .str x,g=>by simp only [Gq] at g; simp only [Gd]; exact g
 | .tuple ds,g=>by simp only [Gq] at g; simp only [Gd]; exact gql_gd ds g
 | .list ds,g=>by simp only [Gq] at g; simp only [Gd]; exact gql_gd ds g
 | .dict _,g=>by simp only [Gq] at g
theorem gql_gd:∀ ds:List PyData,GqL (10 ^ 50) 60 ds->GdL (10 ^ 50) ds
 | [],_=>by simp [GdL]
 | d::ds,g=>by simp only [GqL] at g; simp only [GdL]; exact ⟨gq_gd d g.1,gql_gd ds g.2⟩
end
structure Sz (B L w p:Nat) (d:PyData):Prop where
 gq:Gq B L d
 wt:d.weight<=w
 dp:d.depth<=p
structure SzL (B L w p:Nat) (ds:List PyData):Prop where
 gq:GqL B L ds
 wt:PyData.weightAll ds<=w
 dp:PyData.depthAll ds<=p
section
variable {B L B' L' w w' p p':Nat} {d:PyData} {ds es:List PyData}
theorem Sz.mono (h:Sz B L w p d) (hB:B<=B') (hL:L<=L') (hw:w<=w') (hp:p<=p'):Sz B' L' w' p' d:=⟨gq_mono hB hL d h.gq,Nat.le_trans h.wt hw,Nat.le_trans h.dp hp⟩
theorem SzL.mono (h:SzL B L w p ds) (hB:B<=B') (hL:L<=L') (hw:w<=w') (hp:p<=p'):SzL B' L' w' p' ds:=⟨gql_mono hB hL ds h.gq,Nat.le_trans h.wt hw,Nat.le_trans h.dp hp⟩
theorem Sz.gd (h:Sz B L w p d) (hB:B<=10 ^ 50) (hL:L<=60):Gd (10 ^ 50) d:=gq_gd d (gq_mono hB hL d h.gq)
theorem Sz.good (h:Sz B L w p d) (hB:B<=10 ^ 50) (hL:L<=60) (hw:w<=200000) (hp:p<=60):Good d:=good_of (h.gd hB hL) (Nat.le_trans h.dp hp) (Nat.le_trans h.wt hw)
mutual
theorem gq_lay:∀ d:PyData,Gq B L d->d.canLay0=true
 | .none,_=>rfl
 | .bool _,_=>rfl
 | .int i,_=>rfl
 | .str x,g=>by
  simp only [Gq] at g
  show PyData.strOk x=true
  unfold PyData.strOk
  rw [Array.all_eq_true']
  intro c hc
  exact decide_eq_true (g.1 c (by simpa using hc))
 | .tuple ds,g=>by simp only [Gq] at g; simpa only [PyData.canLay0] using gql_lay ds g
 | .list ds,g=>by simp only [Gq] at g; simpa only [PyData.canLay0] using gql_lay ds g
 | .dict _,g=>by simp only [Gq] at g
theorem gql_lay:∀ ds:List PyData,GqL B L ds->PyData.canLayAll0 ds=true
 | [],_=>rfl
 | d::ds,g=>by
  simp only [GqL] at g
  simp only [PyData.canLayAll0,gq_lay d g.1,gql_lay ds g.2]
  rfl
end
theorem Sz.lay (h:Sz B L w p d):d.canLay0=true:=gq_lay d h.gq
theorem SzL.lay (h:SzL B L w p ds):PyData.canLayAll0 ds=true:=gql_lay ds h.gq
theorem SzL.len (h:SzL B L w p ds):ds.length<=w:=Nat.le_trans (len_wA ds) h.wt
theorem SzL.nil:SzL B L 0 0 []:=⟨by simp [GqL],by simp [PyData.weightAll],by simp [PyData.depthAll]⟩
theorem SzL.cons (h:Sz B L w p d) (t:SzL B L w' p' ds):SzL B L (w + 1 + w') (max p p') (d::ds):=by
 refine ⟨by simp only [GqL]; exact ⟨h.gq,t.gq⟩,?_,?_⟩
 ·simp only [PyData.weightAll]; have:=h.wt; have:=t.wt; omega
 ·simp only [PyData.depthAll]; have:=h.dp; have:=t.dp; omega
theorem SzL.append (h:SzL B L w p ds) (t:SzL B L w' p' es):SzL B L (w + w') (max p p') (ds++es):=by
 refine ⟨gql_iff.mpr fun d hd=>?_,?_,?_⟩
 ·rcases List.mem_append.mp hd with hd | hd
  ·exact gql_iff.mp h.gq d hd
  ·exact gql_iff.mp t.gq d hd
 ·rw [wA_append]; have:=h.wt; have:=t.wt; omega
 ·rw [dA_append]; have:=h.dp; have:=t.dp; omega
theorem SzL.take (h:SzL B L w p ds) (n:Nat):SzL B L w p (ds.take n):=by
 refine ⟨gql_iff.mpr fun d hd=>gql_iff.mp h.gq d (List.mem_of_mem_take hd),?_,?_⟩
 ·have:=wA_split ds n; have:=h.wt; omega
 ·have:=dA_split ds n; have:=h.dp; omega
theorem SzL.drop (h:SzL B L w p ds) (n:Nat):SzL B L w p (ds.drop n):=by
 refine ⟨gql_iff.mpr fun d hd=>gql_iff.mp h.gq d (List.mem_of_mem_drop hd),?_,?_⟩
 ·have:=wA_split ds n; have:=h.wt; omega
 ·have:=dA_split ds n; have:=h.dp; omega
theorem SzL.cut (h:SzL B L w p ds) (lo hi:Option Int):SzL B L w p (cutG ds lo hi):=(h.drop _).take _
theorem SzL.rev (h:SzL B L w p ds):SzL B L w p ds.reverse:=⟨gql_iff.mpr fun d hd=>gql_iff.mp h.gq d (List.mem_reverse.mp hd),by rw [wA_rev]; exact h.wt,by rw [dA_rev]; exact h.dp⟩
theorem SzL.mem (h:SzL B L w p ds) (hd:d∈ds):Sz B L w p d:=⟨gql_iff.mp h.gq d hd,by have:=wA_mem hd; have:=h.wt; omega,Nat.le_trans (dA_mem hd) h.dp⟩
theorem Sz.tup (h:SzL B L w p ds):Sz B L w (p + 1) (.tuple ds):=⟨by simp only [Gq]; exact h.gq,by simp only [PyData.weight]; exact h.wt,by simp only [PyData.depth]; have:=h.dp; omega⟩
theorem Sz.lst (h:SzL B L w p ds):Sz B L w (p + 1) (.list ds):=⟨by simp only [Gq]; exact h.gq,by simp only [PyData.weight]; exact h.wt,by simp only [PyData.depth]; have:=h.dp; omega⟩
theorem Sz.of_tup (h:Sz B L w p (.tuple ds)):SzL B L w (p - 1) ds:=⟨by have:=h.gq; simpa only [Gq] using this,by have:=h.wt; simpa only [PyData.weight] using this,by have:=h.dp; simp only [PyData.depth] at this; omega⟩
theorem Sz.non:Sz B L 0 0 .none:=⟨by simp [Gq],by simp [PyData.weight],by simp [PyData.depth]⟩
theorem Sz.bl (b:Bool):Sz B L 0 0 (.bool b):=⟨by simp [Gq],by simp [PyData.weight],by simp [PyData.depth]⟩
theorem Sz.int {i:Int} (h:i.natAbs<=B) (hB:B<=10 ^ 50):Sz B L 168 0 (.int i):=⟨by simpa only [Gq] using h,w_int (Nat.lt_of_le_of_lt (Nat.le_trans h hB) (by decide +kernel)),by simp [PyData.depth]⟩
theorem Sz.small {i:Int} (h:i.natAbs < 1024) (hB:1023<=B):Sz B L 10 0 (.int i):=⟨by simp only [Gq]; omega,w_int h,by simp [PyData.depth]⟩
theorem Sz.str {x:Str} (h:(x.cps.toList.all (fun c=>decide (c < 1114112)) && decide (x.cps.size<=L))=true):Sz B L L 0 (.str x):=by
 rw [Bool.and_eq_true,List.all_eq_true] at h
 have h2:=of_decide_eq_true h.2
 exact ⟨by simp only [Gq]; exact ⟨fun c hc=>of_decide_eq_true (h.1 c hc),h2⟩,by simp only [PyData.weight]; exact h2,by simp [PyData.depth]⟩
theorem SzL.ints (hB:1023<=B):∀ {ns:List Int},(∀ i∈ns,i.natAbs < 1024)->SzL B L (11 * ns.length) 0 (ns.map .int)
 | [],_=>SzL.nil
 | n::ns,h=>by
  have t:=SzL.ints (ns:=ns) hB fun i hi=>h i (List.mem_cons_of_mem _ hi)
  have:=SzL.cons (Sz.small (h n (List.mem_cons_self ..)) hB) t
  rw [List.map_cons,List.length_cons]
  exact this.mono (Nat.le_refl _) (Nat.le_refl _) (by omega) (by simp)
theorem SzL.all:∀ {ds:List PyData},(∀ d∈ds,Sz B L w p d)->SzL B L ((w + 1) * ds.length) p ds
 | [],_=>SzL.nil.mono (Nat.le_refl _) (Nat.le_refl _) (by simp) (Nat.zero_le _)
 | d::ds,h=>by
  have t:=SzL.all (ds:=ds) fun i hi=>h i (List.mem_cons_of_mem _ hi)
  refine (SzL.cons (h d (List.mem_cons_self ..)) t).mono (Nat.le_refl _) (Nat.le_refl _) ?_ (by simp)
  rw [List.length_cons,Nat.mul_succ]
  omega
end
section
variable {i j:Int} {ns ms:List Int} {x y:PyData}
theorem lay_ints (ns:List Int):PyData.canLayAll0 (ns.map .int)=true:=by
 induction ns with
 | nil=>rfl
 | cons n ns ih=>simpa [PyData.canLayAll0,PyData.canLay0] using ih
theorem dep_ints (ns:List Int):PyData.depthAll (ns.map .int)=0:=by
 induction ns with
 | nil=>rfl
 | cons n ns ih=>simpa [PyData.depthAll,PyData.depth] using ih
theorem eqv_ints:∀ ns ms:List Int,PyData.eqvAll (ns.map .int) (ms.map .int)=decide (ns=ms)
 | [],[]=>rfl
 | [],m::ms=>rfl
 | n::ns,[]=>rfl
 | n::ns,m::ms=>by
  simp only [List.map_cons,PyData.eqvAll,PyData.eqv,eqv_ints ns ms,List.cons.injEq]
  by_cases h:n=m <;> simp [h]
theorem eqD_of (hx:x.canLay0=true) (hy:y.canLay0=true) (hd:x.depth<=60):eqD x y=some (.bool (PyData.eqv x y)):=if_pos ⟨hx,hy,hd⟩
theorem neD_of (hx:x.canLay0=true) (hy:y.canLay0=true) (hd:x.depth<=60):neD x y=some (.bool (!PyData.eqv x y)):=if_pos ⟨hx,hy,hd⟩
theorem eqD_int:eqD (.int i) (.int j)=some (.bool (decide (i=j))):=by
 rw [eqD_of rfl rfl (by simp [PyData.depth])]
 simp only [PyData.eqv]
 congr
theorem neD_int:neD (.int i) (.int j)=some (.bool (!decide (i=j))):=by
 rw [neD_of rfl rfl (by simp [PyData.depth])]
 simp only [PyData.eqv]
 congr
theorem eqD_lints:eqD (.list (ns.map .int)) (.list (ms.map .int))=some (.bool (decide (ns=ms))):=by
 rw [eqD_of (show PyData.canLay0 (.list _)=true from lay_ints ns) (show PyData.canLay0 (.list _)=true from lay_ints ms) (by simp [PyData.depth,dep_ints])]
 simp only [PyData.eqv,eqv_ints]
theorem any_ints (i:Int) (ns:List Int):((ns.map PyData.int).any fun d=>PyData.eqv d (.int i))=decide (i∈ns):=by
 induction ns with
 | nil=>rfl
 | cons n ns ih =>
  rw [List.map_cons,List.any_cons,ih]
  simp only [PyData.eqv,List.mem_cons]
  by_cases h:n=i
  ·simp [h]
  ·have h':¬ i=n:=fun z=>h z.symm
   simp [h,h']
theorem inL_ints:inL (.int i) (ns.map .int)=some (decide (i∈ns)):=by
 unfold inL
 rw [if_pos ⟨rfl,lay_ints ns,by simp [PyData.depth]⟩,any_ints]
theorem inD_tints:inD (.int i) (.tuple (ns.map .int))=some (.bool (decide (i∈ns))):=by simp only [inD,inL_ints,Option.map_some]
theorem inD_pair {a b:Int}:inD (.int i) (.tuple [.int a,.int b])=some (.bool (decide (i=a\/i=b))):=by
 have:=inD_tints (i:=i) (ns:=[a,b])
 simpa using this
end
section
variable {α:Type}
theorem atI_at {xs:List α} {i:Int} (h0:0<=i) (h1:i < xs.length):atI xs i=xs[i.toNat]? := by
 unfold atI ixN
 rw [if_pos h0,if_pos h1]
 rfl
theorem atI_0 (a:α) (l:List α):atI (a::l) 0=some a:=by rw [atI_at (by decide) (by simp only [List.length_cons]; omega)]; rfl
theorem atI_1 (a b:α) (l:List α):atI (a::b::l) 1=some b:=by rw [atI_at (by decide) (by simp only [List.length_cons]; omega)]; rfl
theorem atI_some {xs:List α} {i:Int} (h0:0<=i) (h1:i < xs.length):∃ x,atI xs i=some x/\x∈xs:=by
 have:i.toNat < xs.length:=by omega
 exact ⟨xs[i.toNat],by rw [atI_at h0 h1]; simp [this],List.getElem_mem _⟩
theorem cutG_to (xs:List α) (k:Int) (h:0<=k):cutG xs none (some k)=xs.take k.toNat:=by
 unfold cutG
 rw [show k=((k.toNat:Nat):Int) by omega,HT.sIx_nat,HT.sIx_none]
 simp only [List.drop_zero,Nat.sub_zero,Int.toNat_natCast]
 by_cases hc:k.toNat<=xs.length
 ·rw [Nat.min_eq_left hc]
 ·rw [Nat.min_eq_right (by omega),List.take_of_length_le (Nat.le_refl _),List.take_of_length_le (by omega)]
theorem cutG_from (xs:List α) (k:Int) (h:0<=k):cutG xs (some k) none=xs.drop k.toNat:=by
 unfold cutG
 rw [show k=((k.toNat:Nat):Int) by omega,HT.sIx_nat,HT.sIx_none]
 simp only [Int.toNat_natCast]
 by_cases hc:k.toNat<=xs.length
 ·rw [Nat.min_eq_left hc,List.take_of_length_le (by rw [List.length_drop]; exact Nat.le_refl _)]
 ·rw [Nat.min_eq_right (by omega),List.drop_of_length_le (Nat.le_refl _),List.drop_of_length_le (by omega)]
  simp
end
theorem ixD_t {ds:List PyData} {i:Int}:ixD (.tuple ds) (.int i)=atI ds i:=rfl
theorem ixD_l {ds:List PyData} {i:Int}:ixD (.list ds) (.int i)=atI ds i:=rfl
theorem draw_ok {m n:Int} {Q:PyData->Int->Prop} {X:XQ} (h0:0 < m) (h1:m < 1073741824) (h2:n < mostN) (h:∀ r:Int,0<=r->r < m->Q (.int r) (n + 1)):F_draw [.int m] n Q X:=⟨⟨h0,h1,h2⟩,h⟩
section
variable {i j:Nat} {ue:UX} {uc:UT} {Q:List PyData->Int->Prop} {env:PEnv}
theorem comp_map (f:PyData->PyData):∀ (its acc:List PyData) (n:Int) (env:PEnv),(∀ d∈its,∀ n Q,ue (env.set i (some (.s d))) n Q=Q (f d) n)->uCompGo (uNm i) uYes ue Q its acc env n=Q (acc++its.map f) n
 | [],acc,n,env,_=>by simp [uCompGo]
 | d::ds,acc,n,env,h=>by
  have ih:=fun acc=>comp_map f ds acc n (env.set i (some (.s d))) fun e he n Q=>by rw [List.set_set]; exact h e (List.mem_cons_of_mem _ he) n Q
  simp only [uCompGo,uNm,uYes,if_true,h d (List.mem_cons_self ..),ih,List.map_cons,List.append_assoc,List.singleton_append]
theorem comp_filter (f:PyData->PyData) (p:PyData->Bool):∀ (its acc:List PyData) (n:Int) (env:PEnv),(∀ d∈its,∀ n Q,ue (env.set i (some (.s d))) n Q=Q (f d) n)->(∀ d∈its,∀ n Q,uc (env.set i (some (.s d))) n Q=Q (p d) n)->uCompGo (uNm i) uc ue Q its acc env n=Q (acc++(its.filter p).map f) n
 | [],acc,n,env,_,_=>by simp [uCompGo]
 | d::ds,acc,n,env,h,k=>by
  have ih:=fun acc=>comp_filter f p ds acc n (env.set i (some (.s d))) (fun e he n Q=>by rw [List.set_set]; exact h e (List.mem_cons_of_mem _ he) n Q) (fun e he n Q=>by rw [List.set_set]; exact k e (List.mem_cons_of_mem _ he) n Q)
  simp only [uCompGo,uNm,k d (List.mem_cons_self ..),h d (List.mem_cons_self ..),ih]
  cases hp:p d with
  | true=>simp [hp]
  | false=>simp [hp]
end
theorem loop_inv {ug:UG} {ub:US} {E:UEnds} (Inv:List PyData->List PyData->PEnv->Int->Prop) :
  ∀ (its pre:List PyData) (env:PEnv) (n:Int),(∀ pre d post env n (E':UEnds),E'.rt=E.rt->Inv pre (d::post) env n->(∀ env' n',Inv (pre++[d]) post env' n'->E'.nx env' n')->ug d env fun env1=>ub E' env1 n)->Inv pre its env n->(∀ pre env n,Inv pre [] env n->E.nx env n)->uLoop ug ub E its env n
 | [],pre,env,n,_,h0,hd=>hd pre env n h0
 | d::ds,pre,env,n,hb,h0,hd=>hb pre d ds env n { nx:=uLoop ug ub E ds,rt:=E.rt } rfl h0 fun env' n' h'=>loop_inv Inv ds (pre++[d]) env' n' hb h' hd
theorem mulD_of {i j:Int} (h:CMul i j):mulD (.int i) (.int j)=some (.int (i * j)):=if_pos h
theorem mulD_bit {c:Int} {b:Bool}:mulD (.int c) (.int (if b=true then 1 else 0))=some (.int (if b=true then c else 0)):=by
 cases b with
 | true=>rw [if_pos rfl,if_pos rfl,mulD_of (.inr ⟨by decide,by decide⟩),Int.mul_one]
 | false=>rw [if_neg (by decide),if_neg (by decide),mulD_of (.inr ⟨by decide,by decide⟩),Int.mul_zero]
theorem addD_t {xs ys:List PyData} (h:xs.length + ys.length<=16777216):addD (.tuple xs) (.tuple ys)=some (.tuple (xs++ys)):=if_pos (by rw [show sizeLine=16777216 by decide]; exact h)
theorem addD_l {xs ys:List PyData} (h:xs.length + ys.length<=16777216):addD (.list xs) (.list ys)=some (.list (xs++ys)):=if_pos (by rw [show sizeLine=16777216 by decide]; exact h)
theorem appendD_of {ds:List PyData} {d:PyData} (h:ds.length < 16777216):appendD ds [d]=some (ds++[d]):=if_pos (by rw [show sizeLine=16777216 by decide]; exact h)
theorem modD_of {i j:Int} (h:0 < j):modD (.int i) (.int j)=some (.int (i % j)):=if_pos h
def rngI (lo:Int) (n:Nat):List Int:=(List.range n).map fun (k:Nat)=>lo + (k:Int)
theorem rngD_eq (lo:Int) (n:Nat):rngD lo n=(rngI lo n).map .int:=by unfold rngD rngI; rw [List.map_map]; rfl
theorem mem_rngI {lo i:Int} {n:Nat}:i∈rngI lo n↔lo<=i/\i < lo + n:=by
 unfold rngI
 rw [List.mem_map]
 constructor
 ·rintro ⟨k,hk,rfl⟩
  have:=List.mem_range.mp hk
  omega
 ·intro h
  exact ⟨(i - lo).toNat,List.mem_range.mpr (by omega),by omega⟩
theorem rngI_len (lo:Int) (n:Nat):(rngI lo n).length=n:=by simp [rngI]
theorem filter_ints (p:PyData->Bool) (ns:List Int):(ns.map PyData.int).filter p=(ns.filter fun i=>p (.int i)).map .int:=by rw [List.filter_map]; rfl
theorem map_ints (f:PyData->PyData) (ns:List Int):(ns.map PyData.int).map f=ns.map fun i=>f (.int i):=by rw [List.map_map]; rfl
theorem comp_ints (f:Int->PyData) (p:Int->Bool) {i:Nat} {ue:UX} {uc:UT} {Q:List PyData->Int->Prop} (ns:List Int) (acc:List PyData) (n:Int) (env:PEnv) (h:∀ k∈ns,∀ n Q,ue (env.set i (some (.s (.int k)))) n Q=Q (f k) n) (hp:∀ k∈ns,∀ n Q,uc (env.set i (some (.s (.int k)))) n Q=Q (p k) n) :
  uCompGo (uNm i) uc ue Q (ns.map .int) acc env n=Q (acc++(ns.filter p).map f) n:=by
 rw [comp_filter (fun d=>match d with | .int k=>f k | _=>.none) (fun d=>match d with | .int k=>p k | _=>false) _ _ _ _ (fun d hd n Q=>?_) (fun d hd n Q=>?_),filter_ints,map_ints]
 ·obtain ⟨k,hk,rfl⟩:=List.mem_map.mp hd
  exact h k hk n Q
 ·obtain ⟨k,hk,rfl⟩:=List.mem_map.mp hd
  exact hp k hk n Q
def nesD (x y:PyData):Option PyData:=match x,y with | .str a,.str b=>some (.bool (!decide (a=b))) | _,_=>none
def eqsD (x y:PyData):Option PyData:=match x,y with | .str a,.str b=>some (.bool (decide (a=b))) | _,_=>none
theorem dec_strV {a b:Str}:decide (V.str a=V.str b)=decide (a=b):=by
 rw [decide_eq_decide]
 exact ⟨fun h=>by cases h; rfl,fun h=>by rw [h]⟩
theorem RepL.of_strS {gs S:List Addr} {H:Hp} {x:Str} {v:V} (r:RepL gs S H (.str x) v):v=.str x:=by
 rcases r with r | ⟨ds,a,xs,h,_⟩
 ·exact r.of_str
 ·cases h
section
variable {X:Cx}
theorem o_nes:OpD X (compareOp .NotEq) nesD:=⟨_,op_ne,fun gs S H dx dy x y d R _ _ r1 r2 e k=>by
 unfold nesD at e
 split at e
 ·rename_i a b
  cases e
  have e1:=r1.of_strS
  have e2:=r2.of_strS
  subst e1 e2
  refine ⟨rfl,?_⟩
  rw [dec_strV]
  exact k _ H (.bl _) (.refl _ _)
 ·cases e⟩
theorem o_eqs:OpD X (compareOp .Eq) eqsD:=⟨_,op_eq,fun gs S H dx dy x y d R _ _ r1 r2 e k=>by
 unfold eqsD at e
 split at e
 ·rename_i a b
  cases e
  have e1:=r1.of_strS
  have e2:=r2.of_strS
  subst e1 e2
  refine ⟨rfl,?_⟩
  rw [dec_strV]
  exact k _ H (.bl _) (.refl _ _)
 ·cases e⟩
end
end L2
namespace L2
open PySem PySem.Spec PyProof.Rows
def countD (x y:PyData):Option PyData:=match x,y with
 | .tuple ds,.int k=>(asInts ds).map fun ns=>.int (ns.count k:Nat)
 | .list ds,.int k=>(asInts ds).map fun ns=>.int (ns.count k:Nat)
 | _,_=>none
def isSeqD (x:PyData):Prop:=match x with | .tuple _=>True | .list _=>True | _=>False
def uCnt (uo ue:UX):UX:=fun env n Q=>uo env n fun x n1=>isSeqD x/\ue env n1 fun y n2=>bnd (countD x y) fun d=>Q d n2
def tupRevD:PyData->Option PyData | .list ds=>some (.tuple ds.reverse) | _=>none
def uTupRev (u:UX):UX:=fun env n Q=>u env n fun x n1=>bnd (tupRevD x) fun d=>Q d n1
theorem lenS {α:Type} {us:List α} {n:Nat} (h:us.length=n + 1):∃ a r,us=a::r/\r.length=n:=by
 cases us with
 | nil=>cases h
 | cons a r=>exact ⟨a,r,rfl,Nat.succ.inj h⟩
theorem len1 {α:Type} {us:List α} (h:us.length=1):∃ a,us=[a]:=by
 obtain ⟨a,r,rfl,k⟩:=lenS (n:=0) h
 rw [List.eq_nil_of_length_eq_zero k]
 exact ⟨_,rfl⟩
theorem len2 {α:Type} {us:List α} (h:us.length=2):∃ a b,us=[a,b]:=by
 obtain ⟨a,r,rfl,k⟩:=lenS (n:=1) h
 obtain ⟨b,rfl⟩:=len1 k
 exact ⟨_,_,rfl⟩
theorem len3 {α:Type} {us:List α} (h:us.length=3):∃ a b c,us=[a,b,c]:=by
 obtain ⟨a,r,rfl,k⟩:=lenS (n:=2) h
 obtain ⟨b,c,rfl⟩:=len2 k
 exact ⟨_,_,_,rfl⟩
def uShr (i:Nat) (u:US):US:=fun E env n=>match env[i]? with
 | some (some (.o ds))=>u E (env.set i (some (.s (.list ds)))) n
 | _=>u E env n
theorem pick_revL (xs:Array Value):slicePick xs none none (some (-1))=xs.toList.reverse.toArray:=by
 have e0:sliceBounds none none (some (-1)) xs.size=((xs.size:Int) - 1,-1,-1):=rfl
 have e1:sliceRange ((xs.size:Int) - 1) (-1) (-1)=(List.range xs.size).map fun (k:Nat)=>(((xs.size:Nat):Int) - 1 + (k:Int) * -1).toNat:=by
  have ec:((if (-1:Int) > 0 then (if (xs.size:Int) - 1 < -1 then (-1 - ((xs.size:Int) - 1) + -1 - 1) / -1 else 0) else (if (xs.size:Int) - 1 > -1 then ((xs.size:Int) - 1 - -1 - -1 - 1) / (- -1) else 0)).toNat)=xs.size:=by
   rw [if_neg (by decide),show (- -1:Int)=1 from rfl,Int.ediv_one]
   split <;> omega
  unfold sliceRange
  simp only []
  rw [ec]
  apply List.map_congr_left
  intro k _
  congr 1
  omega
 unfold slicePick
 rw [e0]
 simp only []
 rw [e1,List.filterMap_map]
 exact HT.pick_rev xs
section
variable {X:Cx} {M:Fr} {e:Expr} {ua:UX} {te:TE} {pos p2 p3 p4:Pos} {k':Nat}
def tRevA (K:W.Frag) (te:TE):TE:=fun σ H Q=>te σ H fun x H1=>∃ a xs,x=.ref a/\((SqT K H1 a xs/\∀ p,H1 p=none->Q (.ref p) (upd H1 p (.tup xs.reverse)))\/(SqL K H1 a xs/\∀ p,H1 p=none->Q (.ref p) (upd H1 p (.lst xs.reverse))))
theorem qe_revA (he:QE X e te):QE X (.Subscript e (.Slice none none (some (.UnaryOp .USub (.Constant (.int 1) k' p4) p3)) p2) pos) (tRevA X.K te):=by
 refine ⟨fun pins s σ H Q I h=>?_⟩
 have hst:PE X (.UnaryOp .USub (.Constant (.int 1) k' p4) p3) (tUn (rU fun i=>.int (-i)) (tC (.int 1))):=pe_un un_neg pe_int
 refine Subscript_ (thn (he.run pins s σ H _ I h) fun v s1 ⟨x,H1,I1,r1,a,xs,ex,hx⟩=>?_)
 subst ex
 cases r1
 refine wpAny_Slice ?_
 rw [evalPart_none]
 refine wpAny_pure (wpAny_pure ?_)
 rw [evalPart_some]
 refine thn (hst pins s1 σ H1 (fun z H2=>z=.int (-1)/\H2=H1) I1 ⟨1,rfl,rfl,rfl⟩) fun u s3 ⟨z,H3,I3,r3,ez,eH⟩=>?_
 subst ez eH
 obtain ⟨tk,rfl⟩:=r3
 have I4:Inv X pins σ H3 { s3 with heap:=s3.heap.push { cls:=.type "slice",data:=.fields #[.none,.none,.int (-1) tk] } }:=I3.kept (t':=s3.toks) fun b ob q=>Heap.get?_push_of_some _ q
 show wpAny (model X.prog X.w) X.A (subscriptTail e (.Slice none none (some (.UnaryOp .USub (.Constant (.int 1) k' p4) p3)) p2) (.ref a) (.ref s3.heap.objs.size)) (EP X pins σ Q) X.xe { s3 with heap:=s3.heap.push { cls:=.type "slice",data:=.fields #[.none,.none,.int (-1) tk] } }
 rcases hx with ⟨hx,q⟩ | ⟨hx,q⟩
 ·obtain ⟨its,r,ht,hz⟩:=I4.tuple hx
  refine tail_any (ops:=[.ref a,.ref s3.heap.objs.size]) ht.typeIs PyProof.Rows.slot_tuple_getitem.lookup (HT.getItem_tuple_rev ht (Heap.IsSliceOf.new ..) ?_ (by rw [List.size_toArray,<- r.length]; exact hz)) (by with_unfolding_all rfl)
  refine ⟨.ref _,_,I4.laid (t':=s3.toks) (o:=.tup xs.reverse) (fun b ob q=>Heap.get?_push_of_some _ q) (Nat.le_refl _) ?_,rfl,q _ (I4.hok.fresh (Nat.le_refl _))⟩
  exact ⟨by rw [List.length_reverse]; exact hz,_,by simpa using r.reverse,TupN.new _ _⟩
 ·obtain ⟨its,r,ht,hz⟩:=I4.list hx
  refine tail_any (ops:=[.ref a,.ref s3.heap.objs.size]) ht.isList.typeIs PySem.slot_list_getitem.lookup (wpAny_getItem_list_slice ht.isList (Heap.IsSliceOf.new ..) .none .none (.int (-1) tk) (by simp) ?_ (by rw [List.size_toArray,<- r.length]; exact hz)) (by with_unfolding_all rfl)
  rw [pick_revL]
  refine ⟨.ref _,_,I4.laid (t':=s3.toks) (o:=.lst xs.reverse) (fun b ob q=>Heap.get?_push_of_some _ q) (Nat.le_refl _) ?_,rfl,q _ (I4.hok.fresh (Nat.le_refl _))⟩
  exact ⟨by rw [List.length_reverse]; exact hz,its.reverse,0,r.reverse,Heap.get?_push_size _ rfl⟩
def revAD (d:PyData):Option PyData:=match d with | .tuple ds=>some (.tuple ds.reverse) | .list ds=>some (.list ds.reverse) | _=>none
theorem k_revA (he:KL X M e ua):KE X M (.Subscript e (.Slice none none (some (.UnaryOp .USub (.Constant (.int 1) k' p4) p3)) p2) pos) (uUn revAD ua) :=
 .of (qe_revA he.run) fun σ H R env pn S n Q ok hu k=>⟨env,pn,S,n,_,ok,hu,fun v H1 d n1 r1 x1 g1 _ q=>by
  obtain ⟨d',e,q⟩:=q
  cases d with
  | tuple ds =>
   cases e
   obtain ⟨a,xs,rfl,ha,rs⟩:=r1.of_tup
   exact ⟨a,xs,rfl,.inl ⟨SqT.of ha,fun p hp=>k _ _ _ n1 (new_tup hp rs.reverse) (x1.trans (.new hp)) (M.gext g1 (.new (S:=[]) hp) (by simp)) q⟩⟩
  | list ds =>
   cases e
   obtain ⟨a,xs,rfl,ha,rs⟩:=r1.of_lst
   exact ⟨a,xs,rfl,.inr ⟨SqL.of ha,fun p hp=>k _ _ _ n1 (new_lst (ok.step x1 g1).has hp rs.reverse) (x1.trans (.new hp)) (M.gext g1 (.new (S:=[]) hp) (by simp)) q⟩⟩
  | _=>cases e⟩
end
section
variable {prog:Program} {w:World} {A:Around} {E:Value->Shared->Prop} {s:Shared}
theorem collect_tup {t:Addr} {vs:List Value} {Q:List Value->Shared->Prop} (ht:s.heap.IsTuple t vs.toArray) (hsz:vs.length<=1000)
  (h:∀ h1:Heap,(∀ b o,s.heap.get? b=some o->h1.get? b=some o)->Q vs { s with heap:=h1 }):wpAny (model prog w) A (collect (.ref t)) Q E s:=by
 obtain ⟨o,ho,hc,n,hd⟩:=id ht
 have h6:sizeLine=16777216:=by decide
 (unfold collect; refine wpAny_bind (wpAny_runValue (codeAny_builtin entry_proto_collect' ?_)))
 show wpAny _ _ (newList [] >>= fun z=>again (.builtin "list.__iadd__" ⟨[z,.ref t],[]⟩)) _ _ s
 refine wpAny_bind (wpAny_newList (wpAny_pure ⟨Code.quiet_builtin _ (by decide +kernel),codeAny_builtin entry_list_iadd' (?_:wpAny _ _ _ _ _ _)⟩))
 show wpAny _ _ (Builtin.List.listExtendWith (.ref s.heap.objs.size) (.ref t) (.ref s.heap.objs.size)) _ _ { s with heap:=s.heap.push (seqObj "list" #[] 0) }
 have g:(s.heap.push (seqObj "list" #[] 0)).get? t=some o:=Heap.get?_push_of_some _ ho
 (unfold Builtin.List.listExtendWith; refine wpAny_bind (wpAny_typeOf (T := "tuple") ⟨o,g,hc⟩ ?_))
 rw [if_pos (by simp)]
 refine wpAny_bind (listItems_at g hd (wpAny_bind (listItems_at (xs:=#[]) (n:=0) (Heap.get?_push_size _ rfl) rfl ?_)))
 rw [if_neg (by simp)]
 refine wpAny_bind (listUpdate_at (xs:=#[]) (n:=0) (Heap.get?_push_size _ rfl) rfl (wpAny_pure ?_) (Nat.zero_le _) (by show (#[]++vs.toArray).size<=sizeLine + 1; simp only [Array.size_append,List.size_toArray,List.length_nil]; omega))
 show wpAny (model prog w) A (load s.heap.objs.size >>= _) Q E { s with heap:=(s.heap.push (seqObj "list" #[] 0)).update s.heap.objs.size (Obj.mapSeq (·++vs.toArray)) }
 refine wpAny_bind (wpAny_load (get?_update_seq (Heap.get?_push_size _ rfl) _) ?_)
 show wpAny _ _ (pure ((#[]:Array Value)++vs.toArray).toList) Q E _
 rw [show ((#[]:Array Value)++vs.toArray).toList=vs by simp]
 refine wpAny_pure (h _ fun b ob e=>?_)
 rw [Heap.get?_update_other _ _ (Nat.ne_of_gt (Heap.lt_size e))]
 exact Heap.get?_push_of_some _ e
end
section
variable {X:Cx}
theorem call_sortedT (K:W.Frag) (hk:X.K=K:=by rfl):CallR X (.builtin "sorted") (fun xs H Q=>∃ (p:Addr) (ns:List Int),xs=[.ref p]/\SqT K H p (ns.map V.int)/\ns.length < 64 /\
  ∀ (l:Addr) (ms:List Int),ms.Perm ns->ms.Pairwise (·<=·)->H l=none->Q (.ref l) (upd H l (.lst (ms.map V.int)))):=by
 subst hk
 intro pins s σ H xs us Q I r h
 obtain ⟨p,ns,rfl,hp,h64,q⟩:=h
 obtain ⟨u,rfl,ru⟩:=vals1 r
 cases ru
 obtain ⟨its,rv,ht,hz⟩:=I.tuple hp
 have hI:IntsAre its ns:=IntsAre.of_vals rv
 have hal:its.length < 64:=by rw [IntsAre.length hI]; exact h64
 refine Calls.call_function_entry kind_sorted plain_sorted entry_sorted (args_sorted1 _) ?_
 (unfold Builtin.«sorted»; refine wpAny_bind (m:=checkCount "sorted" 1 1 _) (wpAny_pure ?_))
 refine wpAny_bind (collect_tup (A:=X.A.in1) (show s.heap.IsTuple p its.toArray from ht) (by omega) fun h1 hkp=>?_)
 refine wpAny_bind (wpAny_newList ?_)
 have hoL:(h1.push (seqObj "list" its.toArray 0)).get? h1.objs.size=some (seqObj "list" its.toArray 0):=Heap.get?_push_size _ rfl
 show wpAny _ _ _ _ _ { s with heap:=h1.push (seqObj "list" its.toArray 0) }
 refine wpAny_bind (wpAny_holding (wpAny_call_entry slot_list_sort ⟨_,hoL,rfl⟩ entry_list_sort (list_sort_tree hoL hI hal fun out ns' a1 a2 a3=>⟨_,rfl,?_⟩) (args_list_sort _)))
 refine wpAny_pure ⟨_,rfl,?_⟩
 have hm:=a2.length_eq
 have hv:Vals (ns'.map V.int) out.toList:=Vals.of_ints a1
 have hsz:(ns'.map V.int).length<=sizeLine:=by rw [List.length_map,show sizeLine=16777216 by decide]; omega
 have I1:Inv X pins σ H { s with heap:=h1 }:=I.kept (t':=s.toks) hkp
 have kp2:∀ b ob,h1.get? b=some ob->(sortedHeap (h1.push (seqObj "list" its.toArray 0)) h1.objs.size its out).get? b=some ob:=by
  intro b ob e
  have hb:h1.objs.size≠b:=Nat.ne_of_gt (Heap.lt_size e)
  unfold sortedHeap
  rw [Heap.get?_update_other _ _ hb]
  refine Heap.get?_push_of_some _ (Heap.get?_push_of_some _ ?_)
  rw [Heap.get?_update_other _ _ hb]
  exact Heap.get?_push_of_some _ e
 have nw:∃ n,(sortedHeap (h1.push (seqObj "list" its.toArray 0)) h1.objs.size its out).get? h1.objs.size=some { cls:=.type "list",data:=.seq out n }:=by
  have g2:=Heap.get?_update_self (Obj.mapSeq fun _=>(#[]:Array Value)) hoL rfl
  have g3:=Heap.get?_push_of_some (seqObj "list" #[] 0) (Heap.get?_push_of_some (seqObj "tuple" its.toArray 0) g2)
  exact ⟨_,Heap.get?_update_self (Obj.mapSeq fun _=>out) g3 rfl⟩
 obtain ⟨n,nw⟩:=nw
 exact ⟨.ref h1.objs.size,_,I1.laid (t':=s.toks) (o:=.lst (ns'.map V.int)) kp2 (Nat.le_refl _) ⟨hsz,out.toList,n,hv,by simpa using nw⟩,rfl,q _ ns' a2 a3 (I1.hok.fresh (Nat.le_refl _))⟩
end
def uSrtA (u:UX):PEnv->Int->(List PyData->Int->Prop)->Prop:=fun env n Q=>u env n fun d n1=>bnd (seqD d) fun ds=>bnd (asInts ds) fun ns=>ns.length < 64/\Q ((sortI ns).map .int) n1
section
variable {X:Cx} {M:Fr} {e:Expr} {u:UX} {p pos:Pos}
theorem n_sortA (hm:X.mg "sorted" = none) (h:KL X M e u) (hg:Gl X "sorted" := by rfl) (hs:notStar e=true:=by rfl):KN X M (.Call (.Name "sorted" p) [e] [] pos) (uSrtA u) :=
 .of (qe_callB (show CallR X (.builtin "sorted") _ from fun pins s σ H xs us Q I r (hh:(∃ (p:Addr) (ns:List Int),xs=[.ref p]/\(SqL X.K H p (ns.map V.int)\/SqT X.K H p (ns.map V.int))/\ns.length < 64/\∀ (l:Addr) (ms:List Int),ms.Perm ns->ms.Pairwise (·<=·)->H l=none->Q (.ref l) (upd H l (.lst (ms.map V.int)))))=>by
  obtain ⟨p,ns,e1,sq,rest⟩:=hh
  rcases sq with sq | sq
  ·exact call_sortedL X.K rfl pins s σ H xs us Q I r ⟨p,ns,e1,sq,rest⟩
  ·exact call_sortedT X.K rfl pins s σ H xs us Q I r ⟨p,ns,e1,sq,rest⟩) hg hm (by decide +kernel) (qa_c h.run qa_nil hs)) fun σ H R env pn S n Q ok hu k=>⟨env,pn,S,n,_,ok,hu,fun v H1 d n1 r1 x1 g1 _ q=>by
  obtain ⟨ds,es,ns,ei,hl,q⟩:=q
  have e2:=asInts_of ei
  subst e2
  have fin:∀ (l:Addr) (ms:List Int),ms.Perm ns->ms.Pairwise (·<=·)->H1 l=none->R (.ref l) (upd H1 l (.lst (ms.map V.int))):=fun l ms pm ps hl=>by
   have em:ms=sortI ns:=sorted_one (pm.trans (sortI_perm ns).symm) ps (sortI_sorted ns)
   subst em
   exact k l _ _ _ n1 (fresh0 ok x1 g1 hl) upd_same (.ints _) (x1.trans (.new hl)) (M.gext g1 (.new (S:=[]) hl) (by simp)) q
  cases d with
  | list xs =>
   cases es
   obtain ⟨a,xs,rfl,sq,_,rs⟩:=r1.sqL (K:=X.K)
   rw [reps_ints rs] at sq
   exact ⟨a,ns,rfl,.inl sq,hl,fin⟩
  | tuple xs =>
   cases es
   obtain ⟨a,xs,rfl,sq,_,rs⟩:=r1.sqT (K:=X.K)
   rw [reps_ints rs] at sq
   exact ⟨a,ns,rfl,.inr sq,hl,fin⟩
  | _=>cases es⟩
end
structure RoomH (k:Nat) (A:Around):Prop where
 dp:A.depth + 3 * k + 5 < recursionLimit
 un:A.units + 16 * k + 200 < cLine
 gd:A.guards=some []
theorem Room.h {k:Nat} {A:Around} (r:Room k A) (v:Option Value):RoomH k (A.mark v):=⟨r.dp,r.un,r.gd⟩
theorem RoomH.mono {j k:Nat} {A:Around} (r:RoomH k A) (h:j<=k):RoomH j A:=⟨by have:=r.dp; omega,by have:=r.un; omega,r.gd⟩
abbrev Cx.low (X:Cx):Cx:={ X with calm:=false,xe:=fun _ _=>False }
structure DefH (P:Program) (w:World) (K:W.Frag) (mg:Str->Option Value) (base:Heap) (k:Nat) (x:Str) (ps:List Str) (sp:Sp):Prop where
 ex:∃ (f:Addr) (fd:FuncData),(∀ vs H Q E,sp vs H Q E->vs.length=ps.length)/\(∀ (A:Around) (outer:List Env) (s:Shared) (H:Hp) (args:Args) (us:List Value) (vs:List V) (Q:VK) (E:XK),RoomH k A->Env0 P w K mg base A outer s H->BindsTo s fd args (ps.zip us)->Vals vs us->sp vs H Q E ->
  codeAny (model P w) A (.call (.ref f) args) (CR CX0 outer P w H s Q E) s)/\mg x=some (.ref f)/\W.keepIn K (.ref f)=true/\Binds K fd ps []
section
variable {P:Program} {w:World} {K:W.Frag} {mg:Str->Option Value} {base:Heap} {k:Nat} {x qual:Str} {st:Stmt} {f:Addr} {fd:FuncData} {N ps:List Str} {sp:Sp}
theorem Fun.okH (F:Fun K x qual st f fd) (hm:mg x=some (.ref f)) (S:FnScope N ps (defScope st)) (hbi:Binds K fd ps []) (len:∀ vs H Q E,sp vs H Q E->vs.length=ps.length)
  (hbody:∀ (cdv:Value) (A:Around) (outer:List Env) (s:Shared) (H:Hp) (vs:List V) (Q:VK) (E:XK),sp vs H Q E ->
   ∃ t,QSs (cxOf CX0 P w K mg base N qual (defScope st) f cdv A outer s H E).low (defBody st) t/\t { nx:=fun _ H'=>Q .non H',rt:=Q } (start N vs) H):DefH P w K mg base (k + 1) x ps sp:=by
 have hkp:=F.kp
 obtain ⟨oc,od,kV,doc,pm,an,cdv,ct,osl,rfl,lk,hcd⟩:=F.ex
 refine ⟨f,_,len,fun A outer s H args us vs Q E hr e0 hb r hsp=>?_,hm,hkp,hbi⟩
 have hl:=len _ _ _ _ hsp
 have KX:K.In s.heap:=e0.mod.kin.keeps fun b o e=>(e0.bs b o e).1
 have lim:s.heap.NoLimit:=e0.mod.nolimit.keeps fun b o e=>(e0.bs b o e).1
 have hkind:∀ y∈ps.zip us,(defScope st).names.lookup y.1=some .local\/((defScope st).names.lookup y.1=some .cell/\((cellsFrom (s.heap.objs.size + 1) (defScope st).names []).lookup y.1).isSome=true):=fun ⟨n,v⟩ hy=>by
  rcases S.par n (List.of_mem_zip hy).1 with q | q
  ·exact .inl q
  ·exact .inr ⟨q,W.cellsFrom_some _ _ _ (.inl q)⟩
 refine codeAny_call_function (by have:=hr.dp; omega) (KX _ _ lk) rfl S.co S.gen rfl (W.codeRec_of KX hcd) (hb _ _ _ _ ?_)
 refine wpAny_newFunctionEnv_cells S.kind hkind fun env he s1 x=>?_
 subst he
 refine ⟨lim.keeps x.toInCall.keep,codeAny_func ?_⟩
 obtain ⟨t,ht,hq⟩:=hbody cdv A outer s H vs Q E hsp
 have I0:Inv (cxOf CX0 P w K mg base N qual (defScope st) f cdv { A with handled:=none } outer s H E) [] (start N vs) H s1:=inv_start S rfl ⟨e0.frames,e0.mod,e0.bs,e0.bsz,e0.funs,e0.frf,e0.hok,e0.bare⟩ hl r x
 have I:Inv (cxOf CX0 P w K mg base N qual (defScope st) f cdv A outer s H E).low [] (start N vs) H s1 :=
  ⟨⟨I0.ok.mod,I0.ok.kind,I0.ok.glob,I0.ok.blt,I0.ok.above,I0.ok.inj,I0.ok.has,I0.ok.cab,fun z=>(by cases z),I0.ok.frames,I0.ok.stk,I0.ok.exf,I0.ok.bs,I0.ok.bsz,I0.ok.noex,I0.ok.exfs,I0.ok.funs,I0.ok.frf⟩,I0.os,I0.bare,I0.base,I0.loc,I0.cell,I0.free,I0.freeC,I0.pin,I0.hok,I0.len⟩
 refine wpAny_mono (ht.run [] s1 (start N vs) H _ I hq) (fun fl s' hs=>?_) fun e s' hs=>hs.elim
 have fin:∀ {σ':St} {H':Hp} {v:V} {u:Value},Inv (cxOf CX0 P w K mg base N qual (defScope st) f cdv A outer s H E).low [] σ' H' s'->RelV v u->Q v H'->CE outer P w H s Q u s' :=
  fun {σ' H' v u} J rv q=>⟨v,H',J.os,J.bare,J.base,J.hok,rv,q⟩
 cases fl with
 | ret u =>
  obtain ⟨v,σ',H',J,rv,q⟩:=hs
  exact fin J rv q
 | next =>
  obtain ⟨σ',H',J,q⟩:=hs
  exact fin (v:=V.non) (u:=Value.none) J rfl q
 | brk =>
  obtain ⟨_,_,_,q⟩:=hs
  exact False.elim q
 | cont =>
  obtain ⟨_,_,_,q⟩:=hs
  exact False.elim q
end
section
variable {X:Cx} {k:Nat} {x:Str} {ps:List Str} {sp:Sp} {e:Expr} {es:List Expr} {t:TA} {p pos:Pos}
theorem qe_callH (D:DefH X.prog X.w X.K X.mg X.base k x ps sp) (hr:RoomH k X.A) (ha:QA X (e::es) t) (hg:Gl X x:=by rfl) (hdb:(x == ("__debug__" : Str))=false:=by decide):QE X (.Call (.Name x p) (e::es) [] pos) (tCallD sp t):=by
 obtain ⟨f,fd,len,run,hm,hk,hb⟩:=D.ex
 refine ⟨?_⟩
 intro pins s σ H Q I h
 refine wpAny_Call_Name_kw (ld_glob I hg hm ?_ hdb)
 refine W.callWith_K (h₀:=X.base) I.ok.mod.kin hk (thn (ha.run pos pins s σ H _ I h) fun us s1 ⟨vs,H1,I1,r,q⟩=>⟨I1.kIn,?_⟩) (starEach_ns (ns_hd ha.ns).1) (backTo_ns (ns_hd ha.ns).2)
 have hl:us.length=ps.length:=by rw [<- r.length]; exact len _ _ _ _ q
 have hbt:=hb s1 us I1.kIn (by rw [List.append_nil]; exact hl)
 rw [List.append_nil] at hbt
 refine wpAny_call (codeAny_mono (run X.A X.stack s1 H1 ⟨us,[]⟩ us vs Q E0 hr I1.env0 hbt r q) fun r s' hq=>?_)
 cases r with
 | error e=>exact hq.elim
 | ok fl =>
  cases fl with
  | ret u=>exact I1.after hq
  | next=>exact False.elim hq
  | brk=>exact False.elim hq
  | cont=>exact False.elim hq
end
abbrev UE:=Str->List PyData->Int->(PyData->Int->Prop)->Prop
def spE (C:Xc) (F:UE):Sp:=fun vs H Q E=>∃ S c as n Qp a dx ws,vs=[.ref a]/\H a=some (.ext (xfly a (.ref (C.cl c)) (some dx)))/\H dx=some (.ext (xdict dx ((C.fl c).zip ws)))/\Reps S H as ws/\(∀ a∈S,H a≠none)/\F c as n Qp/\(∀ d v H',Rep S H' d v->Ext [] H H'->Qp d n->Q v H')
def mkE (N:Nat) (u:US):UE:=fun c as n Q=>u { nx:=fun _ n'=>Q .none n',rt:=Q } (some (.x c as)::List.replicate (N - 1) none) n
section
variable {P:Program} {w:World} {K:W.Frag} {mg:Str->Option Value} {base:Heap} {k:Nat} {x qual p1:Str} {st:Stmt} {f:Addr} {fd:FuncData} {N:List Str} {C:Xc} {u:US}
theorem defE (F:Fun K x qual st f fd) (hm:mg x=some (.ref f)) (sc:FnScope N [p1] (defScope st)) (hb:Binds K fd [p1] []) (hN:1<=N.length)
  (body:∀ (cdv:Value) (A:Around) (outer:List Env) (s:Shared) (H:Hp) (E:XK) (n0:Int) (S:List Addr) (has:∀ a∈S,H a≠none),KSs (cxOf CX0 P w K mg base N qual (defScope st) f cdv A outer s H E).low (Fr.pure C n0 S H has) (defBody st) u) :
  DefH P w K mg base (k + 1) x [p1] (spE C (mkE N.length u)):=by
 refine F.okH hm sc hb (fun vs H Q E h=>?_) (fun cdv A outer s H vs Q E h=>?_)
 ·obtain ⟨S,c,as,n,Qp,a,dx,ws,rfl,_⟩:=h
  rfl
 ·obtain ⟨S,c,as,n,Qp,a,dx,ws,rfl,ha,hdx,r,has,hF,hq⟩:=h
  obtain ⟨m,hm1⟩:∃ m,N.length=m + 1:=⟨N.length - 1,by omega⟩
  have hst:start N [V.ref a]=some (V.ref a)::List.replicate (N.length - 1) none:=rfl
  refine ⟨_,(body cdv A outer s H E n S has).run,some (.x c as)::List.replicate (N.length - 1) none,[],S,n,_,?_,hF,fun env' σ' S' H' n' ok q=>?_,fun v H' d n' rv x g q=>?_⟩
  ·rw [hst]
   refine ⟨fun i e h=>?_,fun i j a b c h1=>?_,by simp,(by intro i hi; cases hi),rfl,.refl _ _,fun a h=>h,fun a h=>.inl h,has,fun p hp=>by cases hp⟩
   ·cases i with
    | zero =>
     simp only [List.getElem?_cons_zero,Option.some.injEq] at h
     subst h
     exact ⟨_,rfl,a,dx,ws,rfl,ha,hdx,r,⟨fun z=>(by cases z),fun z=>(by cases z)⟩⟩
    | succ i =>
     rw [List.getElem?_cons_succ,List.getElem?_replicate] at h
     split at h <;> cases h
   ·cases i with
    | zero=>cases h1
    | succ i =>
     rw [List.getElem?_cons_succ,List.getElem?_replicate] at h1
     split at h1 <;> cases h1
  ·have e:n'=n:=ok.gd
   subst e
   exact hq _ _ H' .non ok.ext q
  ·have e:n'=n:=g
   subst e
   exact hq d v H' rv x q
end
def uCallE (F:UE) (i:Nat):UX:=fun env n Q=>match env[i]? with | some (some (.x c as))=>F c as n Q | _=>False
theorem k_callE {X:Cx} {M:Fr} {k:Nat} {x p1:Str} {F:UE} {p pos p2:Pos} {C:Xc} (i:Nat) {y:Str} (hM:M.xc=C) (D:DefH X.prog X.w X.K X.mg X.base k x [p1] (spE C F)) (hr:RoomH k X.A)
  (hN:X.N[i]? = some y:=by rfl) (hv:Vis X.env.scope y:=by first | exact Or.inl rfl | exact Or.inr (Or.inl rfl) | exact Or.inr (Or.inr rfl)) (hd:(y == ("__debug__" : Str))=false:=by decide) (hcd:(y == ("__classdict__" : Str))=false:=by decide)
  (hg:Gl X x:=by rfl) (hdb:(x == ("__debug__" : Str))=false:=by decide):KE X M (.Call (.Name x p) [.Name y p2] [] pos) (uCallE F i) :=
 .of (qe_callH D hr (qa_c (qv i hN hv hd hcd) qa_nil rfl) hg hdb) fun σ H R env pn S n Q ok hu k=>by
  unfold uCallE at hu
  split at hu
  ·rename_i c as he
   obtain ⟨v,hv,a,dx,vs,rfl,ha,hdx,rv,_⟩:=ok.val i _ he
   subst hM
   exact ⟨_,hv,S,c,as,n,Q,a,dx,vs,rfl,ha,hdx,rv,ok.has,hu,fun d v H2 r2 x2 q2=>k v H2 d n r2 (x2.mono (by simp)) (M.gext ok.gd x2 (by simp)) q2⟩
  ·exact hu.elim
theorem RM {d k:Nat} {A:Around} (hr:Room k A) (h:d<=k:=by decide):Room d A:=hr.mono h
theorem nd (N:List Str) (h:N.Nodup:=by decide +kernel):N.Nodup:=h
theorem co (N:List Str) (s:Scope) {sc:Scope} {N':List Str} {mp:List (Option Nat)} (h:compOk N s sc N' mp=true:=by decide +kernel):compOk N s sc N' mp=true:=h
theorem scm {N ps:List Str} {s:Scope} (h1:s.kind=.function:=by rfl) (h2:s.isCoroutine=false:=by rfl) (h3:s.isGenerator=false:=by rfl) (h4:N.Nodup:=by decide +kernel) (h5:N.take ps.length=ps:=by rfl)
  (h6:∀ x∈ps,s.names.lookup x=some .local\/s.names.lookup x=some .cell:=by decide +kernel) (h7:∀ y∈s.names,y.2≠.free:=by decide +kernel):FnScope N ps s:=⟨h1,h2,h3,h4,h5,h6,h7⟩
theorem nxs {us:List UG} (is:List Nat) (h:us=is.map uNm:=by rfl):∀ u∈us,∀ d env (Q:PEnv->Prop),u d env Q->∃ env',Q env':=fun u hu=>by
 subst h
 obtain ⟨i,_,rfl⟩:=List.mem_map.mp hu
 exact nm_ex
section
variable {X:Cx} {M:Fr} {e:Expr} {ue:UX} {pos pos':Pos} {x:Str}
theorem g_m (i:Nat) (hN:X.N.Nodup) (hx:Loc X.env.scope x:=by exact Or.inl rfl) (hi:X.N[i]? = some x:=by rfl) (hf:X.fn x=true\/X.env.scope.names.lookup x=some .local:=by first | exact .inl rfl | exact .inr rfl | assumption) (hfd:i ∉ M.fd:=by exact nf _ _ rfl):KG X M (.Name x pos) (uNm i):=g_n hN hx hi hf hfd
theorem s_st (i:Nat) (hN:X.N.Nodup) (h:KE X M e ue) (hx:Loc X.env.scope x:=by exact Or.inl rfl) (hi:X.N[i]? = some x:=by rfl) (hs:swapsWith e (some (.Name x pos')) pos.line X.env=pure false:=by rfl)
  (hf:X.fn x=true\/X.env.scope.names.lookup x=some .local:=by first | exact .inl rfl | exact .inr rfl | assumption) (hfd:i ∉ M.fd:=by exact nf _ _ rfl):KS X M (.Assign [.Name x pos'] e pos) (uSet i ue):=s_set hN hx h hi hs hf hfd
theorem s_nw (i:Nat) {un:PEnv->Int->(List PyData->Int->Prop)->Prop} (hN:X.N.Nodup) (h:KN X M e un) (hx:Loc X.env.scope x:=by exact Or.inl rfl) (hi:X.N[i]? = some x:=by rfl) (hs:swapsWith e (some (.Name x pos')) pos.line X.env=pure false:=by rfl)
  (hf:X.fn x=true\/X.env.scope.names.lookup x=some .local:=by first | exact .inl rfl | exact .inr rfl | assumption) (hfd:i ∉ M.fd:=by exact nf _ _ rfl):KS X M (.Assign [.Name x pos'] e pos) (uNew i un):=s_new hN hx h hi hs hf hfd
end
structure FM (K:W.Frag) (mg:Str->Option Value) (x:Str) (st:Stmt):Prop where
 ex:∃ f fd,Fun K x x st f fd/\mg x=some (.ref f)
structure FOk (K:W.Frag) (x:Str) (st:Stmt):Prop where
 ex:∃ f fd,Fun K x x st f fd/\W.nsIn K mainGlobals x=some (some (.ref f))
theorem FOk.of {K:W.Frag} {x:Str} {st:Stmt} {f:Addr} {oc:Value} {od an:Option Addr} {osl:Array (Option Value)} {kV doc pm cdv ct:Value} (a:W.nsIn K mainGlobals x=some (some (.ref f))) (l:K.lookup f=some ⟨oc,od,.func (W.fnOf x x (defArgs st) (defBody st) (defScope st) .none kV doc pm an cdv ct),osl⟩)
  (c:W.codeIn K cdv x=true) (k:W.keepIn K (.ref f)=true):FOk K x st:=⟨f,_,fun_mk l c k,a⟩
theorem FOk.m {K:W.Frag} {x:Str} {st:Stmt} {h:Heap} {mg:Str->Option Value} (a:FOk K x st) (X:K.In h) (G:h.Ns mainGlobals mg):FM K mg x st :=
 let ⟨f,fd,F,n⟩:=a.ex; ⟨f,fd,F,W.mg_of X G n⟩
def AllF (K:W.Frag) (t:Nat->Stmt):List (Str × Nat)->Prop
 | []=>True
 | (x,i)::r=>FOk K x (t i)/\AllF K t r
theorem allF_nil {K:W.Frag} {t:Nat->Stmt}:AllF K t []:=trivial
theorem allF_c {K:W.Frag} {t:Nat->Stmt} {x:Str} {i:Nat} {r:List (Str × Nat)} (h:FOk K x (t i)) (hr:AllF K t r):AllF K t ((x,i)::r):=⟨h,hr⟩
def BD (x:Str) (st:Stmt) (ps:List Str):Prop:=∀ (kV doc pm:Value) (an:Option Addr) (cdv ct:Value) (us:List Value),us.length=ps.length->bindArgs (W.fnOf x x (defArgs st) (defBody st) (defScope st) .none kV doc pm an cdv ct) ⟨us,[]⟩=pure (ps.zip us)
section
variable {P:Program} {w:World} {K:W.Frag} {mg:Str->Option Value} {base:Heap} {x:Str} {st:Stmt} {N ps:List Str} {k:Nat} {C:Xc} {Y:Fam}
theorem defU2 (u:US) (N:List Str) (F:FM K mg x st)
  (body:FnScope N ps (defScope st)->∀ (f:Addr) (cdv:Value) (A:Around) (outer:List Env) (s:Shared) (H:Hp) (E:XK) (n0:Int) (S:List Addr) (has:∀ a∈S,H a≠none),Room k (A.deeper (envOfC x (defScope st) s.heap.objs.size f cdv))->(A.deeper (envOfC x (defScope st) s.heap.objs.size f cdv)).units + 64 < cLine->KSs (cxOf CX0 P w K mg base N x (defScope st) f cdv A outer s H E).nox (Fr.pure C n0 S H has) (defBody st) u)
  (sc:FnScope N ps (defScope st):=by exact scm) (hb:BD x st ps:=by intro _ _ _ _ _ _ us hl; first | (obtain ⟨_,rfl⟩:=len1 hl; rfl) | (obtain ⟨_,_,rfl⟩:=len2 hl; rfl) | (obtain ⟨_,_,_,rfl⟩:=len3 hl; rfl) | (obtain ⟨_,_,_,_,rfl⟩:=len4 hl; rfl) | (obtain ⟨_,_,_,_,_,rfl⟩:=len5 hl; rfl) | (obtain ⟨_,_,_,_,_,_,rfl⟩:=len6 hl; rfl) | (cases us <;> first | rfl | cases hl)) :
  DefOk P w K mg base (k + 1) x ps (spU C (mkF N.length ps.length fun _=>u)) :=
 let ⟨f,_,F,hm⟩:=F.ex; defU (u:=fun _=>u) F hm sc (F.binds hb) fun cdv A outer s H E n0 S has hr=>body sc f cdv A outer s H E n0 S has hr hr.units
theorem defX2 (u:XQ->US) (N:List Str) (F:FM K mg x st)
  (body:FnScope N ps (defScope st)->∀ (f:Addr) (cdv:Value) (A:Around) (outer:List Env) (s:Shared) (H:Hp) (E:XK) (n0:Int) (S:List Addr) (has:∀ a∈S,H a≠none) (Ex:XQ),(∀ c as,Ex c as->Rz C S [] H E c as)->Room k (A.deeper (envOfC x (defScope st) s.heap.objs.size f cdv))->(A.deeper (envOfC x (defScope st) s.heap.objs.size f cdv)).units + 64 < cLine->Leaves (cxOf (CX1 P w) P w K mg base N x (defScope st) f cdv A outer s H E) E ->
   KSs (cxOf (CX1 P w) P w K mg base N x (defScope st) f cdv A outer s H E) (Fr.pure C n0 S H has) (defBody st) (u Ex))
  (sc:FnScope N ps (defScope st):=by exact scm) (hb:BD x st ps:=by intro _ _ _ _ _ _ us hl; first | (obtain ⟨_,rfl⟩:=len1 hl; rfl) | (obtain ⟨_,_,rfl⟩:=len2 hl; rfl) | (obtain ⟨_,_,_,rfl⟩:=len3 hl; rfl) | (obtain ⟨_,_,_,_,rfl⟩:=len4 hl; rfl) | (obtain ⟨_,_,_,_,_,rfl⟩:=len5 hl; rfl) | (obtain ⟨_,_,_,_,_,_,rfl⟩:=len6 hl; rfl)) :
  DefX P w K mg base (k + 1) x ps (spU C (mkF N.length ps.length u)) :=
 let ⟨f,_,F,hm⟩:=F.ex; defX F hm sc (F.binds hb) fun cdv A outer s H E n0 S has Ex hx hr=>body sc f cdv A outer s H E n0 S has Ex hx hr hr.units leaves_cx
theorem defF2 (u:US) (N:List Str) (F:FM K mg x st)
  (body:FnScope N ps (defScope st)->∀ (f:Addr) (cdv:Value) (A:Around) (outer:List Env) (s:Shared) (H:Hp) (E:XK) (fa sa:Addr) (n0:Int) (S:List Addr) (hf:Y.Feed H fa sa n0) (hS:fa∈S) (has:∀ a∈S,H a≠none),Room k (A.deeper (envOfC x (defScope st) s.heap.objs.size f cdv))->(A.deeper (envOfC x (defScope st) s.heap.objs.size f cdv)).units + 64 < cLine ->
   KSs (cxOf CX0 P w K mg base N x (defScope st) f cdv A outer s H E).nox (Fr.feed C Y 0 fa sa n0 S H hf hS has) (defBody st) u)
  (sc:FnScope N ps (defScope st):=by exact scm) (hN:1<=N.length:=by decide) (hb:BD x st ps:=by intro _ _ _ _ _ _ us hl; first | (obtain ⟨_,rfl⟩:=len1 hl; rfl) | (obtain ⟨_,_,rfl⟩:=len2 hl; rfl) | (obtain ⟨_,_,_,rfl⟩:=len3 hl; rfl) | (obtain ⟨_,_,_,_,rfl⟩:=len4 hl; rfl) | (obtain ⟨_,_,_,_,_,rfl⟩:=len5 hl; rfl) | (obtain ⟨_,_,_,_,_,_,rfl⟩:=len6 hl; rfl)) :
  DefOk P w K mg base (k + 1) x ps (spUF Y (mkFF N.length ps.length fun _=>u)) :=
 let ⟨f,_,F,hm⟩:=F.ex; defF (u:=fun _=>u) F hm sc (F.binds hb) hN fun cdv A outer s H E fa sa n0 S hf hS has hr=>body sc f cdv A outer s H E fa sa n0 S hf hS has hr hr.units
end
section
variable {X:Cx} {M:Fr} {a b e:Expr} {ua ub:UX} {pos p p2:Pos}
def isTrueD (x:PyData):Bool:=match x with | .bool b=>b | _=>false
def isTD (x y:PyData):Option PyData:=match y with | .bool true=>some (.bool (isTrueD x)) | _=>none
theorem is_true_gen {M:Model} {A:Around} {E:Value->Shared->Prop} {s:Shared} {Q:Value->Shared->Prop} {v:Value} (hv:∀ f,v≠.builtin f) (h:Q (.bool (v == .bool true)) s):wpAny M A (compareOp .Is v (.bool true)) Q E s:=by
 cases v with
 | builtin f=>exact absurd rfl (hv f)
 | _=>exact wpAny_pure h
def datV:V->Bool | .non=>true | .bl _=>true | .int _=>true | .str _=>true | .ref _=>true | _=>false
theorem datV_not {x:V} {v:Value} (hx:datV x=true) (r:RelV x v):∀ f,v≠.builtin f:=fun f=>by
 cases x <;> first
  | (cases hx; done)
  | (cases r; intro z; cases z; done)
  | (obtain ⟨t,rfl⟩:=r; intro z; cases z)
theorem op_isT:OpR X (compareOp .Is) (fun x y H Q=>y=.bl true/\datV x=true/\Q (.bl (decide (x=.bl true))) H):=by
 intro pins s σ H x y v u Q I rx ry h
 obtain ⟨rfl,hx,q⟩:=h
 cases ry
 refine is_true_gen (datV_not hx rx) (fin_bl I q ?_)
 cases x <;> first
  | (cases hx; done)
  | (rename_i b; cases rx; cases b <;> rfl)
  | (cases rx; rfl)
  | (obtain ⟨t,rfl⟩:=rx; rfl)
theorem rep_true {S:List Addr} {H:Hp}:∀ {d:PyData} {v:V},Rep S H d v->(isTrueD d=decide (v=.bl true)/\datV v=true)
 | .none,_,h=>by rw [h.of_non]; exact ⟨rfl,rfl⟩
 | .bool b,_,h=>by rw [h.of_bl]; cases b <;> exact ⟨rfl,rfl⟩
 | .int i,_,h=>by rw [h.of_int]; exact ⟨rfl,rfl⟩
 | .str i,_,h=>by rw [h.of_str]; exact ⟨rfl,rfl⟩
 | .tuple ds,_,h=>by obtain ⟨a,_,rfl,_⟩:=h.of_tup; exact ⟨rfl,rfl⟩
 | .list ds,_,h=>by obtain ⟨a,_,rfl,_⟩:=h.of_lst; exact ⟨rfl,rfl⟩
 | .dict _,_,h=>by cases h
theorem RepL.isT {gs S:List Addr} {H:Hp} {d:PyData} {v:V} (r:RepL gs S H d v):isTrueD d=decide (v=.bl true)/\datV v=true:=by
 rcases r with r | ⟨ds,a,xs,rfl,rfl,_⟩
 ·exact rep_true r
 ·exact ⟨rfl,rfl⟩
theorem o_isT:OpD X (compareOp .Is) isTD:=⟨_,op_isT,fun gs S H dx dy x y d R _ _ r1 r2 e k=>by
 unfold isTD at e
 split at e
 ·cases e; exact ⟨r2.of_bl,r1.isT.2,r1.isT.1 ▸ k _ H (.bl _) (.refl _ _)⟩
 ·cases e⟩
def eqID:PyData->PyData->Option PyData | .int i,.int j=>some (.bool (decide (i=j))) | _,_=>none
theorem o_eqI:OpD X (compareOp .Eq) eqID:=⟨_,op_eq,fun gs S H dx dy x y d R _ _ r1 r2 e k=>by
 cases dx with
 | int i=>cases dy with
  | int j =>
   cases e
   rw [r1.of_int,r2.of_int]
   refine ⟨rfl,?_⟩
   have:decide (V.int i=V.int j)=decide (i=j):=by rw [decide_eq_decide]; simp
   rw [this]
   exact k _ H (.bl _) (.refl _ _)
  | _=>cases e
 | _=>cases e⟩
end
end L2
namespace PySem
open Sem (wp)
open PyProof.Rows Builtin Builtin.Frozenset
section
variable {prog:Program} {w:World} {A:Around} {E:Value->Shared->Prop} {s:Shared}
theorem entry_set_ne':entryFor table "set.__ne__" = some Builtin.«frozenset.__ne__»:=entryFor_alias (id' := "frozenset.__ne__") (by kernel_rfl) rfl (by decide +kernel) (by kernel_rfl)
theorem seti_find {a:Addr} {ns:List Int} {k:Int} {tk:Tok} {Q:Option Nat->Shared->Prop} (hS:SetI w a ns s.heap) (h:∀ r:Option Nat,r.isSome=decide (k∈ns)->Q r s):wpAny (model prog w) A (setFind a (.int k tk) (hashInt k)) Q E s:=by
 obtain ⟨o,es,ep,t,ho,x,hd,h1,h2,h3,h4,h5⟩:=hS
 have e1:ElemsOf (intKind prog w) es.toList:=h1.elems
 have hki:(intKind prog w).is k (.int k tk)=true:=intKind_is _ _ _ _
 unfold setFind setFindIn
 refine wpAny_bind (wpAny_setState_of ho hd h4 ?_)
 dsimp only
 rw [byScan_of (knd:=intKind prog w) (x:=.int k tk) rfl h3 e1]
 simp only [↓reduceIte]
 refine wpAny_bind (wpAny_rule (wpAny_bind (wpAny_setScan_of (knd:=intKind prog w) hki ho hd h4 e1 ?_)))
 have hin:k∈ns↔∃ e∈es.toList,(intKind prog w).is k e.2=true:=by rw [<- h2.mem_iff]; exact h1.has
 cases hf:List.findIdx? (fun e=>(intKind prog w).is k e.2) es.toList with
 | some j =>
  obtain ⟨hj,hpj,_⟩:=List.findIdx?_eq_some_iff_getElem.mp hf
  refine wpAny_pure (h _ ?_)
  rw [decide_eq_true (hin.mpr ⟨_,List.getElem_mem hj,hpj⟩)]
  rfl
 | none =>
  refine wpAny_pure (h _ ?_)
  rw [decide_eq_false fun z=>?_]
  ·rfl
  ·obtain ⟨e,he,q⟩:=hin.mp z
   have:=List.findIdx?_eq_none_iff.mp hf e he
   rw [q] at this
   cases this
theorem seti_size {a:Addr} {ns:List Int} {Q:Nat->Shared->Prop} (hS:SetI w a ns s.heap) (h:Q ns.length s):wpAny (model prog w) A (Frozenset.sizeOf a) Q E s:=by
 obtain ⟨o,es,ep,t,ho,x,hd,h1,h2,h3,h4,h5⟩:=hS
 have hlen:es.size=ns.length:=by
  have a1:=h2.length_eq
  rw [h1.len,Array.length_toList] at a1
  exact a1
 unfold Frozenset.sizeOf setEntries
 refine wpAny_bind (wpAny_bind (wpAny_setState_of ho hd h4 (wpAny_pure (wpAny_pure ?_))))
 show Q es.size s
 rw [hlen]
 exact h
theorem forIn_all {α β:Type} {f:α->β->Sem (ForInStep β)} {p:α->Bool} {st dn:β} {R:β->Shared->Prop}:∀ (l:List α),(∀ e∈l,∀ R':ForInStep β->Shared->Prop,R' (if p e=true then .yield st else .done dn) s->wpAny (model prog w) A (f e st) R' E s)->R (if l.all p=true then st else dn) s->wpAny (model prog w) A (forIn l st f) R E s
 | [],_,h=>wpAny_pure h
 | e::l,hf,h=>by
  rw [List.forIn_cons]
  refine wpAny_bind (hf e (List.mem_cons_self ..) _ ?_)
  cases hp:p e with
  | true =>
   rw [List.all_cons,hp,Bool.true_and] at h
   exact forIn_all l (fun e he=>hf e (List.mem_cons_of_mem _ he)) h
  | false =>
   rw [List.all_cons,hp,Bool.false_and] at h
   exact wpAny_pure h
theorem seti_sub {id:String} {a b:Addr} {ns ms:List Int} {Q:Bool->Shared->Prop} (ha:SetI w a ns s.heap) (hb:SetI w b ms s.heap) (hl:ns.length<=ms.length) (h:Q (ns.all fun k=>decide (k∈ms)) s):wpAny (model prog w) A (subsetOf id a b) Q E s:=by
 have ha0:=ha
 have hb0:=hb
 obtain ⟨o,es,ep,t,ho,x,hd,h1,h2,h3,h4,h5⟩:=ha
 obtain ⟨o',es',ep',t',ho',x',hd',h1',h2',h3',h4',h5'⟩:=hb
 unfold subsetOf
 refine wpAny_bind (seti_size ha0 (wpAny_bind (seti_size hb0 ?_)))
 rw [if_neg (by omega)]
 refine wpAny_bind ?_
 unfold setEpoch
 refine wpAny_bind (wpAny_setState_of ho hd h4 (wpAny_pure ?_))
 refine wpAny_bind ?_
 unfold walkUnseen setEntries
 refine wpAny_bind (wpAny_bind (wpAny_setState_of ho hd h4 (wpAny_pure ?_)))
 refine wpAny_bind (wpAny_bind (wpAny_setState_of ho' hd' h4' (wpAny_pure ?_)))
 refine wpAny_bind (forIn_all (p:=fun _=>true) (dn:=(none,())) _ (fun e he R' hR=>?_) ?_)
 ·obtain ⟨k,tk,rfl⟩:∃ k tk,e=(hashInt k,Value.int k tk):=by
   rcases List.mem_append.mp he with he | he
   ·exact h1 e he
   ·exact h1' e he
  exact wpAny_bind (wpAny_pure (wpAny_pure hR))
 rw [ite_self]
 refine wpAny_pure ?_
 refine wpAny_bind (forIn_all (p:=fun e=>match iOf e with | some k=>decide (k∈ms) | none=>false) (dn:=(some false,())) _ (fun e he R' hR=>?_) ?_)
 ·obtain ⟨k,tk,rfl⟩:=h1 e he
  refine wpAny_bind (wpAny_holding (seti_find hb0 fun r hr=>?_))
  have hR':R' (if decide (k∈ms)=true then ForInStep.yield (none,()) else ForInStep.done (some false,())) s:=hR
  by_cases hk:k∈ms
  ·rw [decide_eq_true hk] at hr
   rw [if_pos (decide_eq_true hk)] at hR'
   cases r with
   | none=>cases hr
   | some v =>
    simp only [Option.isNone_some,Bool.false_eq_true,if_false]
    refine wpAny_bind ?_
    unfold unchanged setEpoch
    refine wpAny_bind (wpAny_bind (wpAny_setState_of ho hd h4 (wpAny_pure ?_)))
    dsimp only
    rw [if_neg (by simp)]
    exact wpAny_pure (wpAny_pure hR')
  ·rw [decide_eq_false hk] at hr
   rw [if_neg (by simpa using hk)] at hR'
   cases r with
   | some v=>cases hr
   | none =>
    simp only [Option.isNone_none,if_true]
    exact wpAny_pure hR'
 ·have e:(es.toList.all fun e=>match iOf e with | some k=>decide (k∈ms) | none=>false)=ns.all fun k=>decide (k∈ms):=by
   have e1:(es.toList.filterMap iOf).all (fun k=>decide (k∈ms))=ns.all fun k=>decide (k∈ms):=by
    rw [Bool.eq_iff_iff,List.all_eq_true,List.all_eq_true]
    exact ⟨fun z k hk=>z k (h2.mem_iff.mpr hk),fun z k hk=>z k (h2.mem_iff.mp hk)⟩
   rw [<- e1]
   have:∀ l:List (Int × Value),IEl l->(l.all fun e=>match iOf e with | some k=>decide (k∈ms) | none=>false)=(l.filterMap iOf).all fun k=>decide (k∈ms):=by
    intro l
    induction l with
    | nil=>intro _; rfl
    | cons e l ih =>
     intro hl
     obtain ⟨k,tk,rfl⟩:=hl e (List.mem_cons_self ..)
     rw [List.all_cons,ih fun e he=>hl e (List.mem_cons_of_mem _ he)]
     rfl
   exact this _ h1
  show wpAny _ _ _ _ _ _
  rw [e]
  cases hA:(ns.all fun k=>decide (k∈ms)) with
  | true=>rw [hA] at h; exact wpAny_pure h
  | false=>rw [hA] at h; exact wpAny_pure h
theorem seti_ne {a b:Addr} {ns ms:List Int} {Q:Value->Shared->Prop} (ha:SetI w a ns s.heap) (hb:SetI w b ms s.heap) (hu:A.units < cLine)
  (h:Q (.bool (!(decide (ns.length=ms.length) && ns.all fun k=>decide (k∈ms)))) s):wpAny (model prog w) A (compareOp .NotEq (.ref a) (.ref b)) Q E s:=by
 have hsub1:isSubtype (.type "set") (.type "set")=pure true:=by rw [isSubtype_type]; kernel_rfl
 have hsub2:isSubtype (.type "set") (.type "frozenset")=pure false:=by rw [isSubtype_type]; kernel_rfl
 show wpAny _ _ (richCompare .NotEq (.ref a) (.ref b)) Q E s
 refine wpAny_richCompare_same_room (op:=.NotEq) (T := "set") ha.type hb.type F.slot_set_ne (wpAny_call_entry F.slot_set_ne ha.type entry_set_ne' ?_ (F.args_set_ne_2 _ _)) hu
 refine wpAny_bind (wpAny_pure (a:=(Value.ref a,Value.ref b)) ?_)
 dsimp only
 refine wpAny_bind ?_
 unfold isAnySet
 refine wpAny_bind (wpAny_isInstance hb.type hsub1 (wpAny_pure ?_))
 simp only [Bool.not_true,Bool.false_eq_true,if_false]
 refine wpAny_bind (wpAny_pure (wpAny_bind (wpAny_pure (wpAny_bind (seti_size ha (wpAny_bind (seti_size hb (wpAny_bind ?_))))))))
 by_cases hl:ns.length=ms.length
 ·rw [if_neg (by simp [hl])]
  refine wpAny_bind (wpAny_bind (wpAny_isInstance ha.type hsub2 (wpAny_pure ?_)))
  simp only [Bool.false_eq_true,if_false]
  refine seti_sub ha hb (by omega) (wpAny_pure ?_)
  rw [decide_eq_true hl,Bool.true_and] at h
  exact ⟨_,rfl,by simp,h⟩
 ·rw [if_pos (by simpa using hl)]
  refine wpAny_pure (wpAny_pure ?_)
  rw [decide_eq_false hl,Bool.false_and] at h
  exact ⟨_,rfl,by simp,h⟩
end
end PySem
namespace L2
open PySem PySem.Spec PyProof.Rows
section
variable {X:Cx} {M:Fr} {e e2:Expr} {u u2:UX} {p q p2 q2 pos:Pos}
theorem op_setNe (w:World) (hu:X.A.units + 64 < cLine) (hw:X.w=w:=by rfl):OpR X (compareOp .NotEq) (fun x y H Q=>∃ (a b:Addr) (ns ms:List Int),x=.ref a/\y=.ref b/\H a=some (.ext (SetI w a ns))/\H b=some (.ext (SetI w b ms))/\Q (.bl (!(decide (ns.length=ms.length) && ns.all fun k=>decide (k∈ms)))) H):=by
 subst hw
 intro pins s σ H x y v u Q I rx ry h
 obtain ⟨a,b,ns,ms,rfl,rfl,ha,hb,q⟩:=h
 cases rx
 cases ry
 have sa:=(show ObjOk X.prog X.w H s.heap a (.ext (SetI X.w a ns)) from I.hok _ _ ha).1
 have sb:=(show ObjOk X.prog X.w H s.heap b (.ext (SetI X.w b ms)) from I.hok _ _ hb).1
 exact seti_ne sa sb (by omega) ⟨.bl _,H,I,rfl,q⟩
def uSetNe (u u2:UX):UX:=fun env n Q=>u env n fun d n1=>bnd (seqD d) fun ds=>bnd (asInts ds) fun ns=>ns.length < 4000/\u2 env n1 fun d2 n2=>bnd (seqD d2) fun ds2=>bnd (asInts ds2) fun ms=>ms.length < 4000/\Q (.bool (!decide (usortI ns=usortI ms))) n2
theorem set_same {ns ms ns' ms':List Int} (n1:ns'.Nodup) (n2:∀ k,k∈ns'↔k∈ns) (m1:ms'.Nodup) (m2:∀ k,k∈ms'↔k∈ms):(decide (ns'.length=ms'.length) && ns'.all fun k=>decide (k∈ms'))=decide (usortI ns=usortI ms):=by
 rw [Bool.eq_iff_iff,Bool.and_eq_true,decide_eq_true_iff,decide_eq_true_iff,List.all_eq_true]
 constructor
 ·rintro ⟨hl,hs⟩
  have hp:ns'.Perm ms':=by
   have hsub:∀ k∈ns',k∈ms':=fun k hk=>of_decide_eq_true (hs k hk)
   refine (List.perm_ext_iff_of_nodup n1 m1).mpr fun k=>⟨hsub k,fun hk=>Classical.byContradiction fun z=>?_⟩
   have:=nd_sub_len (ms:=k::ns') (ns:=ms') (List.nodup_cons.mpr ⟨z,n1⟩) fun j hj=>by
    rcases List.mem_cons.mp hj with rfl | hj
    ·exact hk
    ·exact hsub j hj
   rw [List.length_cons] at this
   omega
  have hm:∀ k,k∈usortI ns↔k∈usortI ms:=fun k=>by rw [mem_usortI,mem_usortI,<- n2,<- m2]; exact hp.mem_iff
  have hp2:(usortI ns).Perm (usortI ms):=(List.perm_ext_iff_of_nodup ((usortI_lt ns).imp fun h=>by omega) ((usortI_lt ms).imp fun h=>by omega)).mpr hm
  exact sorted_one hp2 ((usortI_lt ns).imp fun h=>by omega) ((usortI_lt ms).imp fun h=>by omega)
 ·intro he
  have hm:∀ k,k∈ns'↔k∈ms':=fun k=>by rw [n2,m2,<- mem_usortI (l:=ns),he,mem_usortI]
  exact ⟨((List.perm_ext_iff_of_nodup n1 m1).mpr hm).length_eq,fun k hk=>decide_eq_true ((hm k).mp hk)⟩
theorem set_arg {gs S:List Addr} {H1:Hp} {d:PyData} {v:V} {ds:List PyData} {ns:List Int} {K:W.Frag} (r1:RepL gs S H1 d v) (e:seqD d=some ds) (ei:asInts ds=some ns) :
  ∃ p:Addr,v=.ref p/\(SqL K H1 p (ns.map V.int)\/SqT K H1 p (ns.map V.int)):=by
 have e2:=asInts_of ei
 subst e2
 cases d with
 | tuple es =>
  cases e
  obtain ⟨a,xs,rfl,sq,_,rs⟩:=r1.sqT (K:=K)
  rw [reps_ints rs] at sq
  exact ⟨a,rfl,.inr sq⟩
 | list es =>
  cases e
  obtain ⟨a,xs,rfl,sq,_,rs⟩:=r1.sqL (K:=K)
  rw [reps_ints rs] at sq
  exact ⟨a,rfl,.inl sq⟩
 | _=>cases e
def rSetNe (w:World):R2:=fun x y H Q=>∃ (a b:Addr) (ns ms:List Int),x=.ref a/\y=.ref b/\H a=some (.ext (SetI w a ns))/\H b=some (.ext (SetI w b ms))/\Q (.bl (!(decide (ns.length=ms.length) && ns.all fun k=>decide (k∈ms)))) H
def rSetOf (K:W.Frag) (w:World):List V->Hp->VK->Prop:=fun xs H Q=>∃ (p:Addr) (ns:List Int),xs=[.ref p]/\(SqL K H p (ns.map V.int)\/SqT K H p (ns.map V.int))/\ns.length < 4000/\∀ (l:Addr) (ms:List Int),ms.Nodup->(∀ k,k∈ms↔k∈ns)->ms.length<=ns.length->H l=none->Q (.ref l) (upd H l (.ext (SetI w l ms)))
theorem setNe_go {w:World} {K:W.Frag} {R:VK} {σ:St} {H:Hp} {env:PEnv} {pn:List (PyData × V)} {S:List Addr} {n:Int} {Q:PyData->Int->Prop} (ok:EnvOk M env pn σ S H n) (hu:uSetNe u u2 env n Q) (k:∀ v H' d n',Rep S H' d v->Ext M.gs H H'->M.G H' n'->Q d n'->R v H') :
  tOp (rSetNe w) (tCB (rSetOf K w) (tCons (liftL M u) tNil)) (tCB (rSetOf K w) (tCons (liftL M u2) tNil)) σ H R:=by
 refine ⟨env,pn,S,n,_,ok,hu,fun v H1 d n1 r1 x1 g1 _ q=>?_⟩
 obtain ⟨ds,e,ns,ei,hl,q⟩:=q
 obtain ⟨a1,rfl,sq1⟩:=set_arg (K:=K) r1 e ei
 refine ⟨a1,ns,rfl,sq1,hl,fun l ns' nd1 mm1 _ hl1=>?_⟩
 have y1:Ext [] H1 (upd H1 l (.ext (SetI w l ns'))):=.new hl1
 have ok1:=ok.step x1 g1
 have ok2:=ok1.step (y1.mono (by simp)) (M.gext g1 y1 (by simp))
 refine ⟨env,pn,S,n1,_,ok2,q,fun v2 H3 d2 n2 r2 x2 g2 _ q2=>?_⟩
 obtain ⟨ds2,e2,ms,ei2,hl2,q2⟩:=q2
 obtain ⟨a2,rfl,sq2⟩:=set_arg (K:=K) r2 e2 ei2
 refine ⟨a2,ms,rfl,sq2,hl2,fun l2 ms' nd2 mm2 _ hl3=>?_⟩
 have y2:Ext [] H3 (upd H3 l2 (.ext (SetI w l2 ms'))):=.new hl3
 have hlg:l ∉ M.gs:=fun z=>M.ghas g1 l z hl1
 have k1:(upd H3 l2 (.ext (SetI w l2 ms'))) l=some (.ext (SetI w l ns')):=y2.keep _ _ (by simp) (x2.keep _ _ hlg upd_same)
 refine ⟨l,l2,ns',ms',rfl,rfl,k1,upd_same,?_⟩
 rw [set_same nd1 mm1 nd2 mm2]
 exact k _ _ _ n2 (.bl _) (((x1.trans (y1.mono (by simp))).trans x2).trans (y2.mono (by simp))) (M.gext g2 y2 (by simp)) q2
theorem b_setNe (hm2:X.mg "set" = none) (hc:X.calm=true) (hu:X.A.units + 64 < cLine) (h:KL X M e u) (h2:KL X M e2 u2) (hg2:Gl X "set" := by rfl) (hs:notStar e=true:=by rfl) (hs2:notStar e2=true:=by rfl) (hm:behindInMarks .NotEq (.Call (.Name "set" p2) [e2] [] q2)=false:=by first | exact nomark _ | rfl) :
  KB X M (.Compare (.Call (.Name "set" p) [e] [] q) [.NotEq] [.Call (.Name "set" p2) [e2] [] q2] pos) (uTst (uSetNe u u2)):=by
 have innerA:=qe_callTy (p:=p) (pos:=q) (call_setS X.K X.w hc rfl rfl) hg2 hm2 (by decide +kernel) (qa_c h.run qa_nil hs)
 have innerB:=qe_callTy (p:=p2) (pos:=q2) (call_setS X.K X.w hc rfl rfl) hg2 hm2 (by decide +kernel) (qa_c h2.run qa_nil hs2)
 refine .of (qt_cmpR (op_setNe X.w hu rfl) innerA innerB hm) fun σ H R env pn S n Q ok hu k=>setNe_go (R:=fun x H'=>∃ k,x=.bl k/\R k H') ok hu fun v H' d n' r x g q=>?_
 cases d with
 | bool b=>exact ⟨b,r.of_bl,k _ H' n' x g q⟩
 | _=>exact False.elim q
end
end L2
open PySem
namespace Odj
end Odj
open PySem
namespace Odj
end Odj
open PySem
namespace Odj
theorem rising_one:∀ {l1 l2:List Int},l1.Pairwise (· < ·)->l2.Pairwise (· < ·)->(∀ k,k∈l1↔k∈l2)->l1=l2
 | [],[],_,_,_=>rfl
 | [],b::l2,_,_,h=>absurd ((h b).mpr (List.mem_cons_self ..)) (by simp)
 | a::l1,[],_,_,h=>absurd ((h a).mp (List.mem_cons_self ..)) (by simp)
 | a::l1,b::l2,h1,h2,h=>by
  obtain ⟨q1,r1⟩:=List.pairwise_cons.mp h1
  obtain ⟨q2,r2⟩:=List.pairwise_cons.mp h2
  have e:a=b:=by
   rcases List.mem_cons.mp ((h a).mp (List.mem_cons_self ..)) with z | z
   ·exact z
   ·rcases List.mem_cons.mp ((h b).mpr (List.mem_cons_self ..)) with y | y
    ·exact y.symm
    ·have:=q2 a z
     have:=q1 b y
     omega
  subst e
  rw [rising_one r1 r2 fun k=>?_]
  constructor
  ·intro hk
   rcases List.mem_cons.mp ((h k).mp (List.mem_cons_of_mem _ hk)) with z | z
   ·have:=q1 k hk
    omega
   ·exact z
  ·intro hk
   rcases List.mem_cons.mp ((h k).mpr (List.mem_cons_of_mem _ hk)) with z | z
   ·have:=q2 k hk
    omega
   ·exact z
def OddSet (row ns:List Int):Prop:=ns.Pairwise (· < ·)/\∀ k,k∈ns↔row.count k % 2=1
theorem OddSet.one {r1 r2 n1 n2:List Int} (h1:OddSet r1 n1) (h2:OddSet r2 n2) (h:∀ k,r1.count k % 2=r2.count k % 2):n1=n2 :=
 rising_one h1.1 h2.1 fun k=>by rw [h1.2,h2.2,h k]
theorem OddSet.same {r1 r2 n1:List Int} (h1:OddSet r1 n1) (h:∀ k,r1.count k % 2=r2.count k % 2):OddSet r2 n1:=⟨h1.1,fun k=>by rw [h1.2,h k]⟩
theorem nodup_lt {l:List Int} (h:l.Pairwise (· < ·)):l.Nodup:=h.imp fun hab z=>by omega
theorem OddSet.self {l:List Int} (h:l.Pairwise (· < ·)):OddSet l l:=⟨h,fun k=>by
 have hn:=nodup_lt h
 by_cases hk:k∈l
 ·have:=List.count_pos_iff.mpr hk
  have h1:=List.nodup_iff_count.mp hn k
  constructor
  ·intro _; omega
  ·intro _; exact hk
 ·have:=List.count_eq_zero.mpr hk
  constructor
  ·intro z; exact absurd z hk
  ·intro z; omega⟩
theorem OddSet.count {r n:List Int} (h:OddSet r n) (k:Int):n.count k % 2=r.count k % 2:=by
 have h1:=(OddSet.self h.1).2 k
 have h2:=h.2 k
 have a1:=Nat.mod_two_eq_zero_or_one (n.count k)
 have a2:=Nat.mod_two_eq_zero_or_one (r.count k)
 by_cases hk:k∈n
 ·rw [h1.mp hk,h2.mp hk]
 ·have b1:¬ n.count k % 2=1:=fun z=>hk (h1.mpr z)
  have b2:¬ r.count k % 2=1:=fun z=>hk (h2.mpr z)
  omega
def otherEnd (t:Int × Int × Int) (x:Int):Int:=if t.1=x then t.2.1 else t.1
def Walk (ts:List (Int × Int × Int)):Int->List Int->Int->Prop
 | x,[],y=>x=y
 | x,n::row,y=>∃ t,0<=n/\ts[n.toNat]? = .some t/\(t.1=x\/t.2.1=x)/\Walk ts (otherEnd t x) row y
theorem Walk.append {ts:List (Int × Int × Int)}:∀ {a b:List Int} {x y z:Int},Walk ts x a y->Walk ts y b z->Walk ts x (a++b) z
 | [],b,x,y,z,h1,h2=>by
  have e:x=y:=h1
  subst e
  exact h2
 | n::a,b,x,y,z,h1,h2=>by
  obtain ⟨t,h0,ht,hx,hw⟩:=h1
  exact ⟨t,h0,ht,hx,hw.append h2⟩
theorem Walk.bounds {ts:List (Int × Int × Int)}:∀ {a:List Int} {x y:Int},Walk ts x a y->∀ n∈a,0<=n/\n < (ts.length:Int)
 | [],_,_,_,n,hn=>by cases hn
 | m::a,x,y,h,n,hn=>by
  obtain ⟨t,h0,ht,hx,hw⟩:=h
  rcases List.mem_cons.mp hn with e | e
  ·subst e
   have:=(List.getElem?_eq_some_iff.mp ht).1
   omega
  ·exact hw.bounds n e
end Odj
namespace Odj
open PySem L2
def EXC:List Str:=["NoTurns"]
def ALLC:List Str:=["JoinError", "NoPaper", "NoWalk", "NoText", "NoTurns", "NoTie", "TooMany", "NoLine"]
def FL (c:Str):List Str:=(([("NoTurns",["place"])]:List (Str × List Str)).lookup c).getD []
abbrev XC (cl:Str->Addr):Xc:=⟨cl,FL⟩
def u_is_whole:US:=(uRet (uAndV (uIsi "int" (uLoose 0)) (uNotV (uIsi "bool" (uLoose 0)))))
def F_is_whole:UF:=mkF 1 1 (fun _=>u_is_whole)
def u_is_tuple_of:US:=(uRet (uAndV (uIsi "tuple" (uLoose 0)) (uOp eqD (uCB lenD' (uCons (uLoose 0) uNil)) (uLoose 1))))
def F_is_tuple_of:UF:=mkF 2 2 (fun _=>u_is_tuple_of)
def u_ties_at:US:=(uRet (uL (uComp (uJe (uOp ixD (uLoose 0) (uC (.int 1)))) [none,none,some 1] (uTp [(uNm 0),(uNm 1)]) (uTst (uOp inD (uLoose 2) (uSl (uLoose 1) uNo (uSo (uC (.int 2)))))) (uVar 0))))
def F_ties_at:UF:=mkF 2 2 (fun _=>u_ties_at)
def u_is_turn:US:=(uSeq (uIfS (uOr (uNot (uTst (uIsi "tuple" (uLoose 2)))) (uNot (uTst (uCB allD (uCons (uL (uComp (uJt (uLoose 2)) [none] (uNm 0) uYes (uCall F_is_whole (uCons (uVar 0) uNil)))) uNil))))) (uRet (uC (.bool false))) uNext)
 (uRet (uOp eqD (uL (uSrtA (uLoose 2))) (uCall F_ties_at (uCons (uVar 0) (uCons (uVar 1) uNil))))))
def F_is_turn:UF:=mkF 3 3 (fun _=>u_is_turn)
def u_right_turns (Ex:XQ):US:=(uSeq (uIfS (uNot (uTst (uCall F_is_tuple_of (uCons (uVar 1) (uCons (uOp ixD (uLoose 0) (uC (.int 0))) uNil))))) (uRaise Ex "NoTurns" (uCons (uUn negD (uC (.int 1))) uNil)) uNext)
 (uSeq (uFor (uIe (uVar 1)) (uTp [(uNm 2),(uNm 3)])
 (uIfS (uNot (uTst (uCall F_is_turn (uCons (uVar 0) (uCons (uVar 2) (uCons (uVar 3) uNil)))))) (uRaise Ex "NoTurns" (uCons (uVar 2) uNil)) uNext))
 (uRet (uC (.bool true)))))
def F_right_turns:UF:=mkF 4 2 (u_right_turns)
def u_is_turns:US:=(uTryR F_right_turns "NoTurns" EXC (uCons (uVar 0) (uCons (uVar 1) uNil))
 (uRet (uC (.bool false))))
def F_is_turns:UF:=mkF 2 2 (fun _=>u_is_turns)
def u_law_shuffled:US:=(uSeq (uNew 2 (uSeqL (uLoose 1)))
 (uSeq (uNew 3 uNil)
 (uSeq (uFor (uIr (uCB lenD' (uCons (uLoose 2) uNil))) (uNm 4)
 (uAppPop 3 2 (uCall F_draw (uCons (uCB lenD' (uCons (uLoose 2) uNil)) uNil))))
 (uRetO 3))))
def F_law_shuffled:UF:=mkFF 5 2 (fun _=>u_law_shuffled)
def u_law_price:US:=(uRet (uOp ixD (uL (uCons (uC (.int 0)) (uCons (uC (.int 1)) (uCons (uC (.int 2)) (uCons (uC (.int 3)) (uCons (uOp addD (uC (.int 1)) (uCall F_draw (uCons (uC (.int 9)) uNil))) (uCons (uCall F_draw (uCons (uC (.int 100)) uNil)) uNil))))))) (uCall F_draw (uCons (uC (.int 6)) uNil))))
def F_law_price:UF:=mkFF 1 1 (fun _=>u_law_price)
def u_law_web:US:=(uSeq (uSet 3 (uOp addD (uC (.int 1)) (uCall F_draw (uCons (uVar 1) uNil))))
 (uSeq (uNew 4 uNil)
 (uSeq (uFor (uIr (uOp mulD (uCall F_draw (uCons (uOp addD (uLoose 2) (uC (.int 1))) uNil)) (uCB intD (uCons (uOp gtD (uLoose 3) (uC (.int 1))) uNil)))) (uNm 5)
 (uSeq (uSet 6 (uCall F_draw (uCons (uVar 3) uNil)))
 (uSeq (uSet 7 (uOp modD (uOp addD (uOp addD (uLoose 6) (uC (.int 1))) (uCall F_draw (uCons (uOp subD (uLoose 3) (uC (.int 1))) uNil))) (uLoose 3)))
 (uMeth 4 appendD (uCons (uTup (uCons (uCB min2D (uCons (uLoose 6) (uCons (uLoose 7) uNil))) (uCons (uCB max2D (uCons (uLoose 6) (uCons (uLoose 7) uNil))) (uCons (uCall F_law_price uNil) uNil)))) uNil)))))
 (uRet (uTup (uCons (uVar 3) (uCons (uCB tupleD (uCons (uLoose 4) uNil)) uNil)))))))
def F_law_web:UF:=mkFF 8 3 (fun _=>u_law_web)
def u_law_odd:US:=(uSeq (uSet 2 (uL (uCons (uC .none) (uCons (uC (.bool true)) (uCons (uC (.bool false)) (uCons (uUn negD (uC (.int 1))) (uCons (uC (.int 0)) (uCons (uC (.int 1)) (uCons (uC (.int 2)) (uCons (uC (.int 7)) (uCons (uOp powD (uC (.int 10)) (uC (.int 39))) (uCons (uC (.str "")) (uCons (uC (.str "cut")) (uCons (uC (.str "odd")) (uCons (uTup uNil) (uCons (uL uNil) (uCons (uTup (uCons (uC (.int 0)) uNil)) (uCons (uTup (uCons (uC (.int 0)) (uCons (uC (.int 1)) uNil))) (uCons (uTup (uCons (uC (.int 1)) (uCons (uC (.int 0)) uNil))) uNil)))))))))))))))))))
 (uSeq (uSet 2 (uOp addD (uLoose 2) (uL (uCons (uTup (uCons (uC (.bool true)) uNil)) (uCons (uTup (uCons (uTup (uCons (uC (.int 0)) uNil)) uNil)) uNil)))))
 (uCut (uIfS (uTst (uIsi "tuple" (uLoose 1))) (uSet 2 (uOp addD (uLoose 2) (uOp mulD (uL (uCons (uL (uSeqL (uLoose 1))) (uCons (uOp addD (uLoose 1) (uTup (uCons (uC (.int 0)) uNil))) (uCons (uSl (uLoose 1) uNo (uSo (uUn negD (uC (.int 1))))) (uCons (uSl (uLoose 1) (uSo (uC (.int 1))) uNo) (uCons (uOp addD (uLoose 1) (uSl (uLoose 1) uNo (uSo (uC (.int 1))))) (uCons (uTup (uCons (uVar 1) uNil)) (uCons (uUn revAD (uLoose 1)) uNil)))))))) (uC (.int 5))))) uNext)
 (uCut (uIfS (uAnd (uTst (uIsi "int" (uLoose 1))) (uNot (uTst (uIsi "bool" (uLoose 1))))) (uSet 2 (uOp addD (uLoose 2) (uOp mulD (uL (uCons (uOp addD (uLoose 1) (uC (.int 1))) (uCons (uOp subD (uLoose 1) (uC (.int 1))) (uCons (uOp mulD (uLoose 1) (uC (.int 2))) uNil)))) (uC (.int 5))))) uNext)
 (uRet (uOp ixD (uLoose 2) (uCall F_draw (uCons (uCB lenD' (uCons (uLoose 2) uNil)) uNil))))))))
def F_law_odd:UF:=mkFF 3 2 (fun _=>u_law_odd)
def u_law_bent (Rc:UF):US:=(uCut (uIfS (uOr (uNot (uTst (uIsi "tuple" (uLoose 1)))) (uOr (uTst (uOp eqD (uCB lenD' (uCons (uLoose 1) uNil)) (uC (.int 0)))) (uOr (uTst (uOp eqD (uLoose 2) (uC (.int 0)))) (uTst (uOp eqD (uCall F_draw (uCons (uC (.int 6)) uNil)) (uC (.int 0))))))) (uRet (uCall F_law_odd (uCons (uVar 1) uNil))) uNext)
 (uSeq (uSet 3 (uCall F_draw (uCons (uCB lenD' (uCons (uLoose 1) uNil)) uNil)))
 (uRet (uOp addD (uOp addD (uSl (uLoose 1) uNo (uSo (uVar 3))) (uTup (uCons (uCall Rc (uCons (uOp ixD (uLoose 1) (uLoose 3)) (uCons (uOp subD (uLoose 2) (uC (.int 1))) uNil))) uNil))) (uSl (uLoose 1) (uSo (uOp addD (uLoose 3) (uC (.int 1)))) uNo)))))
def T_law_bent (Rc:UF):UF:=mkFF 4 3 (fun _=>u_law_bent Rc)
def Fn_law_bent:Nat->UF
 | 0=>F_no
 | d + 1=>T_law_bent (Fn_law_bent d)
def F_law_bent:UF:=Fn_law_bent 10
def u_law_refusal:US:=(uSeq (uNew 1 uNil)
 (uSeq (uIfS (uTst (uIsx 0 EXC "NoPaper")) (uMeth 1 appendD (uCons (uTup (uCons (uFlx 0 EXC FL "word") (uCons (uFlx 0 EXC FL "number") uNil))) uNil)) uNext)
 (uSeq (uIfS (uTst (uIsx 0 EXC "NoTurns")) (uMeth 1 appendD (uCons (uTup (uCons (uC (.str "turns")) (uCons (uFlx 0 EXC FL "place") uNil))) uNil)) uNext)
 (uSeq (uIfS (uTst (uIsx 0 EXC "NoTie")) (uMeth 1 appendD (uCons (uTup (uCons (uC (.str "tie")) (uCons (uFlx 0 EXC FL "number") uNil))) uNil)) uNext)
 (uSeq (uIfS (uTst (uIsx 0 EXC "TooMany")) (uMeth 1 appendD (uCons (uTup (uCons (uC (.str "many")) (uCons (uFlx 0 EXC FL "word") uNil))) uNil)) uNext)
 (uSeq (uIfS (uTst (uIsx 0 EXC "NoLine")) (uMeth 1 appendD (uCons (uTup (uCons (uC (.str "line")) (uCons (uFlx 0 EXC FL "line") uNil))) uNil)) uNext)
 (uSeq (uSet 2 (uOrV (uIsxT 0 EXC ["NoText", "NoWalk"]) (uNotV (uIsxV 0 EXC))))
 (uRet (uIf (uAnd (uTst (uOp eqID (uCB lenD' (uCons (uLoose 1) uNil)) (uC (.int 1)))) (uNot (uTst (uVar 2)))) (uOp ixD (uLoose 1) (uC (.int 0))) (uTup (uCons (uC (.str "other")) uNil)))))))))))
def F_law_refusal:UE:=mkE 3 u_law_refusal
def u_law_due:US:=(uSeq (uIfS (uOr (uNot (uTst (uIsi "tuple" (uLoose 1)))) (uTst (uOp neD (uCB lenD' (uCons (uLoose 1) uNil)) (uOp ixD (uLoose 0) (uC (.int 0)))))) (uRet (uTup (uCons (uC (.str "turns")) (uCons (uUn negD (uC (.int 1))) uNil)))) uNext)
 (uSeq (uFor (uIr (uOp ixD (uLoose 0) (uC (.int 0)))) (uNm 2)
 (uSeq (uSet 3 (uL (uComp (uJr (uCB lenD' (uCons (uOp ixD (uLoose 0) (uC (.int 1))) uNil))) [none,some 2,some 0] (uNm 0) (uTst (uOp inD (uLoose 1) (uSl (uOp ixD (uOp ixD (uLoose 2) (uC (.int 1))) (uLoose 0)) uNo (uSo (uC (.int 2)))))) (uVar 0))))
 (uSeq (uSet 4 (uOp ixD (uLoose 1) (uLoose 2)))
 (uSeq (uIfS (uOr (uNot (uTst (uIsi "tuple" (uLoose 4)))) (uTst (uOp neD (uCB lenD' (uCons (uLoose 4) uNil)) (uCB lenD' (uCons (uLoose 3) uNil))))) (uRet (uTup (uCons (uC (.str "turns")) (uCons (uVar 2) uNil)))) uNext)
 (uIfS (uOr (uTst (uOp neD (uL (uComp (uJt (uLoose 4)) [none] (uNm 0) (uOr (uNot (uTst (uIsi "int" (uLoose 0)))) (uTst (uIsi "bool" (uLoose 0)))) (uVar 0))) (uL uNil))) (uTst (uSetNe (uLoose 4) (uLoose 3)))) (uRet (uTup (uCons (uC (.str "turns")) (uCons (uVar 2) uNil)))) uNext)))))
 (uRet (uC (.bool true)))))
def F_law_due:UF:=mkF 5 2 (fun _=>u_law_due)
def u_law_told:US:=(uSeq (uSet 2 (uC (.str "none")))
 (uSeq (uTryA 2 3 F_right_turns "JoinError" EXC (uCons (uVar 0) (uCons (uVar 1) uNil))
 (uSet 2 (uCallE F_law_refusal 3)))
 (uRet (uVar 2))))
def F_law_told:UF:=mkF 4 2 (fun _=>u_law_told)
def u_law_two:US:=(uCut (uIfS (uOr (uTst (uOp ltD (uCB lenD' (uCons (uLoose 1) uNil)) (uC (.int 2)))) (uTst (uOp eqD (uCall F_draw (uCons (uC (.int 4)) uNil)) (uC (.int 0))))) (uRet (uCall F_law_bent (uCons (uCall F_law_bent (uCons (uVar 1) (uCons (uC (.int 3)) uNil))) (uCons (uC (.int 3)) uNil)))) uNext)
 (uSeq (uSet 2 (uCall F_draw (uCons (uOp subD (uCB lenD' (uCons (uLoose 1) uNil)) (uC (.int 1))) uNil)))
 (uSeq (uSet 3 (uOp addD (uOp addD (uLoose 2) (uC (.int 1))) (uCall F_draw (uCons (uOp subD (uOp subD (uCB lenD' (uCons (uLoose 1) uNil)) (uC (.int 1))) (uLoose 2)) uNil))))
 (uSeq (uPar 4 5 (uCons (uCall F_law_bent (uCons (uOp ixD (uLoose 1) (uLoose 2)) (uCons (uC (.int 1)) uNil))) (uCons (uCall F_law_bent (uCons (uOp ixD (uLoose 1) (uLoose 3)) (uCons (uC (.int 1)) uNil))) uNil)))
 (uRet (uOp addD (uOp addD (uOp addD (uOp addD (uSl (uLoose 1) uNo (uSo (uVar 2))) (uTup (uCons (uVar 4) uNil))) (uSl (uLoose 1) (uSo (uOp addD (uLoose 2) (uC (.int 1)))) (uSo (uVar 3)))) (uTup (uCons (uVar 5) uNil))) (uSl (uLoose 1) (uSo (uOp addD (uLoose 3) (uC (.int 1)))) uNo)))))))
def F_law_two:UF:=mkFF 6 2 (fun _=>u_law_two)
def u_law_right:US:=(uSeq (uSet 2 (uRepr (uTup (uCons (uVar 0) (uCons (uVar 1) uNil)))))
 (uSeq (uSet 3 (uCall F_law_due (uCons (uVar 0) (uCons (uVar 1) uNil))))
 (uSeq (uIfS (uOr (uTst (uOp nesD (uRepr (uCall F_law_told (uCons (uVar 0) (uCons (uVar 1) uNil)))) (uRepr (uVar 3)))) (uTst (uOp nesD (uRepr (uCall F_is_turns (uCons (uVar 0) (uCons (uVar 1) uNil)))) (uRepr (uOp isTD (uLoose 3) (uC (.bool true))))))) (uRet (uC (.bool false))) uNext)
 (uRet (uOp eqsD (uRepr (uTup (uCons (uVar 0) (uCons (uVar 1) uNil)))) (uLoose 2))))))
def F_law_right:UF:=mkF 4 2 (fun _=>u_law_right)
def u_law:US:=(uSeq (uFor (uIr (uC (.int 3))) (uNm 2)
 (uSeq (uSet 3 (uCall F_law_web (uCons (uOp ixD (uL (uCons (uC (.int 6)) (uCons (uC (.int 9)) uNil))) (uOp modD (uLoose 2) (uC (.int 2)))) (uCons (uOp ixD (uL (uCons (uC (.int 8)) (uCons (uC (.int 16)) uNil))) (uOp modD (uLoose 2) (uC (.int 2)))) uNil))))
 (uSeq (uNew 4 uNil)
 (uSeq (uFor (uIr (uOp ixD (uLoose 3) (uC (.int 0)))) (uNm 5)
 (uSeq (uSet 6 (uL (uComp (uJr (uCB lenD' (uCons (uOp ixD (uLoose 3) (uC (.int 1))) uNil))) [none,some 5,some 3] (uNm 0) (uTst (uOp inD (uLoose 1) (uSl (uOp ixD (uOp ixD (uLoose 2) (uC (.int 1))) (uLoose 0)) uNo (uSo (uC (.int 2)))))) (uVar 0))))
 (uMeth 4 appendD (uCons (uCB tupleD (uCons (uCall F_law_shuffled (uCons (uVar 6) uNil)) uNil)) uNil))))
 (uSeq (uSet 7 (uCB tupleD (uCons (uLoose 4) uNil)))
 (uSeq (uSet 8 (uL (uCons (uVar 7) (uCons (uL (uSeqL (uLoose 7))) (uCons (uTup uNil) (uCons (uC .none) (uCons (uOp addD (uLoose 7) (uTup (uCons (uTup uNil) uNil))) (uCons (uUn revAD (uLoose 7)) (uCons (uOp mulD (uTup (uCons (uTup uNil) uNil)) (uOp ixD (uLoose 3) (uC (.int 0)))) uNil)))))))))
 (uFor (uIt (uOp addD (uLoose 8) (uL (uComp (uJr (uC (.int 6))) [none,some 1,some 7] (uNm 0) uYes (uCall F_law_bent (uCons (uVar 2) (uCons (uC (.int 3)) uNil))))))) (uNm 9)
 (uIfS (uNot (uTst (uCall F_law_right (uCons (uVar 3) (uCons (uVar 9) uNil))))) (uRet (uC (.bool false))) uNext))))))))
 (uSeq (uFor (uIr (uC (.int 3))) (uNm 10)
 (uFor (uIt (uL (uCons (uCall F_law_two (uCons (uVar 7) uNil)) (uCons (uVar 7) uNil)))) (uNm 9)
 (uIfS (uNot (uTst (uCall F_law_right (uCons (uVar 3) (uCons (uVar 9) uNil))))) (uRet (uC (.bool false))) uNext)))
 (uRet (uC (.bool true)))))
def top (i:Nat):Stmt:=PySem.Challenge.pw_oddjoins_k73_turns_of_any_thing.main.body.getD i (.Pass ⟨0,0,0,0⟩)
structure BtA (mg:Str->Option Value):Prop where
 ValueError:mg "ValueError" = none
 all:mg "all" = none
 bool:mg "bool" = none
 enumerate:mg "enumerate" = none
 int:mg "int" = none
 isinstance:mg "isinstance" = none
 len:mg "len" = none
 list:mg "list" = none
 max:mg "max" = none
 min:mg "min" = none
 range:mg "range" = none
 repr:mg "repr" = none
 set:mg "set" = none
 sorted:mg "sorted" = none
 tuple:mg "tuple" = none
abbrev N0:List Str:=["thing"]
abbrev N1:List Str:=["thing", "count"]
abbrev N2:List Str:=["number", "tie", "place"]
abbrev N3:List Str:=["web", "place"]
abbrev N4:List Str:=["number"]
abbrev N5:List Str:=["web", "place", "thing"]
abbrev N6:List Str:=["web", "thing", "place", "turn"]
abbrev N7:List Str:=["web", "thing"]
abbrev N8:List Str:=["_law_feed_here", "_law_some", "_law_left", "_law_found", "_law_k"]
abbrev N9:List Str:=["_law_feed_here"]
abbrev N10:List Str:=["_law_feed_here", "_law_places", "_law_most", "_law_many", "_law_ties", "_law_k", "_law_one", "_law_other"]
abbrev N11:List Str:=["_law_feed_here", "_law_part", "_law_some"]
abbrev N12:List Str:=["_law_feed_here", "_law_part", "_law_deep", "_law_at"]
abbrev N13:List Str:=["_law_e", "_law_found", "_law_strange"]
abbrev N14:List Str:=["_law_one"]
abbrev N15:List Str:=["_law_web_here", "_law_thing", "_law_place", "_law_own", "_law_row"]
abbrev N16:List Str:=["_law_number", "_law_place", "_law_web_here"]
abbrev N17:List Str:=["_law_web_here", "_law_thing", "_law_found", "_law_e"]
abbrev N18:List Str:=["_law_feed_here", "_law_turns", "_law_one", "_law_other", "_law_first", "_law_second"]
abbrev N19:List Str:=["_law_web_here", "_law_thing", "_law_kept", "_law_due_here"]
abbrev N20:List Str:=["_law_k", "_law_feed_here", "_law_turns"]
abbrev N21:List Str:=["_law_script", "_law_feed_here", "_law_turn", "_law_web_here", "_law_rows", "_law_place", "_law_own", "_law_turns", "_law_things", "_law_thing", "_law_k"]
section
variable (P:Program) (w:World) (K:W.Frag) (mg:Str->Option Value) (base:Heap) (cl:Str->Addr) (Y:Fam)
abbrev O_is_whole:Prop:=DefOk P w K mg base 1 "is_whole" ["thing"] (spU (XC cl) F_is_whole)
abbrev O_is_tuple_of:Prop:=DefOk P w K mg base 1 "is_tuple_of" ["thing", "count"] (spU (XC cl) F_is_tuple_of)
abbrev O_ties_at:Prop:=DefOk P w K mg base 1 "ties_at" ["web", "place"] (spU (XC cl) F_ties_at)
abbrev O_is_turn:Prop:=DefOk P w K mg base 2 "is_turn" ["web", "place", "thing"] (spU (XC cl) F_is_turn)
abbrev O_right_turns:Prop:=DefX P w K mg base 3 "right_turns" ["web", "thing"] (spU (XC cl) F_right_turns)
abbrev O_is_turns:Prop:=DefOk P w K mg base 4 "is_turns" ["web", "thing"] (spU (XC cl) F_is_turns)
abbrev O_law_draw:Prop:=DefOk P w K mg base 1 "_law_draw" ["_law_feed_here", "_law_many"] (spUF Y F_draw)
abbrev O_law_shuffled:Prop:=DefOk P w K mg base 2 "_law_shuffled" ["_law_feed_here", "_law_some"] (spUF Y F_law_shuffled)
abbrev O_law_price:Prop:=DefOk P w K mg base 2 "_law_price" ["_law_feed_here"] (spUF Y F_law_price)
abbrev O_law_web:Prop:=DefOk P w K mg base 3 "_law_web" ["_law_feed_here", "_law_places", "_law_most"] (spUF Y F_law_web)
abbrev O_law_odd:Prop:=DefOk P w K mg base 2 "_law_odd" ["_law_feed_here", "_law_part"] (spUF Y F_law_odd)
abbrev O_law_bent:Prop:=DefOk P w K mg base 13 "_law_bent" ["_law_feed_here", "_law_part", "_law_deep"] (spUF Y F_law_bent)
abbrev O_law_refusal:Prop:=DefH P w K mg base 1 "_law_refusal" ["_law_e"] (spE (XC cl) F_law_refusal)
abbrev O_law_due:Prop:=DefOk P w K mg base 1 "_law_due" ["_law_web_here", "_law_thing"] (spU (XC cl) F_law_due)
abbrev O_law_told:Prop:=DefOk P w K mg base 4 "_law_told" ["_law_web_here", "_law_thing"] (spU (XC cl) F_law_told)
abbrev O_law_two:Prop:=DefOk P w K mg base 14 "_law_two" ["_law_feed_here", "_law_turns"] (spUF Y F_law_two)
abbrev O_law_right:Prop:=DefOk P w K mg base 5 "_law_right" ["_law_web_here", "_law_thing"] (spU (XC cl) F_law_right)
end
end Odj
namespace L2
open PySem PySem.Spec PyProof.Rows
theorem DGet.f {H:Hp} {a:Addr} {kvs:List (Key × V)} {k:Str} {v:V} (e:H a=Option.some (.dK kvs)) (h:valV kvs (.inr k)=some v):DGet H a (.str k) (some v):=.inl ⟨kvs,.inr k,.inl e,rfl,h.symm⟩
theorem Ext.setD {S:List Addr} {H:Hp} {p:Addr} {o:HO} {kvs:List (Key × V)} (hp:p∈S) (h:H p=Option.some (.dK kvs)):Ext S H (upd H p o) :=
 ⟨fun b u hb e=>by rw [upd_ne (fun (z:b=p)=>hb (by rw [z]; exact hp))]; exact e,fun b xs e=>by rw [upd_ne (fun z=>by rw [z,h] at e; cases e)]; exact e⟩
theorem Ext.setD' {S:List Addr} {H0 H:Hp} {p:Addr} {o:HO} {kvs:List (Key × V)} (a:Ext S H0 H) (h0:H0 p=none) (h:H p=Option.some (.dK kvs)):Ext S H0 (upd H p o) :=
 ⟨fun b u hb e=>by rw [upd_ne (fun z=>by rw [z,h0] at e; cases e)]; exact a.keep b u hb e,fun b ys e=>by rw [upd_ne (fun z=>by rw [z,h0] at e; cases e)]; exact a.tup b ys e⟩
theorem SqL.new {K:W.Frag} {H:Hp} {a p:Addr} {xs:List V} {o:HO} (h:SqL K H a xs) (hp:H p=none):SqL K (upd H p o) a xs:=by
 rcases h with h | h
 ·refine .inl ?_
  rcases h with h | ⟨u,h⟩
  ·exact .inl (by rw [upd_ne (ne_of_none h hp)]; exact h)
  ·exact .inr ⟨u,by rw [upd_ne (ne_of_none h hp)]; exact h⟩
 ·exact .inr h
def rEqS (K:W.Frag):R2:=fun x y H Q=>∃ (a b:Addr) (ns:List Int),x=.ref a/\y=.ref b/\SqL K H a (ns.map V.int)/\H b=some (.lst [])/\PyData.canLayAll0 (ns.map PyData.int)=true/\(PyData.list (ns.map PyData.int)).depth<=60/\Q (.bl (PyData.eqv (.list (ns.map .int)) (.list []))) H
theorem op_eqS {X:Cx} {k:Nat} (K:W.Frag) (hr:Room k X.A) (hk:X.K=K:=by rfl):OpR X (compareOp .Eq) (rEqS K):=by
 subst hk
 intro pins s σ H x y v u Q I rx ry h
 obtain ⟨a,b,ns,rfl,rfl,ha,hb,c1,d1,q⟩:=h
 cases rx
 obtain ⟨its,rv,⟨o,n,e,hc,_,hd⟩,_⟩:=I.list ha
 obtain ⟨as,ra⟩:=Reps.reads (S:=[]) I.hok (.ints ns) rv
 obtain ⟨bs,rb⟩:=(Rep.lst (S:=[]) hb (by simp) .nil).reads I.hok ry
 have hun:=hr.units
 exact SeqAt.compareEq_reads (.list e hc hd (by simpa using ra)) rb c1 rfl (by omega) ⟨.bl _,H,I,rfl,q⟩
end L2
namespace Odj
open PySem L2
theorem canLay_ints (ns:List Int):PyData.canLayAll0 (ns.map PyData.int)=true:=by
 induction ns with
 | nil=>rfl
 | cons n ns ih=>simpa [PyData.canLayAll0,PyData.canLay0] using ih
theorem depth_ints (ns:List Int):PyData.depthAll (ns.map PyData.int)=0:=by
 induction ns with
 | nil=>rfl
 | cons n ns ih=>simpa [PyData.depthAll,PyData.depth] using ih
def feedKV (sa:Addr) (i c n:Int):List (Key × V):=[(.inr "cells",.ref sa),(.inr "at",.int i),(.inr "left",.int c),(.inr "turn",.int n)]
section
variable {H:Hp} {fa sa:Addr} {i c n m:Int}
theorem dg_cells (e:H fa=some (.dK (feedKV sa i c n))):DGet H fa (.str "cells") (some (.ref sa)):=.f e rfl
theorem dg_at (e:H fa=some (.dK (feedKV sa i c n))):DGet H fa (.str "at") (some (.int i)):=.f e rfl
theorem dg_left (e:H fa=some (.dK (feedKV sa i c n))):DGet H fa (.str "left") (some (.int c)):=.f e rfl
theorem dg_turn (e:H fa=some (.dK (feedKV sa i c n))):DGet H fa (.str "turn") (some (.int n)):=.f e rfl
theorem dp_at (e:H fa=some (.dK (feedKV sa i c n))):DPut H fa (.str "at") (.int m) (upd H fa (.dK (feedKV sa m c n))):=.inl ⟨_,.inr "at",e,rfl,by show 4 < sizeLine; decide,rfl⟩
theorem dp_left (e:H fa=some (.dK (feedKV sa i c n))):DPut H fa (.str "left") (.int m) (upd H fa (.dK (feedKV sa i m n))):=.inl ⟨_,.inr "left",e,rfl,by show 4 < sizeLine; decide,rfl⟩
theorem dp_turn (e:H fa=some (.dK (feedKV sa i c n))):DPut H fa (.str "turn") (.int m) (upd H fa (.dK (feedKV sa i c m))):=.inl ⟨_,.inr "turn",e,rfl,by show 4 < sizeLine; decide,rfl⟩
end
structure Feed (H:Hp) (fa sa:Addr) (n:Int):Prop where
 ex:∃ (k:Int) (ns:List Int) (i c:Int),H fa=some (.dK (feedKV sa i c n))/\H sa=some (.lst ((k::ns).map V.int))/\0<=i
 ne:sa≠fa
 lo:0<=n
theorem Feed.ext {S:List Addr} {H H':Hp} {fa sa:Addr} {n:Int} (f:Feed H fa sa n) (x:Ext S H H') (h1:fa ∉ S) (h2:sa ∉ S):Feed H' fa sa n:=by
 obtain ⟨k,ns,i,c,e1,e2,e3⟩:=f.ex
 exact ⟨⟨k,ns,i,c,x.keep _ _ h1 e1,x.keep _ _ h2 e2,e3⟩,f.ne,f.lo⟩
theorem Feed.put {H:Hp} {fa sa:Addr} {n:Int} (f:Feed H fa sa n) (i c n':Int) (h:0<=n') (h0:0<=i):Feed (upd H fa (.dK (feedKV sa i c n'))) fa sa n'/\Ext [fa] H (upd H fa (.dK (feedKV sa i c n'))):=by
 obtain ⟨k,ns,i0,c0,e1,e2,_⟩:=f.ex
 exact ⟨⟨⟨k,ns,i,c,upd_same,by rw [upd_ne f.ne]; exact e2,h0⟩,f.ne,h⟩,.setD (by simp) e1⟩
def famY:Fam where
 Feed:=Feed
 ext:=fun f x h1 h2=>f.ext x h1 h2
 fa:=fun f=>let ⟨_,_,_,_,e,_⟩:=f.ex; by rw [e]; simp
 sa:=fun f=>let ⟨_,_,_,_,_,e,_⟩:=f.ex; by rw [e]; simp
 nx:=fun f φ=>let ⟨_,_,_,_,e,_⟩:=f.ex; by rw [e]; simp
abbrev spFeed (K:W.Frag):Sp:=spFeedY famY K
abbrev spDraw:Sp:=spDrawY famY
theorem cell_at (k:Int) (ns:List Int) {i:Int} (h0:0<=i) (h1:i < (((k::ns).map V.int).length:Nat)):∃ z:Int,atI ((k::ns).map V.int) i=some (V.int z):=by
 obtain ⟨v,hv,hv2⟩:=atI_ex (xs:=(k::ns).map V.int) h0 h1
 rw [List.getElem?_map] at hv2
 cases e:(k::ns)[i.toNat]? with
 | none=>rw [e] at hv2; cases hv2
 | some z=>rw [e] at hv2; exact ⟨z,by rw [hv]; exact congrArg some (Option.some.inj hv2).symm⟩
section
variable {P:Program} {w:World} {K:W.Frag} {mg:Str->Option Value} {base:Heap} {f:Addr} {fd:FuncData}
theorem d_feed (F:Fun K "_law_feed" "_law_feed" (top 19) f fd) (hm:mg "_law_feed" = some (.ref f)) (B:BtA mg):DefOk P w K mg base 1 "_law_feed" ["_law_script"] (spFeed K):=by
 refine ⟨f,fd,?_,hm,F.kp,F.binds fun _ _ _ _ _ _ us hl=>by obtain ⟨_,rfl⟩:=len1 hl; rfl⟩
 have sc:FnScope ["_law_script"] ["_law_script"] (defScope (top 19)):=scm
 refine F.okQ sc (fun vs H Q E h=>?_) (fun cdv A outer s H vs Q E hr h=>?_)
 ·obtain ⟨a,ns,rfl,_⟩:=h
  rfl
 ·obtain ⟨a,ns,rfl,hs0,q⟩:=h
  refine ⟨_,(qss_one (qs_ret (qe_disp (qps_c qe_str (qe_op op_cat (qe_callTy (listK K) (by rfl) B.list (by decide +kernel) (qa_c (qe_slice (slL K) (qv 0) qo_none (qo_some qe_int)) qa_nil)) (qe_op op_rep (qe_lst (qa_c qe_int qa_nil)) (qe_callTy call_int1 (by rfl) B.int (by decide +kernel) (qa_c (qe_cmpR (op_eqS K hr) (qv 0) (qe_lst qa_nil) (nomark _)) qa_nil)))) (qps_c qe_str qe_int (qps_c qe_str qe_int (qps_c qe_str qe_int qps_nil)))) rfl rfl rfl (by decide)))),?_⟩
  intro fa hfa
  have hs:SqL K (upd H fa (.dK [])) a (ns.map V.int):=hs0.new hfa
  have y0:Ext [] H (upd H fa (.dK [])):=.new hfa
  have efa:(upd H fa (.dK [])) fa=some (.dK []):=upd_same
  generalize upd H fa (.dK [])=H0 at hs y0 efa ⊢
  refine ⟨_,rfl,63,rfl,a,_,rfl,hs,fun p hp=>⟨p,_,rfl,.inl (SqL.of upd_same),fun l hl=>⟨by show 1<=sizeLine; decide,fun p1 hp1=>⟨_,rfl,Nat.zero_le _,fun p2 hp2=>⟨a,p2,ns,rfl,rfl,(((hs.new hp).new hl).new hp1).new hp2,upd_same,canLay_ints ns,by simp [PyData.depth,depth_ints],.inr ⟨_,rfl,?_⟩⟩⟩⟩⟩⟩
  obtain ⟨cs,hcs,hcl,hc0⟩:∃ cs:List Int,cutV (ns.map V.int) none (some 63)=cs.map V.int/\cs.length<=63/\(cs=[]->ns=[]):=by
   refine ⟨(ns.drop (HT.sIx (ns.map V.int).length 0 none)).take (HT.sIx (ns.map V.int).length (ns.map V.int).length (some 63) - HT.sIx (ns.map V.int).length 0 none),?_,?_,?_⟩
   ·unfold cutV
    rw [List.map_take,List.map_drop]
   ·rw [HT.sIx_none,show (63:Int)=((63:Nat):Int) from rfl,HT.sIx_nat]
    simp only [List.length_take]
    omega
   ·rw [HT.sIx_none,show (63:Int)=((63:Nat):Int) from rfl,HT.sIx_nat]
    cases ns with
    | nil=>intro _; rfl
    | cons z zs=>intro h; simp at h
  rw [hcs] at hl hp1 hp2 ⊢
  have y1:Ext [] H0 (upd H0 p (.lst (cs.map V.int))):=.new hp
  generalize upd H0 p (.lst (cs.map V.int))=Ha at y1 hl hp1 hp2 ⊢
  have y1b:Ext [] Ha (upd Ha l (.lst (cs.map V.int))):=.new hl
  have ep:(upd Ha l (.lst (cs.map V.int))) l=some (.lst (cs.map V.int)):=upd_same
  generalize upd Ha l (.lst (cs.map V.int))=H1 at y1b ep hp1 hp2 ⊢
  have y2:Ext [] H1 (upd H1 p1 (.lst [.int 0])):=.new hp1
  have ep1:(upd H1 p1 (.lst [.int 0])) p1=some (.lst [.int 0]):=upd_same
  generalize upd H1 p1 (.lst [.int 0])=H2 at y2 ep1 hp2 ⊢
  have y3:Ext [] H2 (upd H2 p2 (.lst [])):=.new hp2
  generalize upd H2 p2 (.lst [])=H3 at y3 ⊢
  have z1:=y3.keep _ _ (by simp) ep1
  have z0:=y3.keep _ _ (by simp) (y2.keep _ _ (by simp) ep)
  have y13:=((y1.trans y1b).trans y2).trans y3
  generalize hb:PyData.eqv (.list (ns.map .int)) (.list [])=b
  have hbn:ns=[]->b=true:=fun z=>by rw [<- hb,z]; rfl
  refine ⟨p1,_,_,rfl,rfl,z1,by cases b <;> decide,by cases b <;> decide,by cases b <;> decide,fun p3 hp3=>?_⟩
  have y4:Ext [] H3 (upd H3 p3 (.lst (List.replicate (if b=true then (1:Int) else 0).toNat [V.int 0]).flatten)):=.new hp3
  have z3:(upd H3 p3 (.lst (List.replicate (if b=true then (1:Int) else 0).toNat [V.int 0]).flatten)) p3=some (.lst (List.replicate (if b=true then (1:Int) else 0).toNat [V.int 0]).flatten):=upd_same
  generalize upd H3 p3 (.lst (List.replicate (if b=true then (1:Int) else 0).toNat [V.int 0]).flatten)=H4 at y4 z3 ⊢
  have hs6:sizeLine=16777216:=by decide
  refine ⟨l,p3,_,_,rfl,rfl,y4.keep _ _ (by simp) z0,z3,by rw [len_rep,List.length_map]; cases b <;> simp <;> omega,fun p4 hp4=>?_⟩
  obtain ⟨k,ks,hk⟩:∃ (k:Int) (ks:List Int),cs.map V.int++(List.replicate (if b=true then (1:Int) else 0).toNat [V.int 0]).flatten=(k::ks).map V.int:=by
   cases cs with
   | nil=>rw [hbn (hc0 rfl)]; exact ⟨0,[],rfl⟩
   | cons z zs =>
    cases b with
    | true=>exact ⟨z,zs++[0],by simp⟩
    | false=>exact ⟨z,zs,by simp⟩
  rw [hk]
  have y5:Ext [] H4 (upd H4 p4 (.lst ((k::ks).map V.int))):=.new hp4
  have z4:(upd H4 p4 (.lst ((k::ks).map V.int))) p4=some (.lst ((k::ks).map V.int)):=upd_same
  have y14:=y13.trans y4
  have hp40:H p4=none:=(y0.trans y14).fresh (by simp) hp4
  generalize upd H4 p4 (.lst ((k::ks).map V.int))=H5 at y5 z4 ⊢
  have y05:=y14.trans y5
  have efa5:=y05.keep _ _ (by simp) efa
  have hne:p4≠fa:=fun z=>by rw [z,efa5] at z4; cases z4
  refine ⟨efa5,feedKV p4 0 0 0,rfl,by show 4<=15; decide,?_⟩
  have x:Ext [] H (upd H5 fa (.dK (feedKV p4 0 0 0))):=(y0.trans y05).setD' hfa efa5
  exact q fa p4 _ ⟨⟨k,ks,0,0,upd_same,by rw [upd_ne hne]; exact z4,by decide⟩,hne,by decide⟩ x hfa hp40
theorem d_draw (F:Fun K "_law_draw" "_law_draw" (top 20) f fd) (hm:mg "_law_draw" = some (.ref f)) (B:BtA mg):DefOk P w K mg base 1 "_law_draw" ["_law_feed_here", "_law_many"] spDraw:=by
 refine ⟨f,fd,?_,hm,F.kp,F.binds fun _ _ _ _ _ _ us hl=>by obtain ⟨_,_,rfl⟩:=len2 hl; rfl⟩
 have sc:FnScope ["_law_feed_here", "_law_many", "_law_cells", "_law_found", "_law_turn", "_law_cell", "_law_mixed"] ["_law_feed_here", "_law_many"] (defScope (top 20)):=scm
 refine F.okQ sc (fun vs H Q E h=>?_) (fun cdv A outer s H vs Q E hr h=>?_)
 ·obtain ⟨fa,sa,n,many,rfl,_⟩:=h
  rfl
 ·obtain ⟨fa,sa,n,many,rfl,fe,m0,m1,nm,q⟩:=h
  have hu:=Nat.lt_of_le_of_lt (Nat.add_le_add_left (by decide:1<=64) _) hr.units
  refine ⟨_,(qss_cons (qs_dput hu (qv 0) qe_str (qe_op op_add (qe_dget hu (qv 0) qe_str (fun _ _=>rfl)) qe_int))
   (qss_cons (qs_set (i:=2) sc.nd rfl (Or.inl rfl) (qe_dget hu (qv 0) qe_str (fun _ _=>rfl)))
   (qss_cut (qs_whileM PassesOwn.never (QW.pt (qw_and (qt_cmpR op_eq (qe_dget hu (qv 0) qe_str (fun _ _=>rfl)) qe_int (nomark _)) (qw_and1 (qt_cmpR op_lt (qe_dget hu (qv 0) qe_str (fun _ _=>rfl)) (qe_callB (lenK K) (by rfl) B.len (by decide +kernel) (qa_c (qv 2) qa_nil)) (nomark _))))) (qss_cons (qs_dput hu (qv 0) qe_str (qe_op op_mul (qe_ix (ixL K) (qv 2) (qe_dget hu (qv 0) qe_str (fun _ _=>rfl)) (fun _ _=>rfl)) (qe_callTy call_int1 (by rfl) B.int (by decide +kernel) (qa_c (qe_cmpR op_ge (qe_ix (ixL K) (qv 2) (qe_dget hu (qv 0) qe_str (fun _ _=>rfl)) (fun _ _=>rfl)) (qe_op op_pow qe_int qe_int) (nomark _)) qa_nil))))
   (qss_one (qs_dput hu (qv 0) qe_str (qe_op op_add (qe_dget hu (qv 0) qe_str (fun _ _=>rfl)) qe_int)))))
   (qss_cons (qs_if (qt_cmpR op_gt (qe_dget hu (qv 0) qe_str (fun _ _=>rfl)) qe_int (nomark _)) (qss_cons (qs_set (i:=3) sc.nd rfl (Or.inl rfl) (qe_op op_mod (qe_dget hu (qv 0) qe_str (fun _ _=>rfl)) (qv 1)))
   (qss_cons (qs_dput hu (qv 0) qe_str (qe_op op_fdiv (qe_dget hu (qv 0) qe_str (fun _ _=>rfl)) (qv 1)))
   (qss_one (qs_ret (qv 3))))) qss_nil)
   (qss_cons (qs_set (i:=4) sc.nd rfl (Or.inl rfl) (qe_dget hu (qv 0) qe_str (fun _ _=>rfl)))
   (qss_cons (qs_set (i:=5) sc.nd rfl (Or.inl rfl) (qe_op op_mod (qe_ix (ixL K) (qv 2) (qe_op op_mod (qv 4) (qe_callB (lenK K) (by rfl) B.len (by decide +kernel) (qa_c (qv 2) qa_nil))) (fun _ _=>rfl)) qe_int))
   (qss_cons (qs_set (i:=6) sc.nd rfl (Or.inl rfl) (qe_op op_mod (qe_op op_mul (qe_op op_add (qv 5) (qe_op op_mul qe_int (qv 4))) qe_int) qe_int))
   (qss_cons (qs_set (i:=6) sc.nd rfl (Or.inl rfl) (qe_op op_mod (qe_op op_mul (qe_op op_add (qe_op op_fdiv (qv 6) qe_int) (qe_op op_mul qe_int (qv 4))) qe_int) qe_int))
   (qss_one (qs_ret (qe_op op_mod (qe_op op_fdiv (qv 6) qe_int) (qv 1)))))))))))),?_⟩
  obtain ⟨k,ns,i,c,e1,e2,i0⟩:=fe.ex
  have n0:=fe.lo
  obtain ⟨f1,x1⟩:=fe.put i c (n + 1) (by omega) i0
  refine ⟨_,rfl,fa,_,rfl,dg_turn e1,n,1,rfl,rfl,_,rfl,fa,_,rfl,dp_turn e1,?_⟩
  refine ⟨_,rfl,fa,_,rfl,dg_cells upd_same,?_⟩
  have e2':(upd H fa (.dK (feedKV sa i c (n + 1)))) sa=some (.lst ((k::ns).map V.int)):=by rw [upd_ne fe.ne]; exact e2
  refine ⟨fun σ' H'=>σ'=[some (.ref fa),some (.int many),some (.ref sa),none,none,none,none]/\∃ i c,0<=i/\H' fa=some (.dK (feedKV sa i c (n + 1)))/\H' sa=some (.lst ((k::ns).map V.int))/\Feed H' fa sa (n + 1)/\Ext [fa] H H',?_,?_⟩
  ·refine while_m (fun σ' H'=>σ'=[some (.ref fa),some (.int many),some (.ref sa),none,none,none,none]/\∃ i c,0<=i/\H' fa=some (.dK (feedKV sa i c (n + 1)))/\H' sa=some (.lst ((k::ns).map V.int))/\Feed H' fa sa (n + 1)/\Ext [fa] H H') (fun σ' H'=>match H' fa with | some (.dK [_,(_,.int i),_,_])=>((ns.length:Int) + 1 - i).toNat | _=>0) ⟨rfl,i,c,i0,upd_same,e2',f1,x1⟩ ?_
   rintro σ' H' ⟨rfl,i,c,i0,g1,g2,f2,x2⟩
   refine ⟨_,rfl,fa,_,rfl,dg_left g1,rfl,_,rfl,ite2 (fun hc=>?_) (fun hc=>iteF ⟨rfl,i,c,i0,g1,g2,f2,x2⟩)⟩
   refine ⟨_,rfl,fa,_,rfl,dg_at g1,_,rfl,sa,_,rfl,.inl (SqL.of g2),_,_,rfl,rfl,_,rfl,ite2 (fun hd=>?_) (fun hd=>⟨rfl,i,c,i0,g1,g2,f2,x2⟩)⟩
   have hd':i < (((k::ns).map V.int).length:Nat):=of_decide_eq_true hd
   obtain ⟨z,hz⟩:=cell_at k ns i0 hd'
   refine ⟨_,rfl,_,rfl,fa,_,rfl,dg_at g1,sa,_,_,_,rfl,rfl,SqL.of g2,hz,_,rfl,_,rfl,fa,_,rfl,dg_at g1,sa,_,_,_,rfl,rfl,SqL.of g2,hz,10,18,rfl,rfl,⟨by decide,by decide,by decide⟩,_,_,rfl,rfl,.inr ⟨_,rfl,?_⟩⟩
   generalize hb:decide ((10:Int) ^ (18:Int).toNat<=z)=b
   refine ⟨z,_,rfl,rfl,.inr (by cases b <;> exact ⟨by decide,by decide⟩),_,rfl,fa,_,rfl,dp_left g1,?_⟩
   refine ⟨_,rfl,fa,_,rfl,dg_at upd_same,i,1,rfl,rfl,_,rfl,fa,_,rfl,dp_at upd_same,?_⟩
   obtain ⟨f3,x3⟩:=f2.put i (z * if b=true then 1 else 0) (n + 1) (by omega) i0
   obtain ⟨f4,x4⟩:=f3.put (i + 1) (z * if b=true then 1 else 0) (n + 1) (by omega) (by omega)
   refine ⟨⟨rfl,i + 1,_,by omega,upd_same,by rw [upd_ne fe.ne,upd_ne fe.ne]; exact g2,f4,(x2.trans x3).trans x4⟩,?_⟩
   rw [upd_same,g1]
   simp only [List.length_map,List.length_cons] at hd'
   show ((ns.length:Int) + 1 - (i + 1)).toNat < ((ns.length:Int) + 1 - i).toNat
   omega
  ·rintro σ' H' ⟨rfl,i,c,i0,g1,g2,f2,x2⟩
   refine ⟨_,rfl,fa,_,rfl,dg_left g1,c,0,rfl,rfl,_,rfl,ite2 (fun hc=>?_) (fun hc=>?_)⟩
   ·refine ⟨_,rfl,fa,_,rfl,dg_left g1,_,rfl,c,many,rfl,rfl,m0,?_⟩
    refine ⟨_,rfl,fa,_,rfl,dg_left g1,_,rfl,c,many,rfl,rfl,⟨m0,m1⟩,_,rfl,fa,_,rfl,dp_left g1,?_⟩
    obtain ⟨f3,x3⟩:=f2.put i (c / many) (n + 1) (by omega) i0
    exact ⟨_,rfl,q _ _ (Int.emod_nonneg _ (by omega)) (Int.emod_lt_of_pos _ m0) f3 (x2.trans x3)⟩
   ·have hl:(0:Int) < (((k::ns).map V.int).length:Nat):=by simp
    obtain ⟨z,hz⟩:=cell_at k ns (Int.emod_nonneg (n + 1) (by omega)) (Int.emod_lt_of_pos (n + 1) hl)
    refine ⟨_,rfl,fa,_,rfl,dg_turn g1,?_⟩
    refine ⟨_,rfl,_,rfl,_,rfl,sa,_,rfl,.inl (SqL.of g2),_,_,rfl,rfl,hl,sa,_,_,_,rfl,rfl,SqL.of g2,hz,_,_,rfl,rfl,(by show (0:Int) < 2147483629; decide),?_⟩
    refine ⟨_,rfl,_,rfl,_,_,rfl,rfl,.inl ⟨by decide,by decide⟩,_,_,rfl,rfl,_,_,rfl,rfl,.inr ⟨by decide,by decide⟩,_,_,rfl,rfl,(by show (0:Int) < 2147483647; decide),?_⟩
    refine ⟨_,rfl,_,_,rfl,rfl,⟨by decide,by decide⟩,_,rfl,_,_,rfl,rfl,.inl ⟨by decide,by decide⟩,_,_,rfl,rfl,_,_,rfl,rfl,.inr ⟨by decide,by decide⟩,_,_,rfl,rfl,(by show (0:Int) < 2147483587; decide),?_⟩
    exact ⟨_,rfl,_,_,rfl,rfl,⟨by decide,by decide⟩,_,rfl,_,_,rfl,rfl,m0,q _ _ (Int.emod_nonneg _ (by omega)) (Int.emod_lt_of_pos _ m0) f2 x2⟩
end
end Odj
namespace Odj
open PySem PySem.Spec L2
section
variable {P:Program} {w:World} {K:W.Frag} {mg:Str->Option Value} {base:Heap} {f:Addr} {fd:FuncData} {cl:Str->Addr} {Y:Fam}
theorem x_NoTurns {C J:Addr} (F:Fun K "__init__" "NoTurns.__init__" (clsFn (top 5) 0) f fd) (r:RF K C J f) (j:JOk K J) (m:mg "NoTurns" = some (.ref C)) (n0:W.findIn K (.ref C) "place" = some none):RaiseOk P w K mg base "NoTurns" C (spX1 C "place"):=by
 have sc:FnScope ["self", "place"] ["self", "place"] (defScope (clsFn (top 5) 0)):=⟨rfl,rfl,rfl,by decide +kernel,rfl,by decide +kernel,by decide +kernel⟩
 refine raise_mk r j m (ps:=["self", "place"]) (F.okQ (k:=0) sc (fun vs H Q E h=>?_) (fun cdv A outer s H vs Q E hr h=>?_)) (F.binds fun _ _ _ _ _ _ us hl=>match us,hl with | [_,_],_=>rfl)
 ·obtain ⟨x,a,rfl,_⟩:=h
  rfl
 ·obtain ⟨x,a,rfl,hx,q⟩:=h
  exact ⟨_,(qss_one (qs_fldX K C (qv 0) (qv 1))),_,rfl,_,rfl,x,rfl,(r.mk' j).ec,n0,.inl ⟨hx,q⟩⟩
end
section
variable {P:Program} {w:World} {K:W.Frag} {mg:Str->Option Value} {base:Heap} {f:Addr} {fd:FuncData} {cl:Str->Addr} {Y:Fam}
theorem d_is_whole (F:FM K mg "is_whole" (top 10)) (B:BtA mg) :
  O_is_whole P w K mg base cl :=
 defU2 u_is_whole N0 F fun sc f cdv A outer s H E n0 S has hr hu =>
 (kss_one (s_ret (k_and (k_isi B.isinstance B.int (k_l 0)) (k_one (k_not (k_isi B.isinstance B.bool (k_l 0)))))))
theorem d_is_tuple_of (F:FM K mg "is_tuple_of" (top 11)) (B:BtA mg) :
  O_is_tuple_of P w K mg base cl :=
 defU2 u_is_tuple_of N1 F fun sc f cdv A outer s H E n0 S has hr hu =>
 (kss_one (s_ret (k_and (k_isi B.isinstance B.tuple (k_l 0)) (k_one (k_cmp (o_eq hu) (KE.loose (k_cB c_len B.len (kal_c (k_l 0) kal_nil))) (k_l 1))))))
theorem d_ties_at (F:FM K mg "ties_at" (top 13)) (B:BtA mg) :
  O_ties_at P w K mg base cl :=
 defU2 u_ties_at N3 F fun sc f cdv A outer s H E n0 S has hr hu =>
 (kss_one (s_ret (KN.data (n_comp [] (N:=N2) (mp:=[none,none,some 1]) rfl (j_enum B.enumerate (KE.loose (k_ix (k_l 0) (KE.loose k_int)))) rfl (co N3 (defScope (top 13))) (fun _ _ _ _ _=>⟨(g_t (n':=2) rfl (gs_c (g_m 0 (nd N2)) (gs_c (g_m 1 (nd N2)) gs_nil)) (nxs [0,1]) rfl),(kk_one (b_cmp (o_in hu) (k_l 2) (KE.loose (k_sl (k_l 1) ko_none (ko_some k_int))))),(k_v 0)⟩) (hfd:=fd0)))))
end
section
variable {P:Program} {w:World} {K:W.Frag} {mg:Str->Option Value} {base:Heap} {f:Addr} {fd:FuncData} {cl:Str->Addr} {Y:Fam}
theorem d_is_turn (F:FM K mg "is_turn" (top 15)) (B:BtA mg) (D_ties_at:O_ties_at P w K mg base cl) (D_is_whole:O_is_whole P w K mg base cl) :
  O_is_turn P w K mg base cl :=
 defU2 u_is_turn N5 F fun sc f cdv A outer s H E n0 S has hr hu =>
 (kss_c (s_if (KW.kb (w_or (b_not (b_val (k_isi B.isinstance B.tuple (k_l 2)))) (w_or1 (b_not (b_val (k_cB (c_all rfl) B.all (kal_c (KE.loose (KN.data (n_comp [] (N:=N4) (mp:=[none]) rfl (j_seq (k_l 2)) rfl (co N5 (defScope (top 15))) (fun _ _ _ _ _=>⟨(g_m 0 (nd N4)),kk_nil,(k_call D_is_whole (RM hr) (ka_c (k_v 0) ka_nil))⟩) (hfd:=fd0)))) kal_nil))))))) (kss_one (s_ret k_bl)) kss_nil)
 (kss_one (s_ret (k_cmp (o_eq hu) (KE.loose (KN.data (n_sortA B.sorted (k_l 2)))) (KE.loose (k_call D_ties_at (RM hr) (ka_c (k_v 0) (ka_c (k_v 1) ka_nil))))))))
theorem d_right_turns (F:FM K mg "right_turns" (top 16)) (B:BtA mg) (D_is_turn:O_is_turn P w K mg base cl) (D_is_tuple_of:O_is_tuple_of P w K mg base cl) (R_NoTurns:RaiseOk P w K mg base "NoTurns" (cl "NoTurns") (spX1 (cl "NoTurns") "place")) :
  O_right_turns P w K mg base cl :=
 defX2 u_right_turns N6 F fun sc f cdv A outer s H E n0 S has Ex hx hr hu hlv =>
 (kss_c (s_if (b_not (b_val (k_call D_is_tuple_of (RM hr) (ka_c (k_v 1) (ka_c (k_ix (k_l 0) (KE.loose k_int)) ka_nil))))) (kss_one (s_raise1 E Ex (XC cl) R_NoTurns (show FL "NoTurns" = (["place"]:List Str) by decide +kernel) (RM hr) hlv rfl hx (ka_c (k_neg k_int) ka_nil))) kss_nil)
 (kss_c (s_for PassesOwn.leaving rfl (i_enum B.enumerate (k_v 1)) (g_t (n':=2) rfl (gs_c (g_m 2 sc.nd) (gs_c (g_m 3 sc.nd) gs_nil)) (nxs [2,3]) rfl)
 (kss_one (s_if (b_not (b_val (k_call D_is_turn (RM hr) (ka_c (k_v 0) (ka_c (k_v 2) (ka_c (k_v 3) ka_nil)))))) (kss_one (s_raise1 E Ex (XC cl) R_NoTurns (show FL "NoTurns" = (["place"]:List Str) by decide +kernel) (RM hr) hlv rfl hx (ka_c (k_v 2) ka_nil))) kss_nil)))
 (kss_one (s_ret k_bl))))
theorem d_is_turns (F:FM K mg "is_turns" (top 17)) (B:BtA mg) (D_right_turns:O_right_turns P w K mg base cl) (xf:XF K mg (XC cl) EXC ALLC) :
  O_is_turns P w K mg base cl :=
 defU2 u_is_turns N7 F fun sc f cdv A outer s H E n0 S has hr hu =>
 (kss_one (s_tryR rfl xf (by decide +kernel) D_right_turns (RM hr) (fun _=>(ka_c (k_v 0) (ka_c (k_v 1) ka_nil))) (fun _=>(kss_one (s_ret k_bl)))))
end
section
variable {P:Program} {w:World} {K:W.Frag} {mg:Str->Option Value} {base:Heap} {f:Addr} {fd:FuncData} {cl:Str->Addr} {Y:Fam}
theorem d_law_shuffled (F:FM K mg "_law_shuffled" (top 21)) (B:BtA mg) (D_law_draw:O_law_draw P w K mg base Y) :
  O_law_shuffled P w K mg base Y :=
 defF2 (C:=XC fun _=>0) u_law_shuffled N8 F fun sc f cdv A outer s H E fa sa n0 S hf hS has hr hu =>
 (kss_c (s_nw 2 sc.nd (n_list B.list (k_l 1)))
 (kss_c (s_nw 3 sc.nd (kn_lst ka_nil))
 (kss_c (s_for PassesOwn.never rfl (i_range B.range (k_cB c_len B.len (kal_c (k_l 2) kal_nil))) (g_m 4 sc.nd)
 (kss_one (s_appPop 3 2 (by decide) (k_callF 0 D_law_draw (RM hr) (ka_c (k_cB c_len B.len (kal_c (k_l 2) kal_nil)) ka_nil) (hfd:=(by decide:0∈[0]))))))
 (kss_one (s_retO 3)))))
theorem d_law_price (F:FM K mg "_law_price" (top 22)) (B:BtA mg) (D_law_draw:O_law_draw P w K mg base Y) :
  O_law_price P w K mg base Y :=
 defF2 (C:=XC fun _=>0) u_law_price N9 F fun sc f cdv A outer s H E fa sa n0 S hf hS has hr hu =>
 (kss_one (s_ret (k_ix (KE.loose (KN.data (kn_lst (ka_c k_int (ka_c k_int (ka_c k_int (ka_c k_int (ka_c (k_op o_add (KE.loose k_int) (KE.loose (k_callF 0 D_law_draw (RM hr) (ka_c k_int ka_nil) (hfd:=(by decide:0∈[0]))))) (ka_c (k_callF 0 D_law_draw (RM hr) (ka_c k_int ka_nil) (hfd:=(by decide:0∈[0]))) ka_nil))))))))) (KE.loose (k_callF 0 D_law_draw (RM hr) (ka_c k_int ka_nil) (hfd:=(by decide:0∈[0])))))))
theorem d_law_web (F:FM K mg "_law_web" (top 23)) (B:BtA mg) (D_law_draw:O_law_draw P w K mg base Y) (D_law_price:O_law_price P w K mg base Y) :
  O_law_web P w K mg base Y :=
 defF2 (C:=XC fun _=>0) u_law_web N10 F fun sc f cdv A outer s H E fa sa n0 S hf hS has hr hu =>
 (kss_c (s_st 3 sc.nd (k_op o_add (KE.loose k_int) (KE.loose (k_callF 0 D_law_draw (RM hr) (ka_c (k_v 1) ka_nil) (hfd:=(by decide:0∈[0]))))))
 (kss_c (s_nw 4 sc.nd (kn_lst ka_nil))
 (kss_c (s_for PassesOwn.never rfl (i_range B.range (k_op o_mul (KE.loose (k_callF 0 D_law_draw (RM hr) (ka_c (k_op o_add (k_l 2) (KE.loose k_int)) ka_nil) (hfd:=(by decide:0∈[0])))) (KE.loose (k_cT c_int B.int (kal_c (KE.loose (k_cmp o_gt (k_l 3) (KE.loose k_int))) kal_nil))))) (g_m 5 sc.nd)
 (kss_c (s_st 6 sc.nd (k_callF 0 D_law_draw (RM hr) (ka_c (k_v 3) ka_nil) (hfd:=(by decide:0∈[0]))))
 (kss_c (s_st 7 sc.nd (k_op o_mod (KE.loose (k_op o_add (KE.loose (k_op o_add (k_l 6) (KE.loose k_int))) (KE.loose (k_callF 0 D_law_draw (RM hr) (ka_c (k_op o_sub (k_l 3) (KE.loose k_int)) ka_nil) (hfd:=(by decide:0∈[0])))))) (k_l 3)))
 (kss_one (s_meth 4 PySem.F.plainAttrs_list PySem.F.slot_list_append PySem.F.type_list_append (m_append) (ka_c (k_tup (ka_c (k_cB (c_min2 rfl) B.min (kal_c (k_l 6) (kal_c (k_l 7) kal_nil))) (ka_c (k_cB (c_max2 rfl) B.max (kal_c (k_l 6) (kal_c (k_l 7) kal_nil))) (ka_c (k_callF 0 D_law_price (RM hr) ka_nil (hfd:=(by decide:0∈[0]))) ka_nil)))) ka_nil))))))
 (kss_one (s_ret (k_tup (ka_c (k_v 3) (ka_c (k_cT c_tuple B.tuple (kal_c (k_l 4) kal_nil)) ka_nil))))))))
end
section
variable {P:Program} {w:World} {K:W.Frag} {mg:Str->Option Value} {base:Heap} {f:Addr} {fd:FuncData} {cl:Str->Addr} {Y:Fam}
theorem d_law_odd (F:FM K mg "_law_odd" (top 24)) (B:BtA mg) (D_law_draw:O_law_draw P w K mg base Y) :
  O_law_odd P w K mg base Y :=
 defF2 (C:=XC fun _=>0) u_law_odd N11 F fun sc f cdv A outer s H E fa sa n0 S hf hS has hr hu =>
 (kss_c (s_st 2 sc.nd (KN.data (kn_lst (ka_c k_non (ka_c k_bl (ka_c k_bl (ka_c (k_neg k_int) (ka_c k_int (ka_c k_int (ka_c k_int (ka_c k_int (ka_c (k_op o_pow (KE.loose k_int) (KE.loose k_int)) (ka_c k_str (ka_c k_str (ka_c k_str (ka_c (k_tup ka_nil) (ka_c (KN.data (kn_lst ka_nil)) (ka_c (k_tup (ka_c k_int ka_nil)) (ka_c (k_tup (ka_c k_int (ka_c k_int ka_nil))) (ka_c (k_tup (ka_c k_int (ka_c k_int ka_nil))) ka_nil))))))))))))))))))))
 (kss_c (s_st 2 sc.nd (k_op o_add (k_l 2) (KE.loose (KN.data (kn_lst (ka_c (k_tup (ka_c k_bl ka_nil)) (ka_c (k_tup (ka_c (k_tup (ka_c k_int ka_nil)) ka_nil)) ka_nil)))))))
 (kss_x (s_if (b_val (k_isi B.isinstance B.tuple (k_l 1))) (kss_one (s_st 2 sc.nd (k_op o_add (k_l 2) (KE.loose (k_op o_mul (KE.loose (KN.data (kn_lst (ka_c (KN.data (n_list B.list (k_l 1))) (ka_c (k_op o_add (k_l 1) (KE.loose (k_tup (ka_c k_int ka_nil)))) (ka_c (k_sl (k_l 1) ko_none (ko_some (k_neg k_int))) (ka_c (k_sl (k_l 1) (ko_some k_int) ko_none) (ka_c (k_op o_add (k_l 1) (KE.loose (k_sl (k_l 1) ko_none (ko_some k_int)))) (ka_c (k_tup (ka_c (k_v 1) ka_nil)) (ka_c (k_revA (k_l 1)) ka_nil)))))))))) (KE.loose k_int)))))) kss_nil)
 (kss_x (s_if (KW.kb (w_and (b_val (k_isi B.isinstance B.int (k_l 1))) (w_and1 (b_not (b_val (k_isi B.isinstance B.bool (k_l 1))))))) (kss_one (s_st 2 sc.nd (k_op o_add (k_l 2) (KE.loose (k_op o_mul (KE.loose (KN.data (kn_lst (ka_c (k_op o_add (k_l 1) (KE.loose k_int)) (ka_c (k_op o_sub (k_l 1) (KE.loose k_int)) (ka_c (k_op o_mul (k_l 1) (KE.loose k_int)) ka_nil)))))) (KE.loose k_int)))))) kss_nil)
 (kss_one (s_ret (k_ix (k_l 2) (KE.loose (k_callF 0 D_law_draw (RM hr) (ka_c (k_cB c_len B.len (kal_c (k_l 2) kal_nil)) ka_nil) (hfd:=(by decide:0∈[0])))))))))))
theorem t_law_bent {kk:Nat} (Rc:UF) (hkk:2<=kk) (F:FM K mg "_law_bent" (top 25)) (B:BtA mg) (D_law_draw:O_law_draw P w K mg base Y) (D_law_odd:O_law_odd P w K mg base Y) (D_law_bent:DefOk P w K mg base kk "_law_bent" ["_law_feed_here", "_law_part", "_law_deep"] (spUF Y Rc)) :
  DefOk P w K mg base (kk + 1) "_law_bent" ["_law_feed_here", "_law_part", "_law_deep"] (spUF Y (T_law_bent Rc)) :=
 defF2 (C:=XC fun _=>0) (u_law_bent Rc) N12 F fun sc f cdv A outer s H E fa sa n0 S hf hS has hr hu =>
 (kss_x (s_if (KW.kb (w_or (b_not (b_val (k_isi B.isinstance B.tuple (k_l 1)))) (w_or (b_cmp (o_eq hu) (KE.loose (k_cB c_len B.len (kal_c (k_l 1) kal_nil))) (KE.loose k_int)) (w_or (b_cmp (o_eq hu) (k_l 2) (KE.loose k_int)) (w_or1 (b_cmp (o_eq hu) (KE.loose (k_callF 0 D_law_draw (hr.mono (by omega)) (ka_c k_int ka_nil) (hfd:=(by decide:0∈[0])))) (KE.loose k_int))))))) (kss_one (s_ret (k_callF 0 D_law_odd (hr.mono (by omega)) (ka_c (k_v 1) ka_nil) (hfd:=(by decide:0∈[0]))))) kss_nil)
 (kss_c (s_st 3 sc.nd (k_callF 0 D_law_draw (hr.mono (by omega)) (ka_c (k_cB c_len B.len (kal_c (k_l 1) kal_nil)) ka_nil) (hfd:=(by decide:0∈[0]))))
 (kss_one (s_ret (k_op o_add (KE.loose (k_op o_add (KE.loose (k_sl (k_l 1) ko_none (ko_some (k_v 3)))) (KE.loose (k_tup (ka_c (k_callF 0 D_law_bent (hr.mono (by omega)) (ka_c (k_ix (k_l 1) (k_l 3)) (ka_c (k_op o_sub (k_l 2) (KE.loose k_int)) ka_nil)) (hfd:=(by decide:0∈[0]))) ka_nil))))) (KE.loose (k_sl (k_l 1) (ko_some (k_op o_add (k_l 3) (KE.loose k_int))) ko_none)))))))
theorem dn_law_bent (F:FM K mg "_law_bent" (top 25)) (B:BtA mg) (D_law_draw:O_law_draw P w K mg base Y) (D_law_odd:O_law_odd P w K mg base Y):∀ d:Nat,DefOk P w K mg base (3 + d) "_law_bent" ["_law_feed_here", "_law_part", "_law_deep"] (spUF Y (Fn_law_bent d))
 | 0=>let ⟨_,_,F,hm⟩:=F.ex; def0F F hm (F.binds fun _ _ _ _ _ _ us hl=>by obtain ⟨_,_,_,rfl⟩:=len3 hl; rfl)
 | d + 1=>t_law_bent (kk:=3 + d) _ (by omega) F B D_law_draw D_law_odd (dn_law_bent F B D_law_draw D_law_odd d)
theorem d_law_bent (F:FM K mg "_law_bent" (top 25)) (B:BtA mg) (D_law_draw:O_law_draw P w K mg base Y) (D_law_odd:O_law_odd P w K mg base Y):O_law_bent P w K mg base Y:=dn_law_bent F B D_law_draw D_law_odd 10
theorem d_law_refusal (F:FM K mg "_law_refusal" (top 26)) (B:BtA mg) (xf:XF K mg (XC cl) EXC ALLC) :
  O_law_refusal P w K mg base cl:=by
 obtain ⟨f,fd,F,hm⟩:=F.ex
 have sc:FnScope N13 ["_law_e"] (defScope (top 26)):=scm
 exact defE (C:=XC cl) (u:=u_law_refusal) F hm sc (F.binds fun _ _ _ _ _ _ us hl=>by obtain ⟨_,rfl⟩:=len1 hl; rfl) (by decide) fun cdv A outer s H E n0 S has=>(kss_c (s_nw 1 sc.nd (kn_lst ka_nil))
 (kss_c (s_if (b_val (k_isx 0 rfl xf (by decide +kernel) B.isinstance)) (kss_one (s_meth 1 PySem.F.plainAttrs_list PySem.F.slot_list_append PySem.F.type_list_append (m_append) (ka_c (k_tup (ka_c (k_flx 0 rfl xf) (ka_c (k_flx 0 rfl xf) ka_nil))) ka_nil))) kss_nil)
 (kss_c (s_if (b_val (k_isx 0 rfl xf (by decide +kernel) B.isinstance)) (kss_one (s_meth 1 PySem.F.plainAttrs_list PySem.F.slot_list_append PySem.F.type_list_append (m_append) (ka_c (k_tup (ka_c k_str (ka_c (k_flx 0 rfl xf) ka_nil))) ka_nil))) kss_nil)
 (kss_c (s_if (b_val (k_isx 0 rfl xf (by decide +kernel) B.isinstance)) (kss_one (s_meth 1 PySem.F.plainAttrs_list PySem.F.slot_list_append PySem.F.type_list_append (m_append) (ka_c (k_tup (ka_c k_str (ka_c (k_flx 0 rfl xf) ka_nil))) ka_nil))) kss_nil)
 (kss_c (s_if (b_val (k_isx 0 rfl xf (by decide +kernel) B.isinstance)) (kss_one (s_meth 1 PySem.F.plainAttrs_list PySem.F.slot_list_append PySem.F.type_list_append (m_append) (ka_c (k_tup (ka_c k_str (ka_c (k_flx 0 rfl xf) ka_nil))) ka_nil))) kss_nil)
 (kss_c (s_if (b_val (k_isx 0 rfl xf (by decide +kernel) B.isinstance)) (kss_one (s_meth 1 PySem.F.plainAttrs_list PySem.F.slot_list_append PySem.F.type_list_append (m_append) (ka_c (k_tup (ka_c k_str (ka_c (k_flx 0 rfl xf) ka_nil))) ka_nil))) kss_nil)
 (kss_c (s_st 2 sc.nd (k_or (k_isxT 0 rfl xf (by decide +kernel) B.isinstance (cs_c xf (by decide +kernel) (cs_c xf (by decide +kernel) cs_nil))) (k_one (k_not (k_isxV 0 rfl xf B.isinstance B.ValueError)))))
 (kss_one (s_ret (k_if (KW.kb (w_and (b_cmp o_eqI (KE.loose (k_cB c_len B.len (kal_c (k_l 1) kal_nil))) (KE.loose k_int)) (w_and1 (b_not (b_val (k_v 2)))))) (k_ix (k_l 1) (KE.loose k_int)) (k_tup (ka_c k_str ka_nil))))))))))))
end
section
variable {P:Program} {w:World} {K:W.Frag} {mg:Str->Option Value} {base:Heap} {f:Addr} {fd:FuncData} {cl:Str->Addr} {Y:Fam}
theorem d_law_due (F:FM K mg "_law_due" (top 27)) (B:BtA mg) :
  O_law_due P w K mg base cl :=
 defU2 u_law_due N15 F fun sc f cdv A outer s H E n0 S has hr hu =>
 (kss_c (s_if (KW.kb (w_or (b_not (b_val (k_isi B.isinstance B.tuple (k_l 1)))) (w_or1 (b_cmp (o_ne hu) (KE.loose (k_cB c_len B.len (kal_c (k_l 1) kal_nil))) (KE.loose (k_ix (k_l 0) (KE.loose k_int))))))) (kss_one (s_ret (k_tup (ka_c k_str (ka_c (k_neg k_int) ka_nil))))) kss_nil)
 (kss_c (s_for PassesOwn.never rfl (i_range B.range (k_ix (k_l 0) (KE.loose k_int))) (g_m 2 sc.nd (Or.inr rfl))
 (kss_c (s_comp (i:=3) false [] sc.nd (N:=N16) (mp:=[none,some 2,some 0]) rfl (j_range B.range (k_cB c_len B.len (kal_c (KE.loose (k_ix (k_l 0) (KE.loose k_int))) kal_nil))) rfl (co N15 (defScope (top 27))) (fun _ _ _ _ _=>⟨(g_m 0 (nd N16)),(kk_one (b_cmp (o_in hu) (k_l 1) (KE.loose (k_sl (KE.loose (k_ix (KE.loose (k_ix (k_l 2) (KE.loose k_int))) (k_l 0))) ko_none (ko_some k_int))))),(k_v 0)⟩) (hfd:=fd0) (hfi:=(nf 3 [])))
 (kss_c (s_st 4 sc.nd (k_ix (k_l 1) (k_l 2)))
 (kss_c (s_if (KW.kb (w_or (b_not (b_val (k_isi B.isinstance B.tuple (k_l 4)))) (w_or1 (b_cmp (o_ne hu) (KE.loose (k_cB c_len B.len (kal_c (k_l 4) kal_nil))) (KE.loose (k_cB c_len B.len (kal_c (k_l 3) kal_nil))))))) (kss_one (s_ret (k_tup (ka_c k_str (ka_c (k_v 2) ka_nil))))) kss_nil)
 (kss_one (s_if (KW.kb (w_or (b_cmp (o_ne hu) (KE.loose (KN.data (n_comp [] (N:=N14) (mp:=[none]) rfl (j_seq (k_l 4)) rfl (co N15 (defScope (top 27))) (fun _ _ _ _ _=>⟨(g_m 0 (nd N14)),(kk_one (KW.kb (w_or (b_not (b_val (k_isi B.isinstance B.int (k_l 0)))) (w_or1 (b_val (k_isi B.isinstance B.bool (k_l 0))))))),(k_v 0)⟩) (hfd:=fd0)))) (KE.loose (KN.data (kn_lst ka_nil)))) (w_or1 (b_setNe B.set rfl hu (k_l 4) (k_l 3))))) (kss_one (s_ret (k_tup (ka_c k_str (ka_c (k_v 2) ka_nil))))) kss_nil))))))
 (kss_one (s_ret k_bl))))
theorem d_law_told (F:FM K mg "_law_told" (top 28)) (B:BtA mg) (D_right_turns:O_right_turns P w K mg base cl) (D_law_refusal:O_law_refusal P w K mg base cl) (xf:XF K mg (XC cl) EXC ALLC) :
  O_law_told P w K mg base cl :=
 defU2 u_law_told N17 F fun sc f cdv A outer s H E n0 S has hr hu =>
 (kss_c (s_st 2 sc.nd k_str)
 (kss_c (s_tryA (i:=2) (j:=3) rfl xf (by decide +kernel) D_right_turns (RM hr) sc.nd (Or.inl rfl) (fun _=>(ka_c (k_v 0) (ka_c (k_v 1) ka_nil))) (fun _=>(kss_one (s_st 2 sc.nd (k_callE 3 rfl D_law_refusal ((RM hr).h _))))) (nf 2 []) (nf 3 []))
 (kss_one (s_ret (k_v 2)))))
theorem d_law_two (F:FM K mg "_law_two" (top 29)) (B:BtA mg) (D_law_bent:O_law_bent P w K mg base Y) (D_law_draw:O_law_draw P w K mg base Y) :
  O_law_two P w K mg base Y :=
 defF2 (C:=XC fun _=>0) u_law_two N18 F fun sc f cdv A outer s H E fa sa n0 S hf hS has hr hu =>
 (kss_x (s_if (KW.kb (w_or (b_cmp o_lt (KE.loose (k_cB c_len B.len (kal_c (k_l 1) kal_nil))) (KE.loose k_int)) (w_or1 (b_cmp (o_eq hu) (KE.loose (k_callF 0 D_law_draw (RM hr) (ka_c k_int ka_nil) (hfd:=(by decide:0∈[0])))) (KE.loose k_int))))) (kss_one (s_ret (k_callF 0 D_law_bent (RM hr) (ka_c (k_callF 0 D_law_bent (RM hr) (ka_c (k_v 1) (ka_c k_int ka_nil)) (hfd:=(by decide:0∈[0]))) (ka_c k_int ka_nil)) (hfd:=(by decide:0∈[0]))))) kss_nil)
 (kss_c (s_st 2 sc.nd (k_callF 0 D_law_draw (RM hr) (ka_c (k_op o_sub (KE.loose (k_cB c_len B.len (kal_c (k_l 1) kal_nil))) (KE.loose k_int)) ka_nil) (hfd:=(by decide:0∈[0]))))
 (kss_c (s_st 3 sc.nd (k_op o_add (KE.loose (k_op o_add (k_l 2) (KE.loose k_int))) (KE.loose (k_callF 0 D_law_draw (RM hr) (ka_c (k_op o_sub (KE.loose (k_op o_sub (KE.loose (k_cB c_len B.len (kal_c (k_l 1) kal_nil))) (KE.loose k_int))) (k_l 2)) ka_nil) (hfd:=(by decide:0∈[0]))))))
 (kss_c (s_par (i:=4) (j:=5) rfl sc.nd (by decide) (ka_c (k_callF 0 D_law_bent (RM hr) (ka_c (k_ix (k_l 1) (k_l 2)) (ka_c k_int ka_nil)) (hfd:=(by decide:0∈[0]))) (ka_c (k_callF 0 D_law_bent (RM hr) (ka_c (k_ix (k_l 1) (k_l 3)) (ka_c k_int ka_nil)) (hfd:=(by decide:0∈[0]))) ka_nil)) (hfi:=(nf 4 [0])) (hfj:=(nf 5 [0])))
 (kss_one (s_ret (k_op o_add (KE.loose (k_op o_add (KE.loose (k_op o_add (KE.loose (k_op o_add (KE.loose (k_sl (k_l 1) ko_none (ko_some (k_v 2)))) (KE.loose (k_tup (ka_c (k_v 4) ka_nil))))) (KE.loose (k_sl (k_l 1) (ko_some (k_op o_add (k_l 2) (KE.loose k_int))) (ko_some (k_v 3)))))) (KE.loose (k_tup (ka_c (k_v 5) ka_nil))))) (KE.loose (k_sl (k_l 1) (ko_some (k_op o_add (k_l 3) (KE.loose k_int))) ko_none)))))))))
end
section
variable {P:Program} {w:World} {K:W.Frag} {mg:Str->Option Value} {base:Heap} {f:Addr} {fd:FuncData} {cl:Str->Addr} {Y:Fam}
theorem d_law_right (F:FM K mg "_law_right" (top 30)) (B:BtA mg) (D_is_turns:O_is_turns P w K mg base cl) (D_law_told:O_law_told P w K mg base cl) (D_law_due:O_law_due P w K mg base cl) :
  O_law_right P w K mg base cl :=
 defU2 u_law_right N19 F fun sc f cdv A outer s H E n0 S has hr hu =>
 (kss_c (s_st 2 sc.nd (k_repr hr B.repr (k_tup (ka_c (k_v 0) (ka_c (k_v 1) ka_nil)))))
 (kss_c (s_st 3 sc.nd (k_call D_law_due (RM hr) (ka_c (k_v 0) (ka_c (k_v 1) ka_nil))))
 (kss_c (s_if (KW.kb (w_or (b_cmp o_nes (KE.loose (k_repr hr B.repr (k_call D_law_told (RM hr) (ka_c (k_v 0) (ka_c (k_v 1) ka_nil))))) (KE.loose (k_repr hr B.repr (k_v 3)))) (w_or1 (b_cmp o_nes (KE.loose (k_repr hr B.repr (k_call D_is_turns (RM hr) (ka_c (k_v 0) (ka_c (k_v 1) ka_nil))))) (KE.loose (k_repr hr B.repr (k_cmp o_isT (k_l 3) (KE.loose k_bl)))))))) (kss_one (s_ret k_bl)) kss_nil)
 (kss_one (s_ret (k_cmp o_eqs (KE.loose (k_repr hr B.repr (k_tup (ka_c (k_v 0) (ka_c (k_v 1) ka_nil))))) (k_l 2)))))))
end
section
variable {P:Program} {w:World} {K:W.Frag} {mg:Str->Option Value} {base:Heap} {f:Addr} {fd:FuncData} {cl:Str->Addr} {Y:Fam}
theorem d_law (F:Fun K "law" "law" (top 31) f fd) (B:BtA mg) (D_law_feed:DefOk P w K mg base 1 "_law_feed" ["_law_script"] (spFeedY Y K)) (D_law_two:O_law_two P w K mg base Y) (D_law_right:O_law_right P w K mg base cl) (D_law_bent:O_law_bent P w K mg base Y) (D_law_shuffled:O_law_shuffled P w K mg base Y) (D_law_web:O_law_web P w K mg base Y) (hu0:u_law { nx:=fun _ _=>False,rt:=fun d _=>d=.bool true } (List.replicate 11 none) 0) :
  FnOk P w K mg base CX0 20 f fd ["_law_script"] (spLaw K):=by
 have sc:FnScope N21 ["_law_script"] (defScope (top 31)):=scm
 refine lawU (C:=XC cl) (Y:=Y) (k:=19) (u:=u_law) F sc (by decide) (fun cdv A outer s H E hr=>⟨qs_set (i:=1) sc.nd rfl (Or.inr rfl) (qe_callD D_law_feed (RM hr) (qa_c (qv 0) qa_nil)),fun fa sa n0 S H1 hf hS has=>?_⟩) rfl hu0
 have hu:=hr.units
 unfold u_law
 exact (kss_c (s_for PassesOwn.never rfl (i_range B.range k_int) (g_m 2 sc.nd)
 (kss_c (s_st 3 sc.nd (k_callF 1 D_law_web (RM hr) (ka_c (k_ix (KE.loose (KN.data (kn_lst (ka_c k_int (ka_c k_int ka_nil))))) (KE.loose (k_op o_mod (k_l 2) (KE.loose k_int)))) (ka_c (k_ix (KE.loose (KN.data (kn_lst (ka_c k_int (ka_c k_int ka_nil))))) (KE.loose (k_op o_mod (k_l 2) (KE.loose k_int)))) ka_nil)) (hfd:=(by decide:1∈[1]))) (Or.inr rfl))
 (kss_c (s_nw 4 sc.nd (kn_lst ka_nil))
 (kss_c (s_for PassesOwn.never rfl (i_range B.range (k_ix (k_l 3) (KE.loose k_int))) (g_m 5 sc.nd (Or.inr rfl))
 (kss_c (s_comp (i:=6) false [] sc.nd (N:=N16) (mp:=[none,some 5,some 3]) rfl (j_range B.range (k_cB c_len B.len (kal_c (KE.loose (k_ix (k_l 3) (KE.loose k_int))) kal_nil))) rfl (co N21 (defScope (top 31))) (fun _ _ _ _ _=>⟨(g_m 0 (nd N16)),(kk_one (b_cmp (o_in hu) (k_l 1) (KE.loose (k_sl (KE.loose (k_ix (KE.loose (k_ix (k_l 2) (KE.loose k_int))) (k_l 0))) ko_none (ko_some k_int))))),(k_v 0)⟩) (hfd:=fd0) (hfi:=(nf 6 [1])))
 (kss_one (s_meth 4 PySem.F.plainAttrs_list PySem.F.slot_list_append PySem.F.type_list_append (m_append) (ka_c (k_cT c_tuple B.tuple (kal_c (KE.loose (k_callF 1 D_law_shuffled (RM hr) (ka_c (k_v 6) ka_nil) (hfd:=(by decide:1∈[1])))) kal_nil)) ka_nil)))))
 (kss_c (s_st 7 sc.nd (k_cT c_tuple B.tuple (kal_c (k_l 4) kal_nil)) (Or.inr rfl))
 (kss_c (s_st 8 sc.nd (KN.data (kn_lst (ka_c (k_v 7) (ka_c (KN.data (n_list B.list (k_l 7))) (ka_c (k_tup ka_nil) (ka_c k_non (ka_c (k_op o_add (k_l 7) (KE.loose (k_tup (ka_c (k_tup ka_nil) ka_nil)))) (ka_c (k_revA (k_l 7)) (ka_c (k_op o_mul (KE.loose (k_tup (ka_c (k_tup ka_nil) ka_nil))) (KE.loose (k_ix (k_l 3) (KE.loose k_int)))) ka_nil))))))))))
 (kss_one (s_for PassesOwn.never rfl (i_seq (k_op o_add (k_l 8) (KE.loose (KN.data (n_comp [1] (N:=N20) (mp:=[none,some 1,some 7]) rfl (j_range B.range k_int) rfl (co N21 (defScope (top 31))) (fun _ _ _ _ _=>⟨(g_m 0 (nd N20)),kk_nil,(k_callF 1 D_law_bent (RM hr) (ka_c (k_v 2) (ka_c k_int ka_nil)) (hfd:=(by decide:1∈[1])))⟩) (hfd:=(fd1 (i:=1) rfl))))))) (g_m 9 sc.nd)
 (kss_one (s_if (b_not (b_val (k_call D_law_right (RM hr) (ka_c (k_v 3) (ka_c (k_v 9) ka_nil))))) (kss_one (s_ret k_bl)) kss_nil))))))))))
 (kss_c (s_for PassesOwn.never rfl (i_range B.range k_int) (g_m 10 sc.nd)
 (kss_one (s_for PassesOwn.never rfl (i_seq (KN.data (kn_lst (ka_c (k_callF 1 D_law_two (RM hr) (ka_c (k_v 7) ka_nil) (hfd:=(by decide:1∈[1]))) (ka_c (k_v 7) ka_nil))))) (g_m 9 sc.nd)
 (kss_one (s_if (b_not (b_val (k_call D_law_right (RM hr) (ka_c (k_v 3) (ka_c (k_v 9) ka_nil))))) (kss_one (s_ret k_bl)) kss_nil)))))
 (kss_one (s_ret k_bl))))
end
end Odj
namespace Odj
open PySem L2
local macro_rules | `(tactic| simp! [$ls,*]) => do let ex <- ("mkF mkFF envOf List.length_cons List.length_nil List.map_cons List.map_nil List.cons_append List.nil_append List.append_nil List.replicate_succ List.replicate_zero Nat.reduceSub Nat.reduceAdd true_and and_true uSeq uNext uIfS uRet uRetO uRetN uSet uNew uAsg uDrop uPar uVar uLoose uC uNil uCons uTup uL uTupL uOp uTst isB_bool uAnd uOr uNot uAndV uOrV uNotV uIf uUn uCB uIsi uCall uCallX uCallL uChn uRaise uMeth uSetI uAugI uAug uFor uItV uIt uIe uIr uIr2 uComp uJt uJe uJr uJr2 uYes uSl uNo uSo uSlL uCat uMul uSeqL uRngL uSort uSortS uSrt uSrtA uShr uTupRev uCnt isSeqD uRepr uLenSet uNm uTp uTps seedP bnd_some bnd_none seqD ixD_t ixD_l List.getElem?_cons_zero List.getElem?_cons_succ List.set_cons_zero List.set_cons_succ Option.join_some Option.join_none if_true if_false Bool.not_true Bool.not_false Bool.true_eq_false Bool.false_eq_true reduceIte".splitOn " ").toArray.mapM fun s => `(Lean.Parser.Tactic.simpLemma| $(Lean.mkIdent s.toName):ident); `(tactic| simp only [$ls,*, $ex,*])
abbrev Tie:=Int × Int × Int
def tieD (t:Tie):PyData:=.tuple [.int t.1,.int t.2.1,.int t.2.2]
def webD (many:Int) (ts:List Tie):PyData:=.tuple [.int many,.tuple (ts.map tieD)]
theorem subII (i j:Int):subD (.int i) (.int j)=some (.int (i - j)):=by simp only [subD]
theorem addII (i j:Int):addD (.int i) (.int j)=some (.int (i + j)):=by simp only [addD]
def isWhole (d:PyData):Bool:=match d with | .int _=>true | _=>false
section
variable {n:Int} {Q:PyData->Int->Prop} {X:XQ}
theorem is_whole_eq (d:PyData):F_is_whole [d] n Q X=Q (.bool (isWhole d)) n:=by
 simp! [F_is_whole,u_is_whole]
 cases d <;> simp [isiD,isWhole]
def tupOf (k:Int) (d:PyData):Bool:=match d with | .tuple ds=>decide ((ds.length:Int)=k) | _=>false
theorem is_tuple_of_eq (d:PyData) (k:Int):F_is_tuple_of [d,.int k] n Q X=Q (.bool (tupOf k d)) n:=by
 simp! [F_is_tuple_of,u_is_tuple_of]
 cases d <;> simp [isiD,lenD',eqD_int,tupOf]
def rising:Int->List PyData->Bool
 | _,[]=>true
 | a,.int i::ds=>decide (a < i) && rising i ds
 | _,_::_=>false
theorem tie_get {ts:List Tie} {i:Int} (h0:0<=i) (h1:i < (ts.length:Int)):∃ t,ts[i.toNat]? = some t/\t∈ts/\atI (ts.map tieD) i=some (tieD t):=by
 have hl:i.toNat < ts.length:=by omega
 refine ⟨ts[i.toNat],by simp [hl],List.getElem_mem _,?_⟩
 rw [atI_at h0 (by simpa using h1),List.getElem?_map]
 simp [hl]
end
mutual
def Wl (k:Nat):PyData->Prop
 | .tuple ds=>ds.length<=k/\WlL k ds
 | .list ds=>ds.length<=k/\WlL k ds
 | _=>True
def WlL (k:Nat):List PyData->Prop
 | []=>True
 | d::ds=>Wl k d/\WlL k ds
end
theorem wll_iff {k:Nat}:∀ {ds:List PyData},WlL k ds↔∀ d∈ds,Wl k d
 | []=>by simp [WlL]
 | d::ds=>by rw [WlL,wll_iff (ds:=ds)]; simp
mutual
theorem wl_mono {k l:Nat} (h:k<=l):∀ d:PyData,Wl k d->Wl l d
 | .none,_=>trivial
 | .bool _,_=>trivial
 | .int _,_=>trivial
 | .str _,_=>trivial
 | .tuple ds,z=>by rw [Wl] at z ⊢; exact ⟨Nat.le_trans z.1 h,wll_mono h ds z.2⟩
 | .list ds,z=>by rw [Wl] at z ⊢; exact ⟨Nat.le_trans z.1 h,wll_mono h ds z.2⟩
 | .dict _,_=>trivial
theorem wll_mono {k l:Nat} (h:k<=l):∀ ds:List PyData,WlL k ds->WlL l ds
 | [],_=>trivial
 | d::ds,z=>⟨wl_mono h d z.1,wll_mono h ds z.2⟩
end
theorem wl_tup {k:Nat} {ds:List PyData} (h:ds.length<=k) (h2:∀ d∈ds,Wl k d):Wl k (.tuple ds):=by rw [Wl]; exact ⟨h,wll_iff.mpr h2⟩
theorem wl_lst {k:Nat} {ds:List PyData} (h:ds.length<=k) (h2:∀ d∈ds,Wl k d):Wl k (.list ds):=by rw [Wl]; exact ⟨h,wll_iff.mpr h2⟩
theorem wl_of {k:Nat} {ds:List PyData} (h:Wl k (.tuple ds)):ds.length<=k/\∀ d∈ds,Wl k d:=by rw [Wl] at h; exact ⟨h.1,wll_iff.mp h.2⟩
structure Bd (B w p k:Nat) (d:PyData):Prop where
 sz:Sz B 11 w p d
 wl:Wl k d
theorem Bd.mono {B w p k B' w' p' k':Nat} {d:PyData} (h:Bd B w p k d) (h1:B<=B') (h2:w<=w') (h3:p<=p') (h4:k<=k'):Bd B' w' p' k' d:=⟨h.sz.mono h1 (Nat.le_refl _) h2 h3,wl_mono h4 d h.wl⟩
section
variable {B w p k:Nat}
theorem bdI {i:Int} (h:i.natAbs<=B) (hB:B<=10 ^ 50):Bd B 168 0 k (.int i):=⟨Sz.int h hB,trivial⟩
theorem bdB (b:Bool):Bd B 0 0 k (.bool b):=⟨Sz.bl b,trivial⟩
theorem bdN:Bd B 0 0 k .none:=⟨Sz.non,trivial⟩
theorem bdS {x:Str} (h:(x.cps.toList.all (fun c=>decide (c < 1114112)) && decide (x.cps.size<=11))=true):Bd B 11 0 k (.str x):=⟨Sz.str h,trivial⟩
theorem bd0:Bd B 0 1 k (.tuple []):=⟨Sz.tup SzL.nil,wl_tup (Nat.zero_le _) (by simp)⟩
theorem bdL0:Bd B 0 1 k (.list []):=⟨Sz.lst SzL.nil,wl_lst (Nat.zero_le _) (by simp)⟩
theorem bd1 {x:PyData} (h:Bd B w p k x) (hk:1<=k):Bd B (w + 1) (p + 1) k (.tuple [x]):=⟨(Sz.tup (SzL.cons h.sz SzL.nil)).mono (Nat.le_refl _) (Nat.le_refl _) (by omega) (by omega),wl_tup (by simpa using hk) (by simpa using h.wl)⟩
theorem bd2 {x y:PyData} (h:Bd B w p k x) (h2:Bd B w p k y) (hk:2<=k):Bd B (2 * w + 2) (p + 1) k (.tuple [x,y]):=⟨(Sz.tup (SzL.cons h.sz (SzL.cons h2.sz SzL.nil))).mono (Nat.le_refl _) (Nat.le_refl _) (by omega) (by omega),wl_tup (by simpa using hk) (by simpa using ⟨h.wl,h2.wl⟩)⟩
end
section
variable {n:Int} {X:XQ} {Q:PyData->Int->Prop}
theorem law_shuffled_ok {ds:List PyData} (hl:ds.length < 1000) (hn:n + ds.length<=mostN) (h:∀ es:List PyData,es.length=ds.length->(∀ d∈es,d∈ds)->Q (.list es) (n + ds.length)):F_law_shuffled [.list ds] n Q X:=by
 have hsz:sizeLine=16777216:=by decide
 have hmost:mostN=1099511627776:=by decide
 unfold F_law_shuffled u_law_shuffled
 simp only [mkF,mkFF,envOf,List.map_cons,List.map_nil,List.length_cons,List.length_nil,Nat.reduceSub,Nat.reduceAdd,List.replicate_succ,List.replicate_zero,List.cons_append,List.nil_append]
 simp! [lenD']
 refine ⟨by omega,by omega,?_⟩
 rw [Int.toNat_natCast]
 refine loop_inv (fun pre post env n'=>∃ (left found:List PyData) (x4:Option Ent),env=[none,some (.s (.list ds)),some (.o left),some (.o found),x4]/\left.length=post.length/\found.length=pre.length/\n'=n + pre.length/\pre.length + post.length=ds.length/\(∀ d∈left,d∈ds)/\(∀ d∈found,d∈ds)) _ [] _ _ ?_ ⟨ds,[],none,rfl,by rw [rngD_eq,List.length_map,rngI_len],rfl,by simp,by rw [rngD_eq,List.length_map,rngI_len]; simp,fun _ h=>h,by simp⟩ ?_
 ·rintro pre d post env n' E' hE ⟨left,found,x4,rfl,hl1,hl2,rfl,hp,h1,h2⟩ hnx
  rw [List.length_cons] at hl1 hp
  simp! [uAppPop,lenD']
  refine draw_ok (by omega) (by omega) (by omega) fun r r0 r1=>?_
  have hr:r.toNat < left.length:=by omega
  have hg:left[r.toNat]? = some left[r.toNat]:=by simp [hr]
  refine ⟨⟨r0,r1,by omega⟩,?_⟩
  simp only [hg]
  refine hnx _ _ ⟨left.eraseIdx r.toNat,found++[left[r.toNat]],_,rfl,by rw [List.length_eraseIdx_of_lt hr]; omega,by simp [hl2],by simp; omega,by simp; omega,fun d hd=>h1 d (List.mem_of_mem_eraseIdx hd),fun d hd=>?_⟩
  rcases List.mem_append.mp hd with hd | hd
  ·exact h2 d hd
  ·rw [List.mem_singleton.mp hd]
   exact h1 _ (List.getElem_mem hr)
 ·rintro pre env n' ⟨left,found,x4,rfl,hl1,hl2,rfl,hp,h1,h2⟩
  rw [List.length_nil] at hl1 hp
  simp! [uSeq]
  have:=h found (by omega) h2
  rwa [show (ds.length:Int)=pre.length by omega] at this
theorem Bd.one {B w p k:Nat} {ds:List PyData} (h:Bd B w p k (.tuple ds)):1<=p:=by have:=h.sz.dp; simp only [PyData.depth] at this; omega
theorem Bd.of_sz {B w p k:Nat} {ds:List PyData} (h:Bd B w p k (.tuple ds)) {es:List PyData} {w' k':Nat} (hs:SzL B 11 w' (p - 1) es) (hl:es.length<=k') (hk:k<=k') (hm:∀ d∈es,d∈ds):Bd B w' p k' (.tuple es):=by
 have:=h.one
 exact ⟨(Sz.tup hs).mono (Nat.le_refl _) (Nat.le_refl _) (Nat.le_refl _) (by omega),wl_tup hl fun d hd=>wl_mono hk d ((wl_of h.wl).2 d (hm d hd))⟩
theorem Bd.cut {B w p k:Nat} {ds:List PyData} (h:Bd B w p k (.tuple ds)) (lo hi:Option Int):Bd B w p k (.tuple (cutG ds lo hi)):=by
 unfold cutG
 refine h.of_sz ((h.sz.of_tup.drop _).take _) ?_ (Nat.le_refl _) fun d hd=>List.mem_of_mem_drop (List.mem_of_mem_take hd)
 have:=(wl_of h.wl).1
 rw [List.length_take,List.length_drop]
 omega
theorem Bd.rev {B w p k:Nat} {ds:List PyData} (h:Bd B w p k (.tuple ds)):Bd B w p k (.tuple ds.reverse):=h.of_sz h.sz.of_tup.rev (by rw [List.length_reverse]; exact (wl_of h.wl).1) (Nat.le_refl _) fun d hd=>List.mem_reverse.mp hd
theorem Bd.lst {B w p k:Nat} {ds:List PyData} (h:Bd B w p k (.tuple ds)):Bd B w p k (.list ds):=by
 have:=h.one
 exact ⟨(Sz.lst h.sz.of_tup).mono (Nat.le_refl _) (Nat.le_refl _) (Nat.le_refl _) (by omega),wl_lst (wl_of h.wl).1 (wl_of h.wl).2⟩
theorem Bd.app {B w w2 p k k':Nat} {ds es:List PyData} (h:Bd B w p k (.tuple ds)) (h2:Bd B w2 p k (.tuple es)) (hl:ds.length + es.length<=k') (hk:k<=k'):Bd B (w + w2) p k' (.tuple (ds++es)):=by
 have:=h.one
 exact ⟨(Sz.tup (h.sz.of_tup.append h2.sz.of_tup)).mono (Nat.le_refl _) (Nat.le_refl _) (by omega) (by omega),wl_tup (by rw [List.length_append]; exact hl) fun d hd=>wl_mono hk d ((List.mem_append.mp hd).elim ((wl_of h.wl).2 d) ((wl_of h2.wl).2 d))⟩
def l5 (l:List PyData):List PyData:=l++l++l++l++l
theorem mem_l5 {l:List PyData} {x:PyData} (h:x∈l5 l):x∈l:=by
 unfold l5 at h
 rcases List.mem_append.mp h with h | h
 ·rcases List.mem_append.mp h with h | h
  ·rcases List.mem_append.mp h with h | h
   ·rcases List.mem_append.mp h with h | h <;> exact h
   ·exact h
  ·exact h
 ·exact h
theorem len_l5 (l:List PyData):(l5 l).length=5 * l.length:=by unfold l5; simp only [List.length_append]; omega
theorem mul5 {l:List PyData} (h:l.length<=10):mulD (.list l) (.int 5)=some (.list (l5 l)):=by
 have hsz:sizeLine=16777216:=by decide
 have e:(List.replicate (Int.toNat 5) l).flatten=l5 l:=by
  show (List.replicate 5 l).flatten=_
  simp [List.replicate,l5]
 simp only [mulD]
 rw [if_pos ⟨by decide,by decide,by rw [hsz]; show l.length * 5<=_; omega⟩,e]
structure Mid (B w p k:Nat) (d:PyData) (m:Nat) (n:Int) (env:PEnv) (n':Int):Prop where
 ex:∃ C',env=[none,some (.s d),some (.s (.list C'))]/\(∀ d∈C',Bd B w p k d)/\0 < C'.length/\C'.length<=m/\n'=n
def oddC:List PyData:=[.none,.bool true,.bool false,.int (-1),.int 0,.int 1,.int 2,.int 7,.int (10 ^ 39),.str "",.str "cut",.str "odd",.tuple [],.list [],.tuple [.int 0],.tuple [.int 0,.int 1],.tuple [.int 1,.int 0],.tuple [.bool true],.tuple [.tuple [.int 0]]]
theorem oddC_bd {B:Nat} (hB:10 ^ 39<=B) (hB2:B<=10 ^ 50) {k:Nat} (hk:2<=k):∀ d∈oddC,Bd B 400 2 k d:=by
 have h39:(10:Nat) ^ 39=1000000000000000000000000000000000000000:=by decide +kernel
 have i:∀ {i:Int},i.natAbs<=10 ^ 39->Bd B 168 0 k (.int i):=fun h=>bdI (Nat.le_trans h hB) hB2
 have i0:=i (i:=0) (by decide +kernel)
 have i1:=i (i:=1) (by decide +kernel)
 have up:∀ {w p:Nat} {d:PyData},Bd B w p k d->w<=400->p<=2->Bd B 400 2 k d:=fun h h1 h2=>h.mono (Nat.le_refl _) h1 h2 (Nat.le_refl _)
 unfold oddC
 simp only [List.mem_cons,List.not_mem_nil,or_false]
 rintro d (rfl | rfl | rfl | rfl | rfl | rfl | rfl | rfl | rfl | rfl | rfl | rfl | rfl | rfl | rfl | rfl | rfl | rfl | rfl)
 ·exact up bdN (by decide) (by decide)
 ·exact up (bdB _) (by decide) (by decide)
 ·exact up (bdB _) (by decide) (by decide)
 ·exact up (i (by decide +kernel)) (by decide) (by decide)
 ·exact up i0 (by decide) (by decide)
 ·exact up i1 (by decide) (by decide)
 ·exact up (i (by decide +kernel)) (by decide) (by decide)
 ·exact up (i (by decide +kernel)) (by decide) (by decide)
 ·exact up (i (by decide +kernel)) (by decide) (by decide)
 ·exact up (bdS (by decide +kernel)) (by decide) (by decide)
 ·exact up (bdS (by decide +kernel)) (by decide) (by decide)
 ·exact up (bdS (by decide +kernel)) (by decide) (by decide)
 ·exact up bd0 (by decide) (by decide)
 ·exact up bdL0 (by decide) (by decide)
 ·exact up (bd1 i0 (by omega)) (by decide) (by decide)
 ·exact up (bd2 i0 i1 hk) (by decide) (by decide)
 ·exact up (bd2 i1 i0 hk) (by decide) (by decide)
 ·exact up (bd1 (bdB _) (by omega)) (by decide) (by decide)
 ·exact up (bd1 (bd1 i0 (by omega)) (by omega)) (by decide) (by decide)
theorem law_odd_ok {B w p k:Nat} {d:PyData} (hB:B<=10 ^ 48) (hk:2<=k) (hk2:k<=1000) (hd:Bd B w p k d) (hn:n + 1<=mostN) (h:∀ d',Bd (2 * B + 10 ^ 40) (2 * w + 400) (p + 2) (k + 1) d'->Q d' (n + 1)):F_law_odd [d] n Q X:=by
 have h48:(10:Nat) ^ 48 * 2 + 10 ^ 40<=10 ^ 50:=by decide +kernel
 have h3940:(10:Nat) ^ 39<=10 ^ 40:=by decide +kernel
 have hpow:powD (.int 10) (.int 39)=some (.int (10 ^ 39)):=by
  simp only [powD]
  rw [if_pos ⟨by decide,by decide,by decide⟩]
  rfl
 have fin:∀ (l:List PyData) (n1:Int),n1=n->(∀ d∈l,Bd (2 * B + 10 ^ 40) (2 * w + 400) (p + 2) (k + 1) d)->0 < l.length->l.length < 1000->F_draw [.int (l.length:Nat)] n1 (fun d n1=>bnd (ixD (.list l) d) fun d=>Q d n1) noX:=fun l n1 hn1 hl h0 h1=>by
  subst hn1
  refine draw_ok (by omega) (by omega) (by omega) fun r r0 r1=>?_
  obtain ⟨x,hx,hm⟩:=atI_some (xs:=l) r0 (by omega)
  simp! [ixD_l,hx]
  exact h x (hl x hm)
 have hC:∀ d∈oddC,Bd (2 * B + 10 ^ 40) (2 * w + 400) (p + 2) (k + 1) d:=fun d hd=>(oddC_bd (B:=2 * B + 10 ^ 40) (by omega) (by omega) hk d hd).mono (Nat.le_refl _) (by omega) (by omega) (by omega)
 unfold F_law_odd u_law_odd
 simp only [mkF,mkFF,envOf,List.map_cons,List.map_nil,List.length_cons,List.length_nil,Nat.reduceSub,Nat.reduceAdd,List.replicate_succ,List.replicate_zero,List.cons_append,List.nil_append]
 with_reducible generalize ht2:uCut (uIfS (uAnd _ _) _ _) _=t2
 with_reducible generalize ht1:uCut (uIfS (uTst (uIsi "tuple" _)) _ _) t2=t1
 simp! [hpow,negD]
 rw [addD_l (by simp),bnd_some,show ([PyData.none,.bool true,.bool false,.int (-1),.int 0,.int 1,.int 2,.int 7,.int (10 ^ 39),.str "",.str "cut",.str "odd",.tuple [],.list [],.tuple [.int 0],.tuple [.int 0,.int 1],.tuple [.int 1,.int 0]]++[.tuple [.bool true],.tuple [.tuple [.int 0]]]:List PyData)=oddC from rfl]
 have hCl:oddC.length=19:=rfl
 generalize oddC=C at hC hCl ⊢
 have two:∀ (C:List PyData) (n1:Int),n1=n->(∀ d∈C,Bd (2 * B + 10 ^ 40) (2 * w + 400) (p + 2) (k + 1) d)->0 < C.length->C.length<=100->t2 { nx:=fun x n'=>Q PyData.none n',rt:=Q } [none,some (.s d),some (.s (.list C))] n1:=fun C n1 hn1 hC h0 h1=>by
  subst hn1
  rw [<- ht2]
  refine ⟨Mid (2 * B + 10 ^ 40) (2 * w + 400) (p + 2) (k + 1) d 200 n1,?_,?_⟩
  ·cases d with
   | int i =>
    have hi:i.natAbs<=B:=by have:=hd.sz.gq; simpa only [Gq] using this
    have hm2:mulD (.int i) (.int 2)=some (.int (i * 2)):=mulD_of (.inr ⟨by decide,by decide⟩)
    have h40:(10:Nat) ^ 40=10000000000000000000000000000000000000000:=by decide +kernel
    have j:∀ {i:Int},i.natAbs<=2 * B + 10 ^ 40->Bd (2 * B + 10 ^ 40) (2 * w + 400) (p + 2) (k + 1) (.int i):=fun h=>(bdI (k:=k + 1) h (by omega)).mono (Nat.le_refl _) (by omega) (by omega) (Nat.le_refl _)
    have hmu:=mul5 (l:=[.int (i + 1),.int (i - 1),.int (i * 2)]) (by simp)
    have hal:addD (.list C) (.list (l5 [.int (i + 1),.int (i - 1),.int (i * 2)]))=some (.list (C++l5 [.int (i + 1),.int (i - 1),.int (i * 2)])):=addD_l (by rw [len_l5]; simp; omega)
    simp! [isiD,addII,subII,hm2,hmu,hal]
    refine ⟨_,rfl,fun x hx=>?_,by simp; omega,by rw [List.length_append,len_l5]; simp; omega,rfl⟩
    rcases List.mem_append.mp hx with hx | hx
    ·exact hC x hx
    ·have:=mem_l5 hx
     simp only [List.mem_cons,List.not_mem_nil,or_false] at this
     rcases this with rfl | rfl | rfl
     ·exact j (by omega)
     ·exact j (by omega)
     ·exact j (by rw [Int.natAbs_mul]; simp; omega)
   | bool b=>simp! [isiD]; exact ⟨_,rfl,hC,h0,by omega,rfl⟩
   | _=>simp! [isiD]; exact ⟨_,rfl,hC,h0,by omega,rfl⟩
  ·rintro env' n' ⟨C',rfl,hC',h0',h1',rfl⟩
   simp! [lenD']
   exact fin C' _ rfl hC' h0' (by omega)
 rw [<- ht1]
 refine ⟨Mid (2 * B + 10 ^ 40) (2 * w + 400) (p + 2) (k + 1) d 100 n,?_,?_⟩
 ·cases d with
  | tuple ds =>
   have hl:=(wl_of hd.wl).1
   have up:∀ {w' p' k':Nat} {x:PyData},Bd B w' p' k' x->w'<=2 * w + 400->p'<=p + 2->k'<=k + 1->Bd (2 * B + 10 ^ 40) (2 * w + 400) (p + 2) (k + 1) x:=fun h h1 h2 h3=>h.mono (by omega) h1 h2 h3
   have z1:Bd B (168 + 1) (p - 1 + 1) (k + 1) (.tuple [PyData.int 0]):=⟨(Sz.tup (SzL.cons (Sz.int (B:=B) (i:=0) (by simp) (by omega)) SzL.nil)).mono (Nat.le_refl _) (Nat.le_refl _) (by omega) (by omega),wl_tup (by simp) (by simp [Wl])⟩
   have hone:=hd.one
   have a1:addD (.tuple ds) (.tuple [.int 0])=some (.tuple (ds++[.int 0])):=addD_t (by simp; omega)
   have hc:=hd.cut none (some 1)
   have hcl:(cutG ds none (some 1)).length<=1:=by rw [cutG_to _ 1 (by decide),List.length_take]; show min 1 _<=1; omega
   have a2:addD (.tuple ds) (.tuple (cutG ds none (some 1)))=some (.tuple (ds++cutG ds none (some 1))):=addD_t (by omega)
   have hmu:=mul5 (l:=[PyData.list ds,.tuple (ds++[.int 0]),.tuple (cutG ds none (some (-1))),.tuple (cutG ds (some 1) none),.tuple (ds++cutG ds none (some 1)),.tuple [.tuple ds],.tuple ds.reverse]) (by simp)
   have hal:∀ l:List PyData,l.length<=7->addD (.list C) (.list (l5 l))=some (.list (C++l5 l)):=fun l hl=>addD_l (by rw [len_l5]; omega)
   have hal':=hal [PyData.list ds,.tuple (ds++[.int 0]),.tuple (cutG ds none (some (-1))),.tuple (cutG ds (some 1) none),.tuple (ds++cutG ds none (some 1)),.tuple [.tuple ds],.tuple ds.reverse] (by simp)
   simp! [isiD,slD,a1,a2,revAD,negD,hmu,hal']
   refine ⟨_,rfl,fun x hx=>?_,by simp; omega,by rw [List.length_append,len_l5]; simp; omega,rfl⟩
   rcases List.mem_append.mp hx with hx | hx
   ·exact hC x hx
   ·have hx':=mem_l5 hx
    simp only [List.mem_cons,List.not_mem_nil,or_false] at hx'
    rcases hx' with rfl | rfl | rfl | rfl | rfl | rfl | rfl
    ·exact up hd.lst (by omega) (by omega) (by omega)
    ·exact up ((hd.mono (Nat.le_refl _) (Nat.le_refl _) (Nat.le_refl _) (Nat.le_succ k)).app (z1.mono (Nat.le_refl _) (Nat.le_refl _) (by omega) (Nat.le_refl _)) (k':=k + 1) (by simp; omega) (Nat.le_refl _)) (by omega) (by omega) (by omega)
    ·exact up (hd.cut _ _) (by omega) (by omega) (by omega)
    ·exact up (hd.cut _ _) (by omega) (by omega) (by omega)
    ·exact up (hd.app hc (k':=k + 1) (by omega) (by omega)) (by omega) (by omega) (by omega)
    ·exact up (bd1 hd (by omega)) (by omega) (by omega) (by omega)
    ·exact up hd.rev (by omega) (by omega) (by omega)
  | _=>simp! [isiD]; exact ⟨_,rfl,hC,by omega,by omega,rfl⟩
 ·rintro env' n' ⟨C',rfl,hC',h0',h1',rfl⟩
  exact two C' _ rfl hC' h0' h1'
end
structure MidB (d:PyData) (deep:Nat) (n:Int) (env:PEnv) (n':Int):Prop where
 ex:env=[none,some (.s d),some (.s (.int (deep:Nat))),none]/\n<=n'/\n'<=n + 1/\(∃ ds,d=.tuple ds/\0 < ds.length)/\0 < deep
theorem bent_ok {B k:Nat} (hB:B<=10 ^ 48) (hk:2<=k) (hk2:k<=1000):∀ (fuel deep:Nat) (d:PyData) (w p:Nat) (n:Int) (Q:PyData->Int->Prop) (X:XQ),deep < fuel->fuel<=10->Bd B w p k d->n + 3 * fuel<=mostN ->
  (∀ (d':PyData) (n':Int),Bd (2 * B + 10 ^ 40) (2 * w + 400) (p + 2) (k + 1) d'->n<=n'->n'<=n + 3 * fuel->Q d' n')->Fn_law_bent fuel [d,.int (deep:Nat)] n Q X
 | 0,_,_,_,_,_,_,_,h,_,_,_,_=>by omega
 | fuel + 1,deep,d,w,p,n,Q,X,hf,hf2,hd,hn,h=>by
  have hod:∀ (n1:Int),n<=n1->n1<=n + 1->F_law_odd [d] n1 Q noX:=fun n1 h1 h2=>law_odd_ok hB hk hk2 hd (by omega) fun d' hd'=>h d' _ hd' (by omega) (by omega)
  simp only [Fn_law_bent,T_law_bent]
  unfold u_law_bent
  simp only [mkF,mkFF,envOf,List.map_cons,List.map_nil,List.length_cons,List.length_nil,Nat.reduceSub,Nat.reduceAdd,List.replicate_succ,List.replicate_zero,List.cons_append,List.nil_append]
  with_reducible generalize hte:uSeq (uSet 3 _) _=te
  refine ⟨trivial,MidB d deep n,?_,?_⟩
  ·cases d with
   | tuple ds =>
    simp! [isiD,lenD',eqD_int]
    by_cases h0:(ds.length:Int)=0
    ·simp! [h0,decide_true,if_true]
     exact hod _ (by omega) (by omega)
    ·simp! [h0,decide_false,Bool.false_eq_true,if_false]
     by_cases h1:((deep:Nat):Int)=0
     ·simp! [h1,decide_true,if_true]
      exact hod _ (by omega) (by omega)
     ·simp! [h1,decide_false,Bool.false_eq_true,if_false]
      refine draw_ok (by decide) (by decide) (by omega) fun r r0 r1=>?_
      by_cases h2:r=0
      ·simp! [h2,eqD_int,decide_true,if_true]
       exact hod _ (by omega) (by omega)
      ·simp! [h2,eqD_int,decide_false,Bool.false_eq_true,if_false]
       exact ⟨rfl,by omega,by omega,⟨ds,rfl,by omega⟩,by omega⟩
   | _=>simp! [isiD]; exact hod _ (by omega) (by omega)
  ·rintro env' n1 ⟨rfl,hn1,hn2,⟨ds,rfl,hpos⟩,hdp⟩
   rw [<- hte]
   have hl:=(wl_of hd.wl).1
   simp! [lenD']
   refine draw_ok (by omega) (by omega) (by omega) fun at' a0 a1=>?_
   have hat:at'.toNat < ds.length:=by omega
   have hone:=hd.one
   simp! [slD,atI_at a0 a1,List.getElem?_eq_getElem hat,subII]
   have hmem:ds[at'.toNat]∈ds:=List.getElem_mem _
   have hsl:=hd.sz.of_tup
   have hwm:=wA_mem hmem
   have hdm:=dA_mem hmem
   have hwt:=hsl.wt
   have hdt:=hsl.dp
   have hsplit:=wA_split ds at'.toNat
   have hdrop:ds.drop at'.toNat=ds[at'.toNat]::ds.drop (at'.toNat + 1):=List.drop_eq_getElem_cons hat
   rw [hdrop] at hsplit
   simp only [PyData.weightAll] at hsplit
   have hel:Bd B (ds[at'.toNat].weight) (p - 1) k ds[at'.toNat]:=⟨⟨gql_iff.mp hsl.gq _ hmem,Nat.le_refl _,by omega⟩,(wl_of hd.wl).2 _ hmem⟩
   rw [show ((deep:Nat):Int) - 1=((deep - 1:Nat):Int) by omega]
   refine bent_ok hB hk hk2 fuel (deep - 1) _ _ _ _ _ _ (by omega) (by omega) hel (by omega) fun d' n' hd' hn3 hn4=>?_
   have t1:SzL (2 * B + 10 ^ 40) 11 (PyData.weightAll (ds.take at'.toNat)) (p + 1) (ds.take at'.toNat):=⟨gql_mono (by omega) (Nat.le_refl _) _ (hsl.take _).gq,Nat.le_refl _,by have:=(hsl.take at'.toNat).dp; omega⟩
   have t2:SzL (2 * B + 10 ^ 40) 11 (PyData.weightAll (ds.drop (at'.toNat + 1))) (p + 1) (ds.drop (at'.toNat + 1)):=⟨gql_mono (by omega) (Nat.le_refl _) _ (hsl.drop _).gq,Nat.le_refl _,by have:=(hsl.drop (at'.toNat + 1)).dp; omega⟩
   have hd1:Sz (2 * B + 10 ^ 40) 11 (2 * ds[at'.toNat].weight + 400) (p + 1) d':=hd'.sz.mono (Nat.le_refl _) (Nat.le_refl _) (Nat.le_refl _) (by omega)
   have t3:=(t1.append (SzL.cons hd1 SzL.nil)).append t2
   have hl1:(ds.take at'.toNat).length<=1000:=by rw [List.length_take]; omega
   have hl2:(ds.drop (at'.toNat + 1)).length<=1000:=by rw [List.length_drop]; omega
   have a1':addD (.tuple (ds.take at'.toNat)) (.tuple [d'])=some (.tuple (ds.take at'.toNat++[d'])):=addD_t (by simp only [List.length_cons,List.length_nil]; omega)
   have a2':addD (.tuple (ds.take at'.toNat++[d'])) (.tuple (ds.drop (at'.toNat + 1)))=some (.tuple (ds.take at'.toNat++[d']++ds.drop (at'.toNat + 1))):=addD_t (by simp only [List.length_append,List.length_cons,List.length_nil]; omega)
   simp! [addII,cutG_to _ at' a0,cutG_from _ (at' + 1) (by omega:0<=at' + 1),show (at' + 1).toNat=at'.toNat + 1 by omega,a1',a2']
   refine h _ _ ⟨(Sz.tup t3).mono (Nat.le_refl _) (Nat.le_refl _) (by omega) (by omega),wl_tup (by simp only [List.length_append,List.length_take,List.length_drop,List.length_cons,List.length_nil]; omega) fun z hz=>?_⟩ (by omega) (by omega)
   rcases List.mem_append.mp hz with hz | hz
   ·rcases List.mem_append.mp hz with hz | hz
    ·exact wl_mono (Nat.le_succ k) z ((wl_of hd.wl).2 z (List.mem_of_mem_take hz))
    ·rw [List.mem_singleton.mp hz]; exact hd'.wl
   ·exact wl_mono (Nat.le_succ k) z ((wl_of hd.wl).2 z (List.mem_of_mem_drop hz))
structure TrR (ds:List PyData):Prop where
 bd:Bd 1000 2000 2 16 (.tuple ds)
 len:ds.length<=9
section
variable {n:Int} {X:XQ} {Q:PyData->Int->Prop}
theorem bend {B w p k:Nat} {d:PyData} {deep:Nat} (hB:B<=10 ^ 48) (hk:2<=k) (hk2:k<=1000) (hdp:deep<=3) (hd:Bd B w p k d) (hn:n + 30<=mostN) (h:∀ (d':PyData) (n':Int),Bd (2 * B + 10 ^ 40) (2 * w + 400) (p + 2) (k + 1) d'->n<=n'->n'<=n + 30->Q d' n'):F_law_bent [d,.int (deep:Nat)] n Q X :=
 bent_ok hB hk hk2 10 deep d w p n Q X (by omega) (by decide) hd (by omega) fun d' n' h1 h2 h3=>h d' n' h1 h2 (by omega)
abbrev TH (d:PyData):Prop:=Bd (10 ^ 43) 30000 8 40 d
structure MidT (ds:List PyData) (n:Int) (env:PEnv) (n':Int):Prop where
 ex:env=[none,some (.s (.tuple ds)),none,none,none,none]/\n<=n'/\n'<=n + 1/\2<=ds.length
theorem two_ok {ds:List PyData} (ht:TrR ds) (hn:n + 100<=mostN) (h:∀ (d':PyData) (n':Int),TH d'->n<=n'->n'<=n + 100->Q d' n'):F_law_two [.tuple ds] n Q X:=by
 have hl:=ht.len
 have c1:2 * 1000 + 10 ^ 40<=(10:Nat) ^ 41:=by decide +kernel
 have c2:2 * 10 ^ 41 + 10 ^ 40<=(10:Nat) ^ 43:=by decide +kernel
 have c3:(10:Nat) ^ 41<=10 ^ 48:=by decide +kernel
 have c4:(10:Nat) ^ 41<=10 ^ 43:=by decide +kernel
 have hB1:=fun n Q X=>@bend n X Q 1000 2000 2 16 (.tuple ds) 3 (by decide +kernel) (by decide) (by decide) (by decide) ht.bd
 have hB2:=fun d n Q X=>@bend n X Q (10 ^ 41) 5000 6 17 d 3 c3 (by decide) (by decide) (by decide)
 have hB3:=fun d n Q X=>@bend n X Q 1000 2000 2 16 d 1 (by decide +kernel) (by decide) (by decide) (by decide)
 unfold F_law_two u_law_two
 simp only [mkF,mkFF,envOf,List.map_cons,List.map_nil,List.length_cons,List.length_nil,Nat.reduceSub,Nat.reduceAdd,List.replicate_succ,List.replicate_zero,List.cons_append,List.nil_append]
 with_reducible generalize hte:uSeq (uSet 2 _) _=te
 generalize F_law_bent=G at hB1 hB2 hB3 hte ⊢
 refine ⟨trivial,MidT ds n,?_,?_⟩
 ·have both:∀ n1,n<=n1->n1<=n + 1->G [.tuple ds,.int 3] n1 (fun d n2=>G [d,.int 3] n2 Q noX) noX:=fun n1 h1 h2=>hB1 n1 _ _ (by omega) fun d' n2 hd' h3 h4=>hB2 d' n2 _ _ (hd'.mono c1 (by decide) (by decide) (by decide)) (by omega) fun d2 n3 hd2 h5 h6=>h d2 n3 (hd2.mono c2 (by decide) (by decide) (by decide)) (by omega) (by omega)
  simp! [lenD',ltD]
  by_cases h2:(ds.length:Int) < 2
  ·simp! [h2,decide_true,if_true]
   exact both _ (by omega) (by omega)
  ·simp! [h2,decide_false,Bool.false_eq_true,if_false]
   refine draw_ok (by decide) (by decide) (by omega) fun r r0 r1=>?_
   by_cases h3:r=0
   ·simp! [h3,eqD_int,decide_true,if_true]
    exact both _ (by omega) (by omega)
   ·simp! [h3,eqD_int,decide_false,Bool.false_eq_true,if_false]
    exact ⟨rfl,by omega,by omega,by omega⟩
 ·rintro env' n1 ⟨rfl,hn1,hn2,hl2⟩
  rw [<- hte]
  with_reducible generalize ht4:uSeq (uPar 4 5 _) _=t4
  with_reducible generalize ht3:uSeq (uSet 3 _) t4=t3
  simp! [lenD',subII]
  refine draw_ok (by omega) (by omega) (by omega) fun o o0 o1=>?_
  rw [<- ht3]
  simp! [lenD',subII,addII]
  refine draw_ok (by omega) (by omega) (by omega) fun q q0 q1=>?_
  simp! [addII]
  obtain ⟨o2,eo,h20,h21,h22⟩:∃ o2:Int,o + 1 + q=o2/\o < o2/\0<=o2/\o2 < ds.length:=⟨_,rfl,by omega,by omega,by omega⟩
  rw [eo,<- ht4]
  have ha:=atI_at (xs:=ds) o0 (by omega)
  have hb:=atI_at (xs:=ds) h21 h22
  have hoN:o.toNat < ds.length:=by omega
  have hoM:o2.toNat < ds.length:=by omega
  rw [List.getElem?_eq_getElem hoN] at ha
  rw [List.getElem?_eq_getElem hoM] at hb
  have hel:∀ x∈ds,Bd 1000 2000 2 16 x:=fun x hx=>by
   have hsl:=ht.bd.sz.of_tup
   have:=wA_mem hx
   have:=dA_mem hx
   have:=hsl.wt
   have:=hsl.dp
   exact ⟨⟨gql_iff.mp hsl.gq _ hx,by omega,by omega⟩,(wl_of ht.bd.wl).2 _ hx⟩
  with_reducible generalize htr:uRet _=tr
  simp! [ha,hb]
  refine hB3 _ _ _ _ (hel _ (List.getElem_mem _)) (by omega) fun f n2 hf hn3 hn4=>?_
  refine hB3 _ _ _ _ (hel _ (List.getElem_mem _)) (by omega) fun s n3 hs hn5 hn6=>?_
  rw [<- htr]
  have up:∀ {w p k:Nat} {d:PyData},Bd 1000 w p k d->w<=2000->p<=4->k<=17->Bd (10 ^ 41) 5000 5 17 d:=fun h h1 h2 h3=>h.mono (by decide +kernel) (by omega) (by omega) h3
  have p1:=up (ht.bd.cut none (some o)) (by decide) (by decide) (by decide)
  have p2:=(bd1 (hf.mono c1 (Nat.le_refl _) (Nat.le_refl _) (Nat.le_refl 17)) (by decide)).mono (Nat.le_refl _) (by decide:_<=5000) (by decide:_<=5) (Nat.le_refl 17)
  have p3:=up (ht.bd.cut (some (o + 1)) (some o2)) (by decide) (by decide) (by decide)
  have p4:=(bd1 (hs.mono c1 (Nat.le_refl _) (Nat.le_refl _) (Nat.le_refl 17)) (by decide)).mono (Nat.le_refl _) (by decide:_<=5000) (by decide:_<=5) (Nat.le_refl 17)
  have p5:=up (ht.bd.cut (some (o2 + 1)) none) (by decide) (by decide) (by decide)
  have lc:∀ lo hi,(cutG ds lo hi).length<=9:=fun lo hi=>by
   unfold cutG
   rw [List.length_take,List.length_drop]
   omega
  have l1:=lc none (some o)
  have l3:=lc (some (o + 1)) (some o2)
  have l5':=lc (some (o2 + 1)) none
  have u:∀ {l:List PyData},Bd (10 ^ 41) 5000 5 17 (.tuple l)->Bd (10 ^ 41) 5000 5 40 (.tuple l):=fun h=>h.mono (Nat.le_refl _) (Nat.le_refl _) (Nat.le_refl _) (by decide)
  generalize hA1:cutG ds none (some o)=A1 at p1 l1
  generalize hA3:cutG ds (some (o + 1)) (some o2)=A3 at p3 l3
  generalize hA5:cutG ds (some (o2 + 1)) none=A5 at p5 l5'
  have q1:=(u p1).app (u p2) (k':=40) (by simp; omega) (Nat.le_refl _)
  have q2:=q1.app ((u p3).mono (Nat.le_refl _) (Nat.le_refl _) (Nat.le_refl _) (Nat.le_refl _)) (k':=40) (by simp; omega) (Nat.le_refl _)
  have q3:=q2.app (u p4) (k':=40) (by simp; omega) (Nat.le_refl _)
  have q4:=q3.app (u p5) (k':=40) (by simp; omega) (Nat.le_refl _)
  have e1:addD (.tuple A1) (.tuple [f])=some (.tuple (A1++[f])):=addD_t (by simp; omega)
  have e2:addD (.tuple (A1++[f])) (.tuple A3)=some (.tuple (A1++[f]++A3)):=addD_t (by simp; omega)
  have e3:addD (.tuple (A1++[f]++A3)) (.tuple [s])=some (.tuple (A1++[f]++A3++[s])):=addD_t (by simp; omega)
  have e4:addD (.tuple (A1++[f]++A3++[s])) (.tuple A5)=some (.tuple (A1++[f]++A3++[s]++A5)):=addD_t (by simp; omega)
  simp! [slD,addII,hA1,hA3,hA5,e1,e2,e3,e4]
  exact h _ _ (q4.mono c4 (by decide) (by decide) (Nat.le_refl _)) (by omega) (by omega)
end
theorem rngI_lt (m:Nat):(rngI 0 m).Pairwise (· < ·):=by
 unfold rngI
 exact List.pairwise_map.mpr (List.pairwise_lt_range.imp fun h=>by omega)
theorem comp_gen {α:Type} (I:PEnv->Prop) (g f:α->PyData) (p:α->Bool) {ug:UG} {uc:UT} {ue:UX} {Q:List PyData->Int->Prop} {n:Int}:∀ (xs:List α) (acc:List PyData) (env:PEnv),(∀ k∈xs,∀ env,I env->∃ env',I env'/\(∀ K,ug (g k) env K=K env')/\(∀ n Q,uc env' n Q=Q (p k) n)/\(∀ n Q,ue env' n Q=Q (f k) n))->I env ->
  uCompGo ug uc ue Q (xs.map g) acc env n=Q (acc++(xs.filter p).map f) n
 | [],acc,env,_,_=>by simp [uCompGo]
 | a::xs,acc,env,h,hi=>by
  obtain ⟨env',hi',h1,h2,h3⟩:=h a (List.mem_cons_self ..) env hi
  have ih:=fun acc=>comp_gen I g f p (ug:=ug) (uc:=uc) (ue:=ue) (Q:=Q) (n:=n) xs acc env' (fun k hk=>h k (List.mem_cons_of_mem _ hk)) hi'
  rw [List.map_cons,uCompGo,h1,h2]
  cases hp:p a with
  | true =>
   rw [if_pos rfl,h3,ih,List.filter_cons_of_pos hp,List.map_cons,List.append_assoc]
   rfl
  | false=>rw [if_neg (by decide),ih,List.filter_cons_of_neg (by simp [hp])]
theorem enum_rng {α:Type} (f:α->PyData) (d:α) (xs:List α):enumP (xs.map f)=(rngI 0 xs.length).map fun k=>.tuple [.int k,f (xs.getD k.toNat d)]:=by
 refine List.ext_getElem? fun i=>?_
 unfold enumP rngI
 rw [List.getElem?_map,List.getElem?_zipIdx,List.getElem?_map,List.getElem?_map,List.getElem?_map]
 by_cases hi:i < xs.length
 ·rw [List.getElem?_eq_getElem hi,List.getElem?_eq_getElem (by simpa using hi)]
  simp [List.getD_eq_getElem?_getD,hi]
 ·rw [List.getElem?_eq_none (by omega),List.getElem?_eq_none (by simp; omega)]
  rfl
def tieAt (ts:List Tie) (k:Int):Tie:=ts.getD k.toNat (0,0,0)
theorem atI_tie {ts:List Tie} {k:Int} (h:0<=k/\k < (ts.length:Int)):atI (ts.map tieD) k=some (tieD (tieAt ts k)):=by
 obtain ⟨t,h1,_,h2⟩:=tie_get h.1 h.2
 rw [h2,tieAt,List.getD_eq_getElem?_getD,h1]
 rfl
def ownI (ts:List Tie) (v:Int):List Int:=(rngI 0 ts.length).filter fun k=>decide (v=(tieAt ts k).1\/v=(tieAt ts k).2.1)
theorem own_lt (ts:List Tie) (v:Int):(ownI ts v).Pairwise (· < ·):=(rngI_lt _).sublist List.filter_sublist
theorem own_len (ts:List Tie) (v:Int):(ownI ts v).length<=ts.length:=by
 have:=List.length_filter_le (fun k=>decide (v=(tieAt ts k).1\/v=(tieAt ts k).2.1)) (rngI 0 ts.length)
 rw [rngI_len] at this
 exact this
theorem own_in {ts:List Tie} {v k:Int} (h:k∈ownI ts v):0<=k/\k < (ts.length:Int):=by have:=mem_rngI.mp (List.mem_filter.mp h).1; omega
def turnF (ts:List Tie) (v:Int) (d:PyData):Bool:=match d with | .tuple ds=>(match asInts ds with | some ns=>decide (sortI ns=ownI ts v) | none=>false) | _=>false
theorem whole_or:∀ ds:List PyData,(∃ ns:List Int,ds=ns.map .int)\/(asInts ds=none/\ds.all isWhole=false)
 | []=>.inl ⟨[],rfl⟩
 | d::ds=>by
  cases d with
  | int i =>
   rcases whole_or ds with ⟨ns,rfl⟩ | ⟨h1,h2⟩
   ·exact .inl ⟨i::ns,rfl⟩
   ·refine .inr ⟨?_,?_⟩
    ·unfold asInts at h1 ⊢
     rw [List.mapM_cons,h1]
     rfl
    ·rw [List.all_cons,h2,Bool.and_false]
  | _ =>
   refine .inr ⟨?_,rfl⟩
   unfold asInts
   rw [List.mapM_cons]
   rfl
theorem allD_whole (ds:List PyData):allD [.list (ds.map fun d=>.bool (isWhole d))]=some (.bool (ds.all isWhole)):=by
 rw [show (ds.map fun d=>PyData.bool (isWhole d))=(ds.map isWhole).map .bool by rw [List.map_map]; rfl]
 simp only [allD,asBools_map,Option.map_some,List.all_map]
 rfl
theorem all_whole (ns:List Int):(ns.map PyData.int).all isWhole=true:=by rw [List.all_map,List.all_eq_true]; intro _ _; rfl
def ff (ts:List Tie):Int->List PyData->Option Int
 | _,[]=>none
 | k,d::ds=>if turnF ts k d=true then ff ts (k + 1) ds else some k
def faultO (many:Int) (ts:List Tie) (d:PyData):Option Int:=match d with | .tuple ds=>if (ds.length:Int)=many then ff ts 0 ds else some (-1) | _=>some (-1)
def dueD (o:Option Int):PyData:=match o with | none=>.bool true | some k=>.tuple [.str "turns",.int k]
def outT (o:Option Int) (n:Int) (Q:PyData->Int->Prop) (X:XQ):Prop:=match o with | none=>Q (.bool true) n | some k=>X "NoTurns" [.int k]
section
variable {n:Int} {X:XQ} {Q:PyData->Int->Prop}
theorem ties_at_eq {many v:Int} {ts:List Tie}:F_ties_at [webD many ts,.int v] n Q X=Q (.list ((ownI ts v).map .int)) n:=by
 rw [webD]
 simp! [F_ties_at,u_ties_at,atI_1,uJe,enum_rng tieD (0,0,0)]
 rw [comp_gen (fun env=>∃ x y,env=[x,y,some (.s (.int v))]) _ (fun k=>.int k) (fun k=>decide (v=(tieAt ts k).1\/v=(tieAt ts k).2.1)) _ _ _ (fun k hk env ⟨x,y,he⟩=>by
  subst he
  exact ⟨[some (.s (.int k)),some (.s (tieD (ts.getD k.toNat (0,0,0)))),some (.s (.int v))],⟨_,_,rfl⟩,fun K=>by simp! [uSeq],fun n Q=>by rw [tieD]; simp! [slD,cutG_to _ 2 (by decide),show Int.toNat 2=2 from rfl,List.take_succ_cons,List.take_zero,inD_pair]; rfl,fun n Q=>by simp! [uSeq]⟩) ⟨_,_,rfl⟩]
 rfl
theorem is_turn_eq {many v:Int} {ts:List Tie} {d:PyData} {k:Nat} (hk:k < 64) (hw:Wl k d):F_is_turn [webD many ts,.int v,d] n Q X=Q (.bool (turnF ts v d)) n:=by
 unfold F_is_turn u_is_turn
 simp only [mkF,mkFF,envOf,List.map_cons,List.map_nil,List.length_cons,List.length_nil,Nat.reduceSub,Nat.reduceAdd,List.replicate_succ,List.replicate_zero,List.cons_append,List.nil_append]
 with_reducible generalize ht:uRet (uOp eqD _ _)=t
 cases d with
 | tuple ds =>
  have hl:=(wl_of hw).1
  simp! [isiD]
  rw [comp_map (fun d=>.bool (isWhole d)) _ _ _ _ (fun d _ n Q=>by simp! [is_whole_eq]),List.nil_append,allD_whole]
  subst ht
  unfold turnF
  rcases whole_or ds with ⟨ns,rfl⟩ | ⟨h1,h2⟩
  ·rw [List.length_map] at hl
   have hl2:ns.length < 64:=by omega
   rw [all_whole]
   simp! [asInts_map,hl2]
   rw [ties_at_eq]
   simp! [eqD_lints]
  ·rw [h2]
   simp! [h1]
 | _=>simp! [isiD,turnF]; exact if_pos rfl
theorem right_turns_eq {many:Int} {ts:List Tie} {d:PyData} {k:Nat} (hk:k < 64) (hw:Wl k d):F_right_turns [webD many ts,d] n Q X=outT (faultO many ts d) n Q X:=by
 unfold F_right_turns u_right_turns
 simp only [mkF,mkFF,envOf,List.map_cons,List.map_nil,List.length_cons,List.length_nil,Nat.reduceSub,Nat.reduceAdd,List.replicate_succ,List.replicate_zero,List.cons_append,List.nil_append]
 with_reducible generalize ht:uSeq (uFor _ _ _) _=t
 have e0:webD many ts=.tuple [.int many,.tuple (ts.map tieD)]:=rfl
 rw [uSeq,uIfS,uNot,uTst,uCall,uCons,uVar]
 simp only [List.getElem?_cons_zero,List.getElem?_cons_succ]
 rw [uCons,uOp,uLoose]
 simp only [List.getElem?_cons_zero,List.getElem?_cons_succ]
 rw [uC,e0,ixD_t,atI_0,bnd_some,uNil,is_tuple_of_eq,isB_bool,<- e0]
 have no:tupOf many d=false->faultO many ts d=some (-1):=fun h=>by
  unfold faultO
  cases d with
  | tuple ds =>
   have:¬ (ds.length:Int)=many:=by simpa [tupOf] using h
   simp only [this,if_false]
  | _=>rfl
 cases hb:tupOf many d with
 | false =>
  rw [no hb]
  simp! [Bool.not_false,if_true,negD,outT]
 | true =>
  cases d with
  | tuple ds =>
   have hlen:(ds.length:Int)=many:=by simpa [tupOf] using hb
   have hel:=(wl_of hw).2
   simp only [Bool.not_true,Bool.false_eq_true,if_false,uNext]
   subst ht
   have key:∀ (us:List PyData) (j:Nat) (x2 x3:Option Ent),(∀ u∈us,Wl k u)->uLoop (uTp [uNm 2,uNm 3]) (uIfS (uNot (uTst (uCall F_is_turn (uCons (uVar 0) (uCons (uVar 2) (uCons (uVar 3) uNil)))))) (uRaise X "NoTurns" (uCons (uVar 2) uNil)) uNext)
     { nx:=uRet (uC (.bool true)) { nx:=fun x n'=>Q PyData.none n',rt:=Q },rt:=Q } ((us.zipIdx j).map fun p=>.tuple [.int (p.2:Nat),p.1]) [some (.s (webD many ts)),some (.s (.tuple ds)),x2,x3] n=outT (ff ts j us) n Q X:=by
    intro us
    induction us with
    | nil=>intro j x2 x3 _; simp! [List.zipIdx_nil,List.map_nil,uLoop,ff,outT]
    | cons u us ih =>
     intro j x2 x3 hu
     have ih':=fun x2 x3=>ih (j + 1) x2 x3 fun u hu'=>hu u (List.mem_cons_of_mem _ hu')
     have hu1:=hu u (List.mem_cons_self ..)
     rw [List.zipIdx_cons,List.map_cons,uLoop]
     simp only [uTp,uTps,uNm,uIfS,uNot,uTst,uCall,uCons,uVar,uNil,List.set_cons_succ,List.set_cons_zero,List.getElem?_cons_zero,List.getElem?_cons_succ]
     rw [is_turn_eq hk hu1,isB_bool,ff]
     cases hb:turnF ts j u with
     | true =>
      simp only [Bool.not_true,Bool.false_eq_true,if_false,if_true,uNext]
      exact ih' _ _
     | false=>simp only [Bool.not_false,Bool.false_eq_true,if_false,if_true,uRaise,uCons,uVar,uNil,List.getElem?_cons_zero,List.getElem?_cons_succ,outT]
   rw [true_and,uSeq]
   simp only [uFor,uIe,uVar,List.getElem?_cons_zero,List.getElem?_cons_succ,seqD,bnd_some,enumP]
   rw [faultO,if_pos hlen]
   exact key ds 0 _ _ hel
  | _=>cases hb
theorem law_refusal_ok {k:Int} (h:Q (.tuple [.str "turns",.int k]) n):F_law_refusal "NoTurns" [.int k] n Q:=by
 have h1:("NoTurns" : Str)∈EXC:=by decide +kernel
 have f0:FL "NoTurns" = (["place"]:List Str):=by decide +kernel
 have f1:("place" : Str)∈FL "NoTurns" := by decide +kernel
 have l1:((FL "NoTurns").zip [PyData.int k]).lookup ("place" : Str)=some (.int k):=by rw [f0]; rfl
 have i1:decide (("NoPaper" : Str) = "NoTurns" \/ ("NoPaper" : Str) = "JoinError")=false:=by decide +kernel
 have i2:decide (("NoTie" : Str) = "NoTurns" \/ ("NoTie" : Str) = "JoinError")=false:=by decide +kernel
 have i3:decide (("TooMany" : Str) = "NoTurns" \/ ("TooMany" : Str) = "JoinError")=false:=by decide +kernel
 have i4:decide (("NoTurns" : Str) = "NoTurns" \/ ("NoTurns" : Str) = "JoinError")=true:=by decide +kernel
 have i5:decide (("NoLine" : Str) = "NoTurns" \/ ("NoLine" : Str) = "JoinError")=false:=by decide +kernel
 have i6:((["NoText", "NoWalk"]:List Str).any fun h=>decide (h = "NoTurns" \/ h = "JoinError"))=false:=by decide +kernel
 have hsz:sizeLine=16777216:=by decide
 unfold F_law_refusal u_law_refusal
 simp only [mkE,mkF,mkFF,envOf,List.map_cons,List.map_nil,List.length_cons,List.length_nil,Nat.reduceSub,Nat.reduceAdd,List.replicate_succ,List.replicate_zero,List.cons_append,List.nil_append]
 with_reducible generalize ht6:uRet _=t6
 with_reducible generalize ht5:uSeq (uSet 2 _) t6=t5
 with_reducible generalize ht4:uSeq (uIfS (uTst (uIsx 0 EXC "NoLine")) _ _) t5=t4
 with_reducible generalize ht3:uSeq (uIfS (uTst (uIsx 0 EXC "TooMany")) _ _) t4=t3
 with_reducible generalize ht2:uSeq (uIfS (uTst (uIsx 0 EXC "NoTie")) _ _) t3=t2
 with_reducible generalize ht1:uSeq (uIfS (uTst (uIsx 0 EXC "NoTurns")) _ _) t2=t1
 simp! [uIsx,h1,i1]
 subst ht1
 simp! [uIsx,uFlx,h1,i4,f1,l1,appendD]
 rw [if_pos (by simp),if_pos (by rw [hsz]; decide),bnd_some]
 subst ht2
 simp! [uIsx,h1,i2]
 subst ht3
 simp! [uIsx,h1,i3]
 subst ht4
 simp! [uIsx,h1,i5]
 subst ht5
 simp! [uIsxT,uIsxV,h1,i6]
 subst ht6
 simp! [eqID,lenD',atI_0,List.length_cons,List.length_nil]
 rw [if_pos (by decide)]
 exact h
theorem law_told_ok {many:Int} {ts:List Tie} {d:PyData} {k:Nat} (hk:k < 64) (hw:Wl k d) (h:Q (dueD (faultO many ts d)) n):F_law_told [webD many ts,d] n Q X:=by
 have h1:("NoTurns" : Str)∈EXC:=by decide +kernel
 unfold F_law_told u_law_told
 simp only [mkF,mkFF,envOf,List.map_cons,List.map_nil,List.length_cons,List.length_nil,Nat.reduceSub,Nat.reduceAdd,List.replicate_succ,List.replicate_zero,List.cons_append,List.nil_append]
 with_reducible generalize htr:uRet (uVar 2)=tr
 simp only [true_and,uSeq,uSet,uC,uTryA,uCons,uVar,uNil,List.set_cons_succ,List.set_cons_zero,List.getElem?_cons_zero,List.getElem?_cons_succ]
 rw [right_turns_eq hk hw]
 cases e:faultO many ts d with
 | none=>rw [e] at h; rw [outT,<- htr]; exact h
 | some v =>
  rw [e] at h
  rw [outT]
  refine ⟨⟨h1,.inr (by trivial)⟩,?_⟩
  rw [uCallE]
  simp only [List.getElem?_cons_zero,List.getElem?_cons_succ]
  refine law_refusal_ok ?_
  rw [<- htr]
  exact h
theorem is_turns_ok {many:Int} {ts:List Tie} {d:PyData} {k:Nat} (hk:k < 64) (hw:Wl k d) (h:Q (.bool (faultO many ts d).isNone) n):F_is_turns [webD many ts,d] n Q X:=by
 have h1:("NoTurns" : Str)∈EXC:=by decide +kernel
 unfold F_is_turns u_is_turns
 simp only [mkF,mkFF,envOf,List.map_cons,List.map_nil,List.length_cons,List.length_nil,Nat.reduceSub,Nat.reduceAdd,List.replicate_succ,List.replicate_zero,List.cons_append,List.nil_append]
 simp only [true_and,uTryR,uCons,uVar,uNil,List.getElem?_cons_zero,List.getElem?_cons_succ]
 rw [right_turns_eq hk hw]
 cases e:faultO many ts d with
 | none=>rw [e] at h; exact h
 | some v =>
  rw [e] at h
  simp only [outT]
  exact ⟨⟨h1,.inl (by trivial)⟩,h⟩
theorem rngI_cons (j:Int) (m:Nat):rngI j (m + 1)=j::rngI (j + 1) m:=by
 unfold rngI
 rw [List.range_succ_eq_map,List.map_cons,List.map_map]
 simp
 intro a _
 omega
theorem sort_own {ns:List Int} {own:List Int} (ho:own.Pairwise (· < ·)):sortI ns=own↔(ns.length=own.length/\usortI ns=usortI own):=by
 have nd:own.Nodup:=ho.imp fun h=>by omega
 constructor
 ·intro h
  subst h
  exact ⟨(sortI_perm ns).length_eq.symm,lt_one (usortI_lt _) (usortI_lt _) fun k=>by rw [mem_usortI,mem_usortI,(sortI_perm ns).mem_iff]⟩
 ·rintro ⟨h1,h2⟩
  have hm:∀ k,k∈own↔k∈ns:=fun k=>by rw [<- mem_usortI (l:=own),<- h2,mem_usortI]
  have nn:ns.Nodup:=nd_of_len nd hm h1.symm
  exact sorted_one ((sortI_perm ns).trans ((List.perm_ext_iff_of_nodup nn nd).mpr fun k=>(hm k).symm)) (sortI_sorted ns) (ho.imp fun h=>by omega)
theorem lay_filter (p:PyData->Bool):∀ ds:List PyData,PyData.canLayAll0 ds=true->PyData.canLayAll0 (ds.filter p)=true
 | [],_=>rfl
 | d::ds,h=>by
  simp only [PyData.canLayAll0,Bool.and_eq_true] at h
  have ih:=lay_filter p ds h.2
  rw [List.filter_cons]
  split
  ·simp only [PyData.canLayAll0,h.1,ih,Bool.and_self]
  ·exact ih
theorem dep_filter (p:PyData->Bool):∀ ds:List PyData,PyData.depthAll (ds.filter p)<=PyData.depthAll ds
 | []=>Nat.le_refl _
 | d::ds=>by
  have ih:=dep_filter p ds
  rw [List.filter_cons]
  split
  ·simp only [PyData.depthAll]; omega
  ·simp only [PyData.depthAll]; omega
theorem lay_mem:∀ {ds:List PyData},PyData.canLayAll0 ds=true->∀ d∈ds,d.canLay0=true
 | [],_,d,hd=>by cases hd
 | e::ds,h,d,hd=>by
  simp only [PyData.canLayAll0,Bool.and_eq_true] at h
  rcases List.mem_cons.mp hd with rfl | hd
  ·exact h.1
  ·exact lay_mem h.2 d hd
theorem neD_any {xs:List PyData} (h:PyData.canLayAll0 xs=true) (hd:PyData.depthAll xs<=59):neD (.list xs) (.list [])=some (.bool (!decide (xs=[]))):=by
 rw [neD_of (by rw [PyData.canLay0]; exact h) rfl (by rw [PyData.depth]; omega)]
 cases xs with
 | nil=>rfl
 | cons x xs=>simp [PyData.eqv,PyData.eqvAll]
def notW (d:PyData):Bool:=!isWhole d
def dueB:US:=(uSeq (uSet 3 (uL (uComp (uJr (uCB lenD' (uCons (uOp ixD (uLoose 0) (uC (.int 1))) uNil))) [none,some 2,some 0] (uNm 0) (uTst (uOp inD (uLoose 1) (uSl (uOp ixD (uOp ixD (uLoose 2) (uC (.int 1))) (uLoose 0)) uNo (uSo (uC (.int 2)))))) (uVar 0))))
 (uSeq (uSet 4 (uOp ixD (uLoose 1) (uLoose 2)))
 (uSeq (uIfS (uOr (uNot (uTst (uIsi "tuple" (uLoose 4)))) (uTst (uOp neD (uCB lenD' (uCons (uLoose 4) uNil)) (uCB lenD' (uCons (uLoose 3) uNil))))) (uRet (uTup (uCons (uC (.str "turns")) (uCons (uVar 2) uNil)))) uNext)
 (uIfS (uOr (uTst (uOp neD (uL (uComp (uJt (uLoose 4)) [none] (uNm 0) (uOr (uNot (uTst (uIsi "int" (uLoose 0)))) (uTst (uIsi "bool" (uLoose 0)))) (uVar 0))) (uL uNil))) (uTst (uSetNe (uLoose 4) (uLoose 3)))) (uRet (uTup (uCons (uC (.str "turns")) (uCons (uVar 2) uNil)))) uNext))))
theorem dueB_ok {E:UEnds} {many v:Int} {ts:List Tie} {ds:List PyData} {u:PyData} {x3 x4:Option Ent} {k:Nat} (hts:ts.length<=16) (ha:atI ds v=some u) (hk:k < 64) (hw:Wl k u) (hc:u.canLay0=true) (hd:u.depth<=60)
  (h1:turnF ts v u=true->∀ x3 x4,E.nx [some (.s (webD many ts)),some (.s (.tuple ds)),some (.s (.int v)),x3,x4] n) (h2:turnF ts v u=false->E.rt (.tuple [.str "turns",.int v]) n):dueB E [some (.s (webD many ts)),some (.s (.tuple ds)),some (.s (.int v)),x3,x4] n:=by
 have e0:webD many ts=.tuple [.int many,.tuple (ts.map tieD)]:=rfl
 unfold dueB
 with_reducible generalize ht2:uIfS (uOr (uTst (uOp neD _ (uL uNil))) _) _ _=t2
 with_reducible generalize ht1:uSeq (uIfS (uOr (uNot _) _) _ _) t2=t1
 simp! [e0,atI_1,lenD',List.length_map,ha]
 rw [eq_true (⟨by omega,by omega⟩:-2 ^ 62<=(ts.length:Int)/\(ts.length:Int)<=16777216),true_and,rngD_eq,Int.toNat_natCast]
 rw [comp_ints (fun k=>.int k) (fun k=>decide (v=(tieAt ts k).1\/v=(tieAt ts k).2.1)) _ _ _ _ (fun k _ n Q=>by simp! [uSeq]) (fun k hk n Q=>by
  have ha:=atI_tie (ts:=ts) (k:=k) (by have:=mem_rngI.mp hk; omega)
  simp! [atI_1,ixD_t,ha,tieD,slD,cutG_to _ 2 (by decide),show Int.toNat 2=2 from rfl,List.take_succ_cons,List.take_zero,inD_pair])]
 rw [List.nil_append,<- e0]
 show t1 E [some (.s (webD many ts)),some (.s (.tuple ds)),some (.s (.int v)),some (.s (.list ((ownI ts v).map .int))),some (.s u)] n
 have hol:=own_len ts v
 have hlt:=own_lt ts v
 have hturn:∀ ns:List Int,u=.tuple (ns.map .int)->turnF ts v u=decide (sortI ns=ownI ts v):=fun ns e=>by rw [e]; unfold turnF; simp only [asInts_map]
 have hno:∀ es,u=.tuple es->asInts es=none->turnF ts v u=false:=fun es e h=>by rw [e]; unfold turnF; simp only [h]
 generalize hO:ownI ts v=O at *
 subst ht1
 cases u with
 | tuple es =>
  have hl:=(wl_of hw).1
  simp! [isiD,lenD',neD_int,List.length_map]
  by_cases hlen:(es.length:Int)=O.length
  ·simp! [hlen,decide_true,Bool.not_true,Bool.false_eq_true,if_false]
   subst ht2
   have hla:PyData.canLayAll0 es=true:=by rw [PyData.canLay0] at hc; exact hc
   have hda:PyData.depthAll es<=59:=by rw [PyData.depth] at hd; omega
   have hne:=neD_any (lay_filter notW es hla) (Nat.le_trans (dep_filter notW es) hda)
   simp only [uIfS,uOr,uTst,uOp,uL,uComp,uJt,uLoose,uNil,seedP,seqD,bnd_some,List.map_cons,List.map_nil,List.getElem?_cons_zero,List.getElem?_cons_succ]
   rw [comp_filter (fun d=>d) notW _ _ _ _ (fun d _ n Q=>by simp! [uSeq]) (fun d _ n Q=>by cases d <;> simp! [isiD,notW,isWhole] <;> first | rfl | exact if_pos rfl | exact if_neg (by decide)),List.nil_append,List.map_id' ,hne,bnd_some,isB_bool]
   rcases whole_or es with ⟨ns,rfl⟩ | ⟨h3,h4⟩
   ·rw [List.length_map] at hl hlen
    have hnil:(ns.map PyData.int).filter notW=[]:=by rw [List.filter_eq_nil_iff]; intro x hx; obtain ⟨i,_,rfl⟩:=List.mem_map.mp hx; simp [notW,isWhole]
    rw [hnil]
    have hiff:=sort_own (ns:=ns) hlt
    simp only [decide_true,Bool.not_true,Bool.false_eq_true,if_false,uSetNe,uLoose,seqD,bnd_some,asInts_map,List.getElem?_cons_zero,List.getElem?_cons_succ,isB_bool]
    refine ⟨by omega,by omega,?_⟩
    by_cases hu:usortI ns=usortI O
    ·simp only [hu,decide_true,Bool.not_true,Bool.false_eq_true,if_false,uNext]
     exact h1 (by rw [hturn ns rfl]; exact decide_eq_true (hiff.mpr ⟨by omega,hu⟩)) _ _
    ·simp! [hu,decide_false,Bool.not_false,if_true]
     exact h2 (by rw [hturn ns rfl]; exact decide_eq_false fun h=>hu (hiff.mp h).2)
   ·have hnn:¬ es.filter notW=[]:=fun h=>by
     rw [List.filter_eq_nil_iff] at h
     rw [List.all_eq_false] at h4
     obtain ⟨x,hx,hx2⟩:=h4
     exact h x hx (by simpa [notW] using hx2)
    simp! [hnn,decide_false,Bool.not_false,if_true]
    exact h2 (hno es rfl h3)
  ·have hf:turnF ts v (.tuple es)=false:=by
    rcases whole_or es with ⟨ns,rfl⟩ | ⟨h3,_⟩
    ·rw [hturn ns rfl]
     refine decide_eq_false fun h=>hlen ?_
     rw [<- h,List.length_map,(sortI_perm ns).length_eq]
    ·exact hno es rfl h3
   simp! [hlen,decide_false,Bool.not_false,if_true]
   exact h2 hf
 | _ =>
  simp! [isiD]
  exact Eq.mpr (if_pos rfl) (h2 rfl)
theorem law_due_ok {many:Int} {ts:List Tie} {d:PyData} {k:Nat} (hm:0<=many) (hm2:many<=9) (hts:ts.length<=16) (hk:k < 64) (hw:Wl k d) (hg:Good d) (h:Q (dueD (faultO many ts d)) n):F_law_due [webD many ts,d] n Q X:=by
 unfold F_law_due u_law_due
 simp only [mkF,mkFF,envOf,List.map_cons,List.map_nil,List.length_cons,List.length_nil,Nat.reduceSub,Nat.reduceAdd,List.replicate_succ,List.replicate_zero,List.cons_append,List.nil_append]
 with_reducible generalize ht:uSeq (uFor _ _ _) _=t
 have e0:webD many ts=.tuple [.int many,.tuple (ts.map tieD)]:=rfl
 cases d with
 | tuple ds =>
  have hel:=(wl_of hw).2
  rw [faultO] at h
  simp! [isiD,lenD',e0,atI_0,neD_int]
  rw [<- e0]
  by_cases hlen:(ds.length:Int)=many
  ·rw [if_pos hlen] at h
   simp only [hlen,decide_true,Bool.not_true,Bool.false_eq_true,if_false]
   subst ht
   have hla:PyData.canLayAll0 ds=true:=by have:=hg.lay; rwa [PyData.canLay0] at this
   have hda:=hg.deep
   rw [PyData.depth] at hda
   have key:∀ (us pre:List PyData) (x2 x3 x4:Option Ent),ds=pre++us->Q (dueD (ff ts pre.length us)) n->uLoop (uNm 2) dueB
     { nx:=uRet (uC (.bool true)) { nx:=fun x n'=>Q PyData.none n',rt:=Q },rt:=Q } ((rngI pre.length us.length).map .int) [some (.s (webD many ts)),some (.s (.tuple ds)),x2,x3,x4] n:=by
    intro us
    induction us with
    | nil =>
     intro pre x2 x3 x4 _ hq
     exact hq
    | cons u us ih =>
     intro pre x2 x3 x4 hp hq
     have hmem:u∈ds:=by rw [hp]; simp
     have ha:atI ds (pre.length:Nat)=some u:=by
      rw [atI_at (by omega) (by rw [hp]; simp; omega),hp,Int.toNat_natCast]
      simp
     rw [List.length_cons,rngI_cons,List.map_cons,uLoop]
     refine dueB_ok hts ha hk (hel u hmem) (lay_mem hla u hmem) (by have:=dA_mem hmem; omega) (fun ht x3 x4=>?_) (fun ht=>?_)
     ·rw [ff,if_pos ht] at hq
      have:=ih (pre++[u]) (some (.s (.int (pre.length:Nat)))) x3 x4 (by rw [hp]; simp) (by rw [List.length_append]; exact hq)
      rw [List.length_append] at this
      exact this
     ·rw [ff,if_neg (by rw [ht]; decide)] at hq
      exact hq
   rw [uSeq]
   show uFor (uIr (uOp ixD (uLoose 0) (uC (.int 0)))) (uNm 2) dueB _ _ _
   simp only [uFor,uIr,uOp,uLoose,uC,List.getElem?_cons_zero,List.getElem?_cons_succ]
   rw [e0]
   simp only [ixD_t,atI_0,bnd_some]
   rw [<- e0]
   refine ⟨by omega,by omega,?_⟩
   rw [rngD_eq,show many.toNat=ds.length by omega]
   exact key ds [] _ _ _ rfl h
  ·rw [if_neg hlen] at h
   simp! [hlen,decide_false,Bool.not_false,if_true,negD]
   exact h
 | _ =>
  simp only [faultO] at h
  simp! [isiD,negD]
  exact Eq.mpr (if_pos rfl) h
theorem due_sz {o:Option Int} (h:∀ v,o=some v->v.natAbs < 1024):Good (dueD o):=by
 cases o with
 | none=>exact (Sz.bl (B:=10000) (L:=11) true).good (by decide +kernel) (by decide) (by decide) (by decide)
 | some v=>exact (Sz.tup (SzL.cons (Sz.str (B:=10000) (L:=11) (x := "turns") (by decide +kernel)) (SzL.cons (Sz.small (h v rfl) (by decide)) SzL.nil))).good (by decide +kernel) (by decide) (by decide) (by decide)
theorem ff_lt {ts:List Tie}:∀ {ds:List PyData} {k v:Int},ff ts k ds=some v->k<=v/\v < k + ds.length
 | [],_,_,h=>by cases h
 | d::ds,k,v,h=>by
  rw [ff] at h
  split at h
  ·have:=ff_lt h
   rw [List.length_cons]
   omega
  ·cases h
   rw [List.length_cons]
   omega
theorem fault_lt {many:Int} {ts:List Tie} {d:PyData} (hm:0<=many) (hm2:many<=9) {v:Int} (h:faultO many ts d=some v):v.natAbs < 1024:=by
 unfold faultO at h
 split at h
 ·split at h
  ·have:=ff_lt h
   omega
  ·cases h; decide
 ·cases h; decide
theorem law_right_ok {many:Int} {ts:List Tie} {d:PyData} {k:Nat} (hm:0<=many) (hm2:many<=9) (hts:ts.length<=16) (hk:k < 64) (hw:Wl k d) (hg:Good d) (hg2:Good (.tuple [webD many ts,d])) (h:Q (.bool true) n):F_law_right [webD many ts,d] n Q X:=by
 have hG:=due_sz (o:=faultO many ts d) fun v hv=>fault_lt hm hm2 hv
 have hT:isTrueD (dueD (faultO many ts d))=(faultO many ts d).isNone:=by cases faultO many ts d <;> rfl
 have hB:∀ b,Good (.bool b):=fun b=>(Sz.bl (B:=10000) (L:=11) b).good (by decide +kernel) (by decide) (by decide) (by decide)
 unfold F_law_right u_law_right
 simp only [mkF,mkFF,envOf,List.map_cons,List.map_nil,List.length_cons,List.length_nil,Nat.reduceSub,Nat.reduceAdd,List.replicate_succ,List.replicate_zero,List.cons_append,List.nil_append]
 with_reducible generalize ht3:uRet (uOp eqsD _ _)=t3
 with_reducible generalize ht2:uSeq (uIfS _ _ _) t3=t2
 with_reducible generalize ht1:uSeq (uSet 3 _) t2=t1
 simp only [true_and,uSeq,uSet,uRepr,uTup,uCons,uVar,uNil,List.getElem?_cons_zero,List.getElem?_cons_succ]
 refine ⟨hg2,?_⟩
 generalize hs:(PyData.tuple [webD many ts,d]).shown=z
 simp only [List.set_cons_succ,List.set_cons_zero]
 rw [<- ht1,uSeq,uSet,uCall,uCons,uVar]
 simp only [List.getElem?_cons_zero,List.getElem?_cons_succ]
 rw [uCons,uVar]
 simp only [List.getElem?_cons_zero,List.getElem?_cons_succ]
 rw [uNil]
 refine law_due_ok hm hm2 hts hk hw hg ?_
 simp only [List.set_cons_succ,List.set_cons_zero]
 rw [<- ht2,uSeq,uIfS,uOr,uTst,uOp,uRepr,uCall,uCons,uVar]
 simp only [List.getElem?_cons_zero,List.getElem?_cons_succ]
 rw [uCons,uVar]
 simp only [List.getElem?_cons_zero,List.getElem?_cons_succ]
 rw [uNil]
 refine law_told_ok hk hw ⟨hG,?_⟩
 rw [uRepr,uVar]
 simp only [List.getElem?_cons_zero,List.getElem?_cons_succ]
 refine ⟨hG,?_⟩
 have hne:∀ x:Str,nesD (.str x) (.str x)=some (.bool false):=fun x=>by simp [nesD]
 rw [hne,bnd_some,isB_bool,if_neg (by decide),uTst,uOp,uRepr,uCall,uCons,uVar]
 simp only [List.getElem?_cons_zero,List.getElem?_cons_succ]
 rw [uCons,uVar]
 simp only [List.getElem?_cons_zero,List.getElem?_cons_succ]
 rw [uNil]
 refine is_turns_ok hk hw ⟨hB _,?_⟩
 rw [uRepr,uOp,uLoose]
 simp only [List.getElem?_cons_zero,List.getElem?_cons_succ]
 rw [uC,isTD,bnd_some,hT]
 refine ⟨hB _,?_⟩
 rw [hne,bnd_some,isB_bool,if_neg (by decide),uNext]
 show t3 { nx:=fun x n'=>Q PyData.none n',rt:=Q } _ n
 rw [<- ht3]
 simp only [uRet,uOp,uRepr,uTup,uCons,uVar,uLoose,uNil,List.getElem?_cons_zero,List.getElem?_cons_succ]
 refine ⟨hg2,?_⟩
 rw [hs]
 have he:eqsD (.str z) (.str z)=some (.bool true):=by simp [eqsD]
 rw [he,bnd_some]
 exact h
end
structure WebE (many:Int) (ts:List Tie):Prop where
 m0:1<=many
 m1:many<=9
 len:ts.length<=16
 sm:∀ t∈ts,t.1.natAbs < 1000/\t.2.1.natAbs < 1000/\t.2.2.natAbs < 1000
theorem WebE.sz {many:Int} {ts:List Tie} (w:WebE many ts):Sz 10000 11 2000 3 (webD many ts):=by
 have m0:=w.m0
 have m1:=w.m1
 have hl:=w.len
 have ht:∀ d∈ts.map tieD,Sz 10000 11 40 1 d:=fun d hd=>by
  obtain ⟨t,ht,rfl⟩:=List.mem_map.mp hd
  obtain ⟨a,b,c⟩:=w.sm t ht
  exact (Sz.tup (SzL.cons (Sz.small (B:=10000) (L:=11) (i:=t.1) (by omega) (by decide)) (SzL.cons (Sz.small (i:=t.2.1) (by omega) (by decide)) (SzL.cons (Sz.small (i:=t.2.2) (by omega) (by decide)) SzL.nil)))).mono (Nat.le_refl _) (Nat.le_refl _) (by decide) (by decide)
 have h2:=SzL.all ht
 rw [List.length_map] at h2
 exact (Sz.tup (SzL.cons (Sz.small (B:=10000) (L:=11) (i:=many) (by omega) (by decide)) (SzL.cons (Sz.tup h2) SzL.nil))).mono (Nat.le_refl _) (Nat.le_refl _) (by omega) (by decide)
theorem both_good {many:Int} {ts:List Tie} {d:PyData} (w:WebE many ts) (h:TH d):Good (.tuple [webD many ts,d]) :=
 (Sz.tup (SzL.cons (w.sz.mono (by decide +kernel:10000<=10 ^ 43) (Nat.le_refl _) (Nat.le_refl _) (Nat.le_refl _)) (SzL.cons h.sz SzL.nil))).good (by decide +kernel) (by decide) (by decide) (by decide)
section
variable {n:Int} {X:XQ} {Q:PyData->Int->Prop}
theorem law_price_ok (hn:n + 3<=mostN) (h:∀ p:Int,p.natAbs<=99->Q (.int p) (n + 3)):F_law_price [] n Q X:=by
 unfold F_law_price u_law_price
 simp only [mkF,mkFF,envOf,List.map_cons,List.map_nil,List.length_cons,List.length_nil,Nat.reduceSub,Nat.reduceAdd,List.replicate_succ,List.replicate_zero,List.cons_append,List.nil_append]
 simp! [uSeq]
 refine draw_ok (by decide) (by decide) (by omega) fun a a0 a1=>?_
 simp! [addII]
 refine draw_ok (by decide) (by decide) (by omega) fun b b0 b1=>?_
 refine draw_ok (by decide) (by decide) (by omega) fun c c0 c1=>?_
 obtain ⟨x,hx,hm⟩:=atI_some (xs:=[PyData.int 0,.int 1,.int 2,.int 3,.int (1 + a),.int b]) c0 (by simpa using c1)
 simp! [hx]
 simp only [List.mem_cons,List.not_mem_nil,or_false] at hm
 rw [show n + 1 + 1 + 1=n + 3 by omega]
 rcases hm with rfl | rfl | rfl | rfl | rfl | rfl <;> exact h _ (by omega)
theorem law_web_ok {p m:Int} (hp:1<=p) (hp9:p<=9) (hm:0<=m) (hm16:m<=16) (hn:n + 100<=mostN) (h:∀ (many:Int) (ts:List Tie) (n':Int),WebE many ts->n<=n'->n'<=n + 100->Q (webD many ts) n'):F_law_web [.int p,.int m] n Q X:=by
 unfold F_law_web u_law_web
 simp only [mkF,mkFF,envOf,List.map_cons,List.map_nil,List.length_cons,List.length_nil,Nat.reduceSub,Nat.reduceAdd,List.replicate_succ,List.replicate_zero,List.cons_append,List.nil_append]
 with_reducible generalize hbd:uSeq (uSet 6 _) _=bd
 simp! [uSeq]
 refine draw_ok (by omega) (by omega) (by omega) fun r r0 r1=>?_
 simp! [addII]
 obtain ⟨many,em,k0,k1⟩:∃ many:Int,1 + r=many/\1<=many/\many<=9:=⟨_,rfl,by omega,by omega⟩
 rw [em]
 refine draw_ok (by omega) (by omega) (by omega) fun c c0 c1=>?_
 simp! [gtD,intD,mulD_bit]
 have hj:0<=(if decide (1 < many)=true then c else 0)/\(if decide (1 < many)=true then c else 0)<=16:=by split <;> omega
 have hj1:0 < (if decide (1 < many)=true then c else 0)->1 < many:=by
  split
  ·rename_i hh; intro _; exact of_decide_eq_true hh
  ·intro z; omega
 generalize (if decide (1 < many)=true then c else 0)=j at hj hj1 ⊢
 refine ⟨by omega,by omega,?_⟩
 refine loop_inv (fun pre post env n'=>∃ (ts:List Tie) (x5 x6 x7:Option Ent),env=[none,some (.s (.int p)),some (.s (.int m)),some (.s (.int many)),some (.o (ts.map tieD)),x5,x6,x7]/\(∀ t∈ts,t.1.natAbs < 1000/\t.2.1.natAbs < 1000/\t.2.2.natAbs < 1000)/\ts.length=pre.length/\n'=n + 2 + 5 * pre.length/\pre.length + post.length=j.toNat) _ [] _ _ ?_ ⟨[],none,none,none,rfl,by simp,rfl,by simp; omega,by simp [rngD]⟩ ?_
 ·rintro pre d post env n' E' hE ⟨ts,x5,x6,x7,rfl,hts,hl,rfl,hp⟩ hnx
  rw [List.length_cons] at hp
  have hm1:1 < many:=hj1 (by omega)
  rw [uNm]
  simp only [List.set_cons_succ,List.set_cons_zero]
  subst hbd
  simp! [uSeq]
  refine draw_ok (by omega) (by omega) (by omega) fun a a0 a1=>?_
  simp! [addII,subII]
  refine draw_ok (by omega) (by omega) (by omega) fun b b0 b1=>?_
  simp! [addII,modD_of (show 0 < many by omega),min2D,max2D]
  have hb0:=Int.emod_nonneg (a + 1 + b) (show many≠0 by omega)
  have hb1:=Int.emod_lt_of_pos (a + 1 + b) (show 0 < many by omega)
  generalize (a + 1 + b) % many=o at hb0 hb1 ⊢
  refine law_price_ok (by omega) fun q hq=>?_
  rw [appendD_of (by rw [List.length_map]; omega)]
  simp! [uSeq]
  refine hnx _ _ ⟨ts++[(if o < a then o else a,if o > a then o else a,q)],_,_,_,(by rw [List.map_append]; rfl),fun t ht=>?_,by simp [hl],by simp; omega,by simp; omega⟩
  rcases List.mem_append.mp ht with ht | ht
  ·exact hts t ht
  ·rw [List.mem_singleton.mp ht]
   refine ⟨?_,?_,by show q.natAbs < 1000; omega⟩
   ·show (if o < a then o else a).natAbs < 1000
    split <;> omega
   ·show (if o > a then o else a).natAbs < 1000
    split <;> omega
 ·rintro pre env n' ⟨ts,x5,x6,x7,rfl,hts,hl,rfl,hp⟩
  rw [List.length_nil] at hp
  simp! [tupleD]
  exact h many ts _ ⟨k0,k1,by omega,hts⟩ (by omega) (by omega)
theorem ask_all {E:UEnds} {many:Int} {ts:List Tie} {x2 x4 x5 x6 x7 x8 x10:Option Ent} (w:WebE many ts):∀ (its:List PyData) (x9:Option Ent),(∀ d∈its,TH d)->(∀ x9,E.nx [none,none,x2,some (.s (webD many ts)),x4,x5,x6,x7,x8,x9,x10] n)->uLoop (uNm 9) (uIfS (uNot (uTst (uCall F_law_right (uCons (uVar 3) (uCons (uVar 9) uNil))))) (uRet (uC (.bool false))) uNext) E its [none,none,x2,some (.s (webD many ts)),x4,x5,x6,x7,x8,x9,x10] n
 | [],x9,_,h=>h x9
 | d::its,x9,hd,h=>by
  have hd1:=hd d (List.mem_cons_self ..)
  rw [uLoop,uNm]
  simp only [List.set_cons_succ,List.set_cons_zero]
  rw [uIfS,uNot,uTst,uCall,uCons,uVar]
  simp only [List.getElem?_cons_zero,List.getElem?_cons_succ]
  rw [uCons,uVar]
  simp only [List.getElem?_cons_zero,List.getElem?_cons_succ]
  rw [uNil]
  refine law_right_ok (by have:=w.m0; omega) w.m1 w.len (by decide:40 < 64) hd1.wl (hd1.sz.good (by decide +kernel) (by decide) (by decide) (by decide)) (both_good w hd1) ?_
  rw [isB_bool,if_neg (by decide),uNext]
  exact ask_all w its _ (fun e he=>hd e (List.mem_cons_of_mem _ he)) h
theorem comp_bend {Q:List PyData->Int->Prop} {ds:List PyData} {x1:Option Ent} (ht:TrR ds):∀ (its acc:List PyData) (n:Int) (x0:Option Ent),n + 30 * its.length<=mostN->(∀ d∈acc,TH d)->(∀ (ys:List PyData) (n':Int),(∀ y∈ys,TH y)->ys.length=acc.length + its.length->n<=n'->n'<=n + 30 * its.length->Q ys n')->uCompGo (uNm 0) uYes (uCall F_law_bent (uCons (uVar 2) (uCons (uC (.int 3)) uNil))) Q its acc [x0,x1,some (.s (.tuple ds))] n
 | [],acc,n,x0,_,ha,h=>h acc n ha (by simp) (by omega) (by simp)
 | d::its,acc,n,x0,hn,ha,h=>by
  rw [List.length_cons] at hn h
  rw [uCompGo,uNm]
  simp only [List.set_cons_zero]
  rw [uYes,if_pos rfl,uCall,uCons,uVar]
  simp only [List.getElem?_cons_zero,List.getElem?_cons_succ]
  rw [uCons,uC,uNil]
  have hT:∀ d',Bd (2 * 1000 + 10 ^ 40) (2 * 2000 + 400) (2 + 2) (16 + 1) d'->TH d':=fun d' h=>h.mono (by decide +kernel) (by decide) (by decide) (by decide)
  refine bend (B:=1000) (w:=2000) (p:=2) (k:=16) (deep:=3) (by decide +kernel) (by decide) (by decide) (by decide) ht.bd (by omega) fun d' n' hd' h1 h2=>?_
  refine comp_bend ht its (acc++[d']) n' _ (by omega) (fun e he=>?_) fun ys n2 hys hl h3 h4=>h ys n2 hys (by rw [hl]; simp; omega) (by omega) (by omega)
  rcases List.mem_append.mp he with he | he
  ·exact ha e he
  ·rw [List.mem_singleton.mp he]
   exact hT d' hd'
end
theorem row_sz {ts:List Tie} {v:Int} (hl:ts.length<=16) {es:List PyData} (he:es.length=((ownI ts v).map PyData.int).length) (hm:∀ d∈es,d∈(ownI ts v).map PyData.int):Sz 1000 11 176 1 (.tuple es)/\Wl 16 (.tuple es)/\es.length<=16:=by
 have:=own_len ts v
 rw [List.length_map] at he
 have hi:∀ d∈es,∃ i:Int,d=.int i/\0<=i/\i < 16:=fun d hd=>by
  obtain ⟨i,hi,rfl⟩:=List.mem_map.mp (hm d hd)
  have:=own_in hi
  exact ⟨i,rfl,by omega,by omega⟩
 have h1:∀ d∈es,Sz 1000 11 10 0 d:=fun d hd=>by
  obtain ⟨i,rfl,i0,i1⟩:=hi d hd
  exact ⟨by simp only [Gq]; omega,(Sz.small (B:=1023) (L:=11) (i:=i) (by omega) (Nat.le_refl _)).wt,by simp [PyData.depth]⟩
 refine ⟨(Sz.tup (SzL.all h1)).mono (Nat.le_refl _) (Nat.le_refl _) (by omega) (Nat.le_refl _),wl_tup (by omega) fun d hd=>?_,by omega⟩
 obtain ⟨i,rfl,_⟩:=hi d hd
 trivial
structure Rows (many:Int) (rs:List PyData):Prop where
 sz:∀ d∈rs,Sz 1000 11 176 1 d
 wl:∀ d∈rs,Wl 16 d
theorem rows_tr {many:Int} {rs:List PyData} (h:Rows many rs) (hl:rs.length<=9):TrR rs:=⟨⟨(Sz.tup (SzL.all h.sz)).mono (Nat.le_refl _) (Nat.le_refl _) (by omega) (Nat.le_refl _),wl_tup (by omega) h.wl⟩,hl⟩
theorem things_th {many:Int} {ds:List PyData} (m0:1<=many) (m1:many<=9) (ht:TrR ds):∀ d∈[PyData.tuple ds,.list ds,.tuple [],.none,.tuple (ds++[.tuple []]),.tuple ds.reverse,.tuple (List.replicate many.toNat [PyData.tuple []]).flatten],TH d:=by
 have hl:=ht.len
 have up:∀ {w p k:Nat} {d:PyData},Bd 1000 w p k d->w<=30000->p<=8->k<=40->TH d:=fun h h1 h2 h3=>h.mono (by decide +kernel) h1 h2 h3
 have hrep:∀ d∈(List.replicate many.toNat [PyData.tuple []]).flatten,d=.tuple []:=fun d hd=>by
  obtain ⟨l,h1,h2⟩:=List.mem_flatten.mp hd
  rw [(List.mem_replicate.mp h1).2] at h2
  exact List.mem_singleton.mp h2
 have hrl:(List.replicate many.toNat [PyData.tuple []]).flatten.length<=9:=by simp; omega
 simp only [List.mem_cons,List.not_mem_nil,or_false]
 rintro d (rfl | rfl | rfl | rfl | rfl | rfl | rfl)
 ·exact up ht.bd (by decide) (by decide) (by decide)
 ·exact up ht.bd.lst (by decide) (by decide) (by decide)
 ·exact up (bd0 (B:=1000) (k:=16)) (by decide) (by decide) (by decide)
 ·exact up (bdN (B:=1000) (k:=16)) (by decide) (by decide) (by decide)
 ·exact up (ht.bd.app (es:=[.tuple []]) (k':=16) ((bd1 (bd0 (B:=1000) (k:=16)) (by decide)).mono (Nat.le_refl _) (Nat.le_refl _) (by decide) (Nat.le_refl _)) (by simp; omega) (Nat.le_refl _)) (by decide) (by decide) (by decide)
 ·exact up ht.bd.rev (by decide) (by decide) (by decide)
 ·refine up (w:=100) (p:=2) (k:=16) ⟨(Sz.tup (SzL.all (B:=1000) (L:=11) (w:=0) (p:=1) fun d hd=>?_)).mono (Nat.le_refl _) (Nat.le_refl _) (by omega) (Nat.le_refl _),wl_tup (by omega) fun d hd=>?_⟩ (by decide) (by decide) (by decide)
  ·rw [hrep d hd]; exact (bd0 (B:=1000) (k:=16)).sz
  ·rw [hrep d hd]; exact (bd0 (B:=1000) (k:=16)).wl
structure InvT (pre:List PyData) (env:PEnv) (n':Int):Prop where
 ex:∃ x2 x3 x4 x5 x6 x7 x8 x9:Option Ent,env=[none,none,x2,x3,x4,x5,x6,x7,x8,x9,none]/\(pre≠[]->∃ many ts ds,WebE many ts/\TrR ds/\x3=some (.s (webD many ts))/\x7=some (.s (.tuple ds)))
 lo:0<=n'
 hi:n'<=1000 * pre.length
theorem law_pure:u_law { nx:=fun _ _=>False,rt:=fun d _=>d=.bool true } (List.replicate 11 none) 0:=by
 have hmost:mostN=1099511627776:=by decide
 have hsz:sizeLine=16777216:=by decide
 unfold u_law
 simp only [mkF,mkFF,envOf,List.map_cons,List.map_nil,List.length_cons,List.length_nil,Nat.reduceSub,Nat.reduceAdd,List.replicate_succ,List.replicate_zero,List.cons_append,List.nil_append]
 with_reducible generalize ht2:uSeq (uFor (uIr (uC (.int 3))) (uNm 10) _) _=t2
 with_reducible generalize hr5:uFor (uIt (uOp addD (uLoose 8) _)) (uNm 9) _=r5
 with_reducible generalize hr4:uSeq (uSet 8 _) r5=r4
 with_reducible generalize hr3:uSeq (uSet 7 _) r4=r3
 with_reducible generalize hrb:uSeq (uSet 6 _) _=rb
 with_reducible generalize hr2:uSeq (uFor _ (uNm 5) rb) r3=r2
 with_reducible generalize hr1:uSeq (uNew 4 _) r2=r1
 with_reducible generalize hb:uSeq (uSet 3 _) r1=b
 simp! [uSeq]
 refine ⟨by decide,by decide,?_⟩
 rw [rngD_eq]
 refine loop_inv (fun pre post env n'=>pre++post=(rngI 0 3).map PyData.int/\InvT pre env n') _ [] _ _ ?_ ⟨rfl,⟨_,_,_,_,_,_,_,_,rfl,fun h=>absurd rfl h⟩,by decide,by simp⟩ ?_
 ·rintro pre d post env n' E' hE ⟨hp,⟨x2,x3,x4,x5,x6,x7,x8,x9,rfl,_⟩,hn0,hn1⟩ hnx
  obtain ⟨i,i0,i1,rfl⟩:∃ i:Int,0<=i/\i < 3/\d=.int i:=by
   have:d∈(rngI 0 3).map PyData.int:=by rw [<- hp]; simp
   obtain ⟨i,hi,rfl⟩:=List.mem_map.mp this
   have:=mem_rngI.mp hi
   exact ⟨i,by omega,by omega,rfl⟩
  have hpl:pre.length<=2:=by
   have:=congrArg List.length hp
   rw [List.length_append,List.length_cons,List.length_map,rngI_len] at this
   omega
  rw [uNm]
  simp only [List.set_cons_succ,List.set_cons_zero]
  have hi0:=Int.emod_nonneg i (show (2:Int)≠0 by decide)
  have hi1:=Int.emod_lt_of_pos i (show (0:Int) < 2 by decide)
  obtain ⟨x,hx,hm⟩:=atI_some (xs:=[PyData.int 6,.int 9]) hi0 (by simpa using hi1)
  obtain ⟨y,hy,hmy⟩:=atI_some (xs:=[PyData.int 8,.int 16]) hi0 (by simpa using hi1)
  obtain ⟨p,rfl,p0,p1⟩:∃ p:Int,x=.int p/\1<=p/\p<=9:=by
   simp only [List.mem_cons,List.not_mem_nil,or_false] at hm
   rcases hm with rfl | rfl <;> exact ⟨_,rfl,by decide,by decide⟩
  obtain ⟨m,rfl,q0,q1⟩:∃ m:Int,y=.int m/\0<=m/\m<=16:=by
   simp only [List.mem_cons,List.not_mem_nil,or_false] at hmy
   rcases hmy with rfl | rfl <;> exact ⟨_,rfl,by decide,by decide⟩
  subst hb
  simp! [modD_of (show (0:Int) < 2 by decide),hx,hy]
  refine law_web_ok p0 p1 q0 q1 (by omega) fun many ts n1 w hn2 hn3=>?_
  have m0:=w.m0
  have m1:=w.m1
  have hts:=w.len
  have e0:webD many ts=.tuple [.int many,.tuple (ts.map tieD)]:=rfl
  subst hr1
  simp! [uSeq]
  subst hr2
  rw [e0]
  simp! [atI_0]
  rw [<- e0]
  refine ⟨by omega,by omega,?_⟩
  refine loop_inv (fun pre2 post2 env n'=>∃ (rs:List PyData) (x5 x6:Option Ent),env=[none,none,some (.s (.int i)),some (.s (webD many ts)),some (.o rs),x5,x6,x7,x8,x9,none]/\Rows many rs/\rs.length=pre2.length/\pre2++post2=rngD 0 many.toNat/\n1<=n'/\n'<=n1 + 16 * pre2.length) _ [] _ _ ?_ ⟨[],_,_,rfl,⟨by simp,by simp⟩,rfl,rfl,by omega,by simp⟩ ?_
  ·rintro pre2 d post2 env n' E2 hE2 ⟨rs,x5,x6,rfl,hR,hrl,hp2,hn4,hn5⟩ hnx2
   have hlen2:=congrArg List.length hp2
   rw [rngD_eq,List.length_append,List.length_cons,List.length_map,rngI_len] at hlen2
   obtain ⟨v,rfl⟩:∃ v:Int,d=.int v:=by
    have:d∈(rngI 0 many.toNat).map PyData.int:=by rw [<- rngD_eq,<- hp2]; simp
    obtain ⟨v,_,rfl⟩:=List.mem_map.mp this
    exact ⟨v,rfl⟩
   rw [uNm]
   simp only [List.set_cons_succ,List.set_cons_zero]
   subst hrb
   with_reducible generalize hap:uMeth 4 appendD _=ap
   rw [e0]
   simp! [atI_1,lenD',List.length_map]
   rw [eq_true (⟨by omega,by omega⟩:-2 ^ 62<=(ts.length:Int)/\(ts.length:Int)<=16777216),true_and,rngD_eq,Int.toNat_natCast]
   rw [comp_ints (fun k=>.int k) (fun k=>decide (v=(tieAt ts k).1\/v=(tieAt ts k).2.1)) _ _ _ _ (fun k _ n Q=>by simp! [uSeq]) (fun k hk n Q=>by
    have ha:=atI_tie (ts:=ts) (k:=k) (by have:=mem_rngI.mp hk; omega)
    simp! [atI_1,ixD_t,ha,tieD,slD,cutG_to _ 2 (by decide),show Int.toNat 2=2 from rfl,List.take_succ_cons,List.take_zero,inD_pair])]
   rw [List.nil_append,<- e0]
   show ap E2 [none,none,some (.s (.int i)),some (.s (webD many ts)),some (.o rs),some (.s (.int v)),some (.s (.list ((ownI ts v).map .int))),x7,x8,x9,none] n'
   have hol:=own_len ts v
   subst hap
   simp only [uMeth,uCons,uCB,uCall,uVar,uNil,List.getElem?_cons_zero,List.getElem?_cons_succ]
   refine law_shuffled_ok (by rw [List.length_map]; omega) (by rw [List.length_map]; omega) fun es hes hem=>?_
   obtain ⟨z1,z2,z3⟩:=row_sz hts hes hem
   simp only [tupleD,bnd_some]
   rw [appendD_of (by omega),bnd_some]
   refine hnx2 _ _ ⟨rs++[.tuple es],_,_,rfl,⟨fun d hd=>?_,fun d hd=>?_⟩,by simp [hrl],by rw [List.append_assoc]; exact hp2,by rw [List.length_map]; omega,by rw [List.length_map,List.length_append]; simp; omega⟩
   ·rcases List.mem_append.mp hd with hd | hd
    ·exact hR.sz d hd
    ·rw [List.mem_singleton.mp hd]; exact z1
   ·rcases List.mem_append.mp hd with hd | hd
    ·exact hR.wl d hd
    ·rw [List.mem_singleton.mp hd]; exact z2
  ·rintro pre2 env n' ⟨rs,x5,x6,rfl,hR,hrl,hp2,hn4,hn5⟩
   have hlen2:=congrArg List.length hp2
   rw [rngD_eq,List.append_nil,List.length_map,rngI_len] at hlen2
   have hT:=rows_tr hR (by omega)
   subst hr3
   simp! [tupleD]
   subst hr4
   have ha:addD (.tuple rs) (.tuple [.tuple []])=some (.tuple (rs++[.tuple []])):=addD_t (by simp; omega)
   have hmu:mulD (.tuple [.tuple []]) (.int many)=some (.tuple (List.replicate many.toNat [PyData.tuple []]).flatten):=by
    simp only [mulD]
    rw [if_pos ⟨by omega,by omega,by simp,by simp; omega⟩]
   rw [e0]
   simp! [ha,hmu,revAD,atI_0]
   rw [<- e0]
   have hth:=things_th m0 m1 hT
   have hLl:[PyData.tuple rs,.list rs,.tuple [],.none,.tuple (rs++[.tuple []]),.tuple rs.reverse,.tuple (List.replicate many.toNat [PyData.tuple []]).flatten].length=7:=rfl
   generalize [PyData.tuple rs,.list rs,.tuple [],.none,.tuple (rs++[.tuple []]),.tuple rs.reverse,.tuple (List.replicate many.toNat [PyData.tuple []]).flatten]=L at hth hLl ⊢
   subst hr5
   simp only [uFor,uIt,uOp,uLoose,uL,uComp,uJr,uC,seedP,List.map_cons,List.map_nil,List.getElem?_cons_zero,List.getElem?_cons_succ,Option.bind_some,Option.bind_none]
   refine ⟨⟨by decide,by decide⟩,?_⟩
   have h6:(rngD 0 (Int.toNat 6)).length=6:=rfl
   refine comp_bend hT _ [] _ _ (by rw [h6]; omega) (by simp) fun ys n2 hys hyl hn6 hn7=>?_
   rw [h6] at hn7 hyl
   rw [addD_l (by rw [hyl,hLl]; decide),bnd_some]
   simp only [seqD,bnd_some]
   refine ask_all w _ _ (fun d hd=>(List.mem_append.mp hd).elim (hth d) (hys d)) fun x9=>?_
   exact hnx _ _ ⟨by rw [List.append_assoc]; exact hp,⟨_,_,_,_,_,_,_,_,rfl,fun _=>⟨many,ts,rs,w,hT,rfl,rfl⟩⟩,by omega,by rw [List.length_append]; simp; omega⟩
 ·rintro pre env n' ⟨hp,⟨x2,x3,x4,x5,x6,x7,x8,x9,rfl,hx⟩,hn0,hn1⟩
  rw [List.append_nil] at hp
  obtain ⟨many,ts,ds,w,hT,rfl,rfl⟩:=hx (by rw [hp]; intro z; cases z)
  have hpl:pre.length=3:=by rw [hp]; rfl
  have hTt:TH (.tuple ds):=hT.bd.mono (by decide +kernel) (by decide) (by decide) (by decide)
  subst ht2
  with_reducible generalize hbb:uFor (uIt _) _ _=bb
  simp! [uSeq]
  refine ⟨by decide,by decide,?_⟩
  refine loop_inv (fun pre2 post2 env n2=>∃ x9 x10:Option Ent,env=[none,none,x2,some (.s (webD many ts)),x4,x5,x6,some (.s (.tuple ds)),x8,x9,x10]/\0<=n2/\n2<=3000 + 100 * pre2.length/\pre2.length + post2.length=3) _ [] _ _ ?_ ⟨_,_,rfl,hn0,by rw [hpl] at hn1; simp; omega,rfl⟩ ?_
  ·rintro pre2 d post2 env n2 E2 hE2 ⟨x9,x10,rfl,hm0,hm1,hm2⟩ hnx2
   rw [List.length_cons] at hm2
   rw [uNm]
   simp only [List.set_cons_succ,List.set_cons_zero]
   subst hbb
   simp only [uFor,uIt,uL,uCons,uCall,uVar,uNil,List.getElem?_cons_zero,List.getElem?_cons_succ]
   refine two_ok hT (by omega) fun d' n3 hd' h1 h2=>?_
   simp only [seqD,bnd_some]
   refine ask_all w _ _ (fun e he=>?_) fun x9=>?_
   ·simp only [List.mem_cons,List.not_mem_nil,or_false] at he
    rcases he with rfl | rfl
    ·exact hd'
    ·exact hTt
   ·exact hnx2 _ _ ⟨_,_,rfl,by omega,by simp; omega,by simp; omega⟩
  ·rintro pre2 env n2 ⟨x9,x10,rfl,_⟩
   simp! [uSeq]
theorem all_mk {l:W.OpenLaw} {w:World} {K:W.Frag} {h:Heap} {mg:Str->Option Value} {fa:Addr} {f31:Addr} {od31 an31:Option Addr} {sl31:Array (Option Value)} {oc31 kV31 dc31 pm31 cd31 ct31:Value} {d_JoinError:Addr} {cd_JoinError:ClassData} {d_NoPaper:Addr} {cd_NoPaper:ClassData} {d_NoWalk:Addr} {cd_NoWalk:ClassData} {d_NoText:Addr} {cd_NoText:ClassData} {d_NoTurns:Addr} {cd_NoTurns:ClassData} {d_NoTie:Addr} {cd_NoTie:ClassData} {d_TooMany:Addr} {cd_TooMany:ClassData} {d_NoLine:Addr} {cd_NoLine:ClassData} {jc0 jc1:Value} {jdd jd1:Option Addr} {jcd:ClassData} {jsl jsl1:Array (Option Value)} {jN:Addr} {jes:Array DictEntry} {jn:Nat} {nm_NoTurns qn_NoTurns:Str} {N_NoTurns fi_NoTurns:Addr} {bs_NoTurns sub_NoTurns:List Value} {hd_NoTurns ab_NoTurns:Bool} {sn_NoTurns:List Str} {col_NoTurns:Option Bool} {dd_NoTurns od_NoTurns an_NoTurns:Option Addr} {k0_NoTurns k1_NoTurns k2_NoTurns k3_NoTurns k5_NoTurns:Option Value} {oc_NoTurns kV_NoTurns dc_NoTurns pm_NoTurns cD_NoTurns ct_NoTurns:Value} {sl_NoTurns:Array (Option Value)} (X:K.In h) (G:h.Ns mainGlobals mg) (hfa:mg "law" = some (.ref fa))
  (a31:W.nsIn K mainGlobals "law" = some (some (.ref f31)))
  (l31:K.lookup f31=some ⟨oc31,od31,.func (W.fnOf "law" "law" (defArgs (top 31)) (defBody (top 31)) (defScope (top 31)) .none kV31 dc31 pm31 an31 cd31 ct31),sl31⟩)
  (c31:W.codeIn K cd31 "law" = true)
  (k31:W.keepIn K (.ref f31)=true)
  (AF0:AllF K top [("is_whole",10),("is_tuple_of",11),("ties_at",13),("is_turn",15),("right_turns",16),("is_turns",17),("_law_feed",19),("_law_draw",20),("_law_shuffled",21),("_law_price",22),("_law_web",23),("_law_odd",24),("_law_bent",25),("_law_refusal",26),("_law_due",27),("_law_told",28),("_law_two",29),("_law_right",30)])
  (z_ValueError:W.nsIn K mainGlobals "ValueError" = some none)
  (z_all:W.nsIn K mainGlobals "all" = some none)
  (z_bool:W.nsIn K mainGlobals "bool" = some none)
  (z_enumerate:W.nsIn K mainGlobals "enumerate" = some none)
  (z_int:W.nsIn K mainGlobals "int" = some none)
  (z_isinstance:W.nsIn K mainGlobals "isinstance" = some none)
  (z_len:W.nsIn K mainGlobals "len" = some none)
  (z_list:W.nsIn K mainGlobals "list" = some none)
  (z_max:W.nsIn K mainGlobals "max" = some none)
  (z_min:W.nsIn K mainGlobals "min" = some none)
  (z_range:W.nsIn K mainGlobals "range" = some none)
  (z_repr:W.nsIn K mainGlobals "repr" = some none)
  (z_set:W.nsIn K mainGlobals "set" = some none)
  (z_sorted:W.nsIn K mainGlobals "sorted" = some none)
  (z_tuple:W.nsIn K mainGlobals "tuple" = some none)
  (na_JoinError:W.nsIn K mainGlobals "JoinError" = some (some (.ref d_JoinError)))
  (ty_JoinError:W.typeIn K (.ref d_JoinError)=some (.type "type"))
  (cl_JoinError:W.clsIn K d_JoinError=some cd_JoinError)
  (na_NoPaper:W.nsIn K mainGlobals "NoPaper" = some (some (.ref d_NoPaper)))
  (ty_NoPaper:W.typeIn K (.ref d_NoPaper)=some (.type "type"))
  (cl_NoPaper:W.clsIn K d_NoPaper=some cd_NoPaper)
  (na_NoWalk:W.nsIn K mainGlobals "NoWalk" = some (some (.ref d_NoWalk)))
  (ty_NoWalk:W.typeIn K (.ref d_NoWalk)=some (.type "type"))
  (cl_NoWalk:W.clsIn K d_NoWalk=some cd_NoWalk)
  (na_NoText:W.nsIn K mainGlobals "NoText" = some (some (.ref d_NoText)))
  (ty_NoText:W.typeIn K (.ref d_NoText)=some (.type "type"))
  (cl_NoText:W.clsIn K d_NoText=some cd_NoText)
  (na_NoTurns:W.nsIn K mainGlobals "NoTurns" = some (some (.ref d_NoTurns)))
  (ty_NoTurns:W.typeIn K (.ref d_NoTurns)=some (.type "type"))
  (cl_NoTurns:W.clsIn K d_NoTurns=some cd_NoTurns)
  (na_NoTie:W.nsIn K mainGlobals "NoTie" = some (some (.ref d_NoTie)))
  (ty_NoTie:W.typeIn K (.ref d_NoTie)=some (.type "type"))
  (cl_NoTie:W.clsIn K d_NoTie=some cd_NoTie)
  (na_TooMany:W.nsIn K mainGlobals "TooMany" = some (some (.ref d_TooMany)))
  (ty_TooMany:W.typeIn K (.ref d_TooMany)=some (.type "type"))
  (cl_TooMany:W.clsIn K d_TooMany=some cd_TooMany)
  (na_NoLine:W.nsIn K mainGlobals "NoLine" = some (some (.ref d_NoLine)))
  (ty_NoLine:W.typeIn K (.ref d_NoLine)=some (.type "type"))
  (cl_NoLine:W.clsIn K d_NoLine=some cd_NoLine)
  (lJ:K.lookup d_JoinError=some ⟨jc0,jdd,.cls jcd,jsl⟩)
  (nJ:jcd.ns=jN)
  (lN:K.lookup jN=some ⟨jc1,jd1,.dict jes jn,jsl1⟩)
  (sJ:strKeysB jes=true)
  (iJ:nsFind jes "__init__" = none)
  (xJ:W.mroIn K d_JoinError (.type "BaseException")=some true)
  (o_NoTurns:K.lookup d_NoTurns=some (PySem.excClassObj nm_NoTurns qn_NoTurns d_NoTurns N_NoTurns bs_NoTurns (.ref d_JoinError::L2.veMro) hd_NoTurns sn_NoTurns sub_NoTurns ab_NoTurns col_NoTurns dd_NoTurns k0_NoTurns k1_NoTurns k2_NoTurns k3_NoTurns k5_NoTurns "ValueError.__new__"))
  (fiNoTurns:W.findIn K (.ref d_NoTurns) "__init__" = some (some (.ref fi_NoTurns)))
  (fnNoTurns:W.isFn K (.ref fi_NoTurns)=true)
  (kpNoTurns:W.keepIn K (.ref d_NoTurns)=true)
  (gaNoTurns:W.findIn K (.ref d_NoTurns) "__getattribute__" = some (some (.builtin "BaseException.__getattribute__")))
  (ghNoTurns:W.findIn K (.ref d_NoTurns) "__getattr__" = some none)
  (saNoTurns:W.findIn K (.ref d_NoTurns) "__setattr__" = some (some (.builtin "object.__setattr__")))
  (hdNoTurns:W.hasDictIn K d_NoTurns=true)
  (bxNoTurns:W.mroIn K d_NoTurns (.type "BaseException")=some true)
  (obNoTurns:W.mroIn K d_NoTurns (.type "object")=some true)
  (hcNoTurns:W.findIn K (.ref d_NoTurns) "__class__" = some (some (.builtin "object.__class__")))
  (hgNoTurns:W.specialIn K (.builtin "object.__class__") "__get__" = some (some (.builtin "getset_descriptor.__get__")))
  (tkNoTurns:W.takesIn K (.builtin "object.__class__")=some true)
  (owNoTurns:W.mroIn K d_NoTurns (.ref d_NoTurns)=some true)
  (veNoTurns:W.mroIn K d_NoTurns (.type "ValueError")=some true)
  (upNoTurns:W.mroIn K d_NoTurns (.ref d_JoinError)=some true)
  (no_NoTurns_NoPaper:W.mroIn K d_NoTurns (.ref d_NoPaper)=some false)
  (no_NoTurns_NoWalk:W.mroIn K d_NoTurns (.ref d_NoWalk)=some false)
  (no_NoTurns_NoText:W.mroIn K d_NoTurns (.ref d_NoText)=some false)
  (no_NoTurns_NoTie:W.mroIn K d_NoTurns (.ref d_NoTie)=some false)
  (no_NoTurns_TooMany:W.mroIn K d_NoTurns (.ref d_TooMany)=some false)
  (no_NoTurns_NoLine:W.mroIn K d_NoTurns (.ref d_NoLine)=some false)
  (lINoTurns:K.lookup fi_NoTurns=some ⟨oc_NoTurns,od_NoTurns,.func (W.fnOf "__init__" "NoTurns.__init__" (defArgs (clsFn (top 5) 0)) (defBody (clsFn (top 5) 0)) (defScope (clsFn (top 5) 0)) .none kV_NoTurns dc_NoTurns pm_NoTurns an_NoTurns cD_NoTurns ct_NoTurns),sl_NoTurns⟩)
  (cINoTurns:W.codeIn K cD_NoTurns "NoTurns.__init__" = true)
  (kINoTurns:W.keepIn K (.ref fi_NoTurns)=true)
  (fd_NoTurns_place:W.findIn K (.ref d_NoTurns) "place" = some none) :
  ∃ fd:FuncData,(∀ (s:Shared) (v:Value),BindsTo s fd ⟨[v],[]⟩ [("_law_script",v)])/\∀ base:Heap,K.In base->base.Ns mainGlobals mg->FnOk l.prog w K mg base CX0 20 fa fd ["_law_script"] (spLaw K):=by
 have e:=hfa.symm.trans (W.mg_of X G a31)
 cases e
 have F31:=fun_mk (st:=top 31) l31 c31 k31
 obtain ⟨a10,a11,a13,a15,a16,a17,a19,a20,a21,a22,a23,a24,a25,a26,a27,a28,a29,a30,_⟩:=AF0
 refine ⟨W.fnOf "law" "law" (defArgs (top 31)) (defBody (top 31)) (defScope (top 31)) .none kV31 dc31 pm31 an31 cd31 ct31,fun s v=>.of_eq rfl,fun base _ _=>?_⟩
 have O_JoinError:=own_mk X G na_JoinError ty_JoinError cl_JoinError
 have O_NoPaper:=own_mk X G na_NoPaper ty_NoPaper cl_NoPaper
 have O_NoWalk:=own_mk X G na_NoWalk ty_NoWalk cl_NoWalk
 have O_NoText:=own_mk X G na_NoText ty_NoText cl_NoText
 have O_NoTurns:=own_mk X G na_NoTurns ty_NoTurns cl_NoTurns
 have O_NoTie:=own_mk X G na_NoTie ty_NoTie cl_NoTie
 have O_TooMany:=own_mk X G na_TooMany ty_TooMany cl_TooMany
 have O_NoLine:=own_mk X G na_NoLine ty_NoLine cl_NoLine
 subst nJ
 have jok:JOk K d_JoinError:=⟨_,_,_,_,_,_,_,_,_,lJ,lN,strKeys_of sJ,iJ⟩
 have X_NoTurns:ExcI K d_NoTurns d_JoinError:=⟨⟨⟨gaNoTurns,ghNoTurns,saNoTurns,hdNoTurns,bxNoTurns,obNoTurns⟩,hcNoTurns,hgNoTurns,tkNoTurns⟩,owNoTurns,veNoTurns,upNoTurns,xJ⟩
 have RF_NoTurns:RF K d_NoTurns d_JoinError fi_NoTurns:=⟨⟨_,_,_,_,_,_,_,_,_,_,_,_,_,_,_,o_NoTurns⟩,fiNoTurns,fnNoTurns,kpNoTurns,X_NoTurns⟩
 have FI_NoTurns:=fun_mk (st:=clsFn (top 5) 0) lINoTurns cINoTurns kINoTurns
 let cl:Str->Addr:=fun c=>(([("JoinError",d_JoinError),("NoPaper",d_NoPaper),("NoWalk",d_NoWalk),("NoText",d_NoText),("NoTurns",d_NoTurns),("NoTie",d_NoTie),("TooMany",d_TooMany),("NoLine",d_NoLine)]:List (Str × Addr)).lookup c).getD 0
 have e_JoinError:cl "JoinError" = d_JoinError:=rfl
 have e_NoPaper:cl "NoPaper" = d_NoPaper:=rfl
 have e_NoWalk:cl "NoWalk" = d_NoWalk:=rfl
 have e_NoText:cl "NoText" = d_NoText:=rfl
 have e_NoTurns:cl "NoTurns" = d_NoTurns:=rfl
 have e_NoTie:cl "NoTie" = d_NoTie:=rfl
 have e_TooMany:cl "TooMany" = d_TooMany:=rfl
 have e_NoLine:cl "NoLine" = d_NoLine:=rfl
 have xf:XF K mg (XC cl) EXC ALLC:=by
  refine ⟨fun c hc=>?_,fun c hc h hh=>?_,fun c hc h hh=>?_,fun c hc=>?_,fun c hc=>?_,fun c hc f hf=>?_⟩
  ·have hq:=hc
   simp only [ALLC,List.mem_cons,List.not_mem_nil,or_false] at hq
   rcases hq with rfl | rfl | rfl | rfl | rfl | rfl | rfl | rfl
   ·exact O_JoinError.nm
   ·exact O_NoPaper.nm
   ·exact O_NoWalk.nm
   ·exact O_NoText.nm
   ·exact O_NoTurns.nm
   ·exact O_NoTie.nm
   ·exact O_TooMany.nm
   ·exact O_NoLine.nm
  ·have hq:=hc
   simp only [EXC,List.mem_cons,List.not_mem_nil,or_false] at hq
   subst hq
   rcases hh with rfl | rfl
   ·exact X_NoTurns.exmS O_NoTurns bxNoTurns
   ·exact X_NoTurns.exm O_JoinError
  ·have hq:=hc
   simp only [EXC,List.mem_cons,List.not_mem_nil,or_false] at hq
   subst hq
   have hq:=hh
   simp only [ALLC,List.mem_cons,List.not_mem_nil,or_false] at hq
   rcases hq with rfl | rfl | rfl | rfl | rfl | rfl | rfl | rfl
   ·exact X_NoTurns.one O_JoinError X_NoTurns.up
   ·exact X_NoTurns.one O_NoPaper no_NoTurns_NoPaper
   ·exact X_NoTurns.one O_NoWalk no_NoTurns_NoWalk
   ·exact X_NoTurns.one O_NoText no_NoTurns_NoText
   ·exact X_NoTurns.one O_NoTurns X_NoTurns.own
   ·exact X_NoTurns.one O_NoTie no_NoTurns_NoTie
   ·exact X_NoTurns.one O_TooMany no_NoTurns_TooMany
   ·exact X_NoTurns.one O_NoLine no_NoTurns_NoLine
  ·have hq:=hc
   simp only [EXC,List.mem_cons,List.not_mem_nil,or_false] at hq
   subst hq
   exact X_NoTurns.isVal
  ·have hq:=hc
   simp only [EXC,List.mem_cons,List.not_mem_nil,or_false] at hq
   subst hq
   exact X_NoTurns.ci
  ·have hq:=hc
   simp only [EXC,List.mem_cons,List.not_mem_nil,or_false] at hq
   subst hq
   have hf2:f∈(["place"]:List Str):=hf
   have hq:=hf2
   simp only [List.mem_cons,List.not_mem_nil,or_false] at hq
   subst hq
   exact fd_NoTurns_place
 have R_NoTurns:RaiseOk l.prog w K mg base "NoTurns" (cl "NoTurns") (spX1 (cl "NoTurns") "place"):=x_NoTurns FI_NoTurns RF_NoTurns jok O_NoTurns.nm fd_NoTurns_place
 have B:BtA mg:=⟨W.mg_none_of X G z_ValueError,W.mg_none_of X G z_all,W.mg_none_of X G z_bool,W.mg_none_of X G z_enumerate,W.mg_none_of X G z_int,W.mg_none_of X G z_isinstance,W.mg_none_of X G z_len,W.mg_none_of X G z_list,W.mg_none_of X G z_max,W.mg_none_of X G z_min,W.mg_none_of X G z_range,W.mg_none_of X G z_repr,W.mg_none_of X G z_set,W.mg_none_of X G z_sorted,W.mg_none_of X G z_tuple⟩
 obtain ⟨_,_,F19,m19⟩:=(a19.m X G).ex
 have D_law_feed:DefOk l.prog w K mg base 1 "_law_feed" ["_law_script"] (spFeedY famY K):=d_feed F19 m19 B
 obtain ⟨_,_,F20,m20⟩:=(a20.m X G).ex
 have D_law_draw:O_law_draw l.prog w K mg base famY:=(d_draw F20 m20 B).draw.up (by decide)
 have D_law_odd:O_law_odd l.prog w K mg base famY:=d_law_odd (a24.m X G) B D_law_draw
 have D_law_bent:O_law_bent l.prog w K mg base famY:=d_law_bent (a25.m X G) B D_law_draw D_law_odd
 have D_law_due:O_law_due l.prog w K mg base cl:=d_law_due (a27.m X G) B
 have D_law_price:O_law_price l.prog w K mg base famY:=d_law_price (a22.m X G) B D_law_draw
 have D_law_refusal:O_law_refusal l.prog w K mg base cl:=d_law_refusal (a26.m X G) B xf
 have D_ties_at:O_ties_at l.prog w K mg base cl:=d_ties_at (a13.m X G) B
 have D_is_whole:O_is_whole l.prog w K mg base cl:=d_is_whole (a10.m X G) B
 have D_is_turn:O_is_turn l.prog w K mg base cl:=d_is_turn (a15.m X G) B D_ties_at D_is_whole
 have D_is_tuple_of:O_is_tuple_of l.prog w K mg base cl:=d_is_tuple_of (a11.m X G) B
 have D_right_turns:O_right_turns l.prog w K mg base cl:=d_right_turns (a16.m X G) B D_is_turn D_is_tuple_of R_NoTurns
 have D_is_turns:O_is_turns l.prog w K mg base cl:=d_is_turns (a17.m X G) B D_right_turns xf
 have D_law_told:O_law_told l.prog w K mg base cl:=d_law_told (a28.m X G) B D_right_turns D_law_refusal xf
 have D_law_right:O_law_right l.prog w K mg base cl:=d_law_right (a30.m X G) B D_is_turns D_law_told D_law_due
 have D_law_shuffled:O_law_shuffled l.prog w K mg base famY:=d_law_shuffled (a21.m X G) B D_law_draw
 have D_law_two:O_law_two l.prog w K mg base famY:=d_law_two (a29.m X G) B D_law_bent D_law_draw
 have D_law_web:O_law_web l.prog w K mg base famY:=d_law_web (a23.m X G) B D_law_draw D_law_price
 exact d_law F31 B D_law_feed D_law_two D_law_right D_law_bent D_law_shuffled D_law_web law_pure
theorem walk {l:W.OpenLaw} {q:Program} {loose:List Str} {XP:(Str->Option Value)->Heap->Prop} {YP:World->Heap->Prop} {d:DefRec} {K:Params->W.Frag} (hn:l.most=some 63) (hdf:d.params.defaults=[])
  (hY:∀ (w:World) (h:Heap),YP w h->(K w.params).In h)
  (F:∀ (w:World) (mg:Str->Option Value) (fa:Addr) (h:Heap),(K w.params).In h->h.Ns mainGlobals mg->mg d.name=some (.ref fa) ->
   ∃ fd:FuncData,(∀ (s:Shared) (u:Value),BindsTo s fd ⟨[u],[]⟩ [("_law_script",u)])/\∀ base:Heap,(K w.params).In base->base.Ns mainGlobals mg->FnOk l.prog w (K w.params) mg base CX0 20 fa fd ["_law_script"] (spLaw (K w.params))) :
  W.WalkO q loose XP YP l.row.toRowW d [] (fun f vs=>PySem.call f vs) :=
 L2.walk_of (n:=63) (k:=20) (x := "_law_script") (CX:=fun _=>CX0) (sp:=fun w=>spLaw (K w.params)) hn (by decide) hdf ⟨rfl,by decide,by decide,rfl⟩ hY F (fun _ _ a ns hl _ hS=>⟨a,ns,rfl,hS,hl,fun _=>rfl⟩) fun _ _ _ _ _ z=>z
end Odj
def PySem.W.Fast.tw11412917211440644316:Unit:=()
def PySem.W.Fast.tw13206730049376472519:Unit:=()
def PySem.W.Fast.tw10589477071473143644:Unit:=()
def PySem.W.Fast.tw11731209931499665131:Unit:=()
def PySem.W.Fast.tw13946175633016513118:Unit:=()
def PySem.W.Fast.tw11330196677787135378:Unit:=()
def PySem.W.Fast.tw17377039057502938032:Unit:=()
def PySem.W.Fast.tw17745505232142561339:Unit:=()
def PySem.W.Fast.tw7888154839963874389:Unit:=()
def PySem.W.Fast.tw728636006586830387:Unit:=()
def PySem.W.Fast.tw11290825419920221803:Unit:=()
def PySem.W.Fast.tw5581706344640009873:Unit:=()
def PySem.W.Fast.tw14269956245068700894:Unit:=()
def PySem.W.Fast.tw16601683020912824440:Unit:=()
def PySem.W.Fast.tw17616809289554488671:Unit:=()
def PySem.W.Fast.tw10660460713252073634:Unit:=()
def PySem.W.Fast.tw4421881954036466048:Unit:=()
def PySem.W.Fast.tw8143624151555800412:Unit:=()
def PySem.W.Fast.tw4528316939393126684:Unit:=()
def PySem.W.Fast.tw1307937797671382732:Unit:=()
def PySem.W.Fast.tw16302868515938397083:Unit:=()
def PySem.W.Fast.tw16870957453192123253:Unit:=()
def PySem.W.Fast.tw15241054629055176801:Unit:=()
def PySem.W.Fast.tw12123716790193033481:Unit:=()
def PySem.W.Fast.tw1413271481567850436:Unit:=()
def PySem.W.Fast.tw9736628989698464159:Unit:=()
def PySem.W.Fast.tw6425507236706919671:Unit:=()
def PySem.W.Fast.tw5218399240369400714:Unit:=()
def PySem.W.Fast.tw3587101702616842251:Unit:=()
def PySem.W.Fast.tw7622271269730575908:Unit:=()
def PySem.W.Fast.tw17902120202208914840:Unit:=()
def PySem.W.Fast.tw14437690586165096514:Unit:=()
def PySem.W.Fast.tw6172049518043651547:Unit:=()
def PySem.W.Fast.tw13991235206336586199:Unit:=()
def PySem.W.Fast.tw11972381894287259569:Unit:=()
def PySem.W.Fast.tw8183657841366716713:Unit:=()
def PySem.W.Fast.tw12142875617162874985:Unit:=()
def PySem.W.Fast.tw16934915170644732832:Unit:=()
def PySem.W.Fast.tw11423458056913455074:Unit:=()
def PySem.W.Fast.tw941308154514855546:Unit:=()
def PySem.W.Fast.tw11661747314499485888:Unit:=()
def PySem.W.Fast.tw2341806717788369793:Unit:=()
def PySem.W.Fast.tw12920019152514177283:Unit:=()
def PySem.W.Fast.tw846607067183946074:Unit:=()
def PySem.W.Fast.tw3115424161737112012:Unit:=()
def PySem.W.Fast.tw8812839121272051725:Unit:=()
def PySem.W.Fast.tw5251860581148936066:Unit:=()
def PySem.W.Fast.tw11509423644184648187:Unit:=()
def PySem.W.Fast.tw16493451876369946250:Unit:=()
def PySem.W.Fast.tw11552787643695824768:Unit:=()
def PySem.W.Fast.tw6537443772388280273:Unit:=()
def PySem.W.Fast.tw14783174606744321548:Unit:=()
def PySem.W.Fast.tw18355408486193022828:Unit:=()
def PySem.W.Fast.tw12547228043368217416:Unit:=()
def PySem.W.Fast.tw2200095424591375853:Unit:=()
def PySem.W.Fast.tw13594109779288811830:Unit:=()
def PySem.W.Fast.tw7363230058693197768:Unit:=()
def PySem.W.Fast.tw136799492341778868:Unit:=()
def PySem.W.Fast.tw3781027550245115395:Unit:=()
def PySem.W.Fast.tw4939288081025222569:Unit:=()
def PySem.W.Fast.tw12349319788058696519:Unit:=()
def PySem.W.Fast.tw3716253330198628131:Unit:=()
def PySem.W.Fast.tw18421684170879067495:Unit:=()
def PySem.W.Fast.tw9008930177560397108:Unit:=()
def PySem.W.Fast.tw8904110934049551355:Unit:=()
def PySem.W.Fast.tw17887680573722233980:Unit:=()
def PySem.W.Fast.tw1889612110200736151:Unit:=()
def PySem.W.Fast.tw2638543477138717590:Unit:=()
def PySem.W.Fast.tw18091806814808135091:Unit:=()
def PySem.W.Fast.tw13085570435139571923:Unit:=()
def PySem.W.Fast.tw14630537254312686936:Unit:=()
def PySem.W.Fast.tw14579635936375678599:Unit:=()
def PySem.W.Fast.tw3589606124445972411:Unit:=()
def PySem.W.Fast.tw10421993605978579072:Unit:=()
def PySem.W.Fast.tw16467756747513690934:Unit:=()
def PySem.W.Fast.tw16824298179652337985:Unit:=()
def PySem.W.Fast.tw11988215202585468737:Unit:=()
def PySem.W.Fast.tw1550670622077922637:Unit:=()
def PySem.W.Fast.tw6486281451275532240:Unit:=()
def PySem.W.Fast.tw12950973700583117112:Unit:=()
def PySem.W.Fast.tw15275419210437632463:Unit:=()
def PySem.W.Fast.tw9986475511838659222:Unit:=()
def PySem.W.Fast.tw2291862561044070305:Unit:=()
def PySem.W.Fast.tw6719674175024054111:Unit:=()
def PySem.W.Fast.tw16543190261761614963:Unit:=()
def PySem.W.Fast.tw3403144643727680851:Unit:=()
def PySem.W.Fast.tw799239085242607911:Unit:=()
def PySem.W.Fast.tw16529180824468622546:Unit:=()
def PySem.W.Fast.tw13306543857728296346:Unit:=()
def PySem.W.Fast.tw14503189634919736215:Unit:=()
def PySem.W.Fast.tw844623649183792938:Unit:=()
def PySem.W.Fast.tw12036619412356920995:Unit:=()
def PySem.W.Fast.tw13962682639876798123:Unit:=()
def PySem.W.Fast.tw7311925411758978374:Unit:=()
def PySem.W.Fast.tw8624271546902888313:Unit:=()
def PySem.W.Fast.tw14713822057390257452:Unit:=()
def PySem.W.Fast.tw3121595024446718772:Unit:=()
def PySem.W.Fast.tw12812009726027378038:Unit:=()
def PySem.W.Fast.tw7705705647372266018:Unit:=()
def PySem.W.Fast.tw9197078629389360051:Unit:=()
def PySem.W.Fast.tw9076176860928030600:Unit:=()
def PySem.W.Fast.tw4191512648767465228:Unit:=()
def PySem.W.Fast.tw13752322306910461340:Unit:=()
def PySem.W.Fast.tw12749795790008512005:Unit:=()
def PySem.W.Fast.tw9561573429833818503:Unit:=()
def PySem.W.Fast.tw6301150830609000442:Unit:=()
def PySem.W.Fast.tw6724274984345795938:Unit:=()
def PySem.W.Fast.tw17868909375486351895:Unit:=()
def PySem.W.Fast.tw12716875450069198106:Unit:=()
def PySem.W.Fast.tw12913392448029796146:Unit:=()
def PySem.W.Fast.tw18180340298452346461:Unit:=()
def PySem.W.Fast.tw3990181460215306069:Unit:=()
def PySem.W.Fast.tw15827043176340779157:Unit:=()
def PySem.W.Fast.tw9867259529738789608:Unit:=()
def PySem.W.Fast.tw9571531847411033195:Unit:=()
def PySem.W.Fast.tw12830400406008624847:Unit:=()
def PySem.W.Fast.tw80168208159075630:Unit:=()
def PySem.W.Fast.tw30795020122508096:Unit:=()
def PySem.W.Fast.tw4214705113684136377:Unit:=()
open PySem PySem.W PyProof.Rows
set_option maxRecDepth 100000 in
set_option maxHeartbeats 0 in
theorem PySem.Challenge.cw_oddjoins_k73_turns_of_any_thing_holds : PySem.Challenge.rw_oddjoins_k73_turns_of_any_thing.Holds := by
 w_on; o_law; k_head; (case hw=>w_witness2)
 k_fill
 refine Odj.walk (l:=PySem.Challenge.rw_oddjoins_k73_turns_of_any_thing) rfl rfl (fun w h Y=>W.kIn_of Y) ?F
 case F =>
  intro w mg fa h KX G hmg
  refine' Odj.all_mk KX G hmg ?a31 ?l31 ?c31 ?k31 ?AF0 ?z_ValueError ?z_all ?z_bool ?z_enumerate ?z_int ?z_isinstance ?z_len ?z_list ?z_max ?z_min ?z_range ?z_repr ?z_set ?z_sorted ?z_tuple ?na_JoinError ?ty_JoinError ?cl_JoinError ?na_NoPaper ?ty_NoPaper ?cl_NoPaper ?na_NoWalk ?ty_NoWalk ?cl_NoWalk ?na_NoText ?ty_NoText ?cl_NoText ?na_NoTurns ?ty_NoTurns ?cl_NoTurns ?na_NoTie ?ty_NoTie ?cl_NoTie ?na_TooMany ?ty_TooMany ?cl_TooMany ?na_NoLine ?ty_NoLine ?cl_NoLine ?lJ ?nJ ?lN ?sJ ?iJ ?xJ ?o_NoTurns ?fiNoTurns ?fnNoTurns ?kpNoTurns ?gaNoTurns ?ghNoTurns ?saNoTurns ?hdNoTurns ?bxNoTurns ?obNoTurns ?hcNoTurns ?hgNoTurns ?tkNoTurns ?owNoTurns ?veNoTurns ?upNoTurns ?no_NoTurns_NoPaper ?no_NoTurns_NoWalk ?no_NoTurns_NoText ?no_NoTurns_NoTie ?no_NoTurns_TooMany ?no_NoTurns_NoLine ?lINoTurns ?cINoTurns ?kINoTurns ?fd_NoTurns_place
  (case a31=>k_is); (case l31=>k_is); (case c31=>k_is); (case k31=>k_is)
  (case AF0=>repeat' first | exact L2.allF_nil | (refine L2.allF_c ?_ ?_) | (apply L2.FOk.of <;> k_is)); (case z_ValueError=>k_is); (case z_all=>k_is); (case z_bool=>k_is)
  (case z_enumerate=>k_is); (case z_int=>k_is); (case z_isinstance=>k_is); (case z_len=>k_is)
  (case z_list=>k_is); (case z_max=>k_is); (case z_min=>k_is); (case z_range=>k_is)
  (case z_repr=>k_is); (case z_set=>k_is); (case z_sorted=>k_is); (case z_tuple=>k_is)
  (case na_JoinError=>k_is); (case ty_JoinError=>k_is); (case cl_JoinError=>k_is); (case na_NoPaper=>k_is)
  (case ty_NoPaper=>k_is); (case cl_NoPaper=>k_is); (case na_NoWalk=>k_is); (case ty_NoWalk=>k_is)
  (case cl_NoWalk=>k_is); (case na_NoText=>k_is); (case ty_NoText=>k_is); (case cl_NoText=>k_is)
  (case na_NoTurns=>k_is); (case ty_NoTurns=>k_is); (case cl_NoTurns=>k_is); (case na_NoTie=>k_is)
  (case ty_NoTie=>k_is); (case cl_NoTie=>k_is); (case na_TooMany=>k_is); (case ty_TooMany=>k_is)
  (case cl_TooMany=>k_is); (case na_NoLine=>k_is); (case ty_NoLine=>k_is); (case cl_NoLine=>k_is)
  (case lJ=>k_is); (case nJ=>rfl); (case lN=>k_is); (case sJ=>rfl)
  (case iJ=>rfl); (case xJ=>k_is); (case o_NoTurns=>k_is); (case fiNoTurns=>k_is)
  (case fnNoTurns=>k_is); (case kpNoTurns=>k_is); (case gaNoTurns=>k_is); (case ghNoTurns=>k_is)
  (case saNoTurns=>k_is); (case hdNoTurns=>k_is); (case bxNoTurns=>k_is); (case obNoTurns=>k_is)
  (case hcNoTurns=>k_is); (case hgNoTurns=>k_is); (case tkNoTurns=>k_is); (case owNoTurns=>k_is)
  (case veNoTurns=>k_is); (case upNoTurns=>k_is); (case no_NoTurns_NoPaper=>k_is); (case no_NoTurns_NoWalk=>k_is)
  (case no_NoTurns_NoText=>k_is); (case no_NoTurns_NoTie=>k_is); (case no_NoTurns_TooMany=>k_is); (case no_NoTurns_NoLine=>k_is)
  (case lINoTurns=>k_is); (case cINoTurns=>k_is); (case kINoTurns=>k_is); (case fd_NoTurns_place=>k_is)
