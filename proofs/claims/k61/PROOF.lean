import PyProof.Rows.All
import Wide.All
import OpenK.AllK
import Wide.FinOn
import Lean
import PyProof.EqAt
import PyProof.EqKinds
import PyProof.TupleCall
import PyProof.NeKinds
import KE.IntBitsLaws
import PyProof.ZipIter
import PyProof.StrCalls2
import PyProof.Rows.Range3
import PyProof.ListRange
import PyProof.LongRange
import KE.LcSums
import PyProof.Rows.SortRuns
import PySem.SetTable
import PyProof.SetKind
import PyProof.DictKinds
import PyProof.IsRules
import PyProof.DictKeyH
import PyProof.DictRoadsH
import PyProof.DictIter
import PyProof.CollectWalk
import PyProof.FactsAll.set_1
import PyProof.FactsAll.set_2
import PyProof.FactsAll.set_0
import PyProof.Walks
import PyProof.Rows.SortShellK
import PyProof.Rows.SortStr
import PyProof.Rows.SetFrom
import PyProof.DictWalks
import PyProof.FactsAll.dict_1
import PyProof.FactsAll.dict_2
import PyProof.FactsAll.dict_3
import PySem.Challenge.RW_nearerwork_k61_pairs_joined
set_option Elab.async false
set_option linter.all false
set_option maxRecDepth 100000
set_option maxHeartbeats 4000000
noncomputable section
namespace L2
open PySem PySem.Spec PyProof.Rows
abbrev Key:=Sum Int Str
def eQ:Key→Value→Bool
 | .inl k,v=>Value.isInt k v
 | .inr x,v=>Value.isStrOf x v
def or (w:World):Key→Int
 | .inl k=>hashInt k
 | .inr x=>hashStr w x
theorem ax : ∀ {k:Key} {v:Value},eQ k v=true→(∃ i t,k=Sum.inl i∧v=Value.int i t)∨(∃ x t,k=Sum.inr x∧v=Value.str x t)
 | .inl i,v,h=>by
  obtain ⟨t,e⟩:=Value.isInt_shape (k:=i) (v:=v) h
  exact .inl ⟨i,t,rfl,e⟩
 | .inr x,v,h=>by
  obtain ⟨t,e⟩:=Value.isStrOf_shape (x:=x) (v:=v) h
  exact .inr ⟨x,t,rfl,e⟩
theorem jm (i:Int) (t:Tok):eQ (.inl i) (.int i t)=true:=by simp [eQ,Value.isInt]
theorem jl (x:Str) (t:Tok):eQ (.inr x) (.str x t)=true:=by simp [eQ,Value.isStrOf]
theorem mr (a b:Int):decide ((Sum.inl a:Key)=Sum.inl b)=(a == b):=by
 by_cases e:a=b
 ·subst e; simp
 ·have h : ¬ (Sum.inl a:Key)=Sum.inl b:=fun q=>e (Sum.inl.inj q)
  rw [decide_eq_false h]
  exact (beq_eq_false_iff_ne.mpr e).symm
theorem mm (a b:Str):decide ((Sum.inr a:Key)=Sum.inr b)=decide (a=b):=by
 by_cases e:a=b
 ·subst e; simp
 ·have h : ¬ (Sum.inr a:Key)=Sum.inr b:=fun q=>e (Sum.inr.inj q)
  rw [decide_eq_false h,decide_eq_false e]
theorem mq (a:Int) (b:Str):decide ((Sum.inl a:Key)=Sum.inr b)=false:=decide_eq_false (fun q=>nomatch q)
theorem mn (a:Str) (b:Int):decide ((Sum.inr a:Key)=Sum.inl b)=false:=decide_eq_false (fun q=>nomatch q)
def a7 (prog:Program) (w:World):PySem.KeyKind prog w Key where
 is:=eQ
 hash:=or w
 inj:=fun v a b ha hb=>by
  rcases ax ha with ⟨i,t,rfl,rfl⟩ | ⟨x,t,rfl,rfl⟩
  ·rcases ax hb with ⟨j,u,rfl,e⟩ | ⟨y,u,rfl,e⟩
   ·injection e with e1 _; rw [e1]
   ·exact nomatch e
  ·rcases ax hb with ⟨j,u,rfl,e⟩ | ⟨y,u,rfl,e⟩
   ·exact nomatch e
   ·injection e with e1 _; rw [e1]
 byValue:=fun k v h=>by
  rcases ax h with ⟨i,t,rfl,rfl⟩ | ⟨x,t,rfl,rfl⟩ <;> rfl
 pyHash:=fun hv h=>by
  rcases ax hv with ⟨i,t,rfl,rfl⟩ | ⟨x,t,rfl,rfl⟩
  ·exact wpAny_pyHash_int h
  ·exact wpAny_pyHash_str h
 eqBool:=fun hu hv h=>by
  rcases ax hu with ⟨i,t,rfl,rfl⟩ | ⟨x,t,rfl,rfl⟩
  ·rcases ax hv with ⟨j,u,rfl,rfl⟩ | ⟨y,u,rfl,rfl⟩
   ·rw [mr] at h; exact wpAny_eqBool_int h
   ·rw [mq] at h; exact SeqAt.EqAt.int_str i t y u _ _ _ _ h
  ·rcases ax hv with ⟨j,u,rfl,rfl⟩ | ⟨y,u,rfl,rfl⟩
   ·rw [mn] at h; exact SeqAt.EqAt.str_int x t j u _ _ _ _ h
   ·rw [mm] at h; exact wpAny_eqBool_str h
 «strs»:=fun k x t v h=>by
  rcases ax h with ⟨i,u,rfl,e⟩ | ⟨y,u,rfl,e⟩
  ·exact nomatch e
  ·injection e with e1 _
   subst e1
   cases v <;> rfl
theorem gh (prog:Program) (w:World) (i:Int) (t:Tok):(a7 prog w).is (.inl i) (.int i t)=true:=jm i t
theorem gf (prog:Program) (w:World) (x:Str) (t:Tok):(a7 prog w).is (.inr x) (.str x t)=true:=jl x t
end L2
namespace L2
open PySem PySem.Spec PyProof.Rows
inductive V where
 | non | bl (b:Bool) | int (i:Int) | str (x:Str) | byt (b:Array UInt8) | flt (b:UInt64) | ref (a:Addr) | ty (n:String)
 deriving DecidableEq
def RelV:V→Value→Prop
 | .non,u=>u=Value.none
 | .bl b,u=>u=Value.bool b
 | .int i,u => ∃ t,u=Value.int i t
 | .str x,u => ∃ t,u=Value.str x t
 | .byt b,u => ∃ t,u=Value.bytes b t
 | .flt b,u => ∃ t,u=Value.float b t
 | .ref a,u=>u=Value.ref a
 | .ty n,u=>u=Value.type n
abbrev Vals:List V→List Value→Prop:=Paired RelV
theorem Vals.length {xs:List V} {us:List Value} (r:Vals xs us):xs.length=us.length:=Paired.length r
theorem Vals.get : ∀ {xs:List V} {us:List Value} {i:Nat} {x:V},Vals xs us→xs[i]?=some x → ∃ u,us[i]?=some u∧RelV x u
 | _,_,_,_,.nil,e=>by simp at e
 | _,_,0,_,.cons r _,e=>by simp at e; subst e; exact ⟨_,rfl,r⟩
 | _,_,i+1,x,.cons _ t,e=>by
  obtain ⟨u,h1,h2⟩:=Vals.get (i:=i) (x:=x) t (by simpa using e)
  exact ⟨u,by simpa using h1,h2⟩
theorem Vals.set {x:V} {u:Value} (r:RelV x u) : ∀ {xs:List V} {us:List Value} (i:Nat),Vals xs us→Vals (xs.set i x) (us.set i u)
 | _,_,_,.nil => .nil
 | _,_,0,.cons _ t => .cons r t
 | _,_,i+1,.cons q t => .cons q (Vals.set r i t)
theorem Vals.append : ∀ {xs ys:List V} {us ws:List Value},Vals xs us→Vals ys ws→Vals (xs++ys) (us++ws)
 | _,_,_,_,.nil,s=>s
 | _,_,_,_,.cons r t,s => .cons r (Vals.append t s)
theorem Vals.take : ∀ {xs:List V} {us:List Value} (n:Nat),Vals xs us→Vals (xs.take n) (us.take n)
 | _,_,0,_ => .nil
 | _,_,_+1,.nil => .nil
 | _,_,n+1,.cons r t => .cons r (Vals.take n t)
theorem Vals.drop : ∀ {xs:List V} {us:List Value} (n:Nat),Vals xs us→Vals (xs.drop n) (us.drop n)
 | _,_,0,r=>r
 | _,_,_+1,.nil => .nil
 | _,_,n+1,.cons _ t=>Vals.drop n t
def mJ:Option V→Option Value→Prop
 | some v,some u=>RelV v u
 | none,none=>True
 | _,_=>False
def KV {κ:Type}:List (κ×V)→List (κ×Value)→Prop:=Paired fun (p:κ×V) (q:κ×Value)=>p.1=q.1∧RelV p.2 q.2
def kV:Key→V
 | .inl i => .int i
 | .inr x => .str x
inductive HO where
 | lst (xs:List V)
 | tup (xs:List V)
 | dK (kvs:List (Key×V)) | dT (kvs:List (List Key×V))
 | set (S:Int→Bool) (n:Nat)
 | ins (C dx:Addr) (fs:List (Str×V))
 | own (x:Addr)
 | xd (fs:List (Str×V))
 | met (f x:Addr)
 | rng (lo hi:Int)
 | frz (o:Obj) (u:HO)
 | tbl (ps:Array Value)
 | ext (φ:Heap→Prop)
abbrev Hp:=Addr→Option HO
def upd (H:Hp) (a:Addr) (o:HO):Hp:=fun b=>if b=a then some o else H b
theorem ac {H:Hp} {a:Addr} {o:HO}:upd H a o a=some o:=by unfold upd; rw [if_pos rfl]
theorem ae {H:Hp} {a b:Addr} {o:HO} (h:b≠a):upd H a o b=H b:=by unfold upd; rw [if_neg h]
theorem iB {H:Hp} {a:Addr} {o u:HO}:upd (upd H a o) a u=upd H a u:=by
 funext b; unfold upd; split <;> rfl
theorem al {H:Hp} {a b:Addr} {o:HO} (h:H a=some o) (h':H b=none):a≠b:=by
 intro e; subst e; rw [h] at h'; cases h'
section
variable (P:Program) (w:World)
def ObjOk (H:Hp) (h:Heap) (a:Addr):HO→Prop
 | .lst xs=>xs.length≤sizeLine ∧ ∃ (its:List Value) (n:Nat),Vals xs its∧h.get? a=some { cls := .type "list",data := .seq its.toArray n }
 | .tup xs=>xs.length≤sizeLine ∧ ∃ its:List Value,Vals xs its∧IsTup h a its.toArray
 | .dK kvs=>kvs.length≤sizeLine∧(a == sysModules)=false ∧ ∃ vs,KV kvs vs∧h.DictOf (a7 P w) a vs
 | .dT kvs=>kvs.length≤sizeLine∧(a == sysModules)=false ∧ ∃ xs:List (List Key×Addr×Value),
   Paired (fun (p:List Key×V) (q:List Key×Addr×Value)=>p.1=q.1∧H q.2.1=some (.tup (p.1.map kV))∧RelV p.2 q.2.2) kvs xs ∧
   ∃ o es ep,h.get? a=some o∧o.ExactDict∧o.data = .dict es ep∧es.toList=xs.map (entryOfKey (tupleKind (a7 P w)))∧(xs.map (·.1)).Nodup
 | .set S n=>h.SetOf (intKind P w) a S n
 | .ins C dx fs=>H dx=some (.own a)∧fs.length≤1000∧dx≠a∧h.get? a=some (PySem.W.instObj C dx) ∧
   ∃ mA,h.Ns1 dx mA∧(∀ f,mJ (fs.lookup f) (mA f))∧PySem.Within mA (fs.map (·.1))
 | .own _ => ∃ o,h.get? a=some o
 | .xd fs => ∃ mA,h.Ns1 a mA ∧ ∀ f,mJ (fs.lookup f) (mA f)
 | .rng lo hi => ∃ t u v,h.get? a=some { cls := .type "range",data := .fields #[.int lo t,.int hi u,.int 1 v] }
 | .frz o u=>h.get? a=some o∧ObjOk H h a u
 | .tbl ps=>h.get? a=some { cls := .none,data := .fields ps }
 | .met f x=>h.get? a=some (PySem.W.methodObj (.ref f) (.ref x))
 | .ext φ=>φ h∧(∃ o,h.get? a=some o) ∧ ∀ h1 h2:Heap,φ h1→(∀ o,h1.get? a=some o→h2.get? a=some o)→φ h2
def HOk (H:Hp) (h:Heap):Prop := ∀ a o,H a=some o→ObjOk P w H h a o
end
section
variable {P:Program} {w:World} {H H':Hp} {h h':Heap} {a:Addr} {o:HO}
theorem ObjOk.lt (x:ObjOk P w H h a o):a < h.objs.size:=by
 cases o with
 | lst xs=>obtain ⟨_,_,_,_,e⟩:=x; exact Heap.lt_size e
 | tup xs=>obtain ⟨_,_,_,p⟩:=x; exact p.lt
 | dK kvs=>obtain ⟨_,_,_,_,o,_,_,e,_⟩:=x; exact Heap.lt_size e
 | dT kvs=>obtain ⟨_,_,_,_,o,_,_,e,_⟩:=x; exact Heap.lt_size e
 | set S n=>obtain ⟨o,_,_,_,e,_⟩:=x; exact Heap.lt_size e
 | ins C dx fs=>obtain ⟨_,_,_,e,_⟩:=x; exact Heap.lt_size e
 | own y=>obtain ⟨_,e⟩:=x; exact Heap.lt_size e
 | xd fs=>obtain ⟨_,⟨_,_,_,e,_⟩,_⟩:=x; exact Heap.lt_size e
 | rng lo hi=>obtain ⟨_,_,_,e⟩:=x; exact Heap.lt_size e
 | frz ob u=>obtain ⟨e,_⟩:=x; exact Heap.lt_size e
 | tbl ps=>exact Heap.lt_size (show h.get? a=some _ from x)
 | met f y=>exact Heap.lt_size (show h.get? a=some _ from x)
 | ext φ=>obtain ⟨_,⟨_,e⟩,_⟩:=x; exact Heap.lt_size e
theorem Paired.mapP {α β:Type} {F G:α→β→Prop} : ∀ {l₁:List α} {l₂:List β},Paired F l₁ l₂→(∀ a b,F a b→G a b)→Paired G l₁ l₂
 | _,_,.nil,_ => .nil
 | _,_,.cons r t,f => .cons (f _ _ r) (Paired.mapP t f)
theorem ObjOk.stay (x:ObjOk P w H h a o) (k : ∀ b u,(b=a∨H b=some (.own a))→h.get? b=some u→h'.get? b=some u)
  (ho : ∀ b,H b=some (.own a)→H' b=some (.own a)) (ht : ∀ b xs,H b=some (.tup xs)→H' b=some (.tup xs)):ObjOk P w H' h' a o:=by
 induction o with
 | lst xs=>obtain ⟨z,its,n,r,e⟩:=x; exact ⟨z,its,n,r,k _ _ (.inl rfl) e⟩
 | tup xs=>obtain ⟨z,its,r,ob,e,c⟩:=x; exact ⟨z,its,r,ob,k _ _ (.inl rfl) e,c⟩
 | dK kvs=>obtain ⟨z,y,vs,r,ob,es,ep,e,c⟩:=x; exact ⟨z,y,vs,r,ob,es,ep,k _ _ (.inl rfl) e,c⟩
 | dT kvs =>
  obtain ⟨z,y,xs,r,ob,es,ep,e,c⟩:=x
  exact ⟨z,y,xs,Paired.mapP r fun p q z=>⟨z.1,ht _ _ z.2.1,z.2.2⟩,ob,es,ep,k _ _ (.inl rfl) e,c⟩
 | set S n=>obtain ⟨ob,es,ep,t,e,c⟩:=x; exact ⟨ob,es,ep,t,k _ _ (.inl rfl) e,c⟩
 | ins C dx fs =>
  obtain ⟨d,z,ne,e,mA,⟨od,es,ep,e2,c⟩,r⟩:=x
  exact ⟨ho _ d,z,ne,k _ _ (.inl rfl) e,mA,⟨od,es,ep,k _ _ (.inr d) e2,c⟩,r⟩
 | own y=>obtain ⟨ob,e⟩:=x; exact ⟨ob,k _ _ (.inl rfl) e⟩
 | xd fs=>obtain ⟨mA,⟨od,es,ep,e,c⟩,r⟩:=x; exact ⟨mA,⟨od,es,ep,k _ _ (.inl rfl) e,c⟩,r⟩
 | rng lo hi=>obtain ⟨t,u,v,e⟩:=x; exact ⟨t,u,v,k _ _ (.inl rfl) e⟩
 | frz ob u ih=>obtain ⟨e,q⟩:=x; exact ⟨k _ _ (.inl rfl) e,ih q⟩
 | tbl ps =>
  have e:h.get? a=some { cls := .none,data := .fields ps }:=x
  show h'.get? a=some { cls := .none,data := .fields ps }
  exact k a _ (.inl rfl) e
 | met f y =>
  have e:h.get? a=some (PySem.W.methodObj (.ref f) (.ref y)):=x
  show h'.get? a=some (PySem.W.methodObj (.ref f) (.ref y))
  exact k a _ (.inl rfl) e
 | ext φ=>obtain ⟨p,⟨o,e⟩,st⟩:=x; exact ⟨st _ _ p fun o q=>k _ _ (.inl rfl) q,⟨o,k _ _ (.inl rfl) e⟩,st⟩
theorem HOk.lt (x:HOk P w H h) (e:H a=some o):a < h.objs.size:=(x a o e).lt
theorem HOk.fresh (x:HOk P w H h) (e:h.objs.size≤a):H a=none:=by
 cases q:H a with
 | none=>rfl
 | some u=>exact absurd (Nat.lt_of_lt_of_le (x.lt q) e) (Nat.lt_irrefl _)
theorem HOk.kept (x:HOk P w H h) (k : ∀ b u,h.get? b=some u→h'.get? b=some u):HOk P w H h':=fun a o e =>
 (x a o e).stay (fun b u _ q=>k b u q) (fun _ q=>q) fun _ _ q=>q
theorem HOk.laid (x:HOk P w H h) (k : ∀ b u,h.get? b=some u→h'.get? b=some u) (hp:h.objs.size≤a) (new:ObjOk P w (upd H a o) h' a o):HOk P w (upd H a o) h':=fun b u e=>by
 have hn:=x.fresh hp
 by_cases hb:b=a
 ·subst hb; rw [ac] at e; cases e; exact new
 ·rw [ae hb] at e
  exact (x b u e).stay (fun c v _ q=>k c v q) (fun c q=>by rw [ae (al q hn)]; exact q) fun c xs q=>by rw [ae (al q hn)]; exact q
end
def Rd (H:Hp) (a:Addr) (u:HO):Prop:=H a=some u ∨ ∃ o,H a=some (.frz o u)
theorem Rd.ok {P:Program} {w:World} {H:Hp} {h:Heap} {a:Addr} {u:HO} (r:Rd H a u) (x:HOk P w H h):ObjOk P w H h a u:=by
 rcases r with r | ⟨o,r⟩
 ·exact x a u r
 ·obtain ⟨_,q⟩:=x a _ r
  exact q
def Mut:Option HO→Prop
 | some (.lst _)=>True
 | some (.dK _)=>True
 | some (.dT _)=>True
 | some (.set _ _)=>True
 | some (.ins _ _ _)=>True
 | some (.ext _)=>True
 | _=>False
section
variable {P:Program} {w:World} {H:Hp} {h h':Heap} {x e:Addr} {o':HO}
theorem HOk.write (ok:HOk P w H h) (mu:Mut (H x)) (he:e=x∨H e=some (.own x)) (k : ∀ b u,b≠e→h.get? b=some u→h'.get? b=some u) (heo : ∃ u,h'.get? e=some u)
  (new:ObjOk P w (upd H x o') h' x o'):HOk P w (upd H x o') h':=fun b u q=>by
 have nown : ∀ c y,H c=some (.own y)→c≠x:=fun c y r z=>by subst z; rw [r] at mu; exact mu
 have ntup : ∀ c xs,H c=some (.tup xs)→c≠x:=fun c xs r z=>by subst z; rw [r] at mu; exact mu
 by_cases hb:b=x
 ·subst hb; rw [ac] at q; cases q; exact new
 ·rw [ae hb] at q
  by_cases hbe:b=e
  ·have q':H b=some (.own x):=by
    rcases he with z | z
    ·exact absurd (hbe.trans z) hb
    ·rw [hbe]; exact z
   rw [q] at q'; cases q'
   obtain ⟨v,hv⟩:=heo
   exact ⟨v,by rw [hbe]; exact hv⟩
  ·refine (ok b u q).stay (fun c v hc r=>k c v ?_ r) (fun c r=>by rw [ae (nown c b r)]; exact r) fun c xs r=>by rw [ae (ntup c xs r)]; exact r
   rcases hc with rfl | hc
   ·exact hbe
   ·rintro rfl
    rcases he with z | z
    ·exact nown c b hc z
    ·rw [hc] at z; cases z; exact hb rfl
end
structure Un (fs ex:List Addr) (H H':Hp) (h h':Heap):Prop where
 keep : ∀ b o,h.get? b=some o→H b=none→b∉fs→b∉ex→h'.get? b=some o
 slot : ∀ b o,h.get? b=some o→H b=none→b∈fs→b∉ex → ∃ sl,h'.get? b=some { o with slots:=sl }
 free : ∀ b o,h.get? b=some o→H b=none→b∉ex→H' b=none
 there : ∀ b o,h.get? b=some o→b∉ex → ∃ o',h'.get? b=some o'
 tups : ∀ b xs,H b=some (.tup xs)→H' b=some (.tup xs)
 frzs : ∀ b o u,H b=some (.frz o u)→H' b=some (.frz o u)
 tbls : ∀ b ps,H b=some (.tbl ps) → ∃ more,H' b=some (.tbl (ps++more))
section
variable {fs fs' ex ex':List Addr} {H H1 H2:Hp} {h h1 h2 h':Heap} {a x e:Addr} {o:HO}
theorem Un.any (u:Un fs ex H H1 h h1) {b:Addr} {ob:Obj} (q:h.get? b=some ob) (n:H b=none) (hx:b∉ex) : ∃ sl,h1.get? b=some { ob with slots:=sl }:=by
 by_cases hb:b∈fs
 ·exact u.slot b ob q n hb hx
 ·exact ⟨ob.slots,u.keep b ob q n hb hx⟩
theorem Un.kept (k : ∀ b u,h.get? b=some u→h'.get? b=some u):Un fs ex H H h h' :=
 ⟨fun b ob q _ _ _=>k b ob q,fun b ob q _ _ _=>⟨ob.slots,k b ob q⟩,fun _ _ _ n _=>n,fun b ob q _=>⟨ob,k b ob q⟩,fun _ _ q=>q,fun _ _ _ q=>q,fun _ ps q=>⟨#[],by rw [q]; simp⟩⟩
theorem Un.refl:Un fs ex H H h h:=Un.kept fun _ _ q=>q
theorem Un.laid (k : ∀ b u,h.get? b=some u→h'.get? b=some u) (hp:h.objs.size≤a) (hn:H a=none):Un fs ex H (upd H a o) h h' where
 keep:=fun b u q _ _ _=>k b u q
 slot:=fun b u q _ _ _=>⟨u.slots,k b u q⟩
 free:=fun b u q n _=>by rw [ae (Nat.ne_of_lt (Nat.lt_of_lt_of_le (Heap.lt_size q) hp))]; exact n
 there:=fun b u q _=>⟨u,k b u q⟩
 tups:=fun b xs q=>by rw [ae (al q hn)]; exact q
 frzs:=fun b u xs q=>by rw [ae (al q hn)]; exact q
 tbls:=fun b ps q=>⟨#[],by rw [ae (al q hn),q]; simp⟩
theorem Un.write (mu:Mut (H x)) (he:e=x∨H e=some (.own x)) (k : ∀ b u,b≠e→h.get? b=some u→h'.get? b=some u) (heo : ∃ u,h'.get? e=some u):Un fs ex H (upd H x o) h h':=by
 have hx : ∀ b,H b=none→b≠x:=fun b n z=>by subst z; rw [n] at mu; exact mu
 have hb : ∀ b,H b=none→b≠e:=fun b n z=>by
  subst z
  rcases he with r | r
  ·exact hx b n r
  ·rw [n] at r; cases r
 have hm : ∀ b u,H b=some u → ¬ Mut (some u)→b≠x:=fun b u q nm z=>by subst z; rw [q] at mu; exact nm mu
 refine ⟨fun b u q n _ _=>k b u (hb b n) q,fun b u q n _ _=>⟨u.slots,k b u (hb b n) q⟩,fun b u q n _=>by rw [ae (hx b n)]; exact n,fun b u q _ => ?_,
  fun b xs q=>by rw [ae (hm b _ q fun z=>z)]; exact q,fun b u xs q=>by rw [ae (hm b _ q fun z=>z)]; exact q,fun b ps q=>⟨#[],by rw [ae (hm b _ q fun z=>z),q]; simp⟩⟩
 by_cases hbe:b=e
 ·subst hbe; exact heo
 ·exact ⟨u,k b u hbe q⟩
end
def trk (h:Heap) (H:Hp):List Addr:=(List.range h.objs.size).filter fun a=>(H a).isSome
def fK (h:Heap) (H:Hp):Heap:=PySem.W.hideAll h (trk h H)
theorem jr (h:Heap) (H:Hp):(fK h H).objs.size=h.objs.size:=PySem.W.hideAll_size _ _
theorem kq {h:Heap} {H:Hp} {b:Addr} {o:Obj} (e:h.get? b=some o) (n:H b=none):(fK h H).get? b=some o :=
 PySem.W.hideAll_get _ e fun hm=>by
  have q:(H b).isSome=true:=(List.mem_filter.mp hm).2
  rw [n] at q; simp at q
theorem kZ {h:Heap} {H:Hp} {b:Addr} {o:Obj} (e:(fK h H).get? b=some o):h.get? b=some o∧H b=none:=by
 have e':h.get? b=some o:=PySem.W.of_hideAll (trk h H) e
 refine ⟨e',?_⟩
 cases q:H b with
 | none=>rfl
 | some x =>
  have hm:b∈trk h H:=List.mem_filter.mpr ⟨List.mem_range.mpr (Heap.lt_size e'),by simp [q]⟩
  have z:(fK h H).get? b=none:=PySem.W.hideAll_none (trk h H) hm
  rw [z] at e; cases e
end L2
namespace L2
open PySem PySem.Spec PyProof.Rows
structure Mod (K:PySem.W.Frag) (mg:Str→Option Value) (base:Heap):Prop where
 kin:K.In base
 glob:base.Ns mainGlobals mg
 blt : ∃ mb,base.Ns builtinsNs mb ∧ ∀ x:Str,x≠"__name__"→mb x=bootBuiltins x
 nolimit:base.NoLimit
structure Cx where
 prog:Program
 w:World
 K:PySem.W.Frag
 mg:Str→Option Value
 base:Heap
 A:Around
 N:List Str
 s₀:Shared
 H₀:Hp
 env:Env
 outer:List Env
 stack:List Env
 ex:List Addr
 fn:Str→Bool
 calm:Bool
 pn:List (Addr×Obj)
 xe:Value→Shared→Prop
def frs (l:List Env):List Addr:=l.filterMap (·.frame)
abbrev Cx.fs (X:Cx):List Addr:=frs X.outer
def Vis (sc:Scope) (x:Str):Prop:=sc.names.lookup x=some .local∨sc.names.lookup x=some .cell∨sc.names.lookup x=some .free
def Loc (sc:Scope) (x:Str):Prop:=sc.names.lookup x=some .local∨sc.names.lookup x=some .cell
def oA (env:Env) (h:Heap) (m:Str→Option Value) (x:Str) (u:Value):Prop :=
 (env.kindOf x=some .local∧m x=some u)∨((env.kindOf x=some .cell∨env.kindOf x=some .free) ∧ ∃ c,env.cells.lookup x=some c∧h.IsCell c (some u))
structure Cx.Ok (X:Cx):Prop where
 mod:Mod X.K X.mg X.base
 kind:X.env.scope.kind = .function
 glob:X.env.globals=mainGlobals
 blt:X.env.builtins=builtinsNs
 above:X.s₀.heap.objs.size≤X.env.locals
 inj : ∀ x y c,X.env.cells.lookup x=some c→X.env.cells.lookup y=some c→x=y
 has : ∀ x,(X.env.kindOf x=some .cell∨X.env.kindOf x=some .free) → ∃ c,X.env.cells.lookup x=some c
 cab : ∀ x c,X.fn x=true→X.env.cells.lookup x=some c→X.s₀.heap.objs.size≤c
 hd:X.calm=true→X.A.handled=none
 frames:X.A.frames=some X.stack
 stk:X.stack=X.outer∨(X.stack=X.env::X.outer∧X.env.frame=some X.env.locals)
 exf : ∀ b∈X.ex,b≠X.env.locals ∧ ∀ x c,X.env.cells.lookup x=some c→c≠b
 bs : ∀ b o,X.base.get? b=some o→X.s₀.heap.get? b=some o∧X.H₀ b=none
 bsz:X.base.objs.size≤X.s₀.heap.objs.size
 noex : ∀ b o,X.base.get? b=some o→b∉X.ex
 exfs : ∀ b∈X.ex,b∉X.fs
 funs:X.s₀.heap.FunFrames X.base X.outer
 frf : ∀ b∈X.fs,X.H₀ b=none
structure Inv (X:Cx) (pins:List (Addr×Obj)) (σ:List (Option V)) (H:Hp) (s:Shared):Prop where
 ok:X.Ok
 os:s.os=X.s₀.os
 bare:AllBare s.gens
 base:Un X.fs X.ex X.H₀ H X.s₀.heap s.heap
 loc : ∃ m,s.heap.Ns X.env.locals m ∧ ∀ (i:Nat) (x:Str) (v:V),X.N[i]?=some x→σ[i]?=some (some v)→Vis X.env.scope x → ∃ u,RelV v u∧oA X.env s.heap m x u
 cell : ∀ x c,X.env.cells.lookup x=some c → ∃ v,s.heap.IsCell c v
 free:H X.env.locals=none
 freeC : ∀ x c,X.env.cells.lookup x=some c→H c=none
 pin : ∀ p∈X.pn++pins,s.heap.get? p.1=some p.2∧H p.1=none∧p.1≠X.env.locals∧p.1∉X.fs ∧ ∀ v,p.2.data ≠ .cell v
 hok:HOk X.prog X.w H s.heap
 len:σ.length=X.N.length
section
variable {X:Cx} {pins:List (Addr×Obj)} {σ:List (Option V)} {H H':Hp} {s:Shared} {h':Heap}
theorem Cx.Ok.nofr (ok:X.Ok) {b:Addr} {o:Obj} (e:X.base.get? b=some o):b∉X.fs:=fun hb=>by
 have:=(ok.funs.mem hb).1
 rw [e] at this; cases this
theorem Inv.bs (I:Inv X pins σ H s) : ∀ b o,X.base.get? b=some o→s.heap.get? b=some o∧H b=none:=fun b o e =>
 ⟨I.base.keep b o (I.ok.bs b o e).1 (I.ok.bs b o e).2 (I.ok.nofr e) (I.ok.noex b o e),I.base.free b o (I.ok.bs b o e).1 (I.ok.bs b o e).2 (I.ok.noex b o e)⟩
theorem Inv.bk (I:Inv X pins σ H s) : ∀ b o,X.base.get? b=some o→s.heap.get? b=some o:=fun b o e=>(I.bs b o e).1
theorem Inv.mod (I:Inv X pins σ H s):Mod X.K X.mg X.base:=I.ok.mod
theorem Inv.kIn (I:Inv X pins σ H s):X.K.In s.heap:=I.ok.mod.kin.keeps I.bk
theorem Inv.fr (I:Inv X pins σ H s) : ∃ m,Fr X.base X.env.locals s.heap m :=
 let ⟨m,hn,_⟩:=I.loc
 ⟨m,hn,I.bk,Nat.le_trans I.ok.bsz I.ok.above⟩
theorem Inv.lt (I:Inv X pins σ H s):X.env.locals < s.heap.objs.size:=let ⟨_,hn,_⟩:=I.loc; hn.lt
theorem Inv.sz (I:Inv X pins σ H s):X.s₀.heap.objs.size≤s.heap.objs.size:=Nat.le_trans I.ok.above (Nat.le_of_lt I.lt)
theorem Inv.nofs (I:Inv X pins σ H s) {a:Addr} (h:s.heap.objs.size≤a):a∉X.fs:=fun hb=>by
 obtain ⟨_,o,ho,_⟩:=I.ok.funs.mem hb
 exact absurd (Nat.lt_of_lt_of_le (Heap.lt_size ho) (Nat.le_trans I.sz h)) (Nat.lt_irrefl _)
theorem Inv.cne (I:Inv X pins σ H s) : ∀ x c,X.env.cells.lookup x=some c→c≠X.env.locals:=fun x c e z=>by
 obtain ⟨v,o,ho,hd⟩:=I.cell x c e
 obtain ⟨m,⟨o',es,ep,ho',hd',_⟩,_⟩:=I.loc
 rw [z,ho'] at ho; cases ho; rw [hd'] at hd; cases hd
theorem Inv.funs (I:Inv X pins σ H s):s.heap.FunFrames X.base X.outer:=by
 have all : ∀ (l:List Env),(∀ b∈frs l,b∈X.fs)→X.s₀.heap.FunFrames X.base l→s.heap.FunFrames X.base l:=by
  intro l
  induction l with
  | nil=>intro _ _; trivial
  | cons env r ih =>
   intro hs hl
   obtain ⟨hk,⟨L,o,hf,hn,ho,hd⟩,hr⟩:=hl
   have hL:L∈X.fs:=hs L (by unfold frs; rw [List.filterMap_cons,hf]; exact List.mem_cons_self)
   obtain ⟨sl,e⟩:=I.base.slot L o ho (I.ok.frf L hL) hL fun z=>I.ok.exfs L z hL
   exact ⟨hk,⟨L,_,hf,hn,e,hd⟩,ih (fun b hb=>hs b (by unfold frs; rw [List.filterMap_cons,hf]; exact List.mem_cons_of_mem _ hb)) hr⟩
 exact all X.outer (fun _ hb=>hb) I.ok.funs
theorem Inv.stack (I:Inv X pins σ H s):s.heap.FunFrames X.base X.stack:=by
 rcases I.ok.stk with e | ⟨e,hf⟩
 ·rw [e]; exact I.funs
 ·rw [e]
  obtain ⟨m,hn,_⟩:=I.loc
  refine .cons (by rw [I.ok.kind]; decide) hf hn ?_ I.funs
  exact Heap.get?_none_of_le (Nat.le_trans I.ok.bsz I.ok.above)
theorem Inv.stkSub (I:Inv X pins σ H s) : ∀ b∈frs X.stack,b∈X.env.locals::X.fs:=fun b hb=>by
 rcases I.ok.stk with e | ⟨e,hf⟩
 ·rw [e] at hb; exact List.mem_cons_of_mem _ hb
 ·rw [e] at hb
  unfold frs at hb
  rw [List.filterMap_cons,hf] at hb
  exact hb
theorem Inv.stkFree (I:Inv X pins σ H s) : ∀ b∈frs X.stack,H b=none:=fun b hb=>by
 rcases List.mem_cons.mp (I.stkSub b hb) with e | hb
 ·rw [e]; exact I.free
 ·obtain ⟨_,o,ho,_⟩:=I.ok.funs.mem hb
  exact I.base.free b o ho (I.ok.frf b hb) fun z=>I.ok.exfs b z hb
theorem Inv.step {g':Array GenState} {t':Nat} {d':Drawn} {ch:List Addr} (I:Inv X pins σ H s)
  (hch : ∀ b∈ch,(b∈X.ex∨X.s₀.heap.objs.size≤b)∧b≠X.env.locals∧(∀ x c,X.env.cells.lookup x=some c→c≠b) ∧ ∀ p∈X.pn++pins,p.1≠b)
  (keep : ∀ b o,b≠X.env.locals→b∉X.fs→b∉ch→s.heap.get? b=some o→H b=none→h'.get? b=some o)
  (slot : ∀ b o,b≠X.env.locals→b∈X.fs→b∉ch→s.heap.get? b=some o→H b=none → ∃ sl,h'.get? b=some { o with slots:=sl }) (free : ∀ b o,b∉ch→s.heap.get? b=some o→H b=none→H' b=none)
  (there : ∀ b o,b∉ch→s.heap.get? b=some o → ∃ o',h'.get? b=some o')
  (tups : ∀ b xs,H b=some (.tup xs)→H' b=some (.tup xs)) (frzs : ∀ b o u,H b=some (.frz o u)→H' b=some (.frz o u)) (tbls : ∀ b ps,H b=some (.tbl ps) → ∃ more,H' b=some (.tbl (ps++more)))
  (ns : ∀ m,s.heap.Ns X.env.locals m→h'.Ns X.env.locals m) (hok:HOk X.prog X.w H' h') (hg:AllBare g') :
  Inv X pins σ H' { s with heap:=h',gens:=g',drawn:=d',toks:=t' }:=by
 have neL : ∀ b o,X.s₀.heap.get? b=some o→b≠X.env.locals:=fun b o e=>Nat.ne_of_lt (Nat.lt_of_lt_of_le (Heap.lt_size e) I.ok.above)
 have neC : ∀ b o,X.s₀.heap.get? b=some o→b∉X.ex→b∉ch:=fun b o e hx hb=>by
  rcases (hch b hb).1 with z | z
  ·exact hx z
  ·exact absurd (Nat.lt_of_lt_of_le (Heap.lt_size e) z) (Nat.lt_irrefl _)
 have cellK : ∀ x c,X.env.cells.lookup x=some c → ∀ v,s.heap.IsCell c v→h'.IsCell c v:=fun x c e v ⟨o,ho,hd⟩=>by
  have nch:c∉ch:=fun z=>(hch c z).2.2.1 x c e rfl
  by_cases hc:c∈X.fs
  ·obtain ⟨sl,q⟩:=slot c o (I.cne x c e) hc nch ho (I.freeC x c e)
   exact ⟨_,q,hd⟩
  ·exact ⟨o,keep c o (I.cne x c e) hc nch ho (I.freeC x c e),hd⟩
 refine ⟨I.ok,I.os,hg,⟨fun b o e n hb hx => ?_,fun b o e n hb hx => ?_,fun b o e n hx => ?_,fun b o e hx => ?_,fun b xs e=>tups b xs (I.base.tups b xs e),fun b o xs e=>frzs b o xs (I.base.frzs b o xs e),fun b ps e => ?_⟩,?_,fun x c e => ?_,?_,fun x c e => ?_,fun p hp => ?_,hok,I.len⟩
 ·exact keep b o (neL b o e) hb (neC b o e hx) (I.base.keep b o e n hb hx) (I.base.free b o e n hx)
 ·obtain ⟨sl,e1⟩:=I.base.slot b o e n hb hx
  obtain ⟨sl',e2⟩:=slot b _ (neL b o e) hb (neC b o e hx) e1 (I.base.free b o e n hx)
  exact ⟨sl',e2⟩
 ·obtain ⟨o',e1⟩:=I.base.there b o e hx
  exact free b o' (neC b o e hx) e1 (I.base.free b o e n hx)
 ·obtain ⟨o',e1⟩:=I.base.there b o e hx
  exact there b o' (neC b o e hx) e1
 ·obtain ⟨m1,e1⟩:=I.base.tbls b ps e
  obtain ⟨m2,e2⟩:=tbls b _ e1
  exact ⟨m1++m2,by rw [e2,Array.append_assoc]⟩
 ·obtain ⟨m,hn,hl⟩:=I.loc
  refine ⟨m,ns m hn,fun i x v e1 e2 e3 => ?_⟩
  obtain ⟨u,r,l⟩:=hl i x v e1 e2 e3
  refine ⟨u,r,?_⟩
  rcases l with l | ⟨k,c,e,z⟩
  ·exact .inl l
  ·exact .inr ⟨k,c,e,cellK x c e _ z⟩
 ·obtain ⟨v,z⟩:=I.cell x c e
  exact ⟨v,cellK x c e v z⟩
 ·obtain ⟨m,⟨o,_,_,ho,_⟩,_⟩:=I.loc
  exact free _ o (fun z=>(hch _ z).2.1 rfl) ho I.free
 ·obtain ⟨v,o,ho,hd⟩:=I.cell x c e
  exact free c o (fun z=>(hch c z).2.2.1 x c e rfl) ho (I.freeC x c e)
 ·obtain ⟨e,n,ne,nf,d⟩:=I.pin p hp
  have nch:p.1∉ch:=fun z=>(hch p.1 z).2.2.2 p hp rfl
  exact ⟨keep p.1 p.2 ne nf nch e n,free p.1 p.2 nch e n,ne,nf,d⟩
theorem Inv.un {t':Nat} (I:Inv X pins σ H s) (u:Un X.fs [] H H' s.heap h') (hok:HOk X.prog X.w H' h'):Inv X pins σ H' { s with heap:=h',toks:=t' }:=by
 obtain ⟨m,⟨o,es,ep,ho,r⟩,_⟩:=id I.loc
 obtain ⟨sl,hL⟩:=u.any ho I.free (by simp)
 exact I.step (g':=s.gens) (d':=s.drawn) (ch:=[]) (fun _ z=>nomatch z) (fun b o _ hb _ e n=>u.keep b o e n hb (by simp)) (fun b o _ hb _ e n=>u.slot b o e n hb (by simp)) (fun b o _ e n=>u.free b o e n (by simp)) (fun b o _ e=>u.there b o e (by simp)) u.tups u.frzs u.tbls (fun m' hm=>by
  obtain ⟨o',es',ep',ho',r'⟩:=hm
  rw [ho] at ho'; cases ho'
  exact ⟨_,es',ep',hL,r'⟩) hok I.bare
theorem Inv.call {g':Array GenState} {t':Nat} {d':Drawn} {ch:List Addr} (I:Inv X pins σ H s) (u:Un (frs X.stack) ch H H' s.heap h') (hok:HOk X.prog X.w H' h') (hg:AllBare g')
  (hch : ∀ b∈ch,(b∈X.ex∨X.s₀.heap.objs.size≤b)∧b≠X.env.locals∧(∀ x c,X.env.cells.lookup x=some c→c≠b) ∧ ∀ p∈X.pn++pins,p.1≠b) :
  Inv X pins σ H' { s with heap:=h',gens:=g',drawn:=d',toks:=t' }:=by
 obtain ⟨m,⟨o,es,ep,ho,r⟩,_⟩:=id I.loc
 obtain ⟨sl,hL⟩:=u.any ho I.free fun z=>(hch _ z).2.1 rfl
 exact I.step (ch:=ch) hch (fun b o hL hb hc e n=>u.keep b o e n (fun z=>(List.mem_cons.mp (I.stkSub b z)).elim hL hb) hc) (fun b o _ _ hc e n=>u.any e n hc) (fun b o hc e n=>u.free b o e n hc) (fun b o hc e=>u.there b o e hc) u.tups u.frzs u.tbls (fun m' hm=>by
  obtain ⟨o',es',ep',ho',r'⟩:=hm
  rw [ho] at ho'; cases ho'
  exact ⟨_,es',ep',hL,r'⟩) hok hg
theorem Inv.turned {t':Nat} {it:Addr} (I:Inv X pins σ H s) (k : ∀ b o,b≠it→s.heap.get? b=some o→h'.get? b=some o) (hn:H it=none) (hL:it≠X.env.locals)
  (h1:it∈X.ex∨X.s₀.heap.objs.size≤it) (h2 : ∀ x c,X.env.cells.lookup x=some c→c≠it) (h3 : ∀ p∈X.pn++pins,p.1≠it):Inv X pins σ H { s with heap:=h',toks:=t' }:=by
 have nit : ∀ b u,H b=some u→b≠it:=fun b u e z=>by rw [z,hn] at e; cases e
 refine I.step (g':=s.gens) (d':=s.drawn) (ch:=[it]) (fun b hb => ?_) (fun b o _ _ hc e _=>k b o (fun z=>hc (by simp [z])) e) (fun b o _ _ hc e _=>⟨o.slots,k b o (fun z=>hc (by simp [z])) e⟩) (fun _ _ _ _ n=>n)
  (fun b o hc e=>⟨o,k b o (fun z=>hc (by simp [z])) e⟩) (fun _ _ e=>e) (fun _ _ _ e=>e) (fun b ps e=>⟨#[],by rw [e]; simp⟩) (fun m hm => ?_) (fun b u e => ?_) I.bare
 ·have e:b=it:=by simpa using hb
  subst e
  exact ⟨h1,hL,h2,h3⟩
 ·obtain ⟨o,es,ep,ho,r⟩:=hm
  exact ⟨o,es,ep,k _ o (Ne.symm hL) ho,r⟩
 ·refine (I.hok b u e).stay (fun c v hc q=>k c v ?_ q) (fun _ q=>q) fun _ _ q=>q
  rcases hc with z | z
  ·rw [z]; exact nit b u e
  ·exact nit c _ z
theorem Inv.tok (I:Inv X pins σ H s) (t:Nat):Inv X pins σ H { s with toks:=t }:=I.un (h':=s.heap) (t':=t) Un.refl I.hok
theorem Inv.kept {t':Nat} (I:Inv X pins σ H s) (k : ∀ b u,s.heap.get? b=some u→h'.get? b=some u):Inv X pins σ H { s with heap:=h',toks:=t' }:=I.un (Un.kept k) (I.hok.kept k)
theorem Inv.laid {a:Addr} {o:HO} {t':Nat} (I:Inv X pins σ H s) (k : ∀ b u,s.heap.get? b=some u→h'.get? b=some u) (hp:s.heap.objs.size≤a) (new:ObjOk X.prog X.w (upd H a o) h' a o) :
  Inv X pins σ (upd H a o) { s with heap:=h',toks:=t' }:=I.un (Un.laid k hp (I.hok.fresh hp)) (I.hok.laid k hp new)
theorem Inv.write {x e:Addr} {o:HO} {t':Nat} (I:Inv X pins σ H s) (mu:Mut (H x)) (he:e=x∨H e=some (.own x)) (k : ∀ b u,b≠e→s.heap.get? b=some u→h'.get? b=some u) (heo : ∃ u,h'.get? e=some u)
  (new:ObjOk X.prog X.w (upd H x o) h' x o):Inv X pins σ (upd H x o) { s with heap:=h',toks:=t' }:=I.un (Un.write mu he k heo) (I.hok.write mu he k heo new)
theorem Inv.weak {σ':List (Option V)} (I:Inv X pins σ H s) (hl:σ'.length=σ.length) (w : ∀ (i:Nat) v,σ'[i]?=some (some v)→σ[i]?=some (some v)):Inv X pins σ' H s :=
 ⟨I.ok,I.os,I.bare,I.base,let ⟨m,hn,hl'⟩:=I.loc; ⟨m,hn,fun i x v e1 e2 e3=>hl' i x v e1 (w i v e2) e3⟩,I.cell,I.free,I.freeC,I.pin,I.hok,hl.trans I.len⟩
theorem Inv.pins_of {pins':List (Addr×Obj)} (I:Inv X pins σ H s) (h : ∀ p∈pins',s.heap.get? p.1=some p.2∧H p.1=none∧p.1≠X.env.locals∧p.1∉X.fs ∧ ∀ v,p.2.data ≠ .cell v):Inv X pins' σ H s :=
 ⟨I.ok,I.os,I.bare,I.base,I.loc,I.cell,I.free,I.freeC,fun p hp=>(List.mem_append.mp hp).elim (fun z=>I.pin p (List.mem_append_left _ z)) (h p),I.hok,I.len⟩
theorem gc {N:List Str} (hN:N.Nodup) {i j:Nat} {x:Str} (a:N[i]?=some x) (b:N[j]?=some x):i=j:=by
 obtain ⟨h1,e1⟩:=List.getElem?_eq_some_iff.mp a
 obtain ⟨h2,e2⟩:=List.getElem?_eq_some_iff.mp b
 exact (List.getElem_inj hN).mp (e1.trans e2.symm)
theorem eI {M:Model} {A:Around} {E:Value→Shared→Prop} {i:Nat} {x:Str} {v:V} {u:Value} {Q:Unit→Shared→Prop} (I:Inv X pins σ H s) (hN:X.N.Nodup) (hi:X.N[i]?=some x) (hx:Loc X.env.scope x) (r:RelV v u)
  (h : ∀ s',Inv X pins (σ.set i (some v)) H s'→(∃ a,Heap.SameBut a s.heap s'.heap∧(a=X.env.locals∨X.env.cells.lookup x=some a))→Q () s') (hf:X.fn x=true∨X.env.scope.names.lookup x=some .local:=by first | exact .inl rfl | exact .inr rfl | assumption):wpAny M A (storeName X.env x u) Q E s:=by
 obtain ⟨m,hn,hl⟩:=id I.loc
 have hcls:(X.env.scope.kind == .class || (X.env.scope.kind == .module && X.env.locals != X.env.globals))=false:=by rw [I.ok.kind]; rfl
 have hiσ:i < σ.length:=by rw [I.len]; exact (List.getElem?_eq_some_iff.mp hi).1
 have cne:=I.cne
 have tracked : ∀ {a:Addr} {h':Heap},(∃ o,s.heap.get? a=some o∧H a=none)→Heap.SameBut a s.heap h'→HOk X.prog X.w H h':=fun {a h'} ha hs b ob e=>by
  obtain ⟨_,_,hfree⟩:=ha
  refine (I.hok b ob e).stay (fun c w' hc q=>(hs.2 c ?_).trans q) (fun _ q=>q) fun _ _ q=>q
  rintro rfl
  rcases hc with rfl | hc
  ·rw [hfree] at e; cases e
  ·rw [hfree] at hc; cases hc
 rcases hx with hk | hk
 ·refine wpAny_storeName_local hk hn (fun h' hn' hs => ?_) hcls
  obtain ⟨oL,_,_,hoL,_⟩:=id hn
  refine h _ ⟨I.ok,I.os,I.bare,⟨fun b o e n hb hx => ?_,fun b o e n hb hx => ?_,I.base.free,fun b o e hx => ?_,I.base.tups,I.base.frzs,I.base.tbls⟩,⟨_,hn',fun j y v' e1 e2 e3 => ?_⟩,fun y c e => ?_,I.free,I.freeC,fun p hp => ?_,tracked ⟨oL,hoL,I.free⟩ hs,by simpa using I.len⟩ ⟨_,hs,.inl rfl⟩
  ·exact (hs.2 b (Nat.ne_of_lt (Nat.lt_of_lt_of_le (Heap.lt_size e) I.ok.above))).trans (I.base.keep b o e n hb hx)
  ·obtain ⟨sl,e1⟩:=I.base.slot b o e n hb hx
   exact ⟨sl,(hs.2 b (Nat.ne_of_lt (Nat.lt_of_lt_of_le (Heap.lt_size e) I.ok.above))).trans e1⟩
  ·obtain ⟨o',e1⟩:=I.base.there b o e hx
   exact ⟨o',(hs.2 b (Nat.ne_of_lt (Nat.lt_of_lt_of_le (Heap.lt_size e) I.ok.above))).trans e1⟩
  ·by_cases hj:j=i
   ·subst hj
    rw [hi] at e1; cases e1
    rw [List.getElem?_set_self hiσ] at e2
    cases e2
    exact ⟨u,r,.inl ⟨hk,by simp⟩⟩
   ·rw [List.getElem?_set_ne (Ne.symm hj)] at e2
    obtain ⟨u',r',q⟩:=hl j y v' e1 e2 e3
    refine ⟨u',r',?_⟩
    rcases q with ⟨k,e⟩ | ⟨k,c,e,z⟩
    ·refine .inl ⟨k,?_⟩
     have:y≠x:=fun e=>hj (gc hN e1 (e ▸ hi))
     simp [this,e]
    ·exact .inr ⟨k,c,e,z.sameBut hs (cne y c e)⟩
  ·obtain ⟨w',z⟩:=I.cell y c e
   exact ⟨w',z.sameBut hs (cne y c e)⟩
  ·obtain ⟨e,n,ne,nf,d⟩:=I.pin p hp
   exact ⟨(hs.2 p.1 ne).trans e,n,ne,nf,d⟩
 ·have hfn:X.fn x=true:=by
   rcases hf with z | z
   ·exact z
   ·rw [z] at hk; cases hk
  obtain ⟨c,hc⟩:=I.ok.has x (.inl hk)
  obtain ⟨w',z⟩:=I.cell x c hc
  refine wpAny_storeName_cell I.ok.kind hk hc z (fun h' hc' hs => ?_)
  obtain ⟨oc,hoc,hocd⟩:=id z
  refine h { s with heap:=h' } ⟨I.ok,I.os,I.bare,⟨fun b o e n hb hx => ?_,fun b o e n hb hx => ?_,I.base.free,fun b o e hx => ?_,I.base.tups,I.base.frzs,I.base.tbls⟩,⟨m,hn.sameBut hs (Ne.symm (cne x c hc)),fun j y v' e1 e2 e3 => ?_⟩,fun y c' e => ?_,I.free,I.freeC,fun p hp => ?_,tracked ⟨oc,hoc,I.freeC x c hc⟩ hs,by simpa using I.len⟩ ⟨c,hs,.inr hc⟩
  ·exact (hs.2 b (Nat.ne_of_lt (Nat.lt_of_lt_of_le (Heap.lt_size e) (I.ok.cab x c hfn hc)))).trans (I.base.keep b o e n hb hx)
  ·obtain ⟨sl,e1⟩:=I.base.slot b o e n hb hx
   exact ⟨sl,(hs.2 b (Nat.ne_of_lt (Nat.lt_of_lt_of_le (Heap.lt_size e) (I.ok.cab x c hfn hc)))).trans e1⟩
  ·obtain ⟨o',e1⟩:=I.base.there b o e hx
   exact ⟨o',(hs.2 b (Nat.ne_of_lt (Nat.lt_of_lt_of_le (Heap.lt_size e) (I.ok.cab x c hfn hc)))).trans e1⟩
  ·by_cases hj:j=i
   ·subst hj
    rw [hi] at e1; cases e1
    rw [List.getElem?_set_self hiσ] at e2
    cases e2
    exact ⟨u,r,.inr ⟨.inl hk,c,hc,hc'⟩⟩
   ·rw [List.getElem?_set_ne (Ne.symm hj)] at e2
    obtain ⟨u',r',q⟩:=hl j y v' e1 e2 e3
    refine ⟨u',r',?_⟩
    rcases q with q | ⟨k,c',e,z'⟩
    ·exact .inl q
    ·refine .inr ⟨k,c',e,z'.sameBut hs ?_⟩
     rintro rfl
     exact hj (gc hN e1 (I.ok.inj _ _ _ e hc ▸ hi))
  ·by_cases hcc:c'=c
   ·subst hcc; exact ⟨_,hc'⟩
   ·obtain ⟨w2,z2⟩:=I.cell y c' e
    exact ⟨w2,z2.sameBut hs hcc⟩
  ·obtain ⟨e,n,ne,nf,d⟩:=I.pin p hp
   refine ⟨(hs.2 p.1 ?_).trans e,n,ne,nf,d⟩
   intro q
   rw [q,hoc] at e
   have q':oc=p.2:=Option.some.inj e
   exact d w' (by rw [← q']; exact hocd)
theorem fV {M:Model} {A:Around} {E:Value→Shared→Prop} {i:Nat} {x:Str} {v:V} {u:Value} {Q:Unit→Shared→Prop} (I:Inv X pins σ H s) (hN:X.N.Nodup) (hi:X.N[i]?=some x) (hx:Loc X.env.scope x) (r:RelV v u)
  (h : ∀ s',Inv X pins (σ.set i (some v)) H s'→Q () s') (hf:X.fn x=true∨X.env.scope.names.lookup x=some .local:=by first | exact .inl rfl | exact .inr rfl | assumption):wpAny M A (storeName X.env x u) Q E s :=
 eI I hN hi hx r (fun s' I' _=>h s' I') hf
theorem Inv.call' {s':Shared} {ch:List Addr} (I:Inv X pins σ H s) (ho:s'.os=s.os) (u:Un (frs X.stack) ch H H' s.heap s'.heap) (hok:HOk X.prog X.w H' s'.heap) (hg:AllBare s'.gens)
  (hch : ∀ b∈ch,(b∈X.ex∨X.s₀.heap.objs.size≤b)∧b≠X.env.locals∧(∀ x c,X.env.cells.lookup x=some c→c≠b) ∧ ∀ p∈X.pn++pins,p.1≠b):Inv X pins σ H' s':=by
 obtain ⟨h',g',d',t',o'⟩:=s'
 have e:o'=s.os:=ho
 subst e
 exact I.call (g':=g') (t':=t') (d':=d') u hok hg hch
end
abbrev XK:=Value→Option Addr→Hp→Prop
abbrev St:=List (Option V)
abbrev VK:=V→Hp→Prop
abbrev TE:=St→Hp→VK→Prop
abbrev TT:=St→Hp→(Bool→Hp→Prop)→Prop
abbrev TA:=St→Hp→(List V→Hp→Prop)→Prop
structure iA where
 nx:St→Hp→Prop
 rt:VK
 bk:St→Hp→Prop:=fun _ _=>False
 ct:St→Hp→Prop:=fun _ _=>False
abbrev TS:=iA→St→Hp→Prop
def EP (X:Cx) (pins:List (Addr×Obj)) (σ:St) (Q:VK) (u:Value) (s':Shared):Prop := ∃ v H',Inv X pins σ H' s'∧RelV v u∧Q v H'
def TP (X:Cx) (pins:List (Addr×Obj)) (σ:St) (Q:Bool→Hp→Prop) (b:Bool) (s':Shared):Prop := ∃ H',Inv X pins σ H' s'∧Q b H'
def AP (X:Cx) (pins:List (Addr×Obj)) (σ:St) (Q:List V→Hp→Prop) (us:List Value) (s':Shared):Prop := ∃ vs H',Inv X pins σ H' s'∧Vals vs us∧Q vs H'
def SP (X:Cx) (pins:List (Addr×Obj)) (D:iA) (f:Flow) (s':Shared):Prop :=
 match f with
 | .next => ∃ σ' H',Inv X pins σ' H' s'∧D.nx σ' H'
 | .brk => ∃ σ' H',Inv X pins σ' H' s'∧D.bk σ' H'
 | .cont => ∃ σ' H',Inv X pins σ' H' s'∧D.ct σ' H'
 | .ret u => ∃ v σ' H',Inv X pins σ' H' s'∧RelV v u∧D.rt v H'
def PE (X:Cx) (e:Expr) (t:TE):Prop :=
 ∀ (pins:List (Addr×Obj)) (s:Shared) (σ:St) (H:Hp) (Q:VK),Inv X pins σ H s→t σ H Q→wpAny (model X.prog X.w) X.A (eval e X.env) (EP X pins σ Q) X.xe s
def PT (X:Cx) (e:Expr) (t:TT):Prop :=
 ∀ (pins:List (Addr×Obj)) (s:Shared) (σ:St) (H:Hp) (Q:Bool→Hp→Prop),Inv X pins σ H s→t σ H Q→wpAny (model X.prog X.w) X.A (isTrue e X.env (eval e X.env)) (TP X pins σ Q) X.xe s
def PW (X:Cx) (e:Expr) (t:TT):Prop :=
 ∀ (whole:Sem Value) (pins:List (Addr×Obj)) (s:Shared) (σ:St) (H:Hp) (Q:Bool→Hp→Prop),Inv X pins σ H s→t σ H Q→wpAny (model X.prog X.w) X.A (isTrue e X.env whole) (TP X pins σ Q) X.xe s
theorem PW.pt {X:Cx} {e:Expr} {t:TT} (h:PW X e t):PT X e t:=h _
def PA (X:Cx) (es:List Expr) (t:TA):Prop :=
 ∀ (pos:Pos) (pins:List (Addr×Obj)) (s:Shared) (σ:St) (H:Hp) (Q:List V→Hp→Prop),Inv X pins σ H s→t σ H Q→wpAny (model X.prog X.w) X.A (spliced (backTo pos (starEach es X.env))) (AP X pins σ Q) X.xe s
def PS (X:Cx) (st:Stmt) (t:TS):Prop :=
 ∀ (pins:List (Addr×Obj)) (s:Shared) (σ:St) (H:Hp) (D:iA),Inv X pins σ H s→t D σ H→wpAny (model X.prog X.w) X.A (exec st X.env) (SP X pins D) X.xe s
def PSs (X:Cx) (st:List Stmt) (t:TS):Prop :=
 ∀ (pins:List (Addr×Obj)) (s:Shared) (σ:St) (H:Hp) (D:iA),Inv X pins σ H s→t D σ H→wpAny (model X.prog X.w) X.A (execs st X.env) (SP X pins D) X.xe s
theorem thn {α:Type} {t:Sem α} {Q Q':α→Shared→Prop} {M:Model} {A:Around} {E:Value→Shared→Prop} {s:Shared} (h:wpAny M A t Q E s) (hQ : ∀ a s,Q a s→Q' a s):wpAny M A t Q' E s:=wpAny_mono h hQ fun _ _ x=>x
end L2
namespace L2
open PySem PySem.Spec PyProof.Rows
section
variable {X:Cx}
theorem bin {a b:Expr} {ta tb:TE} (ha:PE X a ta) (hb:PE X b tb) {pins:List (Addr×Obj)} {s:Shared} {σ:St} {H:Hp} {R:V→V→Hp→Prop} (I:Inv X pins σ H s) (h:ta σ H fun x H1=>tb σ H1 fun y H2=>R x y H2)
  {α:Type} {Q:α→Shared→Prop} {f:Value→Value→Sem α}
  (hf : ∀ v u s2 x y H2,Inv X pins σ H2 s2→RelV x v→RelV y u→R x y H2→wpAny (model X.prog X.w) X.A (f v u) Q X.xe s2) :
  wpAny (model X.prog X.w) X.A (eval a X.env) (fun v s₁=>wpAny (model X.prog X.w) X.A (eval b X.env) (fun u s₂=>wpAny (model X.prog X.w) X.A (f v u) Q X.xe s₂) X.xe s₁) X.xe s:=by
 refine thn (ha pins s σ H _ I h) fun v s1 ⟨x,H1,I1,r1,q1⟩ => ?_
 refine thn (hb pins s1 σ H1 _ I1 q1) fun u s2 ⟨y,H2,I2,r2,q2⟩ => ?_
 exact hf v u s2 x y H2 I2 r1 r2 q2
def mO (i:Nat):TE:=fun σ H Q => ∃ v,σ[i]?=some (some v)∧Q v H
def tC (v:V):TE:=fun _ H Q=>Q v H
theorem me {i:Nat} {x:Str} {pos:Pos} (hN:X.N[i]?=some x) (hv:Vis X.env.scope x) (hd:(x == ("__debug__":Str))=false:=by decide) (hcd:(x == ("__classdict__":Str))=false:=by decide):PE X (.Name x pos) (mO i):=by
 intro pins s σ H Q I h
 obtain ⟨v,e,h⟩:=h
 obtain ⟨m,hn,hl⟩:=I.loc
 obtain ⟨u,r,l⟩:=hl i x v hN e hv
 have fin:EP X pins σ Q u s:=⟨v,H,I,r,h⟩
 rcases l with ⟨hk,hm⟩ | ⟨hk,c,hc,hcell⟩
 ·exact wpAny_Name (wpAny_loadName_local I.ok.kind hk hn hm fin) hd
 ·rcases hk with hk | hk
  ·exact wpAny_Name (wpAny_loadName_cell I.ok.kind hk hc hcell fin) hd
  ·exact wpAny_Name (wpAny_loadName_free I.ok.kind hk hc hcell fin hcd) hd
theorem af {i j pos}:PE X (.Constant (.int i) j pos) (tC (.int i)):=fun _ _ _ H _ I h=>wpAny_Constant_int ⟨.int i,H,I.tok _,⟨_,rfl⟩,h⟩
theorem dN {b j pos}:PE X (.Constant (.bool b) j pos) (tC (.bl b)):=fun _ _ _ H _ I h=>Constant_bool ⟨.bl b,H,I,rfl,h⟩
def Gl (X:Cx) (x:Str):Prop:=X.env.kindOf x=some .globalImplicit
theorem lc {E:Value→Shared→Prop} {pins:List (Addr×Obj)} {s:Shared} {σ:St} {H:Hp} {x:Str} {u:Value} {pos:Pos} {Q:Value→Shared→Prop} (I:Inv X pins σ H s) (hg:Gl X x) (hm:X.mg x=some u) (h:Q u s)
  (hd:(x == ("__debug__":Str))=false:=by decide):wpAny (model X.prog X.w) X.A (eval (.Name x pos) X.env) Q E s :=
 Calls.Name_function_global I.ok.kind hg (Calls.loadGlobal_global (by rw [I.ok.glob]; exact I.mod.glob.keeps I.bk) hm h) hd
theorem fG {E:Value→Shared→Prop} {pins:List (Addr×Obj)} {s:Shared} {σ:St} {H:Hp} {x:Str} {u:Value} {pos:Pos} {Q:Value→Shared→Prop} (I:Inv X pins σ H s) (hg:Gl X x) (hm:X.mg x=none) (hv:bootBuiltins x=some u) (h:Q u s)
  (hn:x≠"__name__":=by decide) (hd:(x == ("__debug__":Str))=false:=by decide):wpAny (model X.prog X.w) X.A (eval (.Name x pos) X.env) Q E s:=by
 obtain ⟨mb,h1,h2⟩:=I.mod.blt
 exact Calls.Name_function_global I.ok.kind hg (Calls.loadGlobal_builtin (by rw [I.ok.glob]; exact I.mod.glob.keeps I.bk) hm (by rw [I.ok.blt]; exact h1.keeps I.bk) ((h2 x hn).trans hv) h) hd
theorem cH {x:Str} {v:V} {u:Value} {pos:Pos} (hg:Gl X x) (hm:X.mg x=none) (hv:bootBuiltins x=some u) (r:RelV v u) (hn:x≠"__name__":=by decide) (hd:(x == ("__debug__":Str))=false:=by decide):PE X (.Name x pos) (tC v) :=
 fun _ _ _ H _ I h=>fG I hg hm hv ⟨v,H,I,r,h⟩ hn hd
variable {a b:Expr} {ta tb:TE} {pos:Pos}
def PC (X:Cx) (op:CmpOp) (a b:Expr) (t:TE):Prop :=
 ∀ (pins:List (Addr×Obj)) (s:Shared) (σ:St) (H:Hp) (Q:VK),Inv X pins σ H s→t σ H Q →
  wpAny (model X.prog X.w) X.A (eval a X.env) (fun v s₁=>wpAny (model X.prog X.w) X.A (eval b X.env) (fun u s₂=>wpAny (model X.prog X.w) X.A (compareOp op v u) (EP X pins σ Q) X.xe s₂) X.xe s₁) X.xe s
def tB (t:TE):TT:=fun σ H Q=>t σ H fun x H1 => ∃ c,x = .bl c∧Q c H1
theorem oe {op:CmpOp} {t:TE} (h:PC X op a b t) (h1:behindInMarks op b=false:=by first | exact nobehind _ (by decide) (by decide) | rfl):PT X (.Compare a [op] [b] pos) (tB t):=by
 intro pins s σ H Q I hw
 refine wpAny_isTrue_Compare1 (thn (h pins s σ H _ I hw) fun v s1 h1=>thn h1 fun u s2 h2=>thn h2 fun c s3 ⟨x,H1,I1,r1,q1⟩ => ?_) h1
 obtain ⟨d,rfl,q⟩:=q1
 cases r1
 exact wpAny_truthy_bool ⟨H1,I1,q⟩
theorem cq {e:Expr} {t:TE} (h:PE X e t) (he : ∀ whole,isTrue e X.env whole=(do let v ← whole; standAt e.pos; holding [v] (truthy v)):=by intro _; rfl):PT X e (tB t):=by
 intro pins s σ H Q I hw
 refine isTrue_plain (thn (h pins s σ H _ I hw) fun v s1 ⟨x,H1,I1,r1,q1⟩ => ?_) (he _)
 obtain ⟨d,rfl,q⟩:=q1
 cases r1
 exact wpAny_truthy_bool ⟨H1,I1,q⟩
variable {tA tB':TT} {rest:List Expr}
def tOr (t u:TT):TT:=fun σ H Q=>t σ H fun c H1=>if c=true then Q true H1 else u σ H1 Q
def nP (t:TT):TT:=fun σ H Q=>t σ H fun c H1=>Q (!c) H1
theorem fq (ha:PT X a tA):PW X (.BoolOp .Or [a] pos) tA:=by
 intro wh pins s σ H Q I h
 refine isTrue_or (thn (ha pins s σ H Q I h) fun c s1 e => ?_)
 cases c with
 | false=>exact isTrue_or_nil e
 | true=>exact e
theorem iJ (ha:PT X a tA) (hb:PW X (.BoolOp .Or (b::rest) pos) tB'):PW X (.BoolOp .Or (a::b::rest) pos) (tOr tA tB'):=by
 intro wh pins s σ H Q I h
 refine isTrue_or (thn (ha pins s σ H _ I h) fun c s1 ⟨H1,I1,q1⟩ => ?_)
 cases c with
 | true=>exact ⟨H1,I1,q1⟩
 | false=>exact hb wh pins s1 σ H1 Q I1 q1
theorem cr (ha:PT X a tA):PT X (.UnaryOp .Not a pos) (nP tA):=by
 intro pins s σ H Q I h
 exact isTrue_not (ha pins s σ H (fun c H1=>Q (!c) H1) I h)
def m6 (ta tb:TE):TE:=fun σ H Q=>ta σ H fun x H1 => ∃ c,x = .bl c∧if c=true then tb σ H1 Q else Q (.bl false) H1
def mT (ta:TE):TE:=fun σ H Q=>ta σ H fun x H1 => ∃ c,x = .bl c∧Q (.bl (!c)) H1
theorem jS {op} {t:TE} (h:PE X a t):PE X (.BoolOp op [a] pos) t:=fun pins s σ H Q I hw=>BoolOp_one (h pins s σ H Q I hw)
theorem jU (ha:PE X a ta) (hb:PE X (.BoolOp .And (b::rest) pos) tb):PE X (.BoolOp .And (a::b::rest) pos) (m6 ta tb):=by
 intro pins s σ H Q I h
 refine BoolOp_and (thn (ha pins s σ H _ I h) fun v s1 ⟨x,H1,I1,r1,q1⟩ => ?_)
 obtain ⟨c,rfl,q1⟩:=q1
 cases r1
 refine wpAny_truthy_bool ?_
 cases c with
 | true=>exact hb pins s1 σ H1 Q I1 q1
 | false=>exact ⟨.bl false,H1,I1,rfl,q1⟩
theorem mf (ha:PE X a ta):PE X (.UnaryOp .Not a pos) (mT ta):=by
 intro pins s σ H Q I h
 refine UnaryOp_ (thn (ha pins s σ H _ I h) fun v s1 ⟨x,H1,I1,r1,q1⟩ => ?_)
 obtain ⟨c,rfl,q1⟩:=q1
 cases r1
 exact not_of (wpAny_truthy_bool ⟨.bl (!c),H1,I1,rfl,q1⟩)
end
end L2
namespace L2
open PySem PySem.Spec PyProof.Rows
def SqL (K:PySem.W.Frag) (H:Hp) (a:Addr) (xs:List V):Prop :=
 Rd H a (.lst xs) ∨
  ∃ (o:Obj) (its:Array Value) (n:Nat),K.lookup a=some o∧o.cls = .type "list"∧o.dict=none∧o.data = .seq its n∧its.size≤sizeLine∧Vals xs its.toList
def SqT (K:PySem.W.Frag) (H:Hp) (a:Addr) (xs:List V):Prop :=
 Rd H a (.tup xs) ∨
  ∃ (o:Obj) (its:Array Value) (n:Nat),K.lookup a=some o∧o.cls = .type "tuple"∧o.data = .seq its n∧its.size≤sizeLine∧Vals xs its.toList
def oz:Value→Option V
 | .none=>some .non
 | .bool b=>some (.bl b)
 | .int i _=>some (.int i)
 | .str x _=>some (.str x)
 | .bytes b _=>some (.byt b)
 | .float b _=>some (.flt b)
 | .ref a=>some (.ref a)
 | .type n=>some (.ty n)
 | _=>none
theorem RelV.abs {x:V} {u:Value} (r:RelV x u):oz u=some x:=by
 cases x with
 | non=>cases r; rfl
 | bl _=>cases r; rfl
 | int _=>obtain ⟨t,rfl⟩:=r; rfl
 | str _=>obtain ⟨t,rfl⟩:=r; rfl
 | byt _=>obtain ⟨t,rfl⟩:=r; rfl
 | flt _=>obtain ⟨t,rfl⟩:=r; rfl
 | ref _=>cases r; rfl
 | ty _=>cases r; rfl
theorem RelV.inj {x y:V} {u:Value} (r:RelV x u) (q:RelV y u):x=y:=Option.some.inj (r.abs.symm.trans q.abs)
theorem Vals.inj : ∀ {xs ys:List V} {us:List Value},Vals xs us→Vals ys us→xs=ys
 | _,_,_,.nil,.nil=>rfl
 | _,_,_,.cons r t,.cons r' t'=>by rw [r.inj r',Vals.inj t t']
section
variable {X:Cx} {pins:List (Addr×Obj)} {σ:St} {H:Hp} {s:Shared} {a:Addr} {xs ys:List V}
theorem SqL.of {K:PySem.W.Frag} (h:H a=some (.lst xs)):SqL K H a xs := .inl (.inl h)
theorem SqT.of {K:PySem.W.Frag} (h:H a=some (.tup xs)):SqT K H a xs := .inl (.inl h)
theorem Inv.list (I:Inv X pins σ H s) (h:SqL X.K H a xs) : ∃ its:List Value,Vals xs its∧PlainL s.heap a its.toArray∧xs.length≤sizeLine:=by
 rcases h with h | ⟨o,its,n,hk,hc,hd,hs,hz,r⟩
 ·obtain ⟨z,its,n,r,e⟩:=h.ok I.hok
  exact ⟨its,r,⟨_,n,e,rfl,rfl,rfl⟩,z⟩
 ·refine ⟨its.toList,r,⟨o,n,I.kIn a o hk,hc,hd,by simpa using hs⟩,?_⟩
  have e:=r.length
  simp only [Array.length_toList] at e
  omega
theorem Inv.tuple (I:Inv X pins σ H s) (h:SqT X.K H a xs) : ∃ its:List Value,Vals xs its∧IsTup s.heap a its.toArray∧xs.length≤sizeLine:=by
 rcases h with h | ⟨o,its,n,hk,hc,hs,hz,r⟩
 ·obtain ⟨z,its,r,p⟩:=h.ok I.hok
  exact ⟨its,r,p,z⟩
 ·refine ⟨its.toList,r,⟨o,I.kIn a o hk,hc,n,by simpa using hs⟩,?_⟩
  have e:=r.length
  simp only [Array.length_toList] at e
  omega
theorem Inv.list_inj (I:Inv X pins σ H s) (h:SqL X.K H a xs) (h':SqL X.K H a ys):xs=ys:=by
 obtain ⟨its,r,⟨o,n,e,_,_,d⟩,_⟩:=I.list h
 obtain ⟨its',r',⟨o',n',e',_,_,d'⟩,_⟩:=I.list h'
 rw [e] at e'; cases e'
 rw [d] at d'
 injection d' with d1 _
 have:its=its':=by simpa using congrArg Array.toList d1
 subst this
 exact r.inj r'
theorem Inv.tuple_inj (I:Inv X pins σ H s) (h:SqT X.K H a xs) (h':SqT X.K H a ys):xs=ys:=by
 obtain ⟨its,r,⟨o,e,_,n,d⟩,_⟩:=I.tuple h
 obtain ⟨its',r',⟨o',e',_,n',d'⟩,_⟩:=I.tuple h'
 rw [e] at e'; cases e'
 rw [d] at d'
 injection d' with d1 _
 have:its=its':=by simpa using congrArg Array.toList d1
 subst this
 exact r.inj r'
end
abbrev Cx.wish (X:Cx) (E:Value→Shared→Prop):Cx:={ X with xe:=E }
abbrev Cx.nox (X:Cx):Cx:=X.wish fun _ _=>False
theorem Cx.Ok.wish {X:Cx} (ok:X.Ok) (E:Value→Shared→Prop):(X.wish E).Ok :=
 ⟨ok.mod,ok.kind,ok.glob,ok.blt,ok.above,ok.inj,ok.has,ok.cab,ok.hd,ok.frames,ok.stk,ok.exf,ok.bs,ok.bsz,ok.noex,ok.exfs,ok.funs,ok.frf⟩
theorem Cx.Ok.unwish {X:Cx} {E:Value→Shared→Prop} (ok:(X.wish E).Ok):X.Ok :=
 ⟨ok.mod,ok.kind,ok.glob,ok.blt,ok.above,ok.inj,ok.has,ok.cab,ok.hd,ok.frames,ok.stk,ok.exf,ok.bs,ok.bsz,ok.noex,ok.exfs,ok.funs,ok.frf⟩
section
variable {X:Cx} {pins:List (Addr×Obj)} {σ:St} {H:Hp} {s:Shared} {E:Value→Shared→Prop}
theorem Inv.wish (I:Inv X pins σ H s) (E:Value→Shared→Prop):Inv (X.wish E) pins σ H s:=⟨I.ok.wish E,I.os,I.bare,I.base,I.loc,I.cell,I.free,I.freeC,I.pin,I.hok,I.len⟩
theorem Inv.unwish (I:Inv (X.wish E) pins σ H s):Inv X pins σ H s:=⟨I.ok.unwish,I.os,I.bare,I.base,I.loc,I.cell,I.free,I.freeC,I.pin,I.hok,I.len⟩
theorem SP.unwish {D:iA} {f:Flow} {s':Shared} (h:SP (X.wish E) pins D f s'):SP X pins D f s':=by
 cases f with
 | next=>obtain ⟨σ',H',I,q⟩:=h; exact ⟨σ',H',I.unwish,q⟩
 | brk=>obtain ⟨σ',H',I,q⟩:=h; exact ⟨σ',H',I.unwish,q⟩
 | cont=>obtain ⟨σ',H',I,q⟩:=h; exact ⟨σ',H',I.unwish,q⟩
 | ret u=>obtain ⟨v,σ',H',I,r,q⟩:=h; exact ⟨v,σ',H',I.unwish,r,q⟩
theorem PSs.nox {st:List Stmt} {t:TS} (h:PSs X.nox st t):PSs X st t:=fun pins s σ H D I hw =>
 wpAny_mono (h pins s σ H D (I.wish _) hw) (fun _ _ q=>q.unwish) fun _ _ z=>False.elim z
end
section
variable {X:Cx} {st:Stmt} {rest:List Stmt} {t u:TS} {e:Expr} {te:TE} {pos:Pos}
def mU:TS:=fun D σ H=>D.nx σ H
def lY (t u:TS):TS:=fun D σ H=>t { D with nx:=u D } σ H
theorem bo:PSs X [] mU:=fun _ _ σ H _ I h=>wpAny_execs_nil ⟨σ,H,I,h⟩
theorem ai (h1:PS X st t) (h2:PSs X rest u):PSs X (st::rest) (lY t u):=by
 intro pins s σ H D I h
 refine wpAny_execs_cons (thn (h1 pins s σ H { D with nx:=u D } I h) fun f s1 q => ?_)
 cases f with
 | next =>
  obtain ⟨σ',H',I',q⟩:=q
  exact h2 pins s1 σ' H' D I' q
 | ret v=>exact q
 | brk=>exact q
 | cont=>exact q
theorem aq (h1:PS X st t):PSs X [st] t:=by
 intro pins s σ H D I h
 refine wpAny_execs_cons (thn (h1 pins s σ H D I h) fun f s1 q => ?_)
 cases f with
 | next=>exact wpAny_execs_nil q
 | ret v=>exact q
 | brk=>exact q
 | cont=>exact q
theorem Inv.quiet {pins:List (Addr×Obj)} {σ:St} {H:Hp} {s:Shared} (I:Inv X pins σ H s):interactive X.env=false:=by simp [interactive,I.ok.kind]
def mX (te:TE):TS:=fun D σ H=>te σ H fun _ H1=>D.nx σ H1
theorem fw (he:PE X e te) (hs:swapsWith e none pos.line X.env=pure false:=by rfl):PS X (.Expr e pos) (mX te):=by
 intro pins s σ H D I h
 exact wpAny_Expr_any (thn (he pins s σ H _ I h) fun v s1 ⟨x,H1,I1,r1,q1⟩=>⟨σ,H1,I1,q1⟩) I.quiet hs
def nO (te:TE):TS:=fun D σ H=>te σ H D.rt
theorem aM (he:PE X e te):PS X (.Return (some e) pos) (nO te):=by
 intro pins s σ H D I h
 exact wpAny_Return_some (thn (he pins s σ H _ I h) fun v s1 ⟨x,H1,I1,r1,q1⟩=>⟨x,σ,H1,I1,r1,q1⟩)
def nU (c:TT) (t u:TS):TS:=fun D σ H=>c σ H fun b H1=>if b=true then t D σ H1 else u D σ H1
theorem dh {c:Expr} {a b:List Stmt} {tc:TT} (hc:PT X c tc) (ha:PSs X a t) (hb:PSs X b u):PS X (.If c a b pos) (nU tc t u):=by
 intro pins s σ H D I h
 refine wpAny_If (thn (hc pins s σ H _ I h) fun d s1 ⟨H1,I1,q1⟩ => ?_)
 cases d with
 | true=>exact ha pins s1 σ H1 D I1 q1
 | false=>exact hb pins s1 σ H1 D I1 q1
end
abbrev TG:=V→St→Hp→(St→Hp→Prop)→Prop
abbrev TGs:=List V→St→Hp→(St→Hp→Prop)→Prop
def PG (X:Cx) (target:Expr) (t:TG):Prop :=
 ∀ (pins:List (Addr×Obj)) (s:Shared) (σ:St) (H:Hp) (v:V) (u:Value) (Q:St→Hp→Prop),Inv X pins σ H s→RelV v u→t v σ H Q →
  wpAny (model X.prog X.w) X.A (assign target X.env u) (fun _ s' => ∃ σ' H',Inv X pins σ' H' s'∧Q σ' H') X.xe s
def PGs (X:Cx) (ts:List Expr) (t:TGs):Prop :=
 ∀ (pins:List (Addr×Obj)) (s:Shared) (σ:St) (H:Hp) (vs:List V) (us:List Value) (Q:St→Hp→Prop),Inv X pins σ H s→Vals vs us→t vs σ H Q →
  wpAny (model X.prog X.w) X.A (assignInOrder ((assignEach ts X.env).map (·.2)) us) (fun _ s' => ∃ σ' H',Inv X pins σ' H' s'∧Q σ' H') X.xe s
abbrev mI:=V→V→V→Hp→(Hp→Prop)→Prop
def mK (X:Cx) (t:mI):Prop :=
 ∀ (pins:List (Addr×Obj)) (s:Shared) (σ:St) (H:Hp) (o i v:V) (ov iv u:Value) (Q:Hp→Prop),Inv X pins σ H s→RelV o ov→RelV i iv→RelV v u→t o i v H Q →
  wpAny (model X.prog X.w) X.A (setItem ov iv u) (fun _ s' => ∃ H',Inv X pins σ H' s'∧Q H') X.xe s
section
variable {X:Cx} {pos:Pos}
def gu (i:Nat):TG:=fun v σ H Q=>Q (σ.set i (some v)) H
theorem aw {i:Nat} {x:Str} (hN:X.N.Nodup) (hi:X.N[i]?=some x) (hx:Loc X.env.scope x) (hf:X.fn x=true∨X.env.scope.names.lookup x=some .local:=by first | exact .inl rfl | exact .inr rfl | assumption):PG X (.Name x pos) (gu i):=by
 intro pins s σ H v u Q I r h
 exact wpAny_assign_Name (fV I hN hi hx r (fun s' I'=>⟨_,H,I',h⟩) hf)
def nv:TGs:=fun vs σ H Q=>vs=[]∧Q σ H
def lP (t:TG) (u:TGs):TGs:=fun vs σ H Q => ∃ v r,vs=v::r∧t v σ H fun σ' H'=>u r σ' H' Q
theorem cE:PGs X [] nv:=by
 intro pins s σ H vs us Q I r h
 obtain ⟨e,h⟩:=h
 subst e
 cases r
 exact assignInOrder_nil ⟨σ,H,I,h⟩
theorem aO {e:Expr} {es:List Expr} {t:TG} {u:TGs} (h1:PG X e t) (h2:PGs X es u)
  (hs:(assignEach (e::es) X.env).map (·.2)=assign e X.env::(assignEach es X.env).map (·.2):=by rfl):PGs X (e::es) (lP t u):=by
 intro pins s σ H vs us Q I r h
 obtain ⟨v,vr,e1,h⟩:=h
 subst e1
 cases r with
 | cons r rr =>
  rw [hs]
  refine assignInOrder_cons (thn (h1 pins s σ H _ _ _ I r h) fun _ s1 ⟨σ1,H1,I1,q1⟩ => ?_)
  exact h2 pins s1 σ1 H1 _ _ Q I1 rr q1
def nu (K:PySem.W.Frag) (n:Nat) (t:TGs):TG:=fun v σ H Q => ∃ a xs,v = .ref a∧SqT K H a xs∧xs.length=n∧t xs σ H Q
theorem dM {es:List Expr} {k:Nat} {t:TGs} {n:Nat} (hc:X.calm=true) (h:PGs X es t)
  (hn:(assignEach es X.env).length=n:=by rfl) (hst:(assignEach es X.env).findIdx? (·.1)=none:=by rfl):PG X (.Tuple es k pos) (nu X.K n t):=by
 intro pins s σ H v u Q I r hw
 obtain ⟨a,xs,e1,hq,hl,hw⟩:=hw
 subst e1
 cases r
 obtain ⟨its,rv,ht,hz⟩:=I.tuple hq
 refine assign_Tuple_tuple (I.ok.hd hc) ht (by simp [hn,← hl,rv.length]) hst fun h' hx => ?_
 have I1:Inv X pins σ H { s with heap:=h' }:=I.kept (t':=s.toks) fun b o e=>hx b o (Nat.ne_of_lt (Heap.lt_size e)) e
 exact h pins _ σ H xs _ Q I1 (by simpa using rv) hw
def ow (to ti:TE) (t:mI):TG:=fun v σ H Q=>to σ H fun o H1=>ti σ H1 fun i H2=>t o i v H2 fun H3=>Q σ H3
theorem gZ {o i:Expr} {to ti:TE} {t:mI} (ho:PE X o to) (hi:PE X i ti) (hs:mK X t)
  (ha : ∀ v,assign (.Subscript o i pos) X.env v=(do
   let ov ← holding [v] (eval o X.env)
   let iv ← holding [v,ov] (eval i X.env)
   standAt pos
   holding [v,ov,iv] (setItem ov iv v)
   release [v,ov,iv] []):=by intro _; rfl):PG X (.Subscript o i pos) (ow to ti t):=by
 intro pins s σ H v u Q I r h
 rw [ha]
 refine wpAny_bind (wpAny_holding (thn (ho pins s σ H _ I h) fun ov s1 ⟨x,H1,I1,r1,q1⟩ => ?_))
 refine wpAny_bind (wpAny_holding (thn (hi pins s1 σ H1 _ I1 q1) fun iv s2 ⟨y,H2,I2,r2,q2⟩ => ?_))
 refine wpAny_bind (wpAny_standAt (wpAny_bind (wpAny_holding (thn (hs pins s2 σ H2 x y v ov iv u _ I2 r1 r2 r q2) fun _ s3 ⟨H3,I3,q3⟩ => ?_))))
 exact wpAny_release ⟨σ,H3,I3,q3⟩
def l3 (te:TE) (g:TG):TS:=fun D σ H=>te σ H fun x H1=>g x σ H1 D.nx
theorem gY {tg e:Expr} {te:TE} {g:TG} (he:PE X e te) (hg:PG X tg g) (hs:swapsWithSole [tg] e pos.line X.env=pure false:=by rfl) (hw:swappedStores [tg] e X.env=pure none:=by rfl)
  (h1:(assignEach [tg] X.env).map (·.2)=[assign tg X.env]:=by rfl):PS X (.Assign [tg] e pos) (l3 te g):=by
 intro pins s σ H D I h
 refine wpAny_Assign_stores (thn (he pins s σ H _ I h) fun v s1 ⟨x,H1,I1,r1,q1⟩ => ?_) hs hw
 rw [h1]
 exact thn (hg pins s1 σ H1 x v _ I1 r1 q1) fun _ s2 q=>q
theorem aD {i:Nat} {x:Str} {e:Expr} {te:TE} {pos':Pos} (hN:X.N.Nodup) (hi:X.N[i]?=some x) (hx:Loc X.env.scope x) (he:PE X e te) (hs:swapsWith e (some (.Name x pos')) pos.line X.env=pure false:=by rfl) (hf:X.fn x=true∨X.env.scope.names.lookup x=some .local:=by first | exact .inl rfl | exact .inr rfl | assumption) :
  PS X (.Assign [.Name x pos'] e pos) (l3 te (gu i)):=by
 intro pins s σ H D I h
 refine wpAny_Assign_Name (thn (he pins s σ H _ I h) fun v s1 ⟨y,H1,I1,r1,q1⟩ => ?_) hs
 exact fV I1 hN hi hx r1 (fun s2 I2=>⟨_,H1,I2,q1⟩) hf
end
section
variable {X:Cx} {pos:Pos}
end
structure It where
 go:Nat→Hp→Prop
 yld:Nat→Hp→V→Hp→Prop
 stop:Nat→Hp→Prop
def eG (X:Cx) (pins:List (Addr×Obj)) (H:Hp) (b:Addr):Prop :=
 H b=none∧b≠X.env.locals∧b∉X.fs∧(b∈X.ex∨X.s₀.heap.objs.size≤b)∧(∀ x c,X.env.cells.lookup x=some c→c≠b) ∧ ∀ p∈X.pn++pins,p.1≠b
theorem Inv.fpOk {X:Cx} {pins:List (Addr×Obj)} {σ:St} {H H':Hp} {s:Shared} {b:Addr} (I:Inv X pins σ H s) (hb:s.heap.objs.size≤b) (hn:H' b=none):eG X pins H' b:=by
 refine ⟨hn,Nat.ne_of_gt (Nat.lt_of_lt_of_le I.lt hb),I.nofs hb,.inr (Nat.le_trans I.sz hb),fun x c e z => ?_,fun p hp z => ?_⟩
 ·obtain ⟨v,q⟩:=I.cell x c e
  exact absurd (Nat.lt_of_lt_of_le q.lt (by rw [z]; exact hb)) (Nat.lt_irrefl _)
 ·exact absurd (Nat.lt_of_lt_of_le (Heap.lt_size (I.pin p hp).1) (by rw [z]; exact hb)) (Nat.lt_irrefl _)
structure kE (P:Program) (w:World) (K:PySem.W.Frag) (tg:Expr) (J:It) (fp:List Addr) (it:Addr) (tn:Nat→Heap→Prop):Prop where
 mem:it∈fp
 obj : ∀ i h,tn i h → ∀ b∈fp,∃ o,h.get? b=some o ∧ ∀ v,o.data ≠ .cell v
 keep : ∀ i h h',tn i h→(∀ b∈fp,∀ o,h.get? b=some o→h'.get? b=some o)→tn i h'
 item : ∀ (X:Cx),X.prog=P→X.w=w→X.K=K→X.calm=true → ∀ (i:Nat) (pins:List (Addr×Obj)) (s:Shared) (σ:St) (H:Hp) (E:Value→Shared→Prop),Inv X pins σ H s→(∀ b∈fp,eG X pins H b)→tn i s.heap→J.go i H →
  wpAny (model P w) X.A (pyNext (.ref it)) (fun r s1 => ∃ u,r=some u ∧
   wpAny (model P w) X.A (letOwnedTupleGo tg (.ref it) u) (fun _ s2 => ∃ x H',Inv X pins σ H' s2∧RelV x u∧J.yld i H x H'∧tn (i+1) s2.heap ∧ ∀ b∈fp,H' b=none) E s1) E s
 done : ∀ (X:Cx),X.prog=P→X.w=w→X.K=K→X.calm=true → ∀ (i:Nat) (pins:List (Addr×Obj)) (s:Shared) (σ:St) (H:Hp) (E:Value→Shared→Prop),Inv X pins σ H s→(∀ b∈fp,eG X pins H b)→tn i s.heap→J.stop i H →
  wpAny (model P w) X.A (pyNext (.ref it)) (fun r s1=>r=none∧Inv X pins σ H s1) E s
 self : ∀ (A:Around) (i:Nat) (s:Shared) (Q:Value→Shared→Prop) (E:Value→Shared→Prop),tn i s.heap→Q (.ref it) s→wpAny (model P w) A (pyIter (.ref it)) Q E s
abbrev TI:=St→Hp→(It→Hp→Prop)→Prop
def PIE (X:Cx) (pins:List (Addr×Obj)) (σ:St) (tg:Expr) (R:It→Hp→Prop) (itv:Value) (s2:Shared):Prop :=
 ∃ (it:Addr) (fp:List Addr) (tn:Nat→Heap→Prop) (J:It) (H':Hp),itv = .ref it∧Inv X pins σ H' s2∧kE X.prog X.w X.K tg J fp it tn∧tn 0 s2.heap∧(∀ b∈fp,eG X pins H' b)∧R J H'
def PI (X:Cx) (tg iter:Expr) (wi:TI):Prop :=
 ∀ (pins:List (Addr×Obj)) (s:Shared) (σ:St) (H:Hp) (R:It→Hp→Prop),Inv X pins σ H s→wi σ H R →
  wpAny (model X.prog X.w) X.A (eval iter X.env) (fun v s1=>wpAny (model X.prog X.w) X.A (pyIter v) (PIE X pins σ tg R) X.xe s1) X.xe s
theorem kr {M:Model} {A:Around} {E:Value→Shared→Prop} {s:Shared} {tg:Expr} {it:Addr} {u:Value} {o:Obj} {n:String} {vs:Array Value} {Q:Unit→Shared→Prop} (ho:s.heap.get? it=some o) (hc:o.cls = .type n) (hd:o.data = .fields vs)
  (hn:["enumerate", "zip", "dict_itemiterator", "dict_reverseitemiterator", "odict_iterator", "itertools.zip_longest", "itertools.pairwise"].contains n=false) (hQ:Q () s):wpAny M A (letOwnedTupleGo tg (.ref it) u) Q E s:=by
 unfold letOwnedTupleGo
 cases tg <;> first
  | exact wpAny_pure hQ
  | (cases u <;> first
    | exact wpAny_pure hQ
    | (refine wpAny_bind (wpAny_load ho ?_)
       rw [hc,hd]
       show wpAny M A (if (["enumerate", "zip", "dict_itemiterator", "dict_reverseitemiterator", "odict_iterator", "itertools.zip_longest", "itertools.pairwise"].contains n && vs[0]? == some (rawInt _))=true then _ else _) Q E s
       rw [if_neg (by intro h; rw [hn,Bool.false_and] at h; cases h)]
       exact wpAny_pure hQ))
def Itl (K:PySem.W.Frag) (a:Addr):It :=
 ⟨fun i H => ∃ xs x,SqL K H a xs∧xs[i]?=some x,fun i H x H'=>H'=H ∧ ∀ xs,SqL K H a xs→xs[i]?=some x,fun i H => ∃ xs,SqL K H a xs∧xs.length≤i⟩
def Itt (K:PySem.W.Frag) (a:Addr):It :=
 ⟨fun i H => ∃ xs x,SqT K H a xs∧xs[i]?=some x,fun i H x H'=>H'=H ∧ ∀ xs,SqT K H a xs→xs[i]?=some x,fun i H => ∃ xs,SqT K H a xs∧xs.length≤i⟩
def Itr (lo:Int) (n:Nat):It:=⟨fun i _=>i < n,fun i H x H'=>H'=H∧x = .int (lo+i),fun i _=>n≤i⟩
theorem i7 {P:Program} {w:World} {K:PySem.W.Frag} {tg:Expr} (a it:Addr):kE P w K tg (Itl K a) [it] it (fun i h=>h.IsListIter it a i) where
 mem:=by simp
 obj:=fun i h st b hb=>by
  have e:b=it:=by simpa using hb
  subst e
  obtain ⟨o,e,c,d⟩:=st
  exact ⟨o,e,fun v z=>by rw [d] at z; cases z⟩
 keep:=fun i h h' st k=>st.at fun o e=>k it (by simp) o e
 item:=by
  intro X hP hw hK hc i pins s σ H E I hf st hg
  subst hP hw hK
  obtain ⟨xs,x,hq,hx⟩:=hg
  obtain ⟨its,rv,p,hz⟩:=I.list hq
  obtain ⟨u,hu,ru⟩:=rv.get hx
  obtain ⟨f0,f1,f2,f3,f4,f5⟩:=hf it (by simp)
  refine wpAny_pyNext_list_item st p.isList (x:=u) (by simpa using hu) fun h' st' sb => ?_
  have I1:Inv X pins σ H { s with heap:=h' }:=I.turned (t':=s.toks) (fun b o hb e=>(sb.2 b hb).trans e) f0 f1 f3 f4 f5
  obtain ⟨o,e,c,d⟩:=id st'
  exact ⟨u,rfl,kr (s:={ s with heap:=h' }) e c d (by decide) ⟨x,H,I1,ru,⟨rfl,fun ys hy=>by rw [I.list_inj hy hq]; exact hx⟩,st',fun b hb=>(hf b hb).1⟩⟩
 done:=by
  intro X hP hw hK hc i pins s σ H E I hf st hg
  subst hP hw hK
  obtain ⟨xs,hq,hx⟩:=hg
  obtain ⟨its,rv,p,hz⟩:=I.list hq
  obtain ⟨f0,f1,f2,f3,f4,f5⟩:=hf it (by simp)
  have hl:=rv.length
  exact wpAny_pyNext_list_end (I.ok.hd hc) st p.isList (by simp; omega) fun h' eb=>⟨rfl,I.turned (t':=s.toks) (fun b o hb e=>eb b o hb e) f0 f1 f3 f4 f5⟩
 self:=fun _ _ _ _ _ st h=>wpAny_pyIter_listiter st h
theorem gP {P:Program} {w:World} {K:PySem.W.Frag} {tg:Expr} (a it:Addr):kE P w K tg (Itt K a) [it] it (fun i h=>h.IsTupleIter it a i) where
 mem:=by simp
 obj:=fun i h st b hb=>by
  have e:b=it:=by simpa using hb
  subst e
  obtain ⟨o,e,c,d⟩:=st
  exact ⟨o,e,fun v z=>by rw [d] at z; cases z⟩
 keep:=fun i h h' st k=>st.at fun o e=>k it (by simp) o e
 item:=by
  intro X hP hw hK hc i pins s σ H E I hf st hg
  subst hP hw hK
  obtain ⟨xs,x,hq,hx⟩:=hg
  obtain ⟨its,rv,p,hz⟩:=I.tuple hq
  obtain ⟨u,hu,ru⟩:=rv.get hx
  obtain ⟨f0,f1,f2,f3,f4,f5⟩:=hf it (by simp)
  refine wpAny_pyNext_tuple_item st (show s.heap.IsTuple a its.toArray from p) (x:=u) (by simpa using hu) fun h' st' sb => ?_
  have I1:Inv X pins σ H { s with heap:=h' }:=I.turned (t':=s.toks) (fun b o hb e=>(sb.2 b hb).trans e) f0 f1 f3 f4 f5
  obtain ⟨o,e,c,d⟩:=id st'
  exact ⟨u,rfl,kr (s:={ s with heap:=h' }) e c d (by decide) ⟨x,H,I1,ru,⟨rfl,fun ys hy=>by rw [I.tuple_inj hy hq]; exact hx⟩,st',fun b hb=>(hf b hb).1⟩⟩
 done:=by
  intro X hP hw hK hc i pins s σ H E I hf st hg
  subst hP hw hK
  obtain ⟨xs,hq,hx⟩:=hg
  obtain ⟨its,rv,p,hz⟩:=I.tuple hq
  obtain ⟨f0,f1,f2,f3,f4,f5⟩:=hf it (by simp)
  have hl:=rv.length
  exact wpAny_pyNext_tuple_end (I.ok.hd hc) st (show s.heap.IsTuple a its.toArray from p) (by simp; omega) fun h' eb=>⟨rfl,I.turned (t':=s.toks) (fun b o hb e=>eb b o hb e) f0 f1 f3 f4 f5⟩
 self:=fun _ _ _ _ _ st h=>wpAny_pyIter_tupleiter st h
theorem gQ {P:Program} {w:World} {K:PySem.W.Frag} {tg:Expr} (it:Addr) (lo:Int) (n:Nat):kE P w K tg (Itr lo n) [it] it (fun i h=>IsRangeIter h it (lo+(i:Nat) * 1) ((n:Int) - (i:Nat)) 1) where
 mem:=by simp
 obj:=fun i h st b hb=>by
  have e:b=it:=by simpa using hb
  subst e
  exact ⟨_,st,fun v z=>by
   have z':Data.fields _=Data.cell v:=z
   cases z'⟩
 keep:=fun i h h' st k=>k it (by simp) _ st
 item:=by
  intro X hP hw hK hc i pins s σ H E I hf st hg
  subst hP hw hK
  obtain ⟨f0,f1,f2,f3,f4,f5⟩:=hf it (by simp)
  have W:=Walks.range (prog:=X.prog) (w:=X.w) (I.ok.hd hc) it lo 1 n
  refine W.item i s _ _ hg st fun v h' tk hv st' kk => ?_
  obtain ⟨t,rfl⟩:=hv
  have I1:Inv X pins σ H { s with heap:=h',toks:=tk }:=I.turned (fun b o hb e=>kk b o (by simpa using hb) e) f0 f1 f3 f4 f5
  refine ⟨_,rfl,kr (s:={ s with heap:=h',toks:=tk }) (n:="range_iterator") st' rfl rfl (by decide) ⟨.int (lo+i),H,I1,⟨t,?_⟩,⟨rfl,rfl⟩,st',fun b hb=>(hf b hb).1⟩⟩
  rw [Int.mul_one]
 done:=by
  intro X hP hw hK hc i pins s σ H E I hf st hg
  subst hP hw hK
  obtain ⟨f0,f1,f2,f3,f4,f5⟩:=hf it (by simp)
  exact wpAny_pyNext_range_end (I.ok.hd hc) st (by have:n≤i:=hg; omega) fun h' eb=>⟨rfl,I.turned (t':=s.toks) (fun b o hb e=>eb b o hb e) f0 f1 f3 f4 f5⟩
 self:=fun _ _ _ _ _ st h=>wpAny_pyIter_rangeiter st h
end L2
namespace L2
open PySem PySem.Spec PyProof.Rows
section
variable {X:Cx} {tg:Expr}
def nt (K:PySem.W.Frag) (tl:TE):TI:=fun σ H R=>tl σ H fun x H1 => ∃ a,x = .ref a∧(∃ xs,SqL K H1 a xs)∧R (Itl K a) H1
def ou (K:PySem.W.Frag) (tl:TE):TI:=fun σ H R=>tl σ H fun x H1 => ∃ a,x = .ref a∧(∃ xs,SqT K H1 a xs)∧R (Itt K a) H1
theorem bC {l:Expr} {tl:TE} (hl:PE X l tl):PI X tg l (nt X.K tl):=by
 intro pins s σ H R I h
 refine thn (hl pins s σ H _ I h) fun v s1 ⟨x,H1,I1,r1,q1⟩ => ?_
 obtain ⟨a,e,⟨xs,hq⟩,q⟩:=q1
 subst e
 cases r1
 obtain ⟨its,rv,p,hz⟩:=I1.list hq
 refine wpAny_pyIter_list p.isList ?_
 refine ⟨s1.heap.objs.size,[s1.heap.objs.size],_,_,H1,rfl,I1.kept (t':=s1.toks) fun b o e=>Heap.get?_push_of_some _ e,i7 a _,⟨_,Heap.get?_push_size _ rfl,rfl,rfl⟩,fun b hb => ?_,q⟩
 have e:b=s1.heap.objs.size:=by simpa using hb
 subst e
 exact I1.fpOk (Nat.le_refl _) (I1.hok.fresh (Nat.le_refl _))
theorem jQ {l:Expr} {tl:TE} (hl:PE X l tl):PI X tg l (ou X.K tl):=by
 intro pins s σ H R I h
 refine thn (hl pins s σ H _ I h) fun v s1 ⟨x,H1,I1,r1,q1⟩ => ?_
 obtain ⟨a,e,⟨xs,hq⟩,q⟩:=q1
 subst e
 cases r1
 obtain ⟨its,rv,p,hz⟩:=I1.tuple hq
 refine wpAny_pyIter_tuple (show s1.heap.IsTuple a its.toArray from p) ?_
 refine ⟨s1.heap.objs.size,[s1.heap.objs.size],_,_,H1,rfl,I1.kept (t':=s1.toks) fun b o e=>Heap.get?_push_of_some _ e,gP a _,⟨_,Heap.get?_push_size _ rfl,rfl,rfl⟩,fun b hb => ?_,q⟩
 have e:b=s1.heap.objs.size:=by simpa using hb
 subst e
 exact I1.fpOk (Nat.le_refl _) (I1.hok.fresh (Nat.le_refl _))
theorem jK {pins:List (Addr×Obj)} {σ:St} {H:Hp} {s:Shared} {R:It→Hp→Prop} {E:Value→Shared→Prop} {lo hi:Int} {t u v:Tok} {tk:Nat} (I:Inv X pins σ H s) (h1 : -(2 ^ 62)≤lo) (h2:lo < 2 ^ 62) (h3 : -(2 ^ 62)≤hi) (h4:hi < 2 ^ 62)
  (q:R (Itr lo (hi - lo).toNat) H):wpAny (model X.prog X.w) X.A (pyIter (.ref s.heap.objs.size)) (PIE X pins σ tg R) E { s with heap:=s.heap.push { cls := .type "range",data := .fields #[.int lo t,.int hi u,.int 1 v] },toks:=tk }:=by
 refine wpAny_pyIter_range (IsRange.new ..) (small_one h1 h2 h3 h4) ?_
 have I1:Inv X pins σ H { s with heap:=s.heap.push { cls := .type "range",data := .fields #[.int lo t,.int hi u,.int 1 v] },toks:=tk }:=I.kept fun b o e=>Heap.get?_push_of_some _ e
 refine ⟨(s.heap.push { cls := .type "range",data := .fields #[.int lo t,.int hi u,.int 1 v] }).objs.size,[(s.heap.push { cls := .type "range",data := .fields #[.int lo t,.int hi u,.int 1 v] }).objs.size],_,_,H,rfl,
  I1.kept (t':=tk) fun b o e=>Heap.get?_push_of_some _ e,gQ _ lo (hi - lo).toNat,?_,fun b hb => ?_,q⟩
 ·have e1:lo+((0:Nat):Int) * 1=lo:=by simp
  have e2:(((hi - lo).toNat:Nat):Int) - ((0:Nat):Int)=Builtin.Range.rangeSize lo hi 1:=by rw [rangeSize_one]; split <;> omega
  show IsRangeIter _ _ (lo+((0:Nat):Int) * 1) ((((hi - lo).toNat:Nat):Int) - ((0:Nat):Int)) 1
  rw [e1,e2]
  exact Heap.get?_push_size _ rfl
 ·have e:b=(s.heap.push { cls := .type "range",data := .fields #[.int lo t,.int hi u,.int 1 v] }).objs.size:=by simpa using hb
  subst e
  exact I1.fpOk (Nat.le_refl _) (I1.hok.fresh (Nat.le_refl _))
def nr (ta:TA):TI:=fun σ H R=>ta σ H fun vs H1 => ∃ j:Int,vs=[.int j] ∧ -(2 ^ 62)≤j∧j < 2 ^ 62∧R (Itr 0 j.toNat) H1
theorem c7 {a:Expr} {ta:TA} {p pos:Pos} (hg:Gl X "range") (hm:X.mg "range"=none) (ha:PA X [a] ta) (hs:starEach [a] X.env=[(false,eval a X.env)]:=by rfl):PI X tg (.Call (.Name "range" p) [a] [] pos) (nr ta):=by
 intro pins s σ H R I h
 refine Call_ (fG I hg hm boot_range (PyProof.Rows.callWith_type1 (thn (ha pos pins s σ H _ I h) fun us s1 ⟨vs,H1,I1,r1,q1⟩ => ?_) hs rfl))
 obtain ⟨j,e,q1,q2,q⟩:=q1
 subst e
 cases r1 with
 | cons r rr =>
  cases rr
  obtain ⟨t,rfl⟩:=r
  exact call_range_1 (jK I1 (by omega) (by omega) q1 q2 (by simpa using q))
def nV (wi:TI) (g:TG) (tb:TS):TS:=fun D σ H=>wi σ H fun J H1 => ∃ W:Nat→Nat→St→Hp→Prop,(∃ m,W 0 m σ H1) ∧ ∀ i m σ H,W i m σ H →
 (J.stop i H∧D.nx σ H)∨(J.go i H ∧ ∃ N:St→Hp→Prop,(∀ σ' H',N σ' H' → ∃ m',m' < m∧W (i+1) m' σ' H') ∧ ∀ x H',J.yld i H x H'→g x σ H' fun σ2 H2=>tb { D with nx:=N,ct:=N,bk:=D.nx } σ2 H2)
def be (fp:List Addr) (h:Heap):List (Addr×Obj):=fp.filterMap fun b=>(h.get? b).map fun o=>(b,o)
theorem aS {fp:List Addr} {h:Heap} {b:Addr} {o:Obj} (hb:b∈fp) (e:h.get? b=some o):(b,o)∈be fp h:=List.mem_filterMap.mpr ⟨b,hb,by rw [e]; rfl⟩
theorem bw {fp:List Addr} {h:Heap} {p:Addr×Obj} (hp:p∈be fp h):p.1∈fp∧h.get? p.1=some p.2:=by
 obtain ⟨b,hb,e⟩:=List.mem_filterMap.mp hp
 cases q:h.get? b with
 | none=>rw [q] at e; cases e
 | some o =>
  rw [q] at e
  have e':(b,o)=p:=Option.some.inj e
  subst e'
  exact ⟨hb,q⟩
theorem Inv.pinned {pins:List (Addr×Obj)} {σ:St} {H:Hp} {s:Shared} {fp:List Addr} (I:Inv X pins σ H s) (hf : ∀ b∈fp,eG X pins H b) (ho : ∀ b∈fp,∃ o,s.heap.get? b=some o ∧ ∀ v,o.data ≠ .cell v):Inv X (pins++be fp s.heap) σ H s :=
 I.pins_of fun p hp=>(List.mem_append.mp hp).elim (fun z=>I.pin p (List.mem_append_right _ z)) fun z=>by
  obtain ⟨hb,e⟩:=bw z
  obtain ⟨f0,f1,f2,_⟩:=hf p.1 hb
  obtain ⟨o,e',d⟩:=ho p.1 hb
  rw [e] at e'; cases e'
  exact ⟨e,f0,f1,f2,d⟩
theorem Inv.unpinned {pins pl:List (Addr×Obj)} {σ:St} {H:Hp} {s:Shared} (I:Inv X (pins++pl) σ H s):Inv X pins σ H s:=I.pins_of fun p hp=>I.pin p (List.mem_append_right _ (List.mem_append_left _ hp))
theorem cZ {iter:Expr} {body:List Stmt} {wi:TI} {g:TG} {tb:TS} {pos:Pos} (hp:PassesOwn (model X.prog X.w) X.A X.env X.xe) (hc:X.calm=true) (hi:PI X tg iter wi) (hg:PG X tg g) (hb:PSs X body tb)
  (hs : ∀ x,foldedSetIterable iter X.env x=pure x:=by intro _; rfl):PS X (.For tg iter body [] pos) (nV wi g tb):=by
 intro pins s σ H D I h
 refine wpAny_For (thn (hi pins s σ H _ I h) fun v s1 h1=>thn h1 fun itv s2 h2 => ?_) hs
 obtain ⟨it,fp,tn,J,H2,e,I2,T,st2,f2,W,⟨m0,w0⟩,turn⟩:=h2
 subst e
 have stat : ∀ {H':Hp},(∀ b∈fp,H' b=none) → ∀ b∈fp,eG X pins H' b:=fun hn b hb=>⟨hn b hb,(f2 b hb).2⟩
 refine codeAny_forLoop_any (fun n s' => ∃ i σ' H',Inv X pins σ' H' s'∧tn i s'.heap∧(∀ b∈fp,H' b=none)∧W i n σ' H') ?_ m0 ⟨0,σ,H2,I2,st2,fun b hb=>(f2 b hb).1,w0⟩
 rintro n s3 ⟨i,σ3,H3,I3,st3,fr3,w3⟩
 rcases turn i n σ3 H3 w3 with ⟨stop,qn⟩ | ⟨go,N,hN,step⟩
 ·refine wpAny_passesOwn hp (thn (T.done X rfl rfl rfl hc i pins s3 σ3 H3 X.xe I3 (stat fr3) st3 stop) fun r s4 ⟨hr,I4⟩ => ?_)
  subst hr
  exact wpAny_execs_nil ⟨σ3,H3,I4,qn⟩
 ·refine wpAny_passesOwn hp (thn (T.item X rfl rfl rfl hc i pins s3 σ3 H3 X.xe I3 (stat fr3) st3 go) fun r s4 ⟨u,hr,h4⟩ => ?_)
  subst hr
  refine wpAny_passesOwn hp (thn h4 fun _ s5 ⟨x,H5,I5,r5,y5,st5,fr5⟩ => ?_)
  have I5':=I5.pinned (stat fr5) (T.obj _ _ st5)
  refine wpAny_passesOwn hp (thn (hg _ s5 σ3 H5 x u _ I5' r5 (step x H5 y5)) fun _ s6 ⟨σ6,H6,I6,q6⟩ => ?_)
  refine wpAny_passesOwn hp (thn (hb _ s6 σ6 H6 _ I6 q6) fun f s7 q7 => ?_)
  have again : ∀ {σ7:St} {H7:Hp},Inv X (pins++be fp s5.heap) σ7 H7 s7→N σ7 H7 → ∃ m,m < n ∧ ∃ i σ' H',Inv X pins σ' H' s7∧tn i s7.heap∧(∀ b∈fp,H' b=none)∧W i m σ' H':=fun {σ7 H7} I7 n7=>by
   obtain ⟨m',hm,w7⟩:=hN σ7 H7 n7
   refine ⟨m',hm,i+1,σ7,H7,I7.unpinned,T.keep _ _ _ st5 fun b hb o e=>(I7.pin (b,o) (List.mem_append_right _ (List.mem_append_right _ (aS hb e)))).1,fun b hb => ?_,w7⟩
   obtain ⟨o,e,d⟩:=T.obj _ _ st5 b hb
   exact (I7.pin (b,o) (List.mem_append_right _ (List.mem_append_right _ (aS hb e)))).2.1
  cases f with
  | next=>obtain ⟨σ7,H7,I7,n7⟩:=q7; exact again I7 n7
  | cont=>obtain ⟨σ7,H7,I7,n7⟩:=q7; exact again I7 n7
  | brk=>obtain ⟨σ7,H7,I7,q7⟩:=q7; exact ⟨σ7,H7,I7.unpinned,q7⟩
  | ret v=>obtain ⟨x7,σ7,H7,I7,r7,q7⟩:=q7; exact ⟨x7,σ7,H7,I7.unpinned,r7,q7⟩
end
theorem bS {K:PySem.W.Frag} {a:Addr} {xs:List V} {g:TG} {tb:TS} {D:iA} {σ:St} {H:Hp} (Pv:Nat→St→Hp→Prop) (h0:Pv 0 σ H) (hl : ∀ i σ H,i≤xs.length→Pv i σ H→SqL K H a xs)
  (hs : ∀ i x σ H,xs[i]?=some x→Pv i σ H→g x σ H fun σ2 H2=>tb { D with nx:=Pv (i+1),ct:=Pv (i+1),bk:=D.nx } σ2 H2) (hd : ∀ σ H,Pv xs.length σ H→D.nx σ H) :
  ∃ W:Nat→Nat→St→Hp→Prop,(∃ m,W 0 m σ H) ∧ ∀ i m σ H,W i m σ H →
   ((Itl K a).stop i H∧D.nx σ H)∨((Itl K a).go i H ∧ ∃ N:St→Hp→Prop,(∀ σ' H',N σ' H' → ∃ m',m' < m∧W (i+1) m' σ' H') ∧ ∀ x H',(Itl K a).yld i H x H'→g x σ H' fun σ2 H2=>tb { D with nx:=N,ct:=N,bk:=D.nx } σ2 H2):=by
 refine ⟨fun i m σ H=>m=xs.length - i∧i≤xs.length∧Pv i σ H,⟨xs.length,by simp,Nat.zero_le _,h0⟩,?_⟩
 rintro i m σ H ⟨rfl,hi,p⟩
 have q:=hl i σ H hi p
 by_cases hlt:i < xs.length
 ·refine .inr ⟨⟨xs,xs[i],q,by simp [hlt]⟩,Pv (i+1),fun σ' H' p'=>⟨xs.length - (i+1),by omega,rfl,hlt,p'⟩,fun x H' y => ?_⟩
  obtain ⟨e,y⟩:=y
  subst e
  exact hs i x σ _ (y xs q) p
 ·have e:i=xs.length:=by omega
  subst e
  exact .inl ⟨⟨xs,q,Nat.le_refl _⟩,hd σ H p⟩
theorem ju {lo:Int} {n:Nat} {g:TG} {tb:TS} {D:iA} {σ:St} {H:Hp} (Pv:Nat→St→Hp→Prop) (h0:Pv 0 σ H)
  (hs : ∀ i σ H,i < n→Pv i σ H→g (.int (lo+i)) σ H fun σ2 H2=>tb { D with nx:=Pv (i+1),ct:=Pv (i+1),bk:=D.nx } σ2 H2) (hd : ∀ σ H,Pv n σ H→D.nx σ H) :
  ∃ W:Nat→Nat→St→Hp→Prop,(∃ m,W 0 m σ H) ∧ ∀ i m σ H,W i m σ H →
   ((Itr lo n).stop i H∧D.nx σ H)∨((Itr lo n).go i H ∧ ∃ N:St→Hp→Prop,(∀ σ' H',N σ' H' → ∃ m',m' < m∧W (i+1) m' σ' H') ∧ ∀ x H',(Itr lo n).yld i H x H'→g x σ H' fun σ2 H2=>tb { D with nx:=N,ct:=N,bk:=D.nx } σ2 H2):=by
 refine ⟨fun i m σ H=>m=n - i∧i≤n∧Pv i σ H,⟨n,by simp,Nat.zero_le _,h0⟩,?_⟩
 rintro i m σ H ⟨rfl,hi,p⟩
 by_cases hlt:i < n
 ·refine .inr ⟨hlt,Pv (i+1),fun σ' H' p'=>⟨n - (i+1),by omega,rfl,hlt,p'⟩,fun x H' y => ?_⟩
  obtain ⟨e,y⟩:=y
  subst e y
  exact hs i σ _ hlt p
 ·have e:i=n:=by omega
  subst e
  exact .inl ⟨Nat.le_refl _,hd σ H p⟩
end L2
namespace L2
open PySem PySem.Spec PyProof.Rows
abbrev R2:=V→V→Hp→VK→Prop
def OpR (X:Cx) (f:Value→Value→Sem Value) (r:R2):Prop :=
 ∀ (pins:List (Addr×Obj)) (s:Shared) (σ:St) (H:Hp) (x y:V) (v u:Value) (Q:VK),Inv X pins σ H s→RelV x v→RelV y u→r x y H Q →
  wpAny (model X.prog X.w) X.A (f v u) (EP X pins σ Q) X.xe s
def bY (X:Cx) (f:Value) (r:List V→Hp→VK→Prop):Prop :=
 ∀ (pins:List (Addr×Obj)) (s:Shared) (σ:St) (H:Hp) (xs:List V) (us:List Value) (Q:VK),Inv X pins σ H s→Vals xs us→r xs H Q →
  wpAny (model X.prog X.w) X.A (call f us) (EP X pins σ Q) X.xe s
def tOp (r:R2) (ta tb:TE):TE:=fun σ H Q=>ta σ H fun x H1=>tb σ H1 fun y H2=>r x y H2 Q
def rI (C:Int→Int→Prop) (g:Int→Int→V):R2:=fun x y H Q => ∃ i j,x = .int i∧y = .int j∧C i j∧Q (g i j) H
def rI0 (g:Int→Int→V):R2:=fun x y H Q => ∃ i j,x = .int i∧y = .int j∧Q (g i j) H
section
variable {X:Cx} {a b c:Expr} {ta tb tc:TE} {pos:Pos}
theorem nI (ha:PE X a ta) (hb:PE X b tb) {pins:List (Addr×Obj)} {s:Shared} {σ:St} {H:Hp} {R:V→V→Hp→Prop} (I:Inv X pins σ H s)
  (h:ta σ H fun x H1=>tb σ H1 fun y H2=>R x y H2) {Q:Value→Shared→Prop} {f:Value→Value→Sem Value}
  (hf : ∀ v u s2 x y H2,Inv X pins σ H2 s2→RelV x v→RelV y u→R x y H2→wpAny (model X.prog X.w) X.A (f v u) Q X.xe s2) :
  wpAny (model X.prog X.w) X.A (eval a X.env) (fun v s₁=>wpAny (model X.prog X.w) X.A (eval b X.env) (fun u s₂=>wpAny (model X.prog X.w) X.A (f v u) Q X.xe s₂) X.xe s₁) X.xe s:=by
 refine thn (ha pins s σ H _ I h) fun v s1 ⟨x,H1,I1,r1,q1⟩ => ?_
 refine thn (hb pins s1 σ H1 _ I1 q1) fun u s2 ⟨y,H2,I2,r2,q2⟩ => ?_
 exact hf v u s2 x y H2 I2 r1 r2 q2
theorem ap {op:Operator} {r:R2} (ho:OpR X (binaryOp op) r) (ha:PE X a ta) (hb:PE X b tb):PE X (.BinOp a op b pos) (tOp r ta tb):=by
 intro pins s σ H Q I h
 exact wpAny_BinOp (nI ha hb I h fun v u s2 x y H2 I2 rx ry q=>ho pins s2 σ H2 x y v u Q I2 rx ry q)
theorem opI {f:Value→Value→Sem Value} {C:Int→Int→Prop} {g:Int→Int→Int}
  (rule : ∀ (i j:Int) (t u:Tok) (s:Shared) (Q:Value→Shared→Prop) (E:Value→Shared→Prop),C i j→Q (.int (g i j) s.toks) { s with toks:=s.toks+1 }→wpAny (model X.prog X.w) X.A (f (.int i t) (.int j u)) Q E s) :
  OpR X f (rI C fun i j => .int (g i j)):=by
 intro pins s σ H x y v u Q I rx ry h
 obtain ⟨i,j,rfl,rfl,hc,q⟩:=h
 obtain ⟨t,rfl⟩:=rx
 obtain ⟨t',rfl⟩:=ry
 exact rule i j t t' s _ _ hc ⟨.int (g i j),H,I.tok _,⟨_,rfl⟩,q⟩
theorem on {f:Value→Value→Sem Value} {g:Int→Int→Int}
  (rule : ∀ (i j:Int) (t u:Tok) (s:Shared) (Q:Value→Shared→Prop) (E:Value→Shared→Prop),Q (.int (g i j) s.toks) { s with toks:=s.toks+1 }→wpAny (model X.prog X.w) X.A (f (.int i t) (.int j u)) Q E s) :
  OpR X f (rI0 fun i j => .int (g i j)):=by
 intro pins s σ H x y v u Q I rx ry h
 obtain ⟨i,j,rfl,rfl,q⟩:=h
 obtain ⟨t,rfl⟩:=rx
 obtain ⟨t',rfl⟩:=ry
 exact rule i j t t' s _ _ ⟨.int (g i j),H,I.tok _,⟨_,rfl⟩,q⟩
theorem oq {f:Value→Value→Sem Value} {g:Int→Int→Bool}
  (rule : ∀ (i j:Int) (t u:Tok) (s:Shared) (Q:Value→Shared→Prop) (E:Value→Shared→Prop),Q (.bool (g i j)) s→wpAny (model X.prog X.w) X.A (f (.int i t) (.int j u)) Q E s) :
  OpR X f (rI0 fun i j => .bl (g i j)):=by
 intro pins s σ H x y v u Q I rx ry h
 obtain ⟨i,j,rfl,rfl,q⟩:=h
 obtain ⟨t,rfl⟩:=rx
 obtain ⟨t',rfl⟩:=ry
 exact rule i j t t' s _ _ ⟨.bl (g i j),H,I,rfl,q⟩
def oB (i j:Int):Prop:=0 < j∧j < 1073741824
def CMul (i j:Int):Prop:=(-(2 ^ 64) < i∧i < 2 ^ 64)∨(-(2 ^ 64) < j∧j < 2 ^ 64)
theorem CMul.ok {i j:Int} (h:CMul i j):IntMulOk i j:=by
 rcases h with ⟨h1,h2⟩ | ⟨h1,h2⟩
 ·exact .of_left (intBits_le_64 h1 h2)
 ·exact .of_right (intBits_le_64 h1 h2)
theorem bf:OpR X (binaryOp .Add) (rI0 fun i j => .int (i+j)):=on fun _ _ _ _ _ _ _ q=>add_int q
theorem c9:OpR X (binaryOp .Mult) (rI CMul fun i j => .int (i * j)):=opI fun _ _ _ _ _ _ _ hc q=>mul_int q hc.ok
theorem bp:OpR X (binaryOp .FloorDiv) (rI oB fun i j => .int (i / j)):=opI fun i j _ _ _ _ _ hc q=>by
 have h1:(0:Int) < j:=hc.1
 have h2:j < 1073741824:=hc.2
 exact floordiv_int (by omega) (by rw [Int.fdiv_eq_ediv_of_nonneg i (by omega)]; exact q) (.inl (PyProof.noPylong_small (by omega)))
theorem ay:OpR X (binaryOp .Mod) (rI (fun _ j=>0 < j) fun i j => .int (i % j)):=opI fun i j _ _ _ _ _ hc q=>by
 have h1:(0:Int) < j:=hc
 exact mod_int' (by omega) (by rw [Int.fmod_eq_emod_of_nonneg i (by omega)]; exact q)
end
def nW:V→V→Bool
 | .non,.non=>true | .non,.int _=>true | .int _,.non=>true | .non,.bl _=>true | .bl _,.non=>true | .non,.str _=>true | .str _,.non=>true
 | .int _,.int _=>true | .bl _,.bl _=>true | .str _,.str _=>true | .byt _,.byt _=>true
 | .int _,.str _=>true | .str _,.int _=>true | .bl _,.str _=>true | .str _,.bl _=>true
 | _,_=>false
def rEq:R2:=fun x y H Q=>nW x y=true∧Q (.bl (decide (x=y))) H
theorem lv {i j:Int}:decide (V.int i=V.int j)=(i == j):=by
 rw [Bool.eq_iff_iff]
 simp
theorem mC {i j:Bool}:decide (V.bl i=V.bl j)=(i == j):=by
 rw [Bool.eq_iff_iff]
 simp
theorem lu {i j:Str}:decide (V.str i=V.str j)=(i == j):=by
 rw [Bool.eq_iff_iff]
 simp
theorem lw {i j:Array UInt8}:decide (V.byt i=V.byt j)=(i.toList == j.toList):=by
 rw [Bool.eq_iff_iff]
 cases i
 cases j
 simp
section
variable {X:Cx} {a b c:Expr} {ta tb tc:TE} {pos:Pos}
theorem aT {pins:List (Addr×Obj)} {σ:St} {H:Hp} {s:Shared} {Q:VK} {k k':Bool} (I:Inv X pins σ H s) (q:Q (.bl k) H) (e:k=k'):EP X pins σ Q (.bool k') s:=by
 subst e
 exact ⟨.bl k,H,I,rfl,q⟩
theorem nk:OpR X (compareOp .Eq) rEq:=by
 intro pins s σ H x y v u Q I rx ry h
 obtain ⟨hs,q⟩:=h
 cases x with
 | non =>
  cases rx
  cases y with
  | non=>cases ry; exact PySem.EqNone.eq_none_none (aT I q (by simp))
  | bl j=>cases ry; exact PySem.EqNone.eq_none_bool (aT I q (by simp))
  | int j=>obtain ⟨t',rfl⟩:=ry; exact PySem.EqNone.eq_none_int (aT I q (by simp))
  | str j=>obtain ⟨t',rfl⟩:=ry; exact PySem.EqNone.eq_none_str (aT I q (by simp))
  | _=>exact absurd (show false=true from hs) Bool.false_ne_true
 | bl i =>
  cases rx
  cases y with
  | non=>cases ry; exact PySem.EqNone.eq_bool_none (aT I q (by simp))
  | bl j=>cases ry; exact eq_bool (aT I q mC)
  | str j=>obtain ⟨t',rfl⟩:=ry; exact PySem.EqMixed.eq_bool_str (aT I q (by simp))
  | _=>exact absurd (show false=true from hs) Bool.false_ne_true
 | int i =>
  obtain ⟨t,rfl⟩:=rx
  cases y with
  | non=>cases ry; exact PySem.EqNone.eq_int_none (aT I q (by simp))
  | int j=>obtain ⟨t',rfl⟩:=ry; exact eq_int (aT I q lv)
  | str j=>obtain ⟨t',rfl⟩:=ry; exact PySem.EqMixed.eq_int_str (aT I q (by simp))
  | _=>exact absurd (show false=true from hs) Bool.false_ne_true
 | str i =>
  obtain ⟨t,rfl⟩:=rx
  cases y with
  | non=>cases ry; exact PySem.EqNone.eq_str_none (aT I q (by simp))
  | bl j=>cases ry; exact PySem.EqMixed.eq_str_bool (aT I q (by simp))
  | int j=>obtain ⟨t',rfl⟩:=ry; exact PySem.EqMixed.eq_str_int (aT I q (by simp))
  | str j=>obtain ⟨t',rfl⟩:=ry; exact eq_str (aT I q lu)
  | _=>exact absurd (show false=true from hs) Bool.false_ne_true
 | byt i =>
  obtain ⟨t,rfl⟩:=rx
  cases y with
  | byt j=>obtain ⟨t',rfl⟩:=ry; exact PySem.W.eq_bytes (aT I q lw)
  | _=>exact absurd (show false=true from hs) Bool.false_ne_true
 | _=>cases y <;> exact absurd (show false=true from hs) Bool.false_ne_true
theorem nj:OpR X (compareOp .Lt) (rI0 fun i j => .bl (decide (i < j))):=oq fun _ _ _ _ _ _ _ q=>lt_int q
theorem cw (b:Expr) {op:CmpOp} (h:op ≠ .In:=by decide) (h2:op ≠ .NotIn:=by decide):behindInMarks op b=false:=by
 have e1:(op == CmpOp.In)=false:=by cases op <;> first | rfl | exact absurd rfl h
 have e2:(op == CmpOp.NotIn)=false:=by cases op <;> first | rfl | exact absurd rfl h2
 cases b <;> simp [behindInMarks,e1,e2]
def mP (t:TE):TT:=fun σ H Q=>t σ H fun x H' => ∃ k,x = .bl k∧Q k H'
theorem bn {op:CmpOp} {r:R2} (ho:OpR X (compareOp op) r) (ha:PE X a ta) (hb:PE X b tb) (hm:behindInMarks op b=false):PT X (.Compare a [op] [b] pos) (mP (tOp r ta tb)):=by
 intro pins s σ H Q I h
 refine wpAny_isTrue_Compare1 (thn (ha pins s σ H _ I h) fun v s1 ⟨x,H1,I1,r1,q1⟩=>thn (hb pins s1 σ H1 _ I1 q1) fun u s2 ⟨y,H2,I2,r2,q2⟩ =>
  thn (ho pins s2 σ H2 x y v u _ I2 r1 r2 q2) fun c s3 ⟨z,H3,I3,r3,k,e,q3⟩ => ?_) hm
 subst e
 cases r3
 exact wpAny_truthy_bool ⟨H3,I3,q3⟩
theorem fF:(sizeLine:Nat) < 2 ^ 63:=by rw [sizeLine_eq]; decide
theorem dD {x:V} {us:List Value} (r:Vals [x] us) : ∃ u,us=[u]∧RelV x u:=by
 cases r with
 | cons r1 r2=>cases r2; exact ⟨_,rfl,r1⟩
theorem lI {x y:V} {us:List Value} (r:Vals [x,y] us) : ∃ u w',us=[u,w']∧RelV x u∧RelV y w':=by
 cases r with
 | cons r1 r2 =>
  cases r2 with
  | cons r3 r4=>cases r4; exact ⟨_,_,rfl,r1,r3⟩
end
end L2
namespace L2
open PySem PySem.Spec PyProof.Rows
structure ObjM (h:Heap) (x dx C:Addr) (mA:Str→Option Value):Prop where
 obj:h.get? x=some (PySem.W.instObj C dx)
 ns:h.Ns1 dx mA
 ne:dx≠x
theorem jj {h:Heap} {dx:Addr} {mA:Str→Option Value} (n:h.Ns1 dx mA) : ∃ od,h.get? dx=some od ∧ ∀ name,PySem.W.lookIn name od=some (mA name):=by
 obtain ⟨o,es,ep,ho,hd,hk,_,hm⟩:=n
 refine ⟨o,ho,fun name => ?_⟩
 have e:=hm name
 unfold nsFind findBy at e
 rw [← Array.find?_toList] at e
 unfold PySem.W.lookIn
 rw [hd]
 dsimp only
 split
 ·rename_i y q
  rw [q] at e
  exact congrArg some e
 ·rename_i q
  rw [q] at e
  have a:es.toList.any (·.refKey)=false:=by
   rw [List.any_eq_false]
   intro y hy
   obtain ⟨z,t,hkey⟩:=hk y (Array.mem_toList_iff.mp hy)
   simp [DictEntry.refKey,hkey]
  have a' : ¬ es.toList.any (·.refKey)=true:=by rw [a]; exact Bool.false_ne_true
  rw [if_neg a']
  exact congrArg some e
theorem ObjM.look {h:Heap} {x dx C:Addr} {mA:Str→Option Value} (I:ObjM h x dx C mA) : ∃ od,PySem.W.InstAt h x (PySem.W.instObj C dx) C (some od) ∧ ∀ name,PySem.W.lookIn name od=some (mA name) :=
 let ⟨od,ho,hl⟩:=jj I.ns
 ⟨od,⟨I.obj,rfl,rfl,ho⟩,hl⟩
section
variable {prog:Program} {w:World} {A:Around} {E:Value→Shared→Prop} {s:Shared} {K:PySem.W.Frag} {x dx C f:Addr} {mA:Str→Option Value} {name:Str} {v:Value}
end
section
variable {P:Program} {w:World} {H H':Hp} {h h':Heap} {a C dx:Addr} {fs fs':List (Str×V)}
theorem lg (hok:HOk P w H h) (e:H a=some (.ins C dx fs)) : ∃ mA,ObjM h a dx C mA∧(∀ f,mJ (fs.lookup f) (mA f))∧PySem.Within mA (fs.map (·.1))∧fs.length≤1000∧H dx=some (.own a):=by
 obtain ⟨d,z,ne,ob,mA,n,r,q⟩:=(show ObjOk P w H h a (.ins C dx fs) from hok a _ e)
 exact ⟨mA,⟨ob,n,ne⟩,r,q,z,d⟩
end
structure Cls (K:PySem.W.Frag) (C:Addr):Prop where
 pg:PySem.W.plainGet K C Str.empty=true
 hd:PySem.W.hasDictIn K C=true
 po:PySem.W.plainOver K C=true
 sa:PySem.W.findIn K (.ref C) "__setattr__"=some (some (.builtin "object.__setattr__"))
theorem Cls.get {K:PySem.W.Frag} {C:Addr} (c:Cls K C) (f:Str):PySem.W.plainGet K C f=true:=c.pg
section
variable {X:Cx} {pins:List (Addr×Obj)} {σ:St} {H:Hp} {s:Shared} {a C dx:Addr} {fs:List (Str×V)} {f:Str} {v:V} {A:Around} {E:Value→Shared→Prop}
end
section
variable {X:Cx} {o e value:Expr} {f:Str} {pos pos' tpos:Pos} {ta tv:TE}
end
section
variable {X:Cx} {pins:List (Addr×Obj)} {σ:St} {H:Hp} {s:Shared} {A:Around} {E:Value→Shared→Prop} {Q:Value→Shared→Prop} {c:Value} {b:Bool}
inductive cj (K:PySem.W.Frag) (H:Hp):V→Value→Prop where
 | non:cj K H .non (.type "NoneType")
 | bl (x:Bool):cj K H (.bl x) (.type "bool")
 | int (i:Int):cj K H (.int i) (.type "int")
 | str (x:Str):cj K H (.str x) (.type "str")
 | flt (x:UInt64):cj K H (.flt x) (.type "float")
 | lst {a:Addr} {xs:List V} (e:H a=some (.lst xs)):cj K H (.ref a) (.type "list")
 | frz {a:Addr} {o:Obj} {xs:List V} (e:H a=some (.frz o (.lst xs))):cj K H (.ref a) (.type "list")
 | tup {a:Addr} {xs:List V} (e:H a=some (.tup xs)):cj K H (.ref a) (.type "tuple")
 | dK {a:Addr} {kvs:List (Key×V)} (e:H a=some (.dK kvs)):cj K H (.ref a) (.type "dict")
 | dT {a:Addr} {kvs:List (List Key×V)} (e:H a=some (.dT kvs)):cj K H (.ref a) (.type "dict")
 | ins {a C dx:Addr} {fs:List (Str×V)} (e:H a=some (.ins C dx fs)) (cl:Cls K C) (ha:PySem.W.findIn K (.ref C) "__class__"=some (some (.builtin "object.__class__")))
   (hn:PySem.W.specialIn K (.builtin "object.__class__") "__get__"=some (some (.builtin "getset_descriptor.__get__"))) (htk:PySem.W.takesIn K (.builtin "object.__class__")=some true)
   (hm:PySem.W.mroIn K C (.type "object")=some true):cj K H (.ref a) (.ref C)
theorem jp {x:V} {u t:Value} (I:Inv X pins σ H s) (rx:RelV x u) (ty:cj X.K H x t) (e:PySem.W.kitOne X.K t c=some b) (h : ∀ tk,Q (.bool b) { s with toks:=tk }) :
  wpAny (model X.prog X.w) A (call (.builtin "isinstance") [u,c]) Q E s:=by
 cases ty with
 | non=>cases (show u=Value.none from rx); exact PySem.W.kia_one PySem.W.kitx_none I.kIn True.intro e (fun z=>nomatch z) h
 | bl y=>cases (show u=Value.bool y from rx); exact PySem.W.kia_one PySem.W.kitx_bool I.kIn True.intro e (fun z=>nomatch z) h
 | int i=>obtain ⟨t,q⟩:=(show ∃ t,u=Value.int i t from rx); cases q; exact PySem.W.kia_one PySem.W.kitx_int I.kIn True.intro e (fun z=>nomatch z) h
 | str y=>obtain ⟨t,q⟩:=(show ∃ t,u=Value.str y t from rx); cases q; exact PySem.W.kia_one PySem.W.kitx_str I.kIn True.intro e (fun z=>nomatch z) h
 | flt y=>obtain ⟨t,q⟩:=(show ∃ t,u=Value.float y t from rx); cases q; exact PySem.W.kia_one PySem.W.kitx_float I.kIn True.intro e (fun z=>nomatch z) h
 | @lst a xs ea =>
  cases (show u=Value.ref a from rx)
  obtain ⟨_,_,n,_,h1⟩:=(show ObjOk X.prog X.w H s.heap a (.lst xs) from I.hok a _ ea)
  exact PySem.W.kia_one PySem.W.kitx_list I.kIn ⟨_,h1,rfl⟩ e (fun z=>nomatch z) h
 | @frz a ob xs ea =>
  cases (show u=Value.ref a from rx)
  obtain ⟨_,_,_,n,_,h1⟩:=(show ObjOk X.prog X.w H s.heap a (.frz ob (.lst xs)) from I.hok a _ ea)
  exact PySem.W.kia_one PySem.W.kitx_list I.kIn ⟨_,h1,rfl⟩ e (fun z=>nomatch z) h
 | @tup a xs ea =>
  cases (show u=Value.ref a from rx)
  obtain ⟨_,_,_,p⟩:=(show ObjOk X.prog X.w H s.heap a (.tup xs) from I.hok a _ ea)
  obtain ⟨o,h1,h2,_⟩:=p
  exact PySem.W.kia_one PySem.W.kitx_tuple I.kIn ⟨o,h1,h2⟩ e (fun z=>nomatch z) h
 | @dK a kvs ea =>
  cases (show u=Value.ref a from rx)
  obtain ⟨_,_,vs,_,p⟩:=(show ObjOk X.prog X.w H s.heap a (.dK kvs) from I.hok a _ ea)
  obtain ⟨o,es,ep,h1,h2,_⟩:=p
  exact PySem.W.kia_one PySem.W.kitx_dict I.kIn ⟨o,h1,h2.1⟩ e (fun z=>nomatch z) h
 | @dT a kvs ea =>
  cases (show u=Value.ref a from rx)
  obtain ⟨_,_,xs,_,o,es,ep,h1,h2,_⟩:=(show ObjOk X.prog X.w H s.heap a (.dT kvs) from I.hok a _ ea)
  exact PySem.W.kia_one PySem.W.kitx_dict I.kIn ⟨o,h1,h2.1⟩ e (fun z=>nomatch z) h
 | @ins a C dx fs ea cl ha hn htk hm =>
  cases (show u=Value.ref a from rx)
  obtain ⟨mA,O,_⟩:=lg I.hok ea
  obtain ⟨od,J,_⟩:=O.look
  exact PySem.W.kia_one (PySem.W.kitx_own (cl.get _) cl.hd ha hn htk hm) I.kIn J e (fun z=>nomatch z) h
end
end L2
namespace L2
open PySem PySem.Spec PyProof.Rows
structure Room (k:Nat) (A:Around):Prop where
 hd:A.handled=none
 dp:A.depth+2 * k+5 < recursionLimit
 un:A.units+16 * k+200 < cLine
theorem Room.mono {j k:Nat} {A:Around} (r:Room k A) (h:j≤k):Room j A:=⟨r.hd,by have:=r.dp; omega,by have:=r.un; omega⟩
theorem Room.deeper {k:Nat} {A:Around} (r:Room (k+1) A) (env:Env):Room k (A.deeper env) :=
 ⟨r.hd,by have:=r.dp; show A.depth+1+2 * k+5 < _; omega,by have:=r.un; show A.units+3+16 * k+200 < _; omega⟩
theorem Room.depth {k:Nat} {A:Around} (r:Room k A):A.depth < recursionLimit:=by have:=r.dp; omega
def nQ:TA:=fun _ H Q=>Q [] H
def mY (ta:TE) (tr:TA):TA:=fun σ H Q=>ta σ H fun x H1=>tr σ H1 fun xs H2=>Q (x::xs) H2
section
variable {X:Cx} {e:Expr} {es:List Expr} {te:TE} {t:TA} {pos:Pos}
theorem ag:PA X [] nQ:=fun _ _ _ _ H Q I h=>Calls.spliced_nil ⟨[],H,I,.nil,h⟩
theorem aa (ha:PE X e te) (hr:PA X es t) (hs:starEach (e::es) X.env=(false,eval e X.env)::starEach es X.env:=by rfl):PA X (e::es) (mY te t):=by
 intro pos pins s σ H Q I h
 rw [hs]
 show wpAny _ _ (spliced ((false,eval e X.env)::backTo pos (starEach es X.env))) _ _ s
 refine Calls.spliced_cons (thn (ha pins s σ H _ I h) fun u s1 ⟨x,H1,I1,r1,q1⟩ => ?_)
 exact thn (hr pos pins s1 σ H1 _ I1 q1) fun us s2 ⟨xs,H2,I2,r2,q2⟩=>⟨x::xs,H2,I2,.cons r1 r2,q2⟩
def nN (t:TA):TE:=fun σ H Q=>t σ H fun xs H1=>xs.length≤sizeLine ∧ ∀ p,H1 p=none→Q (.ref p) (upd H1 p (.tup xs))
def nR (t:TA):TE:=fun σ H Q=>t σ H fun xs H1=>xs.length≤sizeLine ∧ ∀ p,H1 p=none→Q (.ref p) (upd H1 p (.lst xs))
theorem cu {x1} (h:PA X es t):PE X (.Tuple es x1 pos) (nN t):=by
 intro pins s σ H Q I hq
 refine wpAny_Tuple_spliced (thn (h pos pins s σ H _ I hq) fun us s1 ⟨xs,H1,I1,r,z,q⟩=>⟨by rw [← r.length]; exact z,?_⟩)
 have hf:H1 s1.heap.objs.size=none:=I1.hok.fresh (Nat.le_refl _)
 refine ⟨.ref s1.heap.objs.size,upd H1 s1.heap.objs.size (.tup xs),I1.laid (t':=s1.toks) (fun b u e=>Heap.get?_push_of_some _ e) (Nat.le_refl _) ?_,rfl,q _ hf⟩
 exact ⟨z,us,r,⟨_,Heap.get?_push_size _ rfl,rfl,_,rfl⟩⟩
theorem aN (h:PA X es t):PE X (.List es pos) (nR t):=by
 intro pins s σ H Q I hq
 refine wpAny_List_spliced (thn (h pos pins s σ H _ I hq) fun us s1 ⟨xs,H1,I1,r,z,q⟩=>⟨by rw [← r.length]; exact z,?_⟩)
 have hf:H1 s1.heap.objs.size=none:=I1.hok.fresh (Nat.le_refl _)
 refine ⟨.ref s1.heap.objs.size,upd H1 s1.heap.objs.size (.lst xs),I1.laid (t':=s1.toks) (fun b u e=>Heap.get?_push_of_some _ e) (Nat.le_refl _) ?_,rfl,q _ hf⟩
 exact ⟨z,us,0,r,Heap.get?_push_size _ rfl⟩
end
abbrev Sp:=List V→Hp→VK→XK→Prop
abbrev CXT:=List Env→Hp→Shared→XK→Value→Shared→Prop
structure lE (P:Program) (w:World) (K:PySem.W.Frag) (mg:Str→Option Value) (base:Heap) (A:Around) (outer:List Env) (s:Shared) (H:Hp):Prop where
 frames:A.frames=some outer
 mod:Mod K mg base
 bs : ∀ b o,base.get? b=some o→s.heap.get? b=some o∧H b=none
 bsz:base.objs.size≤s.heap.objs.size
 funs:s.heap.FunFrames base outer
 frf : ∀ b∈frs outer,H b=none
 hok:HOk P w H s.heap
 bare:AllBare s.gens
def CE (outer:List Env) (P:Program) (w:World) (H:Hp) (s:Shared) (Q:VK) (u:Value) (s':Shared):Prop :=
 ∃ v H',s'.os=s.os∧AllBare s'.gens∧Un (frs outer) [] H H' s.heap s'.heap∧HOk P w H' s'.heap∧RelV v u∧Q v H'
def CR (CX:CXT) (outer:List Env) (P:Program) (w:World) (H:Hp) (s:Shared) (Q:VK) (E:XK) (r:Result) (s':Shared):Prop :=
 match r with
 | .ok (.ret u)=>CE outer P w H s Q u s'
 | .ok _=>False
 | .error e=>CX outer H s E e s'
structure a9 (P:Program) (w:World) (K:PySem.W.Frag) (mg:Str→Option Value) (base:Heap) (CX:CXT) (k:Nat) (f:Addr) (fd:FuncData) (ps:List Str) (sp:Sp):Prop where
 len : ∀ vs H Q E,sp vs H Q E→vs.length=ps.length
 run : ∀ (A:Around) (outer:List Env) (s:Shared) (H:Hp) (args:Args) (us:List Value) (vs:List V) (Q:VK) (E:XK),Room k A→lE P w K mg base A outer s H→BindsTo s fd args (ps.zip us)→Vals vs us→sp vs H Q E →
  codeAny (model P w) A (.call (.ref f) args) (CR CX outer P w H s Q E) s
section
variable {X:Cx} {pins:List (Addr×Obj)} {σ:St} {H:Hp} {s s':Shared}
theorem Inv.env0 (I:Inv X pins σ H s):lE X.prog X.w X.K X.mg X.base X.A X.stack s H :=
 ⟨I.ok.frames,I.ok.mod,I.bs,Nat.le_trans I.ok.bsz I.sz,I.stack,I.stkFree,I.hok,I.bare⟩
theorem Inv.after {Q:VK} {u:Value} (I:Inv X pins σ H s) (h:CE X.stack X.prog X.w H s Q u s'):EP X pins σ Q u s':=by
 obtain ⟨v,H',os,bare,un,hok,r,q⟩:=h
 obtain ⟨hh,g,d,t,os'⟩:=s'
 obtain rfl:os'=s.os:=os
 exact ⟨v,H',I.call (h':=hh) (g':=g) (d':=d) (t':=t) (ch:=[]) un hok bare (fun b z=>absurd z (by simp)),r,q⟩
end
def mZ (sp:Sp) (dvs:List V) (E:XK) (t:TA):TE:=fun σ H Q=>t σ H fun vs H1=>sp (vs++dvs) H1 Q E
def Binds (K:PySem.W.Frag) (fd:FuncData) (ps:List Str) (ds:List Value):Prop :=
 ∀ (s:Shared) (us:List Value),K.In s.heap→(us++ds).length=ps.length→BindsTo s fd ⟨us,[]⟩ (ps.zip (us++ds))
theorem Binds.all {K:PySem.W.Frag} {fd:FuncData} {ps:List Str} (h : ∀ us:List Value,us.length=ps.length→bindArgs fd ⟨us,[]⟩=pure (ps.zip us)):Binds K fd ps []:=fun s us _ hl=>by
 rw [List.append_nil] at hl ⊢
 exact .of_eq (h us hl)
def iz (CX:CXT) (X:Cx) (E:XK):Prop := ∀ (pins:List (Addr×Obj)) (σ:St) (H:Hp) (s:Shared) (e:Value) (s':Shared),Inv X pins σ H s→CX X.stack H s E e s'→X.xe e s'
section
variable {X:Cx} {CX:CXT} {k:Nat} {f C:Addr} {fd:FuncData} {ps:List Str} {sp:Sp} {dvs:List V} {ds:List Value} {E:XK} {x m:Str} {p pos apos:Pos} {e o:Expr} {es:List Expr} {ta:TE} {t:TA}
theorem l7 {pins:List (Addr×Obj)} {σ:St} {H:Hp} {s:Shared} {Q:VK} {us:List Value} {vs:List V} (F:a9 X.prog X.w X.K X.mg X.base CX k f fd ps sp) (hr:Room k X.A) (hb:Binds X.K fd ps ds) (hd:Vals dvs ds) (hx:iz CX X E)
  (I:Inv X pins σ H s) (r:Vals vs us) (h:sp (vs++dvs) H Q E):wpAny (model X.prog X.w) X.A (call (.ref f) us) (EP X pins σ Q) X.xe s:=by
 have r2:Vals (vs++dvs) (us++ds):=r.append hd
 have hl:(us++ds).length=ps.length:=by rw [← r2.length]; exact F.len _ _ _ _ h
 refine wpAny_call (codeAny_mono (F.run X.A X.stack s H ⟨us,[]⟩ (us++ds) (vs++dvs) Q E hr I.env0 (hb s us I.kIn hl) r2 h) fun r s' hq => ?_)
 cases r with
 | error e=>exact hx pins σ H s e s' I hq
 | ok fl =>
  cases fl with
  | ret u=>exact I.after hq
  | next=>exact False.elim hq
  | brk=>exact False.elim hq
  | cont=>exact False.elim hq
theorem ar (F:a9 X.prog X.w X.K X.mg X.base CX k f fd ps sp) (hr:Room k X.A) (hg:Gl X x) (hm:X.mg x=some (.ref f)) (hk:PySem.W.keepIn X.K (.ref f)=true) (hb:Binds X.K fd ps ds) (hd:Vals dvs ds) (hx:iz CX X E)
  (ha:PA X (e::es) t) (hdb:(x == ("__debug__":Str))=false:=by decide) (he:starEach (e::es) X.env=(false,eval e X.env)::starEach es X.env:=by rfl) (hpl:(backTo pos (starEach es X.env)).any (·.1)=false:=by rfl) :
  PE X (.Call (.Name x p) (e::es) [] pos) (mZ sp dvs E t):=by
 intro pins s σ H Q I h
 refine wpAny_Call_Name_kw (lc I hg hm ?_ hdb)
 refine PySem.W.callWith_K (h₀:=X.base) I.ok.mod.kin hk (thn (ha pos pins s σ H _ I h) fun us s1 ⟨vs,H1,I1,r,q⟩=>⟨I1.kIn,?_⟩) he hpl
 exact l7 F hr hb hd hx I1 r q
end
section
variable {X:Cx} {CX:CXT} {k:Nat} {f C:Addr} {fd:FuncData} {ps ks:List Str} {sp:Sp} {E:XK} {x m:Str} {p pos apos kpos:Pos} {e o:Expr} {es:List Expr} {kws:List Keyword} {te ta:TE} {t tk:TA} {nm:Option Str}
variable {g:List Value→List Value→List Value} {gV:List V→List V→List V}
end
structure aR (N P:List Str) (sc:Scope):Prop where
 kind:sc.kind = .function
 co:sc.isCoroutine=false
 gen:sc.isGenerator=false
 nd:N.Nodup
 pre:N.take P.length=P
 par : ∀ x∈P,sc.names.lookup x=some .local∨sc.names.lookup x=some .cell
 nofree : ∀ y∈sc.names,y.2 ≠ .free
theorem fg {kindOf:Str→Option NameKind} {x:Str} : ∀ {binds:List (Str×Value)} {m:Str→Option Value},(∀ v,(x,v)∉binds)→bindL kindOf binds m x=m x
 | [],_,_=>rfl
 | (n,v)::r,m,h=>by
  unfold bindL
  rw [fg fun w hw=>h w (List.mem_cons_of_mem _ hw)]
  split
  ·have:x≠n:=by rintro rfl; exact h v List.mem_cons_self
   simp [this]
  ·rfl
theorem fi {kindOf:Str→Option NameKind} {x:Str} : ∀ {binds:List (Str×Value)} {m:Str→Option Value},(∀ v,(x,v)∉binds)→bindC kindOf binds m x=m x
 | [],_,_=>rfl
 | (n,v)::r,m,h=>by
  unfold bindC
  rw [fi fun w hw=>h w (List.mem_cons_of_mem _ hw)]
  split
  ·rfl
  ·have:x≠n:=by rintro rfl; exact h v List.mem_cons_self
   simp [this]
theorem fh {kindOf:Str→Option NameKind} {x:Str} {v:Value} : ∀ {P:List Str} {vs:List Value} {i:Nat} {m:Str→Option Value},P.Nodup→P[i]?=some x→vs[i]?=some v→kindOf x=some .local →
  bindL kindOf (P.zip vs) m x=some v
 | [],_,_,_,_,h,_,_=>by simp at h
 | _::_,[],_,_,_,_,h,_=>by simp at h
 | p::P,w::vs,0,m,nd,h1,h2,hk=>by
  simp at h1 h2; subst h1; subst h2
  show bindL kindOf ((p,w)::P.zip vs) m p=_
  unfold bindL
  rw [fg fun v hv=>(List.nodup_cons.mp nd).1 (List.of_mem_zip hv).1,if_pos hk]
  simp
 | p::P,w::vs,i+1,m,nd,h1,h2,hk=>by
  show bindL kindOf ((p,w)::P.zip vs) m x=_
  unfold bindL
  exact fh (i:=i) (List.nodup_cons.mp nd).2 (by simpa using h1) (by simpa using h2) hk
theorem fj {kindOf:Str→Option NameKind} {x:Str} {v:Value} : ∀ {P:List Str} {vs:List Value} {i:Nat} {m:Str→Option Value},P.Nodup→P[i]?=some x→vs[i]?=some v→kindOf x≠some .local →
  bindC kindOf (P.zip vs) m x=some v
 | [],_,_,_,_,h,_,_=>by simp at h
 | _::_,[],_,_,_,_,h,_=>by simp at h
 | p::P,w::vs,0,m,nd,h1,h2,hk=>by
  simp at h1 h2; subst h1; subst h2
  show bindC kindOf ((p,w)::P.zip vs) m p=_
  unfold bindC
  rw [fi fun v hv=>(List.nodup_cons.mp nd).1 (List.of_mem_zip hv).1,if_neg hk]
  simp
 | p::P,w::vs,i+1,m,nd,h1,h2,hk=>by
  show bindC kindOf ((p,w)::P.zip vs) m x=_
  unfold bindC
  exact fj (i:=i) (List.nodup_cons.mp nd).2 (by simpa using h1) (by simpa using h2) hk
def aY (N:List Str) (vs:List V):St:=vs.map some++List.replicate (N.length - vs.length) none
def jx (CX:CXT) (P:Program) (w:World) (K:PySem.W.Frag) (mg:Str→Option Value) (base:Heap) (N:List Str) (qual:Str) (scope:Scope) (f:Addr) (cd:Value) (A:Around) (outer:List Env) (s:Shared) (H:Hp) (E:XK):Cx where
 prog:=P
 w:=w
 K:=K
 mg:=mg
 base:=base
 A:=A.deeper (envOfC qual scope s.heap.objs.size f cd)
 N:=N
 s₀:=s
 H₀:=H
 env:=envOfC qual scope s.heap.objs.size f cd
 outer:=outer
 stack:=envOfC qual scope s.heap.objs.size f cd::outer
 ex:=[]
 calm:=true
 fn:=fun _=>true
 pn:=[]
 xe:=fun e s'=>wpAny (model P w) (A.deeper (envOfC qual scope s.heap.objs.size f cd)) (leaving (envOfC qual scope s.heap.objs.size f cd) e) (fun _ s''=>CX outer H s E e s'') (fun e' s''=>CX outer H s E e' s'') s'
theorem gG {sc:Scope} {n:Nat} {x:Str} (h:sc.names.lookup x=some .cell) : ∃ c,(cellsFrom n sc.names []).lookup x=some c:=by
 have q:=PySem.W.cellsFrom_some sc.names n [] (.inl h)
 exact Option.isSome_iff_exists.mp q
theorem jq {CX:CXT} {P:Program} {w:World} {K:PySem.W.Frag} {mg:Str→Option Value} {base:Heap} {N ps:List Str} {qual:Str} {scope:Scope} {f:Addr} {cd:Value} {A:Around} {outer:List Env} {s s1:Shared} {H:Hp} {E:XK} {us:List Value} {vs:List V}
  (S:aR N ps scope) (hd:A.handled=none) (e0:lE P w K mg base A outer s H) (hl:vs.length=ps.length) (r:Vals vs us)
  (x:InCallC s s.heap.objs.size (bindL (envOfC qual scope s.heap.objs.size f cd).kindOf (ps.zip us) fun _=>none) (cellsFrom (s.heap.objs.size+1) scope.names []) (bindC (envOfC qual scope s.heap.objs.size f cd).kindOf (ps.zip us) fun _=>none) s1) :
  Inv (jx CX P w K mg base N qual scope f cd A outer s H E) [] (aY N vs) H s1:=by
 have hpl:ps.length≤N.length:=by have:=congrArg List.length S.pre; rw [List.length_take] at this; omega
 obtain ⟨h1,tk,rfl,hk⟩:=x.done
 have noA : ∀ b:Addr,b∉(jx CX P w K mg base N qual scope f cd A outer s H E).ex:=fun b z=>absurd (show b∈([]:List Addr) from z) (by simp)
 refine ⟨⟨e0.mod,S.kind,rfl,rfl,Nat.le_refl _,fun y z c h1 h2 => ?_,fun y hy => ?_,fun y c _ h => ?_,fun _=>hd,Around.frames_deeper e0.frames,.inr ⟨rfl,rfl⟩,fun b z=>absurd z (noA b),e0.bs,e0.bsz,fun b _ _=>noA b,fun b z=>absurd z (noA b),e0.funs,e0.frf⟩,
  rfl,e0.bare,Un.kept hk,⟨_,x.toInCall.ns,fun i y v h1 h2 h3 => ?_⟩,fun y c h=>⟨_,x.cell y c h⟩,e0.hok.fresh (Nat.le_refl _),fun y c h => ?_,fun p hp=>absurd (show p∈([]:List (Addr×Obj)) from hp) (by simp),e0.hok.kept hk,?_⟩
 ·exact name_of_addr x.apart (PySem.mem_of_lookup h1) (PySem.mem_of_lookup h2)
 ·have hy:scope.names.lookup y=some .cell∨scope.names.lookup y=some .free:=hy
  rcases hy with hy | hy
  ·exact gG hy
  ·exact absurd rfl (S.nofree _ (PySem.mem_of_lookup hy))
 ·exact Nat.le_of_lt (x.above y c (PySem.mem_of_lookup h))
 ·have hi:i < vs.length:=by
   unfold aY at h2
   by_cases hi:i < vs.length
   ·exact hi
   ·rw [List.getElem?_append_right (by simpa using hi)] at h2
    rw [List.getElem?_replicate] at h2
    split at h2 <;> cases h2
  have ha:vs[i]?=some v:=by
   unfold aY at h2
   rw [List.getElem?_append_left (by simpa using hi),List.getElem?_map] at h2
   cases e:vs[i]? with
   | none=>rw [e] at h2; cases h2
   | some a=>rw [e] at h2; cases h2; rfl
  obtain ⟨u,hu,rv⟩:=r.get ha
  have hp:ps[i]?=some y:=by
   rw [← S.pre,List.getElem?_take_of_lt (by omega)]; exact h1
  have ndP:ps.Nodup:=by rw [← S.pre]; exact S.nd.sublist (List.take_sublist _ _)
  refine ⟨u,rv,?_⟩
  rcases S.par y (List.mem_of_getElem? hp) with k | k
  ·exact .inl ⟨k,fh ndP hp hu k⟩
  ·obtain ⟨c,e⟩:=gG (n:=s.heap.objs.size+1) k
   refine .inr ⟨.inl k,c,e,?_⟩
   have q:=x.cell y c e
   rw [fj ndP hp hu (by show scope.names.lookup y≠_; rw [k]; decide)] at q
   exact q
 ·exact e0.hok.fresh (Nat.le_of_lt (x.above y c (PySem.mem_of_lookup h)))
 ·unfold aY
  show _=N.length
  rw [List.length_append,List.length_map,List.length_replicate]
  omega
theorem nw {CX:CXT} {P:Program} {w:World} {K:PySem.W.Frag} {mg:Str→Option Value} {base:Heap} {k:Nat} {f:Addr} {name qual:Str} {params:Arguments} {body:List Stmt} {scope:Scope} {dV kV doc pm cdv ct oc:Value} {an od:Option Addr}
  {osl:Array (Option Value)} {N ps:List Str} {sp:Sp} (lk:K.lookup f=some ⟨oc,od,.func (PySem.W.fnOf name qual params body scope dV kV doc pm an cdv ct),osl⟩) (hcd:PySem.W.codeIn K cdv qual=true) (S:aR N ps scope)
  (len : ∀ vs H Q E,sp vs H Q E→vs.length=ps.length)
  (hbody : ∀ (A:Around) (outer:List Env) (s:Shared) (H:Hp) (vs:List V) (Q:VK) (E:XK),Room k (A.deeper (envOfC qual scope s.heap.objs.size f cdv))→sp vs H Q E →
   ∃ t,PSs (jx CX P w K mg base N qual scope f cdv A outer s H E) body t∧t { nx:=fun _ H'=>Q .non H',rt:=Q } (aY N vs) H) :
  a9 P w K mg base CX (k+1) f (PySem.W.fnOf name qual params body scope dV kV doc pm an cdv ct) ps sp:=by
 refine ⟨len,fun A outer s H args us vs Q E hr e0 hb r hsp => ?_⟩
 have hl:=len _ _ _ _ hsp
 have KX:K.In s.heap:=e0.mod.kin.keeps fun b o e=>(e0.bs b o e).1
 have lim:s.heap.NoLimit:=e0.mod.nolimit.keeps fun b o e=>(e0.bs b o e).1
 have hkind : ∀ y∈ps.zip us,scope.names.lookup y.1=some .local∨(scope.names.lookup y.1=some .cell∧((cellsFrom (s.heap.objs.size+1) scope.names []).lookup y.1).isSome=true):=fun ⟨n,v⟩ hy=>by
  rcases S.par n (List.of_mem_zip hy).1 with q | q
  ·exact .inl q
  ·exact .inr ⟨q,PySem.W.cellsFrom_some _ _ _ (.inl q)⟩
 refine codeAny_call_function hr.depth (KX _ _ lk) rfl S.co S.gen rfl (PySem.W.codeRec_of KX hcd) (hb _ _ _ _ ?_)
 refine wpAny_newFunctionEnv_cells S.kind hkind fun env he s1 x => ?_
 subst he
 refine ⟨lim.keeps x.toInCall.keep,codeAny_func ?_⟩
 obtain ⟨t,ht,hq⟩:=hbody A outer s H vs Q E (hr.deeper _) hsp
 have I:Inv (jx CX P w K mg base N qual scope f cdv A outer s H E) [] (aY N vs) H s1:=jq S hr.hd e0 hl r x
 refine wpAny_mono (ht [] s1 (aY N vs) H _ I hq) (fun fl s' hs => ?_) fun e s' hs=>hs
 have fin : ∀ {σ':St} {H':Hp} {v:V} {u:Value},Inv (jx CX P w K mg base N qual scope f cdv A outer s H E) [] σ' H' s'→RelV v u→Q v H'→CE outer P w H s Q u s' :=
  fun {σ' H' v u} J rv q=>⟨v,H',J.os,J.bare,J.base,J.hok,rv,q⟩
 cases fl with
 | ret u =>
  obtain ⟨v,σ',H',J,rv,q⟩:=hs
  exact fin J rv q
 | next =>
  obtain ⟨σ',H',J,q⟩:=hs
  exact fin (v:=V.non) (u:=Value.none) J rfl q
 | brk =>
  obtain ⟨_,_,_,q⟩:=hs
  exact False.elim q
 | cont =>
  obtain ⟨_,_,_,q⟩:=hs
  exact False.elim q
end L2
namespace L2
open PySem PySem.Spec PyProof.Rows
section
variable {X:Cx} {x:Str} {p pos:Pos} {e:Expr} {es:List Expr} {t:TA} {id T:String} {r:List V→Hp→VK→Prop}
def tCB (r:List V→Hp→VK→Prop) (t:TA):TE:=fun σ H Q=>t σ H fun vs H1=>r vs H1 Q
theorem aP (hc:bY X (.builtin id) r) (hg:Gl X x) (hm:X.mg x=none) (hv:bootBuiltins x=some (.builtin id)) (ha:PA X (e::es) t) (hn:x≠"__name__":=by decide) (hdb:(x == ("__debug__":Str))=false:=by decide)
  (he:starEach (e::es) X.env=(false,eval e X.env)::starEach es X.env:=by rfl) (hpl:(backTo pos (starEach es X.env)).any (·.1)=false:=by rfl):PE X (.Call (.Name x p) (e::es) [] pos) (tCB r t):=by
 intro pins s σ H Q I h
 refine wpAny_Call_Name_kw (fG I hg hm hv ?_ hn hdb)
 exact PyProof.Rows.callWith_builtin1 (thn (ha pos pins s σ H _ I h) fun us s1 ⟨vs,H1,I1,r1,q1⟩=>hc pins s1 σ H1 vs us Q I1 r1 q1) he hpl
theorem bv (hc:bY X (.type T) r) (hg:Gl X x) (hm:X.mg x=none) (hv:bootBuiltins x=some (.type T)) (ha:PA X (e::es) t) (hn:x≠"__name__":=by decide) (hdb:(x == ("__debug__":Str))=false:=by decide)
  (he:starEach (e::es) X.env=(false,eval e X.env)::starEach es X.env:=by rfl) (hpl:(backTo pos (starEach es X.env)).any (·.1)=false:=by rfl):PE X (.Call (.Name x p) (e::es) [] pos) (tCB r t):=by
 intro pins s σ H Q I h
 refine wpAny_Call_Name_kw (fG I hg hm hv ?_ hn hdb)
 exact PyProof.Rows.callWith_type1 (thn (ha pos pins s σ H _ I h) fun us s1 ⟨vs,H1,I1,r1,q1⟩=>hc pins s1 σ H1 vs us Q I1 r1 q1) he hpl
end
end L2
namespace HT
open PySem PyProof.Rows
section
open PySem.SeqAt
open PySem.AutoSeq1 (wpAny_loadPart')
open PySem.MeetsSeq PySem.MeetsSeq2 PySem.MeetsSeq3
end
section
variable {prog:Program} {w:World} {A:Around} {E:Value→Shared→Prop} {s:Shared}
theorem cat_tup {t b:Addr} {vs ws:List Value} {Q:Value→Shared→Prop} (ht:IsTup s.heap t vs.toArray) (hb:IsTup s.heap b ws.toArray) (hv:vs≠[])
  (h1:ws=[]→Q (.ref t) s) (h2:ws≠[]→Q (.ref s.heap.objs.size) { s with heap:=s.heap.push { cls := .type "tuple",data := .seq (vs++ws).toArray } })
  (hsz:vs.length+ws.length≤sizeLine):wpAny (model prog w) A (binaryOp .Add (.ref t) (.ref b)) Q E s:=by
 obtain ⟨⟨cls,dd,data,sl⟩,ho,hc,n,hd⟩:=id ht
 obtain ⟨⟨cls2,dd2,data2,sl2⟩,ho2,hc2,n2,hd2⟩:=id hb
 simp only at hc hd hc2 hd2
 subst hc hd hc2 hd2
 have e:vs.toArray++ws.toArray=(vs++ws).toArray:=by simp
 by_cases hw:ws=[]
 ·exact concat_meets ⟨_,ho,rfl⟩ ⟨_,ho2,rfl⟩ noFill_tuple_add seq_tuple_add PySem.F.slot_tuple_add PySem.F.entry_tuple_add (PySem.F.args_tuple_add_2 _ _)
   (tuple_addW1 t b vs.toArray ws.toArray n n2 dd dd2 sl sl2 (by simpa using hv) (by simp [hw])) ⟨ho,ho2,h1 hw⟩
 ·refine concat_meets ⟨_,ho,rfl⟩ ⟨_,ho2,rfl⟩ noFill_tuple_add seq_tuple_add PySem.F.slot_tuple_add PySem.F.entry_tuple_add (PySem.F.args_tuple_add_2 _ _)
   (tuple_addW2 t b vs.toArray ws.toArray n n2 dd dd2 sl sl2 (by simpa using hv) (by simpa using hw) (by rw [List.size_toArray,List.size_toArray]; exact hsz)) ⟨ho,ho2,?_⟩
  rw [e]
  exact h2 hw
def sIx (n d:Nat):Option Int→Nat
 | none=>d
 | some v=>if v < 0 then (v+(n:Int)).toNat else min v.toNat n
end
end HT
namespace L2
open PySem PySem.Spec PyProof.Rows
abbrev TO:=St→Hp→(Option Int→Hp→Prop)→Prop
def PO (X:Cx) (e:Option Expr) (t:TO):Prop :=
 ∀ (pins:List (Addr×Obj)) (s:Shared) (σ:St) (H:Hp) (Q:Option Int→Hp→Prop),Inv X pins σ H s→t σ H Q →
  wpAny (model X.prog X.w) X.A (evalPart e X.env) (fun u s' => ∃ o H',Inv X pins σ H' s'∧IsPart u o∧Q o H') X.xe s
def kG:TO:=fun _ H Q=>Q none H
def mS (t:TE):TO:=fun σ H Q=>t σ H fun x H1 => ∃ i,x = .int i∧Q (some i) H1
section
variable {X:Cx} {e:Expr} {te:TE} {lo hi:Option Expr} {tl th:TO} {pos p2:Pos}
theorem du:PO X none kG:=by
 intro pins s σ H Q I h
 rw [evalPart_none]
 exact wpAny_pure ⟨none,H,I,.none,h⟩
theorem dt (h:PE X e te):PO X (some e) (mS te):=by
 intro pins s σ H Q I hw
 rw [evalPart_some]
 refine thn (h pins s σ H _ I hw) fun u s1 ⟨x,H1,I1,r1,q1⟩ => ?_
 obtain ⟨i,rfl,q⟩:=q1
 obtain ⟨t,rfl⟩:=r1
 exact ⟨some i,H1,I1,.int i t,q⟩
def SlR (X:Cx) (r:V→Option Int→Option Int→Hp→VK→Prop):Prop :=
 ∀ (pins:List (Addr×Obj)) (s:Shared) (σ:St) (H:Hp) (x:V) (v vl vu:Value) (lo hi:Option Int) (sl:Addr) (Q:VK),Inv X pins σ H s→RelV x v→s.heap.IsSliceOf sl vl vu .none→IsPart vl lo→IsPart vu hi→r x lo hi H Q →
  ∃ T id,typeLookup (.type T) "__getitem__"=pure (some (.builtin id))∧s.TypeIs v T∧wpAny (model X.prog X.w) X.A (getItem v (.ref sl)) (EP X pins σ Q) X.xe s
def tSl (r:V→Option Int→Option Int→Hp→VK→Prop) (te:TE) (tl th:TO):TE:=fun σ H Q=>te σ H fun x H1=>tl σ H1 fun l H2=>th σ H2 fun u H3=>r x l u H3 Q
theorem cF {r:V→Option Int→Option Int→Hp→VK→Prop} (hr:SlR X r) (he:PE X e te) (hl:PO X lo tl) (hu:PO X hi th):PE X (.Subscript e (.Slice lo hi none p2) pos) (tSl r te tl th):=by
 intro pins s σ H Q I h
 refine Subscript_ (thn (he pins s σ H _ I h) fun v s1 ⟨x,H1,I1,r1,q1⟩ => ?_)
 refine wpAny_Slice (thn (hl pins s1 σ H1 _ I1 q1) fun vl s2 ⟨l,H2,I2,pl,q2⟩=>thn (hu pins s2 σ H2 _ I2 q2) fun vu s3 ⟨u,H3,I3,pu,q3⟩ => ?_)
 rw [evalPart_none]
 refine wpAny_pure ?_
 have I4:Inv X pins σ H3 { s3 with heap:=s3.heap.push { cls := .type "slice",data := .fields #[vl,vu,.none] } }:=I3.kept (t':=s3.toks) fun b ob q=>Heap.get?_push_of_some _ q
 obtain ⟨T,id,hT,ht,hg⟩:=hr pins { s3 with heap:=s3.heap.push { cls := .type "slice",data := .fields #[vl,vu,.none] } } σ H3 x v vl vu l u s3.heap.objs.size Q I4 r1 (Heap.IsSliceOf.new ..) pl pu q3
 show wpAny (model X.prog X.w) X.A (subscriptTail e (.Slice lo hi none p2) v (.ref s3.heap.objs.size)) (EP X pins σ Q) X.xe { s3 with heap:=s3.heap.push { cls := .type "slice",data := .fields #[vl,vu,.none] } }
 exact tail_any (ops:=[.ref s3.heap.objs.size,v]) ht hT hg (by with_unfolding_all rfl)
def eC (xs:List V) (lo hi:Option Int):List V:=(xs.drop (HT.sIx xs.length 0 lo)).take (HT.sIx xs.length xs.length hi - HT.sIx xs.length 0 lo)
theorem gC (xs:List V) (lo hi:Option Int):(eC xs lo hi).length≤xs.length:=by
 unfold eC
 rw [List.length_take,List.length_drop]
 omega
def ni (K:PySem.W.Frag):R2:=fun x y H Q => ∃ a b xs ys,x = .ref a∧y = .ref b∧SqT K H a xs∧SqT K H b ys∧xs≠[]∧xs.length+ys.length≤sizeLine ∧
 (ys=[]→Q (.ref a) H)∧(ys≠[] → ∀ p,H p=none→Q (.ref p) (upd H p (.tup (xs++ys))))
theorem Vals.nil_iff {xs:List V} {us:List Value} (r:Vals xs us):us=[]↔xs=[]:=by
 cases r with
 | nil=>simp
 | cons _ _=>simp
theorem kS:OpR X (binaryOp .Add) (ni X.K):=by
 intro pins s σ H x y v u Q I rx ry h
 obtain ⟨a,b,xs,ys,rfl,rfl,ha,hb,hx,hz,q1,q2⟩:=h
 cases rx
 cases ry
 obtain ⟨its,r1,p1,_⟩:=I.tuple ha
 obtain ⟨its2,r2,p2,_⟩:=I.tuple hb
 refine HT.cat_tup p1 p2 (fun z=>hx (r1.nil_iff.mp z)) (fun z=>⟨.ref a,H,I,rfl,q1 (r2.nil_iff.mp z)⟩) (fun z => ?_) (by rw [← r1.length,← r2.length]; exact hz)
 refine ⟨.ref s.heap.objs.size,_,I.laid (t':=s.toks) (o := .tup (xs++ys)) (fun b ob q=>Heap.get?_push_of_some _ q) (Nat.le_refl _) ?_,rfl,q2 (fun w=>z (r2.nil_iff.mpr w)) _ (I.hok.fresh (Nat.le_refl _))⟩
 exact ⟨by rw [List.length_append]; exact hz,_,r1.append r2,IsTup.new _ _⟩
end
end L2
namespace L2
open PySem PySem.Spec PyProof.Rows
def ixN (n:Nat) (i:Int):Option Nat:=if 0≤i then (if i < n then some i.toNat else none) else if -(n:Int)≤i then some (i+n).toNat else none
def atI {α:Type} (xs:List α) (i:Int):Option α:=(ixN xs.length i).bind fun j=>xs[j]?
theorem iL {n:Nat} {i:Int} {j:Nat} (h:ixN n i=some j):seqIndex? i n=some j∧j < n ∧ -(n:Int)≤i∧i < n:=by
 unfold ixN at h
 by_cases h0:0≤i
 ·rw [if_pos h0] at h
  by_cases h1:i < n
  ·rw [if_pos h1] at h
   have e:i.toNat=j:=Option.some.inj h
   exact ⟨by rw [seqIndex_of h0 h1,e],by omega,by omega,h1⟩
  ·rw [if_neg h1] at h; cases h
 ·rw [if_neg h0] at h
  by_cases h1 : -(n:Int)≤i
  ·rw [if_pos h1] at h
   have e:(i+n).toNat=j:=Option.some.inj h
   exact ⟨by rw [seqIndex_neg (by omega) h1,e],by omega,h1,by omega⟩
  ·rw [if_neg h1] at h; cases h
theorem iW {α:Type} {xs:List α} {i:Int} {v:α} (h:atI xs i=some v) : ∃ j,seqIndex? i xs.length=some j∧xs[j]?=some v∧j < xs.length ∧ -(xs.length:Int)≤i∧i < xs.length:=by
 unfold atI at h
 cases e:ixN xs.length i with
 | none=>rw [e] at h; cases h
 | some j =>
  rw [e] at h
  obtain ⟨h1,h2,h3,h4⟩:=iL e
  exact ⟨j,h1,h,h2,h3,h4⟩
theorem aK {α:Type} {xs:List α} {j:Nat} {v:α} (h:xs[j]?=some v):atI xs (j:Int)=some v:=by
 have hj:j < xs.length:=(List.getElem?_eq_some_iff.mp h).1
 have e:ixN xs.length (j:Int)=some j:=by
  unfold ixN
  rw [if_pos (by omega),if_pos (by omega)]; simp
 unfold atI; rw [e]; exact h
def lC (b:Expr):Prop := ∀ o i,subscripted b false o i=operate [o,i] (getItem o i)
def IxR (X:Cx) (r:R2):Prop :=
 ∀ (value slice:Expr) (pins:List (Addr×Obj)) (s:Shared) (σ:St) (H:Hp) (x y:V) (v u:Value) (Q:VK),Inv X pins σ H s→RelV x v→RelV y u→r x y H Q →
  subscripted slice false v u=operate [v,u] (getItem v u)→wpAny (model X.prog X.w) X.A (subscriptTail value slice v u) (EP X pins σ Q) X.xe s
def MtR (X:Cx) (id:String) (r:V→List V→Hp→VK→Prop):Prop :=
 ∀ (pins:List (Addr×Obj)) (s:Shared) (σ:St) (H:Hp) (x:V) (xs:List V) (v:Value) (us:List Value) (Q:VK),Inv X pins σ H s→RelV x v→Vals xs us→r x xs H Q →
  wpAny (model X.prog X.w) X.A (call (.builtin id) (v::us)) (EP X pins σ Q) X.xe s
section
variable {X:Cx} {a b:Expr} {ta tb:TE} {pos:Pos}
theorem a8 {r:R2} (hr:IxR X r) (ha:PE X a ta) (hb:PE X b tb) (hs:lC b):PE X (.Subscript a b pos) (tOp r ta tb):=by
 intro pins s σ H Q I h
 exact Subscript_ (nI ha hb I h fun v u s2 x y H2 I2 rx ry q=>hr a b pins s2 σ H2 x y v u Q I2 rx ry q (hs _ _))
def cf (K:PySem.W.Frag):R2:=fun x y H Q => ∃ p xs i v,x = .ref p∧y = .int i∧SqL K H p xs∧atI xs i=some v∧Q v H
def md (K:PySem.W.Frag):R2:=fun x y H Q => ∃ p xs i v,x = .ref p∧y = .int i∧SqT K H p xs∧atI xs i=some v∧Q v H
theorem aE:IxR X (cf X.K):=by
 intro value slice pins s σ H x y v u Q I rx ry h hs
 obtain ⟨p,xs,i,z,rfl,rfl,hq,he,q⟩:=h
 cases rx
 obtain ⟨t,rfl⟩:=ry
 obtain ⟨its,r,pl,hz⟩:=I.list hq
 obtain ⟨j,h1,h2,h3,h4,h5⟩:=iW he
 obtain ⟨w,ew,rw'⟩:=r.get h2
 have hl:=r.length
 have hn:=fF
 have fin:EP X pins σ Q w s:=⟨z,H,I,rw',q⟩
 by_cases h0:0≤i
 ·have hj:i.toNat=j:=by
   rw [seqIndex_of h0 h5] at h1
   exact Option.some.inj h1
  exact item_listR pl.isList h0 (by omega) (by rw [hj]; simpa using ew) fin hs
 ·have hj:(i+(its.toArray.size:Int)).toNat=j:=by
   rw [seqIndex_neg (by omega) h4] at h1
   rw [List.size_toArray,← hl]
   exact Option.some.inj h1
  exact subscriptTail_builtinR (x:=w) pl.isList.typeIs slot_list_getitem.lookup
   (wpAny_getItem_list_neg (Q:=fun r s'=>r=w∧EP X pins σ Q r s') pl.isList (by omega) (by rw [List.size_toArray] <;> omega) (by omega) (by rw [hj]; simpa using ew) ⟨rfl,fin⟩) hs
theorem ka:IxR X (md X.K):=by
 intro value slice pins s σ H x y v u Q I rx ry h hs
 obtain ⟨p,xs,i,z,rfl,rfl,hq,he,q⟩:=h
 cases rx
 obtain ⟨t,rfl⟩:=ry
 obtain ⟨its,r,pl,hz⟩:=I.tuple hq
 obtain ⟨j,h1,h2,h3,h4,h5⟩:=iW he
 obtain ⟨w,ew,rw'⟩:=r.get h2
 have hl:=r.length
 have hn:=fF
 have fin:EP X pins σ Q w s:=⟨z,H,I,rw',q⟩
 exact subscriptTail_builtinR (x:=w) pl.typeIs slot_tuple_getitem.lookup
  (getItem_tuple (j:=j) (Q:=fun r s'=>r=w∧EP X pins σ Q r s') pl (by omega) (by omega) (by rw [List.size_toArray,← hl]; exact h1) (by simpa using ew) ⟨rfl,fin⟩) hs
theorem ig (its:List Value) (n j:Nat) (u:Value):Obj.mapSeq (·.setIfInBounds j u) { cls := .type "list",data := .seq its.toArray n }={ cls := .type "list",data := .seq (its.set j u).toArray n }:=by
 simp [Obj.mapSeq]
theorem Inv.lst {pins:List (Addr×Obj)} {σ:St} {H:Hp} {s:Shared} {p:Addr} {xs:List V} (I:Inv X pins σ H s) (h:H p=some (.lst xs)) :
  ∃ (its:List Value) (n:Nat),Vals xs its∧s.heap.get? p=some { cls := .type "list",data := .seq its.toArray n }∧xs.length≤sizeLine:=by
 obtain ⟨z,its,n,r,e⟩:=I.hok p _ h
 exact ⟨its,n,r,e,z⟩
theorem Inv.lstUpd {pins:List (Addr×Obj)} {σ:St} {H:Hp} {s:Shared} {p:Addr} {xs ys:List V} {its its':List Value} {n n':Nat} {f:Obj→Obj} (I:Inv X pins σ H s) (h:H p=some (.lst xs))
  (ho:s.heap.get? p=some { cls := .type "list",data := .seq its.toArray n }) (hf:f { cls := .type "list",data := .seq its.toArray n }={ cls := .type "list",data := .seq its'.toArray n' }) (r:Vals ys its') (hz:ys.length≤sizeLine) (t:Nat) :
  Inv X pins σ (upd H p (.lst ys)) { s with heap:=s.heap.update p f,toks:=t }:=by
 have e:(s.heap.update p f).get? p=some { cls := .type "list",data := .seq its'.toArray n' }:=by
  rw [Heap.get?_update_self f ho (by rw [hf] <;> rfl),hf]
 refine I.write (x:=p) (e:=p) (by rw [h]; trivial) (.inl rfl) (fun b u hb q=>(Heap.get?_update_other _ _ (Ne.symm hb)).trans q) ⟨_,e⟩ ?_
 exact ⟨hz,its',n',r,e⟩
def m8:V→V→V→Hp→(Hp→Prop)→Prop:=fun o i v H Q => ∃ p xs k j,o = .ref p∧i = .int k∧H p=some (.lst xs)∧ixN xs.length k=some j∧Q (upd H p (.lst (xs.set j v)))
theorem fZ:mK X m8:=by
 intro pins s σ H o i v ov iv u Q I ro ri rv h
 obtain ⟨p,xs,k,j,rfl,rfl,hp,hj,q⟩:=h
 cases ro
 obtain ⟨t,rfl⟩:=ri
 obtain ⟨its,n,r,ho,hz⟩:=I.lst hp
 obtain ⟨h1,h2,h3,h4⟩:=iL hj
 have hl:=r.length
 have hn:=fF
 have I':Inv X pins σ (upd H p (.lst (xs.set j v))) { s with heap:=s.heap.update p (Obj.mapSeq (·.setIfInBounds j u)) } :=
  I.lstUpd hp ho (ig its n j u) (r.set rv j) (by rw [List.length_set]; exact hz) s.toks
 by_cases h0:0≤k
 ·have hk:k.toNat=j:=by
   rw [seqIndex_of h0 h4] at h1
   exact Option.some.inj h1
  exact PySem.W.ki_setAt ho h0 (by omega) (by rw [List.size_toArray,← hl]; exact h4) (by rw [hk]; exact ⟨_,I',q⟩)
 ·have hk:(k+(its.toArray.size:Int)).toNat=j:=by
   rw [seqIndex_neg (by omega) h3] at h1
   rw [List.size_toArray,← hl]
   exact Option.some.inj h1
  exact PySem.W.ki_setBack ho (by omega) (by rw [List.size_toArray,← hl]; exact h3) (by omega) (by rw [hk]; exact ⟨_,I',q⟩)
theorem fm (lo hi:Option Int) (n:Nat):(sliceBounds lo hi none n).1=((HT.sIx n 0 lo:Nat):Int)∧(sliceBounds lo hi none n).2.1=((HT.sIx n n hi:Nat):Int)∧(sliceBounds lo hi none n).2.2=1:=by
 refine ⟨?_,?_,rfl⟩
 ·cases lo with
  | none=>simp [sliceBounds,HT.sIx]
  | some i =>
   simp only [sliceBounds,HT.sIx,Option.getD_none,show (1:Int) > 0 by decide,if_true]
   by_cases h:i < 0
   ·simp only [h,if_true] <;> omega
   ·simp only [h,if_false] <;> omega
 ·cases hi with
  | none=>simp [sliceBounds,HT.sIx]
  | some i =>
   simp only [sliceBounds,HT.sIx,Option.getD_none,show (1:Int) > 0 by decide,if_true]
   by_cases h:i < 0
   ·simp only [h,if_true] <;> omega
   ·simp only [h,if_false] <;> omega
theorem eA (its:List Value) (lo hi:Option Int):slicePick its.toArray lo hi none=((its.drop (HT.sIx its.length 0 lo)).take (HT.sIx its.length its.length hi - HT.sIx its.length 0 lo)).toArray:=by
 obtain ⟨h1,h2,h3⟩:=fm lo hi its.toArray.size
 unfold slicePick
 rw [h1,h2,h3]
 simp only [sliceRange_one,pick_run,List.size_toArray] <;> rfl
def nY (K:PySem.W.Frag):V→Option Int→Option Int→Hp→VK→Prop:=fun x lo hi H Q => ∃ a xs,x = .ref a∧SqL K H a xs ∧ ∀ p,H p=none→Q (.ref p) (upd H p (.lst (eC xs lo hi)))
theorem dq:SlR X (nY X.K):=by
 intro pins s σ H x v vl vu lo hi sl Q I rx hs pl pu h
 obtain ⟨a,xs,rfl,hx,q⟩:=h
 cases rx
 obtain ⟨its,r,ht,hz⟩:=I.list hx
 have hlen:=r.length
 refine ⟨"list",_,slot_list_getitem.lookup,ht.isList.typeIs,?_⟩
 refine wpAny_getItem_list_slice ht.isList hs pl pu .none (by simp) ?_ (by rw [List.size_toArray] <;> omega)
 rw [eA,← hlen]
 refine ⟨.ref s.heap.objs.size,_,I.laid (t':=s.toks) (o := .lst (eC xs lo hi)) (fun b ob q=>Heap.get?_push_of_some _ q) (Nat.le_refl _) ?_,rfl,q _ (I.hok.fresh (Nat.le_refl _))⟩
 exact ⟨Nat.le_trans (gC xs lo hi) hz,_,0,(r.drop (HT.sIx xs.length 0 lo)).take (HT.sIx xs.length xs.length hi - HT.sIx xs.length 0 lo),Heap.get?_push_size _ rfl⟩
def lQ:V→Bool
 | .non=>true
 | .bl _=>true
 | .int _=>true
 | .str _=>true
 | _=>false
def eqV:V→V→Bool
 | .non,.non=>true
 | .bl a,.bl b=>a == b
 | .bl a,.int b=>(if a then 1 else 0) == b
 | .int a,.bl b=>a == (if b then 1 else 0)
 | .int a,.int b=>a == b
 | .str a,.str b=>a == b
 | _,_=>false
theorem dX {A:Around} {s:Shared} {y x:V} {u v:Value} (ry:RelV y u) (rx:RelV x v) (fy:lQ y=true) (fx:lQ x=true):SeqAt.EqAt A s u v (eqV y x):=by
 cases y with
 | non =>
  cases ry
  cases x with
  | non=>cases rx; exact SeqAt.EqAt.same _
  | bl b=>cases rx; exact SeqAt.EqAt.none_bool b
  | int b=>obtain ⟨t,rfl⟩:=rx; exact SeqAt.EqAt.none_int b t
  | str b=>obtain ⟨t,rfl⟩:=rx; exact SeqAt.EqAt.none_str b t
  | _=>exact absurd (show false=true from fx) Bool.false_ne_true
 | bl a =>
  cases ry
  cases x with
  | non=>cases rx; exact SeqAt.EqAt.bool_none a
  | bl b=>cases rx; exact SeqAt.EqAt.bool_bool a b
  | int b=>obtain ⟨t,rfl⟩:=rx; exact SeqAt.EqAt.bool_int a b t
  | str b=>obtain ⟨t,rfl⟩:=rx; exact SeqAt.EqAt.bool_str a b t
  | _=>exact absurd (show false=true from fx) Bool.false_ne_true
 | int a =>
  obtain ⟨t',rfl⟩:=ry
  cases x with
  | non=>cases rx; exact SeqAt.EqAt.int_none a t'
  | bl b=>cases rx; exact SeqAt.EqAt.int_bool a t' b
  | int b=>obtain ⟨t,rfl⟩:=rx; exact SeqAt.EqAt.int_int a t' b t
  | str b=>obtain ⟨t,rfl⟩:=rx; exact SeqAt.EqAt.int_str a t' b t
  | _=>exact absurd (show false=true from fx) Bool.false_ne_true
 | str a =>
  obtain ⟨t',rfl⟩:=ry
  cases x with
  | non=>cases rx; exact SeqAt.EqAt.str_none a t'
  | bl b=>cases rx; exact SeqAt.EqAt.str_bool a t' b
  | int b=>obtain ⟨t,rfl⟩:=rx; exact SeqAt.EqAt.str_int a t' b t
  | str b=>obtain ⟨t,rfl⟩:=rx; exact SeqAt.EqAt.str_str a t' b t
  | _=>exact absurd (show false=true from fx) Bool.false_ne_true
 | _=>exact absurd (show false=true from fy) Bool.false_ne_true
theorem fQ:bY X (.builtin "len") (fun xs H Q => ∃ p ys,xs=[.ref p]∧(SqL X.K H p ys∨SqT X.K H p ys)∧Q (.int ys.length) H):=by
 intro pins s σ H xs us Q I r h
 obtain ⟨p,ys,rfl,hq,q⟩:=h
 obtain ⟨u,rfl,rx⟩:=dD r
 cases rx
 have hn:=fF
 rcases hq with hq | hq
 ·obtain ⟨its,r',pl,hz⟩:=I.list hq
  have hlen:=r'.length
  exact Calls.call_len_list pl.isList (by simp only [List.size_toArray] <;> omega) ⟨.int ys.length,H,I.tok _,⟨s.toks+1,by rw [List.size_toArray,hlen]⟩,q⟩
 ·obtain ⟨its,r',pl,hz⟩:=I.tuple hq
  have hlen:=r'.length
  exact len_tuple pl (by simp only [List.size_toArray] <;> omega) ⟨.int ys.length,H,I.tok _,⟨s.toks+1,by rw [List.size_toArray,hlen]⟩,q⟩
theorem cT:bY X (.type "list") (fun xs H Q => ∃ p ys,xs=[.ref p]∧(SqL X.K H p ys∨SqT X.K H p ys) ∧ ∀ l,H l=none→Q (.ref l) (upd H l (.lst ys))):=by
 intro pins s σ H xs us Q I r h
 obtain ⟨p,ys,rfl,hq,q⟩:=h
 obtain ⟨u,rfl,rx⟩:=dD r
 cases rx
 have fin : ∀ (its:List Value),Vals ys its→ys.length≤sizeLine → ∀ (h':Heap) (c':Nat),(∀ b o',s.heap.get? b=some o'→h'.get? b=some o') →
   h'.get? s.heap.objs.size=some { cls := .type "list",dict:=none,data := .seq its.toArray c',slots := #[] }→EP X pins σ Q (.ref s.heap.objs.size) { s with heap:=h' }:=fun its r' hz h' c' kp e =>
  ⟨.ref s.heap.objs.size,_,I.laid (t':=s.toks) kp (Nat.le_refl _) (show ObjOk X.prog X.w _ h' _ (.lst ys) from ⟨hz,its,c',r',e⟩),rfl,q _ (I.hok.fresh (Nat.le_refl _))⟩
 rcases hq with hq | hq
 ·obtain ⟨its,r',pl,hz⟩:=I.list hq
  have hlen:=r'.length
  obtain ⟨o,ho,hc,n,hd⟩:=pl.isList
  exact call_list_seq p (.inl rfl) ho hc hd (fun h' c' kp e=>fin its r' hz h' c' kp e) (by simp only [List.size_toArray] <;> omega)
 ·obtain ⟨its,r',pl,hz⟩:=I.tuple hq
  have hlen:=r'.length
  obtain ⟨o,ho,hc,n,hd⟩:=pl
  exact call_list_seq p (.inr rfl) ho hc hd (fun h' c' kp e=>fin its r' hz h' c' kp e) (by simp only [List.size_toArray] <;> omega)
theorem eD:bY X (.type "tuple") (fun xs H Q => ∃ p ys,xs=[.ref p]∧((SqL X.K H p ys ∧ ∀ l,H l=none→Q (.ref l) (upd H l (.tup ys)))∨(SqT X.K H p ys∧Q (.ref p) H))):=by
 intro pins s σ H xs us Q I r h
 obtain ⟨p,ys,rfl,h⟩:=h
 obtain ⟨u,rfl,rx⟩:=dD r
 cases rx
 rcases h with ⟨hq,q⟩ | ⟨hq,q⟩
 ·obtain ⟨its,r',pl,hz⟩:=I.list hq
  have hlen:=r'.length
  refine call_tuple_list pl.isList (fun h' kp => ?_) (by simp only [List.size_toArray] <;> omega)
  have I1:Inv X pins σ H { s with heap:=h' }:=I.kept (t':=s.toks) kp
  have I2:Inv X pins σ (upd H h'.objs.size (.tup ys)) { s with heap:=h'.push { cls := .type "tuple",data := .seq its.toArray } } :=
   I1.laid (t':=s.toks) (fun b o e=>Heap.get?_push_of_some _ e) (Nat.le_refl _) (show ObjOk X.prog X.w _ _ _ (.tup ys) from ⟨hz,its,r',IsTup.new _ _⟩)
  exact ⟨.ref h'.objs.size,_,I2,rfl,q _ (I1.hok.fresh (Nat.le_refl _))⟩
 ·obtain ⟨its,r',pl,hz⟩:=I.tuple hq
  exact call_tuple_same pl ⟨.ref p,H,I,rfl,q⟩
def tyV (K:PySem.W.Frag) (T:String) (x:V) (H:Hp):Prop:=match x with
 | .str _=>T="str"
 | .int _=>T="int"
 | .ref p=>(T="list" ∧ ∃ xs,SqL K H p xs)∨(T="tuple" ∧ ∃ o,K.lookup p=some o∧o.cls = .type "tuple"∧o.dict=none) ∨
   (T="dict"∧((∃ kvs,H p=some (.dK kvs)) ∨ ∃ kvs,H p=some (.dT kvs)))∨(T="set" ∧ ∃ S n,H p=some (.set S n))
 | _=>False
theorem lX {pins:List (Addr×Obj)} {σ:St} {H:Hp} {s:Shared} {T:String} {x:V} {v:Value} (I:Inv X pins σ H s) (r:RelV x v) (ty:tyV X.K T x H) :
  s.TypeIs v T ∧ ∀ a,v = .ref a → ∃ ob,s.heap.get? a=some ob∧ob.dict=none:=by
 cases x with
 | str z =>
  obtain ⟨t,rfl⟩:=r
  cases (show T="str" from ty)
  exact ⟨typeIs_str s z t,fun _ e=>nomatch e⟩
 | int i =>
  obtain ⟨t,rfl⟩:=r
  cases (show T="int" from ty)
  exact ⟨typeIs_int s i t,fun _ e=>nomatch e⟩
 | ref p =>
  cases r
  rcases ty with ⟨rfl,xs,hq⟩ | ⟨rfl,o,hk,hc,hd⟩ | ⟨rfl,hk⟩ | ⟨rfl,S,n,hk⟩
  ·obtain ⟨its,_,pl,_⟩:=I.list hq
   refine ⟨pl.isList.typeIs,fun a e => ?_⟩
   cases e
   obtain ⟨o,n,e,c,hd,_⟩:=pl
   exact ⟨o,e,hd⟩
  ·refine ⟨⟨o,I.kIn p o hk,hc⟩,fun a e => ?_⟩
   cases e
   exact ⟨o,I.kIn _ o hk,hd⟩
  ·have z : ∃ o,s.heap.get? p=some o∧o.ExactDict:=by
    rcases hk with ⟨kvs,hk⟩ | ⟨kvs,hk⟩
    ·obtain ⟨_,_,_,_,o,_,_,e,ex,_⟩:=I.hok p _ hk
     exact ⟨o,e,ex⟩
    ·obtain ⟨_,_,_,_,o,_,_,e,ex,_⟩:=I.hok p _ hk
     exact ⟨o,e,ex⟩
   obtain ⟨o,e,ex⟩:=z
   refine ⟨⟨o,e,ex.1⟩,fun a e2 => ?_⟩
   cases e2
   exact ⟨o,e,ex.2.1⟩
  ·obtain ⟨o,_,_,_,e,ex,_⟩:=I.hok p _ hk
   refine ⟨⟨o,e,ex.1⟩,fun a e2 => ?_⟩
   cases e2
   exact ⟨o,e,ex.2.1⟩
 | _=>exact False.elim ty
def tBM (K:PySem.W.Frag) (T:String) (r:V→List V→Hp→VK→Prop) (to:TE) (t:TA):TE:=fun σ H Q=>to σ H fun x H1=>tyV K T x H1∧t σ H1 fun xs H2=>r x xs H2 Q
variable {o e:Expr} {es:List Expr} {to:TE} {t:TA} {name:Str} {apos cpos:Pos} {T id:String} {r:V→List V→Hp→VK→Prop}
theorem jT (pa:PlainAttrs T) (slot:Slot T name id) (hty:typeOf (.builtin id)=pure (.type "method_descriptor")) (hm:MtR X id r) (ho:PE X o to) (ha:PA X (e::es) t)
  (hbase:attributeBase o name X.env (eval o X.env)=eval o X.env:=by rfl)
  (hfew:((backTo cpos (starEach (e::es) X.env)).all (fun x => !x.1) && (backToKw cpos (keywordEach [] X.env)).all (fun x=>x.1.isSome)
   && decide ((e::es).length+([]:List Keyword).length+(if ([]:List Keyword).isEmpty then 0 else 1) < 30))=true:=by rfl)
  (hline:(apos.endLine == cpos.line)=true:=by rfl) (hs:starEach (e::es) X.env=(false,eval e X.env)::starEach es X.env:=by rfl) (hplain:(backTo cpos (starEach es X.env)).any (·.1)=false:=by rfl) :
  PE X (.Call (.Attribute o name apos) (e::es) [] cpos) (tBM X.K T r to t):=by
 intro pins s σ H Q I h
 refine wpAny_Call_method_late hbase hfew hline rfl (thn (ho pins s σ H _ I h) fun v s1 ⟨x,H1,I1,r1,ty,q1⟩ => ?_)
 obtain ⟨h1,h2⟩:=lX I1 r1 ty
 refine ⟨T,id,pa,slot,hty,h1,h2,?_⟩
 have hA:=ha cpos pins s1 σ H1 _ I1 q1
 rw [hs] at hA ⊢
 refine Calls.callWith_builtin (by show (false || (backTo cpos (starEach es X.env)).any (·.1))=false; rw [hplain] <;> rfl) (Calls.evalArgs_plain ?_)
 exact thn hA fun us s2 ⟨vs,H2,I2,r2,q2⟩=>hm pins s2 σ H2 x vs v us Q I2 r1 r2 q2
end
end L2
namespace L2
open PySem PySem.Spec PyProof.Rows
def MtM (X:Cx) (id:String) (r:V→List V→Hp→VK→Prop):Prop :=
 ∀ (pins:List (Addr×Obj)) (s:Shared) (σ:St) (H:Hp) (x:V) (xs:List V) (v:Value) (us:List Value) (Q:VK),Inv X pins σ H s→RelV x v→Vals xs us→r x xs H Q →
  wpAny (model X.prog X.w) X.A (call (.builtin id) (v::us)) (EP X pins σ Q) X.xe s
theorem Vals.one : ∀ {x:V} {us:List Value},Vals [x] us → ∃ u,us=[u]∧RelV x u
 | _,_,.cons r .nil=>⟨_,rfl,r⟩
section
variable {X:Cx} {pins:List (Addr×Obj)} {σ:St} {H:Hp} {s:Shared} {l b:Addr} {xs ys zs:List V}
theorem Inv.lset {its its':List Value} {n:Nat} {f:Array Value→Array Value} {t':Nat} (I:Inv X pins σ H s) (hH:H l=some (.lst xs))
  (e:s.heap.get? l=some { cls := .type "list",data := .seq its.toArray n }) (hf:f its.toArray=its'.toArray) (hv:Vals ys its') (hz:ys.length≤sizeLine) :
  Inv X pins σ (upd H l (.lst ys)) { s with heap:=s.heap.update l (Obj.mapSeq f),toks:=t' }:=by
 have q:=PySem.IsL.update e f
 rw [hf] at q
 refine I.write (x:=l) (e:=l) (by rw [hH]; exact trivial) (.inl rfl) (fun b' u hb hu=>(Heap.get?_update_other s.heap (Obj.mapSeq f) (Ne.symm hb)).trans hu) ⟨_,q⟩ ?_
 exact ⟨hz,its',_,hv,q⟩
theorem Inv.lnew {its:List Value} {t':Nat} (I:Inv X pins σ H s) (hv:Vals ys its) (hz:ys.length≤sizeLine) :
  Inv X pins σ (upd H s.heap.objs.size (.lst ys)) { s with heap:=s.heap.push { cls := .type "list",data := .seq its.toArray },toks:=t' } :=
 I.laid (fun _ _ q=>Heap.get?_push_of_some _ q) (Nat.le_refl _) ⟨hz,its,0,hv,Heap.get?_push_size _ rfl⟩
theorem Inv.fresh (I:Inv X pins σ H s):H s.heap.objs.size=none:=I.hok.fresh (Nat.le_refl _)
theorem Inv.lstM (I:Inv X pins σ H s) (hH:H l=some (.lst xs)):xs.length≤sizeLine ∧ ∃ (its:List Value) (n:Nat),Vals xs its∧xs.length=its.length∧s.heap.get? l=some { cls := .type "list",data := .seq its.toArray n }:=by
 obtain ⟨z,its,n,r,e⟩:=I.hok l _ hH
 exact ⟨z,its,n,r,r.length,e⟩
theorem j5 {n:Nat} (h:n≤sizeLine):Builtin.List.listTooLong n=false:=by
 unfold Builtin.List.listTooLong
 exact decide_eq_false (by omega)
end
section
variable {X:Cx}
def kO:V→List V→Hp→VK→Prop:=fun x vs H Q => ∃ l xs y,x = .ref l∧vs=[y]∧H l=some (.lst xs)∧xs.length < sizeLine∧Q .non (upd H l (.lst (xs++[y])))
theorem b7:MtM X "list.append" kO:=by
 intro pins s σ H x vs v us Q I rx rv h
 obtain ⟨l,xs,y,rfl,rfl,hH,hz,q⟩:=h
 cases rx
 obtain ⟨u,rfl,ru⟩:=rv.one
 obtain ⟨z,its,n,r,hl,e⟩:=I.lstM hH
 refine call_meets F.slot_list_append ⟨_,e,rfl⟩ F.entry_list_append (F.args_list_append_2 _ _) (PySem.list_append l its.toArray n u (by rw [List.size_toArray]; omega)) ⟨e,?_⟩
 refine ⟨.non,_,I.lset (its':=its++[u]) hH e (by simp) (r.append (.cons ru .nil)) ?_,rfl,q⟩
 rw [List.length_append,List.length_singleton]
 omega
def kN:V→List V→Hp→VK→Prop:=fun x vs H Q => ∃ l b xs zs,x = .ref l∧vs=[.ref b]∧H l=some (.lst xs)∧H b=some (.lst zs)∧xs.length+zs.length≤sizeLine∧Q .non (upd H l (.lst (xs++zs)))
theorem mM:MtM X "list.extend" kN:=by
 intro pins s σ H x vs v us Q I rx rv h
 obtain ⟨l,b,xs,zs,rfl,rfl,hH,hB,hz,q⟩:=h
 cases rx
 obtain ⟨u,rfl,ru⟩:=rv.one
 cases ru
 obtain ⟨z,its,n,r,hl,e⟩:=I.lstM hH
 obtain ⟨z2,its2,n2,r2,hl2,e2⟩:=I.lstM hB
 have hsz:its.toArray.size+its2.toArray.size≤sizeLine:=by rw [List.size_toArray,List.size_toArray]; omega
 have hlong : ¬ (!its.toArray.isEmpty && Builtin.List.listTooLong (its.toArray.size+its2.toArray.size))=true:=by
  rw [j5 hsz,Bool.and_false]
  exact Bool.false_ne_true
 refine call_meets F.slot_list_extend ⟨_,e,rfl⟩ F.entry_list_extend (F.args_list_extend_2 _ _)
  (AutoSeq1.list_extend_list_list_0 l its.toArray n b its2.toArray n2 hlong (by rw [List.size_toArray]; omega) (by omega)) ⟨e,e2,?_⟩
 refine ⟨.non,_,I.lset (its':=its++its2) hH e (by simp) (r.append r2) ?_,rfl,q⟩
 rw [List.length_append]
 omega
def n8:R2:=fun x y H Q => ∃ l b xs zs,x = .ref l∧y = .ref b∧H l=some (.lst xs)∧H b=some (.lst zs)∧xs.length+zs.length≤sizeLine ∧ ∀ p,H p=none→Q (.ref p) (upd H p (.lst (xs++zs)))
theorem mi:OpR X (binaryOp .Add) n8:=by
 intro pins s σ H x y v u Q I rx ry h
 obtain ⟨l,b,xs,zs,rfl,rfl,hH,hB,hz,q⟩:=h
 cases rx
 cases ry
 obtain ⟨z,its,n,r,hl,e⟩:=I.lstM hH
 obtain ⟨z2,its2,n2,r2,hl2,e2⟩:=I.lstM hB
 refine PySem.P.add_list e e2 ?_ (by rw [List.size_toArray,List.size_toArray]; omega)
 have ea:its.toArray++its2.toArray=(its++its2).toArray:=by simp
 rw [ea]
 exact ⟨.ref _,_,I.lnew (t':=s.toks) (r.append r2) (by rw [List.length_append]; omega),rfl,q _ I.fresh⟩
end
section
variable {prog:Program} {w:World} {A:Around} {E:Value→Shared→Prop} {s:Shared}
set_option maxRecDepth 100000 in
end
section
variable {X:Cx}
end
end L2
namespace L2
open PySem PySem.Spec PyProof.Rows
section
variable {κ:Type} [DecidableEq κ]
end
theorem np {P:Program} {w:World} {k:Key} {u:Value} (r:RelV (kV k) u):(a7 P w).is k u=true:=by
 cases k with
 | inl i=>obtain ⟨t,e⟩:=(show ∃ t,u=Value.int i t from r); subst e; exact gh P w i t
 | inr x=>obtain ⟨t,e⟩:=(show ∃ t,u=Value.str x t from r); subst e; exact gf P w x t
theorem eS {P:Program} {w:World} : ∀ {ks:List Key} {us:List Value},Vals (ks.map kV) us→ItemsAre (a7 P w) ks us
 | [],_,r=>by rw [List.map_nil] at r; cases r; exact .nil
 | k::ks,_,r=>by
  rw [List.map_cons] at r
  cases r with
  | cons h t=>exact .cons (np h) (eS t)
abbrev KT (H:Hp):List (List Key×V)→List (List Key×Addr×Value)→Prop:=Paired fun p q=>p.1=q.1∧H q.2.1=some (.tup (p.1.map kV))∧RelV p.2 q.2.2
section
variable {P:Program} {w:World} {H:Hp} {h:Heap} {a:Addr}
theorem lK {u:HO} (ok:HOk P w H h) (e:Rd H a u):ObjOk P w H h a u:=e.ok ok
theorem nF {kvs:List (Key×V)} (ok:HOk P w H h) (e:Rd H a (.dK kvs)):kvs.length≤sizeLine∧(a == sysModules)=false ∧ ∃ vs,KV kvs vs∧h.DictOf (a7 P w) a vs :=
 show ObjOk P w H h a (.dK kvs) from lK ok e
theorem mo {ks:List Key} (ok:HOk P w H h) (e:H a=some (.tup (ks.map kV))):(tupleKind (a7 P w)).is h ks a:=by
 obtain ⟨_,its,r,o,h1,h2,n,h3⟩:=(show ObjOk P w H h a (.tup (ks.map kV)) from ok a _ e)
 exact ⟨o,its.toArray,n,h1,h2,h3,by simpa using eS r⟩
theorem nB {kvs:List (List Key×V)} (ok:HOk P w H h) (e:Rd H a (.dT kvs)):kvs.length≤sizeLine∧(a == sysModules)=false ∧
  ∃ xs,KT H kvs xs∧h.DictOfH (tupleKind (a7 P w)) a xs:=by
 obtain ⟨z,y,xs,r,o,es,ep,h1,h2,h3,h4,h5⟩:=(show ObjOk P w H h a (.dT kvs) from lK ok e)
 refine ⟨z,y,xs,r,o,es,ep,h1,h2,h3,h4,fun x hx => ?_,h5⟩
 have all : ∀ {l:List (List Key×V)} {m:List (List Key×Addr×Value)},KT H l m → ∀ x∈m,(tupleKind (a7 P w)).is h x.1 x.2.1:=by
  intro l m q
  induction q with
  | nil=>intro x hx; exact nomatch hx
  | @cons p q ps qs hq t ih =>
   intro x hx
   rcases List.mem_cons.mp hx with e | hx
   ·subst e
    exact mo ok (by rw [← hq.1]; exact hq.2.1)
   ·exact ih x hx
 exact all r x hx
end
section
variable {X:Cx} {pins:List (Addr×Obj)} {σ:St} {H:Hp} {s:Shared} {a:Addr} {y v:V} {u r:Value} {o:Option V} {A:Around} {E:Value→Shared→Prop}
theorem Inv.big (I:Inv X pins σ H s):sysModules < s.heap.objs.size:=by
 have h:mainGlobals < s.heap.objs.size:=(I.mod.glob.keeps I.bk).lt
 exact Nat.lt_trans (by decide) h
end
section
variable {X:Cx} {pins:List (Addr×Obj)} {σ:St} {H:Hp} {s:Shared} {a:Addr} {kvs:List (Key×V)} {k:Key} {u:Value} {A:Around} {E:Value→Shared→Prop}
end
section
variable {X:Cx} {o i e value:Expr} {pos pos' tpos:Pos} {td ty tv:TE}
end
theorem kx {P:Program} {w:World} {H:Hp} (h:Heap) (hb:sysModules < h.objs.size):ObjOk P w H (h.push { cls := .type "dict",data := .dict #[] }) h.objs.size (.dK []) :=
 ⟨Nat.zero_le _,beq_eq_false_iff_ne.mpr (Ne.symm (Nat.ne_of_lt hb)),[],.nil,Heap.DictOf.new h⟩
def lZ:TE:=fun _ H Q => ∀ p,H p=none→Q (.ref p) (upd H p (.dK []))
section
variable {X:Cx} {pos:Pos}
theorem ga:PE X (.Dict [] [] pos) lZ:=fun pins s σ H Q I h =>
 wpAny_Dict_empty ⟨.ref s.heap.objs.size,_,I.laid (a:=s.heap.objs.size) (o := .dK []) (t':=s.toks) (fun _ _ q=>Heap.get?_push_of_some _ q) (Nat.le_refl _) (kx s.heap I.big),rfl,h _ (I.hok.fresh (Nat.le_refl _))⟩
end
structure M2 (X:Cx) (o:Expr) (m:Str) (apos:Pos) (e f:Expr) (cpos:Pos):Prop where
 base:attributeBase o m X.env (eval o X.env)=eval o X.env
 few:((backTo cpos (starEach [e,f] X.env)).all (fun x => !x.1) && (backToKw cpos (keywordEach [] X.env)).all (fun x=>x.1.isSome)
  && decide (([e,f]:List Expr).length+([]:List Keyword).length+(if ([]:List Keyword).isEmpty then 0 else 1) < 30))=true
 line:(apos.endLine == cpos.line)=true
 trees:backTo cpos (starEach [e,f] X.env)=[(false,eval e X.env),(false,eval f X.env)]
def IsD (H:Hp) (a:Addr):Prop:=(∃ kvs,Rd H a (.dK kvs)) ∨ ∃ kvs,Rd H a (.dT kvs)
theorem mw {X:Cx} {pins:List (Addr×Obj)} {σ:St} {H:Hp} {s:Shared} {a:Addr} (I:Inv X pins σ H s) (d:IsD H a) :
  s.TypeIs (.ref a) "dict"∧(∀ b,Value.ref a = .ref b → ∃ ob,s.heap.get? b=some ob∧ob.dict=none)∧(a == sysModules)=false:=by
 rcases d with ⟨kvs,e⟩ | ⟨kvs,e⟩
 ·obtain ⟨_,hd,vs,_,dd⟩:=nF I.hok e
  refine ⟨dd.typeIs,fun b q => ?_,hd⟩
  cases q
  obtain ⟨ob,_,_,h1,h2,_⟩:=dd
  exact ⟨ob,h1,h2.2.1⟩
 ·obtain ⟨_,hd,xs,_,dd⟩:=nB I.hok e
  refine ⟨dd.typeIs,fun b q => ?_,hd⟩
  cases q
  obtain ⟨ob,_,_,h1,h2,_⟩:=dd
  exact ⟨ob,h1,h2.2.1⟩
section
variable {X:Cx} {pins:List (Addr×Obj)} {σ:St} {H:Hp} {s:Shared} {a:Addr} {y d:V} {u r:Value} {o:Option V} {A:Around} {E:Value→Shared→Prop}
end
section
variable {X:Cx} {o e f:Expr} {apos cpos:Pos} {td ty tx:TE}
end
section
variable {X:Cx} {pins:List (Addr×Obj)} {σ:St} {H:Hp} {s:Shared} {a:Addr} {kvs:List (Key×V)} {A:Around} {E:Value→Shared→Prop}
end
section
variable {X:Cx} {pins:List (Addr×Obj)} {σ:St} {H:Hp} {s:Shared} {a:Addr} {y:V} {u:Value} {A:Around} {E:Value→Shared→Prop}
end
end L2
namespace Att
open PySem PySem.W PySem.Calls PyProof.Rows
theorem dm {P:Params} {h:Heap} : ∀ (ns:List Int) (vs:List Value),WellAll P h vs (ns.map WData.int)→IntsAre vs ns:=by
 intro ns
 induction ns with
 | nil =>
  intro vs w
  rw [List.map_nil] at w
  cases w
  exact .nil
 | cons n ns ih =>
  intro vs w
  rw [List.map_cons] at w
  cases w with
  | cons a b =>
   cases a
   exact .cons _ _ (ih _ b)
theorem jd {l:OpenLaw} {n:Nat} (hn:l.most=some n) {P:Params} {h:Heap} {args:List WData} {vals:List Value}
  (hpre:l.row.toRowW.claim.pre args=true) (hwl:WellAll P h vals args) :
  ∃ a vs ns,vals=[Value.ref a]∧args=[WData.list (ns.map WData.int)]∧h.get? a=some { cls := .type "list",data := .seq vs.toArray }∧IntsAre vs ns∧ns.length≤n:=by
 have hsh:WShape.hasAll [] args [.list .int]=true:=(pre_splitW hpre).1
 have hc:l.pre.holds [] { args:=args }=true:=(pre_splitW hpre).2
 obtain ⟨d,r,rfl,h1,h2⟩:=hasAllW_cons hsh
 obtain rfl:=hasAllW_nil h2
 obtain ⟨xs,rfl,h3⟩:=hasW_list h1
 obtain ⟨ns,rfl⟩:=items_int h3
 have hlen:ns.length≤n:=by
  unfold OpenLaw.pre at hc
  have h4:(WTm.not (.lt (.lit (.int (n:Int))) (.len (.arg 0)))).holds [] { args:=[.list (ns.map .int)] }=true:=by
   have h4:=(holds_andW hc).1
   rw [hn] at h4
   exact h4
  have h5:=condW_of h4 (w_not (w_lt w_lit (w_len_list (w_arg rfl))))
  rw [List.length_map] at h5
  refine Nat.le_of_not_lt fun q => ?_
  have q':(n:Int) < ((ns.length:Nat):Int):=by omega
  first
   | (rw [decide_eq_true q'] at h5; exact absurd h5 (by decide))
   | (simp at h5; omega)
 cases hwl with
 | cons w1 w2 =>
  cases w2
  cases w1 with
  | list ho hall=>exact ⟨_,_,ns,rfl,rfl,ho,dm ns _ hall,hlen⟩
theorem je (l:OpenLaw) (args:List WData):l.row.toRowW.claim.post args (.bool true) args=true :=
 postW_of (r:=l.row.toRowW) (X:=(true == true))
  (show WShape.has [] (.bool true) .bool=true by first | rfl | decide | simp [WShape.has,WShape.arms,WShape.armsAll])
  (show (WTm.eq .res (.lit (.bool true))).value [] { args:=args,res:=some (.bool true),after:=args }=some (.bool (true == true)) from w_eq_bool (w_res rfl) w_lit) rfl
theorem attach_call {l:OpenLaw} {n:Nat} {q:Program} {loose:List Str} {XP:(Str→Option Value)→Heap→Prop} {YP:World→Heap→Prop} {d:DefRec}
  (hn:l.most=some n) (hdf:d.params.defaults=[])
  (call : ∀ (w:World) (s₀ s₁:Shared) (mg mb:Str→Option Value) (fa:Addr) (o:Obj) (pm cd doc:Value) (a:Addr) (vs:List Value) (ns:List Int),
   Ground q loose [] XP w s₀ mg mb s₁.heap→YP w s₁.heap →
   s₁.heap.get? fa=some o→o.data = .func (docDef d.name d.params d.body d.scope pm cd doc)→s₁.heap.CodeRec cd d.name→mg d.name=some (.ref fa) →
   s₁.heap.get? a=some { cls := .type "list",data := .seq vs.toArray }→IntsAre vs ns→ns.length≤n→s₁.gens = #[] →
   codeAny (model l.prog w) callerA (.call (.ref fa) ⟨[.ref a],[]⟩) (fun r s'=>r = .ok (.ret (.bool true))∧OldK s₁.heap s'.heap∧s'.os=s₁.os∧AllBare s'.gens) s₁) :
  WalkO q loose XP YP l.row.toRowW d [] (fun f vs=>PySem.call f vs):=by
 intro w s₀ s₁ mg mb G Y fa o pm cd doc dV kV ho hd hcd hD hmg hg args vals as hpre hlay hrd hwl hlo
 obtain rfl:dV = .none:=Dflts.none hD hdf
 obtain rfl:kV = .none:=Dflts.noKw hD
 obtain ⟨a,vs,ns,rfl,rfl,hobj,hints,hlen⟩:=jd hn hpre hwl
 refine enter_call (codeAny_mono (call w s₀ s₁ mg mb fa o pm cd doc a vs ns G Y ho (fd_plain hd) hcd hmg hobj hints hlen hg) fun r s' hq => ?_)
 obtain ⟨rfl,h2,h3,h4⟩:=hq
 exact ⟨.inl ⟨.bool true,.bool true,[],rfl,fun _=>rfl,.bool true,je l _,fun _=>⟨List.Pairwise.nil,fun _ hm=>(nomatch hm)⟩⟩,h2,h3,h4⟩
section
variable {prog:Program} {w:World} {A:Around} {E:Value→Shared→Prop} {s:Shared} {K:Frag}
end
end Att
namespace L2
open PySem PySem.Spec PyProof.Rows
theorem eH : ∀ {vs:List Value} {ns:List Int},IntsAre vs ns→Vals (ns.map V.int) vs
 | _,_,.nil => .nil
 | _,_,.cons n t h => .cons ⟨t,rfl⟩ (eH h)
def mL (H:Hp):Prop := ∀ b,H b=none ∨ ∃ o xs,H b=some (.frz o (.lst xs))
theorem j8 {P:Program} {w:World} {K:PySem.W.Frag} {mg mb:Str→Option Value} {CX:CXT} {k:Nat} {fa a:Addr} {fd:FuncData} {x:Str} {sp:Sp} {s₁:Shared} {vs:List Value} {ns:List Int}
  (KX:K.In s₁.heap) (hns:s₁.heap.Ns mainGlobals mg) (hb:s₁.heap.Ns builtinsNs mb) (hbb : ∀ x:Str,x≠"__name__"→mb x=bootBuiltins x) (hlim:s₁.heap.NoLimit) (hg:s₁.gens = #[])
  (ha:s₁.heap.get? a=some { cls := .type "list",data := .seq vs.toArray }) (hi:IntsAre vs ns) (hl:ns.length≤sizeLine) (hr:Room k callerA)
  (F : ∀ base:Heap,K.In base→base.Ns mainGlobals mg→a9 P w K mg base CX k fa fd [x] sp) (hbind : ∀ (s:Shared) (u:Value),BindsTo s fd ⟨[u],[]⟩ [(x,u)])
  (hsp : ∀ H:Hp,mL H→SqL K H a (ns.map V.int)→sp [.ref a] H (fun v _=>v = .bl true) fun _ _ _=>False)
  (hCX : ∀ H e s',CX [] H s₁ (fun _ _ _=>False) e s'→False) :
  codeAny (model P w) callerA (.call (.ref fa) ⟨[.ref a],[]⟩) (fun r s'=>r = .ok (.ret (.bool true))∧OldK s₁.heap s'.heap∧s'.os=s₁.os∧AllBare s'.gens) s₁:=by
 have rv:=eH hi
 have lenV:=hi.length
 have core : ∀ H:Hp,mL H→SqL K H a (ns.map V.int)→HOk P w H s₁.heap→(∀ b,H b≠none→b=a)→(H a≠none→K.lookup a=none) →
   codeAny (model P w) callerA (.call (.ref fa) ⟨[.ref a],[]⟩) (fun r s'=>r = .ok (.ret (.bool true))∧OldK s₁.heap s'.heap∧s'.os=s₁.os∧AllBare s'.gens) s₁:=by
  intro H hO hS hok hA hK
  have base_of : ∀ {b:Addr} {o:Obj},s₁.heap.get? b=some o→H b=none→(fK s₁.heap H).get? b=some o:=fun e n=>kq e n
  have noA : ∀ {b:Addr} {o:Obj} {es:Array DictEntry} {ep:Nat},s₁.heap.get? b=some o→o.data = .dict es ep→H b=none:=fun {b o es ep} e d=>by
   cases q:H b with
   | none=>rfl
   | some u =>
    have e':b=a:=hA b (by rw [q]; simp)
    subst e'
    rw [ha] at e; cases e
    have d':Data.seq vs.toArray _=Data.dict es ep:=d
    cases d'
  have nsK : ∀ {b:Addr} {m:Str→Option Value},s₁.heap.Ns b m→(fK s₁.heap H).Ns b m:=fun {b m} ⟨o,es,ep,e,d,r⟩=>⟨o,es,ep,base_of e (noA e d),d,r⟩
  have hKb:K.In (fK s₁.heap H):=fun b o e=>base_of (KX b o e) (by
   cases q:H b with
   | none=>rfl
   | some u =>
    have e':b=a:=hA b (by rw [q]; simp)
    subst e'
    rw [hK (by rw [q]; simp)] at e; cases e)
  have hM:Mod K mg (fK s₁.heap H):=⟨hKb,nsK hns,⟨mb,nsK hb,hbb⟩,let ⟨mc,h1,h2⟩:=hlim; ⟨mc,nsK h1,h2⟩⟩
  have e0:lE P w K mg (fK s₁.heap H) callerA [] s₁ H:=⟨rfl,hM,fun b o e=>kZ e,Nat.le_of_eq (jr _ _),trivial,fun b hb=>absurd (show b∈([]:List Addr) from hb) (by simp),hok,.of_eq hg⟩
  refine codeAny_mono ((F _ hKb (nsK hns)).run callerA [] s₁ H ⟨[.ref a],[]⟩ [.ref a] [.ref a] _ _ hr e0 (hbind s₁ (.ref a)) (.cons rfl .nil) (hsp H hO hS)) fun r s' h => ?_
  cases r with
  | error e=>exact (hCX H e s' h).elim
  | ok fl =>
   cases fl with
   | next=>exact False.elim h
   | brk=>exact False.elim h
   | cont=>exact False.elim h
   | ret u =>
    obtain ⟨v,H',os,bare,un,hok',r',q⟩:=h
    have q':v = .bl true:=q
    subst q'
    obtain rfl:u=Value.bool true:=r'
    refine ⟨rfl,OldK.of_keep fun b o e => ?_,os,bare⟩
    cases q:H b with
    | none=>exact un.keep b o e q (by intro z; exact absurd (show b∈([]:List Addr) from z) (by simp)) (by simp)
    | some u =>
     rcases hO b with z | ⟨ob,xs,z⟩
     ·rw [q] at z; cases z
     ·have z2:=un.frzs b ob _ z
      obtain ⟨e1,_⟩:=hok b _ z
      obtain ⟨e2,_⟩:=hok' b _ z2
      rw [e] at e1; cases e1
      exact e2
 cases hk:K.lookup a with
 | some o =>
  have e:=KX a o hk
  rw [ha] at e
  cases e
  refine core (fun _=>none) (fun _ => .inl rfl) (.inr ⟨_,vs.toArray,_,hk,rfl,rfl,rfl,by rw [List.size_toArray,lenV]; exact hl,by simpa using rv⟩) (fun b u z=>by have z':(none:Option HO)=some u:=z; cases z') (fun b z=>absurd rfl z) fun z=>absurd rfl z
 | none =>
  refine core (fun b=>if b=a then some (.frz { cls := .type "list",data := .seq vs.toArray } (.lst (ns.map V.int))) else none) (fun b => ?_) (.inl (.inr ⟨{ cls := .type "list",data := .seq vs.toArray },if_pos rfl⟩)) (fun b u z => ?_) (fun b z => ?_) fun _=>hk
  ·by_cases hb:b=a
   ·exact .inr ⟨_,_,if_pos hb⟩
   ·exact .inl (if_neg hb)
  ·by_cases hb:b=a
   ·have z':=(if_pos hb).symm.trans z
    cases z'
    subst hb
    exact ⟨ha,by rw [List.length_map]; exact hl,vs,_,rv,ha⟩
   ·have z':=(if_neg hb).symm.trans z
    cases z'
  ·by_cases hb:b=a
   ·exact hb
   ·exact absurd (if_neg hb) z
end L2
namespace L2
open PySem PySem.Spec PyProof.Rows
theorem nL {l:PySem.W.OpenLaw} {n k:Nat} {q:Program} {loose:List Str} {XP:(Str→Option Value)→Heap→Prop} {YP:World→Heap→Prop} {d:DefRec} {K:Params→PySem.W.Frag} {CX:World→CXT} {sp:World→Sp} {x:Str}
  (hn:l.most=some n) (hn2:n≤sizeLine) (hdf:d.params.defaults=[]) (hr:Room k callerA)
  (hY : ∀ (w:World) (h:Heap),YP w h→(K w.params).In h)
  (F : ∀ (w:World) (mg:Str→Option Value) (fa:Addr) (h:Heap),(K w.params).In h→h.Ns mainGlobals mg→mg d.name=some (.ref fa) →
   ∃ fd:FuncData,(∀ (s:Shared) (u:Value),BindsTo s fd ⟨[u],[]⟩ [(x,u)]) ∧
    ∀ base:Heap,(K w.params).In base→base.Ns mainGlobals mg→a9 l.prog w (K w.params) mg base (CX w) k fa fd [x] (sp w))
  (hsp : ∀ (w:World) (H:Hp) (a:Addr) (ns:List Int),ns.length≤n→mL H→SqL (K w.params) H a (ns.map V.int)→sp w [.ref a] H (fun v _=>v = .bl true) fun _ _ _=>False)
  (hCX : ∀ (w:World) (H:Hp) (s:Shared) (e:Value) (s':Shared),CX w [] H s (fun _ _ _=>False) e s'→False) :
  PySem.W.WalkO q loose XP YP l.row.toRowW d [] (fun f vs=>PySem.call f vs):=by
 refine Att.attach_call hn hdf fun w s₀ s₁ mg mb fa o pm cd doc a vs ns G Y ho hd hcd hmg hobj hints hlen hg => ?_
 have KX:=hY w _ Y
 obtain ⟨fd,hb,hF⟩:=F w mg fa _ KX G.T.g hmg
 exact j8 KX G.T.g G.T.b G.T.builtins G.T.nolimit hg hobj hints (Nat.le_trans hlen hn2) hr hF hb (fun H hO hS=>hsp w H a ns hlen hO hS) fun H e s'=>hCX w H s₁ e s'
end L2
namespace L2
open PySem PySem.Spec PyProof.Rows
def aI (s:Stmt):Arguments:=match s with
 | .FunctionDef _ a _ _ _ _ _ _ _ _=>a
 | _=>{ posonlyargs:=[],args:=[],vararg:=none,kwonlyargs:=[],kw_defaults:=[],kwarg:=none,defaults:=[] }
def aF (s:Stmt):List Stmt:=match s with
 | .FunctionDef _ _ b _ _ _ _ _ _ _=>b
 | _=>[]
def aj (s:Stmt):Scope:=match s with
 | .FunctionDef _ _ _ _ _ _ sc _ _ _=>sc
 | _=>{ kind := .function,names:=[],isGenerator:=false,isCoroutine:=false }
abbrev CX0:CXT:=fun _ _ _ _ _ _=>False
abbrev E0:XK:=fun _ _ _=>False
theorem aV {X:Cx}:iz CX0 X E0:=fun _ _ _ _ _ _ _ h=>h.elim
structure Fun (K:PySem.W.Frag) (x qual:Str) (st:Stmt) (f:Addr) (fd:FuncData):Prop where
 ex : ∃ (oc:Value) (od:Option Addr) (kV doc pm:Value) (an:Option Addr) (cdv ct:Value) (osl:Array (Option Value)),
  fd=PySem.W.fnOf x qual (aI st) (aF st) (aj st) .none kV doc pm an cdv ct∧K.lookup f=some ⟨oc,od,.func fd,osl⟩∧PySem.W.codeIn K cdv qual=true
 kp:PySem.W.keepIn K (.ref f)=true
section
variable {P:Program} {w:World} {K:PySem.W.Frag} {mg:Str→Option Value} {base:Heap}
theorem Fun.ok {x qual:Str} {st:Stmt} {f:Addr} {fd:FuncData} {N ps:List Str} {k:Nat} {sp:Sp} (F:Fun K x qual st f fd) (S:aR N ps (aj st)) (len : ∀ vs H Q E,sp vs H Q E→vs.length=ps.length)
  (hbody : ∀ (cdv:Value) (A:Around) (outer:List Env) (s:Shared) (H:Hp) (vs:List V) (Q:VK) (E:XK),Room k (A.deeper (envOfC qual (aj st) s.heap.objs.size f cdv))→sp vs H Q E →
   ∃ t,PSs (jx CX0 P w K mg base N qual (aj st) f cdv A outer s H E).nox (aF st) t∧t { nx:=fun _ H'=>Q .non H',rt:=Q } (aY N vs) H):a9 P w K mg base CX0 (k+1) f fd ps sp:=by
 obtain ⟨oc,od,kV,doc,pm,an,cdv,ct,osl,rfl,lk,hcd⟩:=F.ex
 refine nw lk hcd S len fun A outer s H vs Q E hr hsp => ?_
 obtain ⟨t,h,q⟩:=hbody cdv A outer s H vs Q E hr hsp
 exact ⟨t,h.nox,q⟩
theorem Fun.binds {x qual:Str} {st:Stmt} {f:Addr} {fd:FuncData} {ps:List Str} (F:Fun K x qual st f fd)
  (h : ∀ (kV doc pm:Value) (an:Option Addr) (cdv ct:Value) (us:List Value),us.length=ps.length→bindArgs (PySem.W.fnOf x qual (aI st) (aF st) (aj st) .none kV doc pm an cdv ct) ⟨us,[]⟩=pure (ps.zip us)):Binds K fd ps []:=by
 obtain ⟨oc,od,kV,doc,pm,an,cdv,ct,osl,rfl,lk,hcd⟩:=F.ex
 exact .all (h kV doc pm an cdv ct)
theorem bJ {x qual:Str} {st:Stmt} {f:Addr} {oc:Value} {od an:Option Addr} {osl:Array (Option Value)} {kV doc pm cdv ct:Value} (l:K.lookup f=some ⟨oc,od,.func (PySem.W.fnOf x qual (aI st) (aF st) (aj st) .none kV doc pm an cdv ct),osl⟩)
  (c:PySem.W.codeIn K cdv qual=true) (k:PySem.W.keepIn K (.ref f)=true):Fun K x qual st f (PySem.W.fnOf x qual (aI st) (aF st) (aj st) .none kV doc pm an cdv ct):=⟨⟨oc,od,kV,doc,pm,an,cdv,ct,osl,rfl,l,c⟩,k⟩
end
theorem az {n:Nat} (h:n≤1000):n < sizeLine:=Nat.lt_of_le_of_lt h (by decide)
section
variable {X:Cx}
theorem pv (i:Nat) {x:Str} {pos:Pos} (hN:X.N[i]?=some x:=by rfl) (hv:Vis X.env.scope x:=by first | exact Or.inl rfl | exact Or.inr (Or.inl rfl) | exact Or.inr (Or.inr rfl)) (hd:(x == ("__debug__":Str))=false:=by decide)
  (hcd:(x == ("__classdict__":Str))=false:=by decide):PE X (.Name x pos) (mO i):=me hN hv hd hcd
end
theorem dl {A B:Prop} (h:B):if false=true then A else B:=by
 rw [if_neg Bool.false_ne_true]
 exact h
theorem ot {A B:Prop} (h:A):if true=true then A else B:=by
 rw [if_pos rfl]
 exact h
theorem mt {c A B:Prop} [Decidable c] (h1:c→A) (h2 : ¬ c→B):if c then A else B:=by
 by_cases h:c
 ·rw [if_pos h]
  exact h1 h
 ·rw [if_neg h]
  exact h2 h
def Same (H H':Hp):Prop := ∀ b o,H b=some o→H' b=some o
theorem Same.refl (H:Hp):Same H H:=fun _ _ h=>h
theorem Same.trans {H H1 H2:Hp} (a:Same H H1) (b:Same H1 H2):Same H H2:=fun c o h=>b c o (a c o h)
theorem Same.free {H H':Hp} (e:Same H H') {l:Addr} (h:H' l=Option.none):H l=Option.none:=by
 cases q:H l with
 | none=>rfl
 | some o =>
  rw [e l o q] at h
  cases h
theorem Same.seq {K:PySem.W.Frag} {H H':Hp} {a:Addr} {xs:List V} (e:Same H H') (h:SqL K H a xs):SqL K H' a xs:=by
 rcases h with (h | ⟨o,h⟩) | h
 ·exact .inl (.inl (e _ _ h))
 ·exact .inl (.inr ⟨o,e _ _ h⟩)
 ·exact .inr h
end L2
namespace L2
open PySem PySem.Spec PyProof.Rows
section
variable {X:Cx}
end
section
variable {κ:Type} [DecidableEq κ]
end
end L2
namespace L2
open PySem PySem.Spec PyProof.Rows
def cS (cells:List (Str×Addr)):List (Str×NameKind)→List (Str×Addr)→List (Str×Addr)
 | [],acc=>acc
 | (n,k)::r,acc=>cS cells r (if k == .free then (n,(cells.lookup n).getD 0)::acc else acc)
theorem fN {env:Env} : ∀ (names:List (Str×NameKind)) (acc:List (Str×Addr)),(∀ x∈names,x.2 = .free → ∃ c,env.cells.lookup x.1=some c) →
  (forIn (m:=Sem) names acc fun x r=>if (x.2 == NameKind.free)=true then (do let a ← cellOf env x.1; pure (ForInStep.yield ((x.1,a)::r))) else pure (ForInStep.yield r))=pure (cS env.cells names acc)
 | [],acc,_=>rfl
 | (n,k)::r,acc,h=>by
  have hr : ∀ x∈r,x.2 = .free → ∃ c,env.cells.lookup x.1=some c:=fun x hx=>h x (List.mem_cons_of_mem _ hx)
  rw [List.forIn_cons]
  by_cases hk:k = .free
  ·subst hk
   obtain ⟨c,hc⟩:=h (n,.free) List.mem_cons_self rfl
   have hc:env.cells.lookup n=some c:=hc
   have e:cellOf env n=pure c:=by unfold cellOf; rw [hc]
   have q:=fN r ((n,c)::acc) hr
   show ((do let a ← cellOf env n; pure (ForInStep.yield ((n,a)::acc))) >>= _)=_
   rw [e]
   refine Eq.trans ?goalA (Eq.trans q ?goalB)
   case goalA=>rfl
   case goalB =>
    show _=pure (cS env.cells r ((n,(env.cells.lookup n).getD 0)::acc))
    rw [hc]
    rfl
  ·have hb:(k == NameKind.free)=false:=by simpa using hk
   have q:=fN r acc hr
   show ((if (k == NameKind.free)=true then _ else _) >>= _)=pure (cS env.cells r (if k == .free then _ else acc))
   rw [hb]
   exact q
theorem cn {scope:Scope} {env:Env} (h : ∀ x∈scope.names,x.2 = .free → ∃ c,env.cells.lookup x.1=some c):closureFor scope env=pure (cS env.cells scope.names []):=by
 have q:=fN scope.names [] h
 unfold closureFor
 show (forIn scope.names [] _ >>= fun cs=>pure cs)=_
 refine Eq.trans (congrArg (fun t=>t >>= fun cs=>pure cs) (Eq.trans ?_ q)) ?_
 ·rfl
 ·rfl
theorem br {cells:List (Str×Addr)} : ∀ (names:List (Str×NameKind)) (acc:List (Str×Addr)),(∀ y∈names,y.2 = .free → ∃ c,cells.lookup y.1=some c)→(∀ x c,acc.lookup x=some c→cells.lookup x=some c) →
  ∀ x c,(cS cells names acc).lookup x=some c→cells.lookup x=some c
 | [],acc,_,h2=>h2
 | (n,k)::r,acc,h1,h2=>by
  have hr : ∀ x∈r,x.2 = .free → ∃ c,cells.lookup x.1=some c:=fun x hx=>h1 x (List.mem_cons_of_mem _ hx)
  refine br r _ hr ?_
  intro x c e
  by_cases hk:k = .free
  ·subst hk
   obtain ⟨c',hc⟩:=h1 (n,.free) List.mem_cons_self rfl
   have hc:cells.lookup n=some c':=hc
   rw [show (if (NameKind.free == NameKind.free)=true then (n,(cells.lookup n).getD 0)::acc else acc)=(n,(cells.lookup n).getD 0)::acc from rfl,hc] at e
   rw [List.lookup_cons] at e
   cases q:x == n with
   | true =>
    rw [q] at e
    have e1:x=n:=by simpa using q
    have e2:c'=c:=Option.some.inj e
    rw [e1,hc,e2]
   | false =>
    rw [q] at e
    exact h2 x c e
  ·have hb:(k == NameKind.free)=false:=by simpa using hk
   rw [hb] at e
   exact h2 x c e
theorem gF {cells:List (Str×Addr)} : ∀ (names:List (Str×NameKind)) (acc:List (Str×Addr)) (x:Str),((x,NameKind.free)∈names ∨ ∃ c,acc.lookup x=some c) → ∃ c,(cS cells names acc).lookup x=some c
 | [],acc,x,h=>h.elim (fun z=>nomatch z) id
 | (n,k)::r,acc,x,h=>by
  refine gF r _ x ?_
  rcases h with h | ⟨c,h⟩
  ·rcases List.mem_cons.mp h with e | e
   ·have e1:x=n:=congrArg Prod.fst e
    have e2:NameKind.free=k:=congrArg Prod.snd e
    subst e2
    subst e1
    exact .inr ⟨(cells.lookup x).getD 0,by show List.lookup x ((x,_)::acc)=_; rw [List.lookup_cons,beq_self_eq_true]⟩
   ·exact .inl e
  ·right
   by_cases hk:(k == NameKind.free)=true
   ·rw [if_pos hk,List.lookup_cons]
    cases x == n with
    | true=>exact ⟨_,rfl⟩
    | false=>exact ⟨c,h⟩
   ·rw [if_neg hk]
    exact ⟨c,h⟩
section
variable {X:Cx} {pins:List (Addr×Obj)} {σ:St} {H:Hp} {s:Shared} {a:Addr} {o:HO}
theorem Inv.track (I:Inv X pins σ H s) (hn:H a=none) (h0:X.s₀.heap.objs.size≤a) (hL:a≠X.env.locals) (h2 : ∀ x c,X.env.cells.lookup x=some c→c≠a) (h3 : ∀ p∈X.pn++pins,p.1≠a)
  (new:ObjOk X.prog X.w (upd H a o) s.heap a o):Inv X pins σ (upd H a o) s:=by
 have old : ∀ b u,X.s₀.heap.get? b=some u→b≠a:=fun b u e=>Nat.ne_of_lt (Nat.lt_of_lt_of_le (Heap.lt_size e) h0)
 have trk : ∀ b u,H b=some u→b≠a:=fun b u e z=>by rw [z,hn] at e; cases e
 refine ⟨I.ok,I.os,I.bare,⟨I.base.keep,I.base.slot,fun b u e n hx => ?_,I.base.there,fun b xs e => ?_,fun b u v e => ?_,fun b ps e => ?_⟩,I.loc,I.cell,?_,fun x c e => ?_,fun p hp => ?_,fun b u e => ?_,I.len⟩
 ·rw [ae (old b u e)]; exact I.base.free b u e n hx
 ·have q:=I.base.tups b xs e; rw [ae (trk _ _ q)]; exact q
 ·have q:=I.base.frzs b u v e; rw [ae (trk _ _ q)]; exact q
 ·obtain ⟨m,q⟩:=I.base.tbls b ps e; exact ⟨m,by rw [ae (trk _ _ q)]; exact q⟩
 ·rw [ae (Ne.symm hL)]; exact I.free
 ·rw [ae (h2 x c e)]; exact I.freeC x c e
 ·obtain ⟨e1,e2,e3⟩:=I.pin p hp
  exact ⟨e1,by rw [ae (h3 p hp)]; exact e2,e3⟩
 ·by_cases hb:b=a
  ·subst hb; rw [ac] at e; cases e; exact new
  ·rw [ae hb] at e
   exact (I.hok b u e).stay (fun c v _ q=>q) (fun c q=>by rw [ae (trk _ _ q)]; exact q) fun c xs q=>by rw [ae (trk _ _ q)]; exact q
theorem Inv.untrack {ys:List V} (I:Inv X pins σ (upd H a (.lst ys)) s) (hn:H a=none):Inv X pins σ H s:=by
 have off : ∀ b,upd H a (.lst ys) b=none→H b=none:=fun b e=>by
  by_cases hb:b=a
  ·rw [hb,ac] at e; cases e
  ·rw [ae hb] at e; exact e
 have off2 : ∀ b u,upd H a (.lst ys) b=some u→u ≠ .lst ys→H b=some u:=fun b u e ne=>by
  by_cases hb:b=a
  ·rw [hb,ac] at e; cases e; exact absurd rfl ne
  ·rw [ae hb] at e; exact e
 refine ⟨I.ok,I.os,I.bare,⟨I.base.keep,I.base.slot,fun b u e n hx=>off _ (I.base.free b u e n hx),I.base.there,fun b xs e=>off2 _ _ (I.base.tups b xs e) (by intro z; cases z),fun b u v e=>off2 _ _ (I.base.frzs b u v e) (by intro z; cases z),fun b ps e => ?_⟩,I.loc,I.cell,off _ I.free,fun x c e=>off _ (I.freeC x c e),fun p hp => ?_,fun b u e => ?_,I.len⟩
 ·obtain ⟨m,q⟩:=I.base.tbls b ps e; exact ⟨m,off2 _ _ q (by intro z; cases z)⟩
 ·obtain ⟨e1,e2,e3⟩:=I.pin p hp
  exact ⟨e1,off _ e2,e3⟩
 ·have hb:b≠a:=fun z=>by rw [z,hn] at e; cases e
  exact (I.hok b u (by rw [ae hb]; exact e)).stay (fun c v _ q=>q) (fun c q=>off2 _ _ q (by intro z; cases z)) fun c xs q=>off2 _ _ q (by intro z; cases z)
end
def aG:List Bool→St→St
 | [],_=>[]
 | _::bs,[]=>none::aG bs []
 | b::bs,v::σ=>cond b v none::aG bs σ
theorem bG : ∀ (ms:List Bool) (σ:St),(aG ms σ).length=ms.length
 | [],_=>rfl
 | _::bs,[]=>by show (aG bs []).length+1=bs.length+1; rw [bG bs []]
 | b::bs,v::σ=>by show (aG bs σ).length+1=bs.length+1; rw [bG bs σ]
theorem b8 : ∀ {ms:List Bool} {σ:St} {i:Nat} {v:V},(aG ms σ)[i]?=some (some v)→ms[i]?=some true∧σ[i]?=some (some v)
 | [],_,i,v,h=>by simp [aG] at h
 | b::bs,[],0,v,h=>by simp [aG] at h
 | b::bs,[],i+1,v,h=>by
  have h':(aG bs [])[i]?=some (some v):=h
  have q:=(b8 (ms:=bs) (σ:=[]) (i:=i) h').2
  simp at q
 | true::bs,w::σ,0,v,h=>⟨rfl,h⟩
 | false::bs,w::σ,0,v,h=>by simp [aG] at h
 | b::bs,w::σ,i+1,v,h=>by
  have h':(aG bs σ)[i]?=some (some v):=h
  exact b8 (ms:=bs) (σ:=σ) (i:=i) h'
def aH (sc:Scope):List Str→List Str→List Bool→Bool
 | [],_,[]=>true
 | x::N,y::NX,true::ms=>decide (x=y) && decide (sc.names.lookup x≠some .local) && aH sc N NX ms
 | _::N,NX,false::ms=>aH sc N NX.tail ms
 | _,_,_=>false
theorem bE {sc:Scope} : ∀ {N NX:List Str} {ms:List Bool},aH sc N NX ms=true→ms.length=N.length
 | [],_,[],_=>rfl
 | x::N,y::NX,true::ms,h=>by
  rw [aH,Bool.and_eq_true] at h
  rw [List.length_cons,List.length_cons,bE h.2]
 | x::N,[],false::ms,h=>by
  rw [aH] at h
  rw [List.length_cons,List.length_cons,bE h]
 | x::N,y::NX,false::ms,h=>by
  rw [aH] at h
  rw [List.length_cons,List.length_cons,bE h]
 | [],_,_::_,h=>by simp [aH] at h
 | _::_,_,[],h=>by simp [aH] at h
 | _::_,[],true::_,h=>by simp [aH] at h
theorem b6 {sc:Scope} : ∀ {N NX:List Str} {ms:List Bool} {i:Nat} {x:Str},aH sc N NX ms=true→N[i]?=some x→ms[i]?=some true→NX[i]?=some x∧sc.names.lookup x≠some .local
 | x::N,y::NX,true::ms,0,z,h,h1,h2=>by
  rw [aH,Bool.and_eq_true,Bool.and_eq_true] at h
  have e:x=z:=Option.some.inj h1
  have e2:x=y:=of_decide_eq_true h.1.1
  subst e
  exact ⟨by rw [← e2]; rfl,of_decide_eq_true h.1.2⟩
 | x::N,y::NX,true::ms,i+1,z,h,h1,h2=>by
  rw [aH,Bool.and_eq_true] at h
  exact b6 (i:=i) h.2 h1 h2
 | x::N,NX,false::ms,0,z,h,h1,h2=>by simp at h2
 | x::N,[],false::ms,i+1,z,h,h1,h2=>by
  rw [aH] at h
  have q:=(b6 (i:=i) h h1 h2).1
  simp at q
 | x::N,y::NX,false::ms,i+1,z,h,h1,h2=>by
  rw [aH] at h
  exact b6 (i:=i) h h1 h2
 | [],_,[],i,z,h,h1,h2=>by simp at h1
 | [],_,_::_,i,z,h,h1,h2=>by simp [aH] at h
 | _::_,_,[],i,z,h,h1,h2=>by simp [aH] at h
 | _::_,[],true::_,i,z,h,h1,h2=>by simp [aH] at h
structure CompScope (out sc:Scope) (NX N:List Str) (ms:List Bool):Prop where
 kind:sc.kind = .function
 nocell : ∀ x∈sc.names,x.2 ≠ .cell
 own : ∀ x∈sc.names,x.2 = .local→sc.names.lookup x.1=some .local
 fre : ∀ x∈sc.names,x.2 = .free→out.names.lookup x.1=some .cell∨out.names.lookup x.1=some .free
 nd:N.Nodup
 mask:aH sc N NX ms=true
def jA (g:TG) (ks:List Nat):Prop := ∀ (x:V) (σ:St) (H:Hp) (Q Q':St→Hp→Prop),g x σ H Q→(∀ σ2 H2,(σ2.length=σ.length ∧ ∀ i,i∉ks→σ2[i]?=σ[i]?)→Q σ2 H2→Q' σ2 H2)→g x σ H Q'
def iY (g:TGs) (ks:List Nat):Prop := ∀ (x:List V) (σ:St) (H:Hp) (Q Q':St→Hp→Prop),g x σ H Q→(∀ σ2 H2,(σ2.length=σ.length ∧ ∀ i,i∉ks→σ2[i]?=σ[i]?)→Q σ2 H2→Q' σ2 H2)→g x σ H Q'
theorem aU (i:Nat):jA (gu i) [i]:=fun x σ H Q Q' h k=>k _ _ ⟨List.length_set,fun j hj=>by
 rw [List.getElem?_set_ne (fun z=>hj (by simp [z]))]⟩ h
theorem fY:iY nv []:=fun x σ H Q Q' h k=>⟨h.1,k _ _ ⟨rfl,fun _ _=>rfl⟩ h.2⟩
theorem bZ {t:TG} {u:TGs} {ks js:List Nat} (h1:jA t ks) (h2:iY u js):iY (lP t u) (ks++js):=fun x σ H Q Q' h k=>by
 obtain ⟨v,r,e,q⟩:=h
 refine ⟨v,r,e,h1 v σ H _ _ q fun σ2 H2 f1 q2=>h2 r σ2 H2 _ _ q2 fun σ3 H3 f2 q3=>k σ3 H3 ⟨f2.1.trans f1.1,fun i hi => ?_⟩ q3⟩
 rw [List.mem_append,not_or] at hi
 rw [f2.2 i hi.2,f1.2 i hi.1]
theorem fX {K:PySem.W.Frag} {n:Nat} {t:TGs} {ks:List Nat} (h:iY t ks):jA (nu K n t) ks:=fun x σ H Q Q' q k=>by
 obtain ⟨a,xs,e1,e2,e3,q⟩:=q
 exact ⟨a,xs,e1,e2,e3,h xs σ H _ _ q k⟩
def ba (X:Cx) (sc:Scope) (N:List Str) (C:Addr) (ex:List Addr) (s:Shared) (H:Hp):Cx :=
 {X with N:=N,s₀:=s,H₀:=H,env:=compEnvC sc (cS X.env.cells sc.names []) C X.env,outer:=X.stack,ex:=ex,fn:=fun _=>false,pn:=[],xe:=fun _ _=>False }
def PTs (X:Cx) (ifs:List Expr) (t:TT):Prop :=
 ∀ (pins:List (Addr×Obj)) (s:Shared) (σ:St) (H:Hp) (Q:Bool→Hp→Prop),Inv X pins σ H s→t σ H Q →
  wpAny (model X.prog X.w) X.A (forIn ifs true fun c r=>if r=true then do let ok ← isTrue c X.env (eval c X.env); pure (ForInStep.yield ok) else pure (ForInStep.yield r)) (TP X pins σ Q) X.xe s
def nM:TT:=fun _ H Q=>Q true H
theorem fu {X:Cx}:PTs X [] nM:=fun pins s σ H Q I h=>wpAny_tests_nil ⟨H,I,h⟩
theorem ft {X:Cx} {c:Expr} {t:TT} (h:PT X c t):PTs X [c] t:=fun pins s σ H Q I q=>wpAny_tests_one (h pins s σ H Q I q)
def lJ (ms:List Bool) (wi:TI) (g:TG) (tc:TT) (te:TE):TE:=fun σ H Q=>wi σ H fun J H1 =>
 ∃ W:Nat→Nat→List V→Hp→Prop,(∃ m,W 0 m [] H1) ∧ ∀ i m ys H,W i m ys H →
  (J.stop i H ∧ ∀ D,H D=none→Q (.ref D) (upd H D (.lst ys))) ∨
  (J.go i H∧ys.length < sizeLine ∧ ∃ N:List V→Hp→Prop,(∀ ys' H',N ys' H' → ∃ m',m' < m∧W (i+1) m' ys' H') ∧
   ∀ x H',J.yld i H x H'→g x (aG ms σ) H' fun σ2 H2=>tc σ2 H2 fun b H3=>if b=true then te σ2 H3 fun v H4=>N (ys++[v]) H4 else N ys H3)
section
variable {prog:Program} {w:World} {A:Around} {R:Result→Shared→Prop} {s:Shared}
theorem bV {elt target iter:Expr} {ifs:List Expr} {scope:Scope} {pos:Pos} {it acc:Value} {env:Env} (I:Nat→Shared→Prop)
  (turn : ∀ n s,I n s→wpAny (model prog w) A (pyNext it) (fun r s₁=>match r with
   | none=>R (.ok .next) s₁
   | some v=>wpAny (model prog w) A (letOwnedTupleGo target it v) (fun _ s₁'=>wpAny (model prog w) A (assign target env v) (fun _ s₂ =>
     wpAny (model prog w) A (forIn ifs true fun c r=>if r=true then do let ok ← isTrue c env (eval c env); pure (ForInStep.yield ok) else pure (ForInStep.yield r)) (fun ok s₃ =>
      if ok=true then wpAny (model prog w) A (eval elt env) (fun x s₄ =>
       wpAny (model prog w) A (call (.builtin "list.append") [acc,x]) (fun _ s₅ => ∃ m,m < n∧I m s₅) (fun _ _=>False) s₄) (fun _ _=>False) s₃
      else ∃ m,m < n∧I m s₃) (fun _ _=>False) s₂) (fun _ _=>False) s₁') (fun _ _=>False) s₁) (fun _ _=>False) s)
  (n:Nat) (h:I n s) :
  codeAny (model prog w) A (.compLoop (.ListComp elt [⟨target,iter,ifs,0⟩] scope pos) 0 it acc env) R s:=by
 have fe : ∀ {α:Type} {t:Sem α} {Q:α→Shared→Prop} {E:Value→Shared→Prop} {s:Shared},wpAny (model prog w) A t Q (fun _ _=>False) s→wpAny (model prog w) A t Q E s:=fun h=>wpAny_mono h (fun _ _ q=>q) fun _ _ f=>f.elim
 refine codeAny_loop rfl I (fun n s hI => ?_) n h
 show wpAny _ A ((compTurn (.ListComp elt [⟨target,iter,ifs,0⟩] scope pos) 0 it acc env).onRaise (fun x=>do noteFrame x env; theTreesLotGoes x)) _ _ s
 refine wpAny_noted ?_
 rw [compTurn_list]
 refine wpAny_bind (wpAny_standAt (wpAny_bind (wpAny_mono (turn n s hI) (fun r s₁ h₁ => ?_) fun _ _ f=>f.elim)))
 cases r with
 | none=>exact wpAny_pure h₁
 | some v =>
  refine wpAny_bind (wpAny_mono h₁ (fun _ s₁' h₁' => ?_) fun _ _ f=>f.elim)
  refine wpAny_bind (wpAny_mono h₁' (fun _ s₂ h₂=>wpAny_bind (wpAny_mono h₂ (fun ok s₃ h₃ => ?_) fun _ _ f=>f.elim)) fun _ _ f=>f.elim)
  cases ok with
  | false=>exact wpAny_pure ⟨rfl,h₃⟩
  | true =>
   exact wpAny_bind (wpAny_bind (wpAny_mono h₃ (fun x s₄ h₄=>wpAny_bind (wpAny_mono h₄ (fun _ s₅ h₅=>wpAny_pure (wpAny_pure ⟨rfl,h₅⟩)) fun _ _ f=>f.elim)) fun _ _ f=>f.elim))
end
section
variable {X:Cx} {pins:List (Addr×Obj)} {σ:St} {H:Hp} {s s1:Shared} {out sc:Scope} {N:List Str} {ms:List Bool}
theorem CompScope.cells (S:CompScope out sc X.N N ms) (ho:X.env.scope=out) (ok:X.Ok) : ∀ x∈sc.names,x.2 = .free → ∃ c,X.env.cells.lookup x.1=some c:=fun x hx hf=>by
 subst ho
 exact ok.has x.1 (S.fre x hx hf)
theorem cx {α β:Type} [BEq α] [LawfulBEq α] : ∀ {l:List (α×β)} {x:α} {y:β},l.lookup x=some y→(x,y)∈l
 | [],_,_,h=>by simp at h
 | (a,b)::r,x,y,h=>by
  rw [List.lookup_cons] at h
  cases q:x == a with
  | true =>
   rw [q] at h
   have e1:x=a:=by simpa using q
   have e2:b=y:=Option.some.inj h
   rw [e1,e2]
   exact List.mem_cons_self
  | false =>
   rw [q] at h
   exact List.mem_cons_of_mem _ (cx h)
theorem bc {env:Env} : ∀ {names:List (Str×NameKind)} {x:Str} {k:NameKind},(∀ y∈names,y.2 ≠ .cell) →
  (names.map fun (n,k)=>if (k == NameKind.free && env.scope.kind == .function && env.kindOf n == some .cell) then (n,NameKind.cell) else (n,k)).lookup x=some k→(k = .cell∨k = .free)→names.lookup x=some .free
 | [],_,_,_,h,_=>by simp at h
 | (n,k')::r,x,k,hc,h,hk=>by
  have hc' : ∀ y∈r,y.2 ≠ .cell:=fun y hy=>hc y (List.mem_cons_of_mem _ hy)
  have ih:=@bc env r x k hc'
  have hk':k' ≠ .cell:=hc (n,k') List.mem_cons_self
  replace h:List.lookup x ((if (k' == NameKind.free && env.scope.kind == .function && env.kindOf n == some .cell)=true then (n,NameKind.cell) else (n,k'))::_)=some k:=h
  cases hx:x == n with
  | true =>
   by_cases hb:(k' == NameKind.free && env.scope.kind == .function && env.kindOf n == some .cell)=true
   ·rw [Bool.and_eq_true,Bool.and_eq_true] at hb
    have e:k' = .free:=by simpa using hb.1.1
    rw [List.lookup_cons,hx,e]
   ·rw [if_neg hb,List.lookup_cons,hx] at h
    have e:k'=k:=Option.some.inj h
    rw [List.lookup_cons,hx,e]
    rcases hk with z | z
    ·exact absurd (e.trans z) hk'
    ·rw [z]
  | false =>
   have h2:List.lookup x (r.map fun (n,k)=>if (k == NameKind.free && env.scope.kind == .function && env.kindOf n == some .cell) then (n,NameKind.cell) else (n,k))=some k:=by
    by_cases hb:(k' == NameKind.free && env.scope.kind == .function && env.kindOf n == some .cell)=true
    ·rw [if_pos hb,List.lookup_cons,hx] at h; exact h
    ·rw [if_neg hb,List.lookup_cons,hx] at h; exact h
   rw [List.lookup_cons,hx]
   exact ih h2 hk
theorem ck {env:Env} : ∀ {names:List (Str×NameKind)} {x:Str},
  (names.map fun (n,k)=>if (k == NameKind.free && env.scope.kind == .function && env.kindOf n == some .cell) then (n,NameKind.cell) else (n,k)).lookup x=some .local→names.lookup x=some .local
 | [],_,h=>by simp at h
 | (n,k')::r,x,h=>by
  have ih:=@ck env r x
  replace h:List.lookup x ((if (k' == NameKind.free && env.scope.kind == .function && env.kindOf n == some .cell)=true then (n,NameKind.cell) else (n,k'))::_)=some .local:=h
  cases hx:x == n with
  | true =>
   by_cases hb:(k' == NameKind.free && env.scope.kind == .function && env.kindOf n == some .cell)=true
   ·rw [if_pos hb,List.lookup_cons,hx] at h
    have e:NameKind.cell = .local:=Option.some.inj h
    cases e
   ·rw [if_neg hb,List.lookup_cons,hx] at h
    rw [List.lookup_cons,hx]
    exact h
  | false =>
   rw [List.lookup_cons,hx]
   refine ih ?_
   by_cases hb:(k' == NameKind.free && env.scope.kind == .function && env.kindOf n == some .cell)=true
   ·rw [if_pos hb,List.lookup_cons,hx] at h; exact h
   ·rw [if_neg hb,List.lookup_cons,hx] at h; exact h
theorem Inv.block (I:Inv X pins σ H s) (S:CompScope out sc X.N N ms) (ho:X.env.scope=out) {C:Addr} {ex:List Addr} {t':Nat} {h1:Heap} {m:Str→Option Value} (hex : ∀ b∈ex,eG X pins H b) (hlt : ∀ b∈ex,b < s.heap.objs.size)
  (hC:s.heap.objs.size≤C) (hn:h1.Ns C m) (kp : ∀ b o,s.heap.get? b=some o→h1.get? b=some o):Inv (ba X sc N C ex s H) [] (aG ms σ) H { s with heap:=h1,toks:=t' }:=by
 have hcells:=S.cells ho I.ok
 have clk : ∀ x c,(cS X.env.cells sc.names []).lookup x=some c→X.env.cells.lookup x=some c:=br sc.names [] hcells (fun x c e=>by simp at e)
 have seen : ∀ x,((relabel sc X.env).names.lookup x=some .cell∨(relabel sc X.env).names.lookup x=some .free)→sc.names.lookup x=some .free:=fun x hx=>by
  rcases hx with z | z
  ·exact bc S.nocell z (.inl rfl)
  ·exact bc S.nocell z (.inr rfl)
 have hasC : ∀ x,sc.names.lookup x=some .free → ∃ c,(cS X.env.cells sc.names []).lookup x=some c:=fun x hx=>gF sc.names [] x (.inl (cx hx))
 have ok:(ba X sc N C ex s H).Ok:=by
  refine ⟨I.ok.mod,S.kind,I.ok.glob,I.ok.blt,hC,fun x y c e1 e2=>I.ok.inj x y c (clk x c e1) (clk y c e2),fun x hx=>hasC x (seen x hx),fun x c e=>(by cases e),I.ok.hd,I.ok.frames,.inl rfl,fun b hb=>⟨?_,fun x c e=>(hex b hb).2.2.2.2.1 x c (clk x c e)⟩,I.bs,?_,fun b o e hb => ?_,fun b hb hb' => ?_,I.stack,I.stkFree⟩
  ·exact Nat.ne_of_lt (Nat.lt_of_lt_of_le (hlt b hb) hC)
  ·exact Nat.le_trans I.ok.bsz I.sz
  ·rcases (hex b hb).2.2.2.1 with z | z
   ·exact I.ok.noex b o e z
   ·exact absurd (Nat.lt_of_lt_of_le (Heap.lt_size (I.ok.bs b o e).1) z) (Nat.lt_irrefl _)
  ·rcases List.mem_cons.mp (I.stkSub b hb') with z | z
   ·exact (hex b hb).2.1 z
   ·exact (hex b hb).2.2.1 z
 obtain ⟨m0,_,hl0⟩:=I.loc
 refine ⟨ok,rfl,I.bare,Un.kept kp,⟨m,hn,fun i x v e1 e2 e3 => ?_⟩,fun x c e => ?_,I.hok.fresh hC,fun x c e=>I.freeC x c (clk x c e),fun p hp=>absurd hp (by show p∉([]++[]:List (Addr×Obj)); simp),I.hok.kept kp,?_⟩
 ·obtain ⟨g1,g2⟩:=b8 e2
  obtain ⟨g3,g4⟩:=b6 S.mask e1 g1
  have e3:(relabel sc X.env).names.lookup x=some .local∨(relabel sc X.env).names.lookup x=some .cell∨(relabel sc X.env).names.lookup x=some .free:=e3
  rcases e3 with z | z
  ·exact absurd (ck z) g4
  ·have q:=seen x z
   have w:=S.fre (x,.free) (cx q) rfl
   have w:X.env.scope.names.lookup x=some .cell∨X.env.scope.names.lookup x=some .free:=by rw [ho]; exact w
   obtain ⟨u,r,l⟩:=hl0 i x v g3 g2 (.inr w)
   refine ⟨u,r,?_⟩
   rcases l with ⟨l,_⟩ | ⟨_,c,hc,o,hco,hcd⟩
   ·have l:X.env.scope.names.lookup x=some .local:=l
    rcases w with w | w <;> (rw [l] at w; cases w)
   ·obtain ⟨c',hc'⟩:=hasC x q
    have e:c'=c:=Option.some.inj ((clk x c' hc').symm.trans hc)
    subst e
    exact .inr ⟨z,c',hc',o,kp _ _ hco,hcd⟩
 ·obtain ⟨v,o,hco,hcd⟩:=I.cell x c (clk x c e)
  exact ⟨v,o,kp _ _ hco,hcd⟩
 ·rw [bG,bE S.mask]; rfl
variable {elt iter tg:Expr} {ifs:List Expr} {pos:Pos} {wi:TI} {g:TG} {tc:TT} {te:TE} {ks:List Nat}
theorem fb {E:Value→Shared→Prop} {RR:Value→Addr→Result→Shared→Prop} {it:Addr} {fp:List Addr} {tn:Nat→Heap→Prop} {J:It} {Qv:VK} (S:CompScope out sc X.N N ms) (ho:X.env.scope=out) (hc:X.calm=true) (hks : ∀ k∈ks,ms[k]?=some false) (hst:jA g ks)
  (hg : ∀ C ex s H,PG (ba X sc N C ex s H) tg g) (ht : ∀ C ex s H,PTs (ba X sc N C ex s H) ifs tc) (he : ∀ C ex s H,PE (ba X sc N C ex s H) elt te)
  (I:Inv X pins σ H s) (T:kE X.prog X.w X.K tg J fp it tn) (st0:tn 0 s.heap) (f0 : ∀ b∈fp,eG X pins H b)
  (h : ∃ W:Nat→Nat→List V→Hp→Prop,(∃ m,W 0 m [] H) ∧ ∀ i m ys H,W i m ys H →
   (J.stop i H ∧ ∀ D,H D=none→Qv (.ref D) (upd H D (.lst ys))) ∨
   (J.go i H∧ys.length < sizeLine ∧ ∃ N:List V→Hp→Prop,(∀ ys' H',N ys' H' → ∃ m',m' < m∧W (i+1) m' ys' H') ∧
    ∀ x H',J.yld i H x H'→g x (aG ms σ) H' fun σ2 H2=>tc σ2 H2 fun b H3=>if b=true then te σ2 H3 fun v H4=>N (ys++[v]) H4 else N ys H3))
  (hRR : ∀ D C H' s' m',Inv X pins σ H' s'→H' C=none→s.heap.objs.size≤C→s'.heap.Ns C m'→Qv (.ref D) H'→RR (.ref D) C (.ok .next) s') :
  wpAny (model X.prog X.w) X.A (newList []) (fun acc s₃=>wpAny (model X.prog X.w) X.A (newFunctionEnv sc X.env.globals (cS X.env.cells sc.names []) [] X.env.qual none .none (some X.env)) (fun cenv s₄ =>
   codeAny (model X.prog X.w) X.A (.compStart (.ListComp elt [⟨tg,iter,ifs,0⟩] sc pos) 0 (.ref it) acc { cenv with scope:=relabel sc X.env }) (RR acc cenv.locals) s₄) E s₃) E s:=by
 obtain ⟨W,⟨m0,w0⟩,turn⟩:=h
 refine wpAny_newObj_type (wpAny_newFunctionEnv S.nocell (by intro y hy; simp at hy) (fun h₁ hns₁ hsb₁ => ?_) S.kind)
 dsimp only at hns₁ hsb₁ ⊢
 generalize hH2:s.heap.push { cls := .type "list",dict:=none,data := .seq ([]:List Value).toArray }=H2 at hns₁ hsb₁ ⊢
 generalize hDe:s.heap.objs.size=D at hns₁ hsb₁ ⊢
 generalize hCe:H2.objs.size=C at hns₁ hsb₁ ⊢
 have hCD:C=D+1:=by rw [← hCe,← hH2,Heap.size_push,hDe]
 have hDs:s.heap.objs.size≤D:=Nat.le_of_eq hDe
 have hCs:s.heap.objs.size≤C:=by omega
 have hDC:D≠C:=by omega
 have below : ∀ b,b < s.heap.objs.size→b≠C∧b≠D:=fun b hb=>⟨by omega,by omega⟩
 have old : ∀ b o,s.heap.get? b=some o→h₁.get? b=some o:=fun b o e=>hsb₁.extBut b o (below b (Heap.lt_size e)).1 (Heap.get?_push_of_some _ (hH2 ▸ Heap.get?_push_of_some _ e))
 have objD:h₁.get? D=some { cls := .type "list",dict:=none,data := .seq ([]:List Value).toArray }:=hsb₁.extBut _ _ hDC (Heap.get?_push_of_some _ (hH2 ▸ hDe ▸ Heap.get?_push_size _ rfl))
 have flt : ∀ b∈fp,b < s.heap.objs.size:=fun b hb=>by
  obtain ⟨o,e,_⟩:=T.obj 0 _ st0 b hb
  exact Heap.lt_size e
 have hcells:=S.cells ho I.ok
 have clk : ∀ x c,(cS X.env.cells sc.names []).lookup x=some c→c < s.heap.objs.size:=fun x c e=>by
  obtain ⟨v,o,hco,_⟩:=I.cell x c (br sc.names [] hcells (fun x c e=>by simp at e) x c e)
  exact Heap.lt_size hco
 generalize hX:ba X sc N C fp s H=Y
 have hgY:PG Y tg g:=hX ▸ hg C fp s H
 have htY:PTs Y ifs tc:=hX ▸ ht C fp s H
 have heY:PE Y elt te:=hX ▸ he C fp s H
 have Yprog:Y.prog=X.prog:=by rw [← hX]; rfl
 have Yw:Y.w=X.w:=by rw [← hX]; rfl
 have YK:Y.K=X.K:=by rw [← hX]; rfl
 have Ycalm:Y.calm=true:=by rw [← hX]; exact hc
 have YA:Y.A=X.A:=by rw [← hX]; rfl
 have Yxe:Y.xe=fun _ _=>False:=by rw [← hX]; rfl
 have Ypn:Y.pn=[]:=by rw [← hX]; rfl
 have Yex:Y.ex=fp:=by rw [← hX]; rfl
 have Ys0:Y.s₀=s:=by rw [← hX]; rfl
 have YH0:Y.H₀=H:=by rw [← hX]; rfl
 have Yfs:Y.fs=frs X.stack:=by rw [← hX]; rfl
 have YL:Y.env.locals=C:=by rw [← hX]; rfl
 have Ycl:Y.env.cells=cS X.env.cells sc.names []:=by rw [← hX]; rfl
 have Yenv:Y.env={ (newEnv sc C X.env.globals (cS X.env.cells sc.names []) X.env.qual none .none (some X.env) 0) with scope:=relabel sc X.env }:=by rw [← hX]; rfl
 have IY0 : ∀ t',Inv Y [] (aG ms σ) H { s with heap:=h₁,toks:=t' }:=fun t'=>by rw [← hX]; exact I.block S ho f0 flt hCs hns₁ old
 have fpY : ∀ {H':Hp} {ps:List (Addr×Obj)},(∀ b∈fp,H' b=none)→(∀ p∈ps,p.1=D) → ∀ b∈fp,eG Y ps H' b:=fun {H' ps} hn hp b hb=>by
  refine ⟨hn b hb,by rw [YL]; exact (below b (flt b hb)).1,fun z => ?_,.inl (by rw [Yex]; exact hb),fun x c e z => ?_,fun p hp' z => ?_⟩
  ·rw [Yfs] at z
   rcases List.mem_cons.mp (I.stkSub b z) with y | y
   ·exact (f0 b hb).2.1 y
   ·exact (f0 b hb).2.2.1 y
  ·rw [Ycl] at e
   exact (f0 b hb).2.2.2.2.1 x c (br sc.names [] hcells (fun x c e=>by simp at e) x c e) z
  ·rw [Ypn] at hp'
   exact (below b (flt b hb)).2 (z.symm.trans (hp p hp'))
 have dY : ∀ {H':Hp} {ps:List (Addr×Obj)},H' D=none→(∀ p∈ps,p.1∈fp)→eG Y ps H' D:=fun {H' ps} hn hp=>by
  refine ⟨hn,by rw [YL]; exact hDC,fun z => ?_,.inr (by rw [Ys0]; exact hDs),fun x c e z => ?_,fun p hp' z => ?_⟩
  ·rw [Yfs] at z
   have q:H D=none:=I.stkFree D z
   rcases List.mem_cons.mp (I.stkSub D z) with y | y
   ·exact (below _ I.lt).2 y.symm
   ·exact I.nofs hDs y
  ·rw [Ycl] at e
   exact (below c (clk x c e)).2 z
  ·rw [Ypn] at hp'
   exact (below p.1 (flt p.1 (hp p hp'))).2 z
 have wk : ∀ {σ6:St},(σ6.length=(aG ms σ).length ∧ ∀ i,i∉ks→σ6[i]?=(aG ms σ)[i]?)→(∀ (i:Nat) v,(aG ms σ)[i]?=some (some v)→σ6[i]?=some (some v)):=fun {σ6} hf i v e=>by
  rw [hf.2 i (fun z => ?_)]
  ·exact e
  ·have q:=(b8 e).1
   rw [hks i z] at q
   cases q
 have loop : ∀ t',codeAny (model X.prog X.w) X.A (.compLoop (.ListComp elt [⟨tg,iter,ifs,0⟩] sc pos) 0 (.ref it) (.ref D) Y.env) (RR (.ref D) C) { s with heap:=h₁,toks:=t' }:=fun t'=>by
  refine bV (fun n s' => ∃ i ys H',Inv Y [] (aG ms σ) H' s'∧tn i s'.heap∧(∀ b∈fp,H' b=none)∧H' D=none∧(∃ (its:List Value) (n:Nat),Vals ys its∧s'.heap.get? D=some { cls := .type "list",data := .seq its.toArray n })∧ys.length≤sizeLine∧W i n ys H') ?_ m0
   ⟨0,[],H,IY0 t',T.keep _ _ _ st0 (fun b _ o e=>old b o e),fun b hb=>(f0 b hb).1,I.hok.fresh hDs,⟨[],_,.nil,objD⟩,Nat.zero_le _,w0⟩
  rintro n s3 ⟨i,ys,H3,I3,st3,fr3,hD3,⟨its,nn,vs3,ob3⟩,hl3,w3⟩
  rcases turn i n ys H3 w3 with ⟨stop,qn⟩ | ⟨go,hlen,NN,hN,step⟩
  ·have z:=T.done Y Yprog Yw YK Ycalm i (be [D] s3.heap) s3 (aG ms σ) H3 (fun _ _=>False) (I3.pinned (fp:=[D]) (pins:=[]) (fun b hb => ?c1) (fun b hb => ?c2)) (fpY fr3 (fun p hp => ?c3)) st3 stop
   case c1=>rw [List.mem_singleton.mp hb]; exact dY hD3 (fun p hp=>absurd hp (by simp))
   case c2=>rw [List.mem_singleton.mp hb]; exact ⟨_,ob3,fun v e=>by cases e⟩
   case c3=>exact List.mem_singleton.mp (bw hp).1
   rw [YA] at z
   refine wpAny_mono z (fun r s4 hr4 => ?_) fun _ _ f=>f
   obtain ⟨hr,I4⟩:=hr4
   subst hr
   obtain ⟨obD,hD4,_⟩:=I4.pin (D,_) (List.mem_append_right _ (aS (List.mem_singleton.mpr rfl) ob3))
   have b4:=I4.base
   rw [Yfs,Yex,YH0,Ys0] at b4
   have hok4:=I4.hok
   rw [Yprog,Yw] at hok4
   have I5:Inv X pins σ H3 s4:=I.call' (ch:=fp) (by rw [I4.os,Ys0]) b4 hok4 I4.bare (fun b hb=>⟨(f0 b hb).2.2.2.1,(f0 b hb).2.1,(f0 b hb).2.2.2.2.1,(f0 b hb).2.2.2.2.2⟩)
   have nC:H3 C=none:=by rw [← YL]; exact I4.free
   obtain ⟨m4,hm4,_⟩:=I4.loc
   rw [YL] at hm4
   refine hRR D C (upd H3 D (.lst ys)) s4 m4 (I5.track hD4 (Nat.le_trans I.sz hDs) (fun z=>(below _ I.lt).2 z.symm) (fun x c e => ?_) (fun p hp => ?_) ⟨hl3,its,nn,vs3,obD⟩) (by rw [ae (Ne.symm hDC)]; exact nC) hCs hm4 (qn D hD4)
   ·obtain ⟨v,o,hco,_⟩:=I.cell x c e
    exact (below c (Heap.lt_size hco)).2
   ·exact (below _ (Heap.lt_size (I.pin p hp).1)).2
  ·have z:=T.item Y Yprog Yw YK Ycalm i (be [D] s3.heap) s3 (aG ms σ) H3 (fun _ _=>False) (I3.pinned (fp:=[D]) (pins:=[]) (fun b hb => ?c1) (fun b hb => ?c2)) (fpY fr3 (fun p hp => ?c3)) st3 go
   case c1=>rw [List.mem_singleton.mp hb]; exact dY hD3 (fun p hp=>absurd hp (by simp))
   case c2=>rw [List.mem_singleton.mp hb]; exact ⟨_,ob3,fun v e=>by cases e⟩
   case c3=>exact List.mem_singleton.mp (bw hp).1
   rw [YA] at z
   refine wpAny_mono z (fun r s4 hr4 => ?_) fun _ _ f=>f
   obtain ⟨u,hr,h4⟩:=hr4
   subst hr
   refine wpAny_mono h4 (fun _ s5 h5 => ?_) fun _ _ f=>f
   obtain ⟨x,H5,I5,r5,y5,st5,fr5⟩:=h5
   have I5':=I5.pinned (fpY fr5 (fun p hp=>List.mem_singleton.mp (bw hp).1)) (T.obj _ _ st5)
   have q5:=hst x (aG ms σ) H5 _ (fun σ2 H2=>(σ2.length=(aG ms σ).length ∧ ∀ i,i∉ks→σ2[i]?=(aG ms σ)[i]?)∧(tc σ2 H2 fun b H3=>if b=true then te σ2 H3 fun v H4=>NN (ys++[v]) H4 else NN ys H3)) (step x H5 y5) (fun σ2 H2 f q=>⟨f,q⟩)
   have z5:=hgY _ s5 (aG ms σ) H5 x u _ I5' r5 q5
   rw [Yprog,Yw,YA,Yxe] at z5
   refine wpAny_mono z5 (fun _ s6 h6 => ?_) fun _ _ f=>f
   obtain ⟨σ6,H6,I6,f6,q6⟩:=h6
   have z6:=htY _ s6 σ6 H6 _ I6 q6
   rw [Yprog,Yw,YA,Yxe] at z6
   refine wpAny_mono z6 (fun b s7 h7 => ?_) fun _ _ f=>f
   obtain ⟨H7,I7,q7⟩:=h7
   have back : ∀ {H8:Hp} {s8:Shared},Inv Y (([]++be [D] s3.heap)++be fp s5.heap) σ6 H8 s8→(∀ b∈fp,H8 b=none)∧H8 D=none∧s8.heap.get? D=some { cls := .type "list",data := .seq its.toArray nn }∧(∀ b∈fp,∀ o,s5.heap.get? b=some o→s8.heap.get? b=some o)∧Inv Y (be fp s5.heap) σ6 H8 s8:=fun {H8 s8} I8=>by
    obtain ⟨obD,hD8,_⟩:=I8.pin (D,_) (List.mem_append_right _ (List.mem_append_left _ (List.mem_append_right _ (aS (List.mem_singleton.mpr rfl) ob3))))
    refine ⟨fun b hb => ?_,hD8,obD,fun b hb o e=>(I8.pin (b,o) (List.mem_append_right _ (List.mem_append_right _ (aS hb e)))).1,I8.pins_of fun p hp=>I8.pin p (List.mem_append_right _ (List.mem_append_right _ hp))⟩
    obtain ⟨o,e,_⟩:=T.obj _ _ st5 b hb
    exact (I8.pin (b,o) (List.mem_append_right _ (List.mem_append_right _ (aS hb e)))).2.1
   cases b with
   | false =>
    have q7:NN ys H7:=q7
    obtain ⟨m',hm',w'⟩:=hN _ _ q7
    obtain ⟨k1,k2,k3,k4,k5⟩:=back I7
    show ∃ m,m < n∧_
    exact ⟨m',hm',i+1,ys,H7,(k5.pins_of (fun p hp=>absurd hp (by simp))).weak f6.1.symm (wk f6),T.keep _ _ _ st5 k4,k1,k2,⟨its,nn,vs3,k3⟩,hl3,w'⟩
   | true =>
    have q7:te σ6 H7 fun v H4=>NN (ys++[v]) H4:=q7
    have z7:=heY _ s7 σ6 H7 _ I7 q7
    rw [Yprog,Yw,YA,Yxe] at z7
    show wpAny _ _ _ _ _ _
    refine wpAny_mono z7 (fun v s8 h8 => ?_) fun _ _ f=>f
    obtain ⟨v8,H8,I8,r8,q8⟩:=h8
    obtain ⟨k1,k2,k3,k4,k5⟩:=back I8
    have I9:Inv Y (be fp s5.heap) σ6 (upd H8 D (.lst ys)) s8:=k5.track k2 (by rw [Ys0]; exact hDs) (by rw [YL]; exact hDC) (fun x c e z=>(below c (clk x c (by rw [Ycl] at e; exact e))).2 z) (fun p hp=>by
     rw [Ypn] at hp
     exact (below p.1 (flt p.1 (bw hp).1)).2) ⟨hl3,its,nn,vs3,k3⟩
    have z8:=b7 (X:=Y) (be fp s5.heap) s8 σ6 (upd H8 D (.lst ys)) (.ref D) [v8] (.ref D) [v] (fun _ H9=>H9=upd (upd H8 D (.lst ys)) D (.lst (ys++[v8]))) I9 rfl (.cons r8 .nil) ⟨D,ys,v8,rfl,rfl,ac,hlen,rfl⟩
    rw [Yprog,Yw,YA,Yxe] at z8
    refine wpAny_mono z8 (fun _ s9 h9 => ?_) fun _ _ f=>f
    obtain ⟨_,H9,I9',_,e9⟩:=h9
    subst e9
    rw [iB] at I9'
    have I10:=I9'.untrack k2
    obtain ⟨m',hm',w'⟩:=hN _ _ q8
    have ok9:ObjOk Y.prog Y.w _ s9.heap D (.lst (ys++[v8])):=I9'.hok D _ ac
    obtain ⟨l9,its9,n9,vs9,ob9⟩:=ok9
    refine ⟨m',hm',i+1,ys++[v8],H8,(I10.pins_of (fun p hp=>absurd hp (by simp))).weak f6.1.symm (wk f6),T.keep _ _ _ st5 (fun b hb o e => ?_),k1,k2,⟨its9,n9,vs9,ob9⟩,l9,w'⟩
    exact (I10.pin (b,o) (List.mem_append_right _ (aS hb e))).1
 have z:=fun t'=>codeAny_compStart_list (loop t') (T.self _ 0 _ _ _ (T.keep _ _ _ st0 (fun b _ o e=>old b o e)) (loop t'))
 rw [Yenv] at z
 exact z _
theorem cG {NX:List Str} (S:CompScope out sc NX N ms) (ho:X.env.scope=out) (hnx:X.N=NX) (hc:X.calm=true) (hi:PI X tg iter wi) (hst:jA g ks) (hks : ∀ k∈ks,ms[k]?=some false)
  (hg : ∀ C ex s H,PG (ba X sc N C ex s H) tg g) (ht : ∀ C ex s H,PTs (ba X sc N C ex s H) ifs tc) (he : ∀ C ex s H,PE (ba X sc N C ex s H) elt te)
  (hs : ∀ x,foldedSetIterable iter X.env x=pure x:=by intro _; rfl):PE X (.ListComp elt [⟨tg,iter,ifs,0⟩] sc pos) (lJ ms wi g tc te):=by
 intro pins s σ H Q I h
 subst hnx
 rw [eval_ListComp]
 refine wpAny_comprehension_free (use:=none) (g:=⟨tg,iter,ifs,0⟩) (gs:=[]) rfl hs (cn (S.cells ho I.ok)) S.kind S.own (thn (hi pins s σ H _ I h) fun v s1 h1=>thn h1 fun itv s2 h2 => ?_)
 obtain ⟨it,fp,tn,J,H2,e,I2,T,st2,f2,hW⟩:=h2
 subst e
 refine fb (Qv:=Q) S ho hc hks hst hg ht he I2 T st2 f2 hW ?_
 intro D C H' s' m' I' nC hC hm q
 refine ⟨m',hm,fun h' sb=>⟨.ref D,H',?_,rfl,q⟩⟩
 exact I'.turned (t':=s'.toks) (it:=C) (fun b o hb e=>sb.extBut b o hb e) nC (Ne.symm (Nat.ne_of_lt (Nat.lt_of_lt_of_le I2.lt hC))) (.inr (Nat.le_trans I2.sz hC)) (fun x c e=>by
  obtain ⟨v,o,hco,_⟩:=I2.cell x c e
  exact Nat.ne_of_lt (Nat.lt_of_lt_of_le (Heap.lt_size hco) hC)) (fun p hp=>Nat.ne_of_lt (Nat.lt_of_lt_of_le (Heap.lt_size (I2.pin p hp).1) hC))
theorem kP {NX:List Str} {i:Nat} {y:Str} {py spos:Pos} (S:CompScope out sc NX N ms) (ho:X.env.scope=out) (hnx:X.N=NX) (hc:X.calm=true) (hN:X.N.Nodup) (hy:X.N[i]?=some y) (hx:Loc X.env.scope y) (hi:PI X tg iter wi) (hst:jA g ks) (hks : ∀ k∈ks,ms[k]?=some false)
  (hg : ∀ C ex s H,PG (ba X sc N C ex s H) tg g) (ht : ∀ C ex s H,PTs (ba X sc N C ex s H) ifs tc) (he : ∀ C ex s H,PE (ba X sc N C ex s H) elt te)
  (hsw:swapsWith (.ListComp elt [⟨tg,iter,ifs,0⟩] sc pos) (some (.Name y py)) spos.line X.env=pure true)
  (hs : ∀ x,foldedSetIterable iter X.env x=pure x:=by intro _; rfl) (hf:X.fn y=true∨X.env.scope.names.lookup y=some .local:=by first | exact .inl rfl | exact .inr rfl | assumption) :
  PS X (.Assign [.Name y py] (.ListComp elt [⟨tg,iter,ifs,0⟩] sc pos) spos) (l3 (lJ ms wi g tc te) (gu i)):=by
 intro pins s σ H Dn I h
 subst hnx
 rw [exec_Assign_Name_used _ _ _ _ hsw]
 refine wpAny_bind (wpAny_standAt (wpAny_bind ?_))
 show wpAny _ X.A (do let _ ← comprehension (.ListComp elt [⟨tg,iter,ifs,0⟩] sc pos) sc X.env _ (newList []) false (eval iter X.env) (some (assign (.Name y py) X.env))) _ _ s
 refine wpAny_bind (wpAny_mono (wpAny_comprehension_free (use:=some (assign (.Name y py) X.env)) (g:=⟨tg,iter,ifs,0⟩) (gs:=[]) (Q:=fun _ s'=>SP X pins Dn .next s') rfl hs (cn (S.cells ho I.ok)) S.kind S.own (thn (hi pins s σ H _ I h) fun v s1 h1=>thn h1 fun itv s2 h2 => ?_))
  (fun _ s' hq=>wpAny_pure (wpAny_pure hq)) fun _ _ e=>e)
 obtain ⟨it,fp,tn,J,H2,e,I2,T,st2,f2,hW⟩:=h2
 subst e
 refine fb (Qv:=fun x H1=>gu i x σ H1 Dn.nx) S ho hc hks hst hg ht he I2 T st2 f2 hW ?_
 intro D C H' s' m' I' nC hC hm q
 have cne : ∀ x c,X.env.cells.lookup x=some c→c≠C:=fun x c e=>by
  obtain ⟨v,o,hco,_⟩:=I2.cell x c e
  exact Nat.ne_of_lt (Nat.lt_of_lt_of_le (Heap.lt_size hco) hC)
 have lne:C≠X.env.locals:=Ne.symm (Nat.ne_of_lt (Nat.lt_of_lt_of_le I2.lt hC))
 show wpAny _ X.A (assign (.Name y py) X.env (.ref D)) _ _ _
 refine wpAny_assign_Name (eI (v := .ref D) I' hN hy hx rfl (fun s'' I'' hsb => ?_) hf)
 obtain ⟨a,sba,ha⟩:=hsb
 have aC:C≠a:=by
  rcases ha with z | z
  ·rw [z]; exact lne
  ·exact Ne.symm (cne y a z)
 refine ⟨m',hm.sameBut sba aC,fun h' sb=>⟨_,H',?_,q⟩⟩
 exact I''.turned (t':=s''.toks) (it:=C) (fun b o hb e=>sb.extBut b o hb e) nC lne (.inr (Nat.le_trans I2.sz hC)) cne (fun p hp=>Nat.ne_of_lt (Nat.lt_of_lt_of_le (Heap.lt_size (I2.pin p hp).1) hC))
end
theorem eZ {K:PySem.W.Frag} {a:Addr} {xs:List V} {B:V→List V→(List V→Hp→Prop)→Hp→Prop} {Z:List V→Hp→Prop} {H:Hp} (Pv:Nat→List V→Hp→Prop) (h0:Pv 0 [] H) (hl : ∀ i ys H,i≤xs.length→Pv i ys H→SqL K H a xs)
  (hy : ∀ i ys H,i < xs.length→Pv i ys H→ys.length < sizeLine) (hs : ∀ i x ys H,xs[i]?=some x→Pv i ys H→B x ys (Pv (i+1)) H) (hd : ∀ ys H,Pv xs.length ys H→Z ys H) :
  ∃ W:Nat→Nat→List V→Hp→Prop,(∃ m,W 0 m [] H) ∧ ∀ i m ys H,W i m ys H →
   ((Itl K a).stop i H∧Z ys H)∨((Itl K a).go i H∧ys.length < sizeLine ∧ ∃ N:List V→Hp→Prop,(∀ ys' H',N ys' H' → ∃ m',m' < m∧W (i+1) m' ys' H') ∧ ∀ x H',(Itl K a).yld i H x H'→B x ys N H'):=by
 refine ⟨fun i m ys H=>m=xs.length - i∧i≤xs.length∧Pv i ys H,⟨xs.length,by simp,Nat.zero_le _,h0⟩,?_⟩
 rintro i m ys H ⟨rfl,hi,p⟩
 have q:=hl i ys H hi p
 by_cases hlt:i < xs.length
 ·refine .inr ⟨⟨xs,xs[i],q,by simp [hlt]⟩,hy i ys H hlt p,Pv (i+1),fun ys' H' p'=>⟨xs.length - (i+1),by omega,rfl,hlt,p'⟩,fun x H' y => ?_⟩
  obtain ⟨e,y⟩:=y
  subst e
  exact hs i x ys _ (y xs q) p
 ·have e:i=xs.length:=by omega
  subst e
  exact .inl ⟨⟨xs,q,Nat.le_refl _⟩,hd ys H p⟩
theorem gD {K:PySem.W.Frag} {a:Addr} {xs:List V} {B:V→List V→(List V→Hp→Prop)→Hp→Prop} {Z:List V→Hp→Prop} {H:Hp} (Pv:Nat→List V→Hp→Prop) (h0:Pv 0 [] H) (hl : ∀ i ys H,i≤xs.length→Pv i ys H→SqT K H a xs)
  (hy : ∀ i ys H,i < xs.length→Pv i ys H→ys.length < sizeLine) (hs : ∀ i x ys H,xs[i]?=some x→Pv i ys H→B x ys (Pv (i+1)) H) (hd : ∀ ys H,Pv xs.length ys H→Z ys H) :
  ∃ W:Nat→Nat→List V→Hp→Prop,(∃ m,W 0 m [] H) ∧ ∀ i m ys H,W i m ys H →
   ((Itt K a).stop i H∧Z ys H)∨((Itt K a).go i H∧ys.length < sizeLine ∧ ∃ N:List V→Hp→Prop,(∀ ys' H',N ys' H' → ∃ m',m' < m∧W (i+1) m' ys' H') ∧ ∀ x H',(Itt K a).yld i H x H'→B x ys N H'):=by
 refine ⟨fun i m ys H=>m=xs.length - i∧i≤xs.length∧Pv i ys H,⟨xs.length,by simp,Nat.zero_le _,h0⟩,?_⟩
 rintro i m ys H ⟨rfl,hi,p⟩
 have q:=hl i ys H hi p
 by_cases hlt:i < xs.length
 ·refine .inr ⟨⟨xs,xs[i],q,by simp [hlt]⟩,hy i ys H hlt p,Pv (i+1),fun ys' H' p'=>⟨xs.length - (i+1),by omega,rfl,hlt,p'⟩,fun x H' y => ?_⟩
  obtain ⟨e,y⟩:=y
  subst e
  exact hs i x ys _ (y xs q) p
 ·have e:i=xs.length:=by omega
  subst e
  exact .inl ⟨⟨xs,q,Nat.le_refl _⟩,hd ys H p⟩
theorem d8 {lo:Int} {n:Nat} {B:V→List V→(List V→Hp→Prop)→Hp→Prop} {Z:List V→Hp→Prop} {H:Hp} (Pv:Nat→List V→Hp→Prop) (h0:Pv 0 [] H)
  (hy : ∀ i ys H,i < n→Pv i ys H→ys.length < sizeLine) (hs : ∀ i ys H,i < n→Pv i ys H→B (.int (lo+i)) ys (Pv (i+1)) H) (hd : ∀ ys H,Pv n ys H→Z ys H) :
  ∃ W:Nat→Nat→List V→Hp→Prop,(∃ m,W 0 m [] H) ∧ ∀ i m ys H,W i m ys H →
   ((Itr lo n).stop i H∧Z ys H)∨((Itr lo n).go i H∧ys.length < sizeLine ∧ ∃ N:List V→Hp→Prop,(∀ ys' H',N ys' H' → ∃ m',m' < m∧W (i+1) m' ys' H') ∧ ∀ x H',(Itr lo n).yld i H x H'→B x ys N H'):=by
 refine ⟨fun i m ys H=>m=n - i∧i≤n∧Pv i ys H,⟨n,by simp,Nat.zero_le _,h0⟩,?_⟩
 rintro i m ys H ⟨rfl,hi,p⟩
 by_cases hlt:i < n
 ·refine .inr ⟨hlt,hy i ys H hlt p,Pv (i+1),fun ys' H' p'=>⟨n - (i+1),by omega,rfl,hlt,p'⟩,fun x H' y => ?_⟩
  obtain ⟨e,y⟩:=y
  subst e y
  exact hs i ys _ hlt p
 ·have e:i=n:=by omega
  subst e
  exact .inl ⟨Nat.le_refl _,hd ys H p⟩
end L2
namespace L2
open PySem PySem.Spec PyProof.Rows
inductive Dt where
 | non | bl (b:Bool) | int (i:Int) | str (x:Str) | tup (l:List Dt) | lst (l:List Dt)
mutual
def dEq:Dt→Dt→Bool
 | .non,.non=>true
 | .bl a,.bl b=>a == b
 | .bl a,.int b=>(if a then 1 else 0) == b
 | .int a,.bl b=>a == (if b then 1 else 0)
 | .int a,.int b=>a == b
 | .str a,.str b=>a == b
 | .tup l,.tup m=>aW l m
 | .lst l,.lst m=>aW l m
 | _,_=>false
def aW:List Dt→List Dt→Bool
 | [],[]=>true
 | a::l,b::m=>dEq a b && aW l m
 | _,_=>false
end
mutual
theorem bU : ∀ d:Dt,dEq d d=true
 | .non=>by rw [dEq]
 | .bl a=>by rw [dEq]; exact beq_self_eq_true a
 | .int a=>by rw [dEq]; exact beq_self_eq_true a
 | .str a=>by rw [dEq]; exact beq_self_eq_true a
 | .tup l=>by rw [dEq]; exact de l
 | .lst l=>by rw [dEq]; exact de l
theorem de : ∀ l:List Dt,aW l l=true
 | []=>by rw [aW]
 | a::l=>by rw [aW,bU a,de l]; rfl
end
mutual
def dep:Dt→Nat
 | .tup l=>cg l+1
 | .lst l=>cg l+1
 | _=>0
def cg:List Dt→Nat
 | []=>0
 | a::l=>max (dep a) (cg l)
end
mutual
def Is (K:PySem.W.Frag) (H:Hp):Dt→V→Prop
 | .non,v=>v = .non
 | .bl b,v=>v = .bl b
 | .int i,v=>v = .int i
 | .str x,v=>v = .str x
 | .tup l,v => ∃ a xs,v = .ref a∧SqT K H a xs∧Iss K H l xs
 | .lst l,v => ∃ a xs,v = .ref a∧SqL K H a xs∧Iss K H l xs
def Iss (K:PySem.W.Frag) (H:Hp):List Dt→List V→Prop
 | [],vs=>vs=[]
 | d::l,vs => ∃ v r,vs=v::r∧Is K H d v∧Iss K H l r
end
theorem Iss.length {K:PySem.W.Frag} {H:Hp} : ∀ {l:List Dt} {vs:List V},Iss K H l vs→vs.length=l.length
 | [],vs,h=>by rw [Iss] at h; rw [h]; rfl
 | d::l,vs,h=>by
  rw [Iss] at h
  obtain ⟨v,r,rfl,_,h2⟩:=h
  rw [List.length_cons,List.length_cons,Iss.length h2]
theorem Iss.nil {K:PySem.W.Frag} {H:Hp}:Iss K H [] []:=by rw [Iss]
theorem Iss.cons {K:PySem.W.Frag} {H:Hp} {d:Dt} {l:List Dt} {v:V} {r:List V} (h1:Is K H d v) (h2:Iss K H l r):Iss K H (d::l) (v::r):=by rw [Iss]; exact ⟨v,r,rfl,h1,h2⟩
theorem Iss.get {K:PySem.W.Frag} {H:Hp} : ∀ {l:List Dt} {vs:List V} {i:Nat} {v:V},Iss K H l vs→vs[i]?=some v → ∃ d,l[i]?=some d∧Is K H d v
 | [],vs,i,v,h,e=>by rw [Iss] at h; rw [h] at e; simp at e
 | d::l,vs,0,v,h,e=>by
  rw [Iss] at h
  obtain ⟨w,r,rfl,h1,h2⟩:=h
  have e:w=v:=Option.some.inj e
  subst e
  exact ⟨d,rfl,h1⟩
 | d::l,vs,i+1,v,h,e=>by
  rw [Iss] at h
  obtain ⟨w,r,rfl,h1,h2⟩:=h
  exact Iss.get h2 (i:=i) e
theorem Iss.append {K:PySem.W.Frag} {H:Hp} : ∀ {l m:List Dt} {vs us:List V},Iss K H l vs→Iss K H m us→Iss K H (l++m) (vs++us)
 | [],m,vs,us,h,h'=>by rw [Iss] at h; rw [h]; exact h'
 | e::l,m,vs,us,h,h'=>by
  rw [Iss] at h
  obtain ⟨w,r,rfl,h2,h3⟩:=h
  exact .cons h2 (Iss.append h3 h')
theorem Iss.ints {K:PySem.W.Frag} {H:Hp} : ∀ ns:List Int,Iss K H (ns.map Dt.int) (ns.map V.int)
 | [] => .nil
 | n::ns => .cons (by rw [Is]) (Iss.ints ns)
def ej (l m:List Dt) (j:Nat):Bool:=match l[j]?,m[j]? with
 | some a,some b=>dEq a b
 | _,_=>false
theorem gB : ∀ l m:List Dt,((List.range (min l.length m.length)).all (ej l m) && l.length == m.length)=aW l m
 | [],[]=>by rw [aW]; rfl
 | [],b::m=>by simp [aW]
 | a::l,[]=>by simp [aW]
 | a::l,b::m=>by
  rw [aW,← gB l m]
  have e:min (a::l).length (b::m).length=min l.length m.length+1:=by simp only [List.length_cons]; omega
  rw [e,List.range_succ_eq_map,List.all_cons,List.all_map]
  have e2:(ej (a::l) (b::m) ∘ Nat.succ)=ej l m:=by funext j; rfl
  have e3:ej (a::l) (b::m) 0=dEq a b:=rfl
  have e4:((a::l).length == (b::m).length)=(l.length == m.length):=by simp
  rw [e2,e3,e4,Bool.and_assoc]
section
variable {X:Cx} {pins:List (Addr×Obj)} {σ:St} {H:Hp} {s:Shared}
theorem Inv.tupleD {K:PySem.W.Frag} (I:Inv X pins σ H s) (hK:X.K=K) {l:List Dt} {v:V} {u:Value} (h:Is K H (.tup l) v) (r:RelV v u) : ∃ (a:Addr) (xs:List V) (its:List Value),v = .ref a∧u = .ref a∧SqT K H a xs∧Iss K H l xs∧Vals xs its∧s.heap.IsTuple a its.toArray:=by
 subst hK
 rw [Is] at h
 obtain ⟨a,xs,rfl,h1,h2⟩:=h
 obtain ⟨its,h3,h4,_⟩:=I.tuple h1
 exact ⟨a,xs,its,rfl,r,h1,h2,h3,h4⟩
theorem Inv.listD {K:PySem.W.Frag} (I:Inv X pins σ H s) (hK:X.K=K) {l:List Dt} {v:V} {u:Value} (h:Is K H (.lst l) v) (r:RelV v u) : ∃ (a:Addr) (xs:List V) (its:List Value),v = .ref a∧u = .ref a∧SqL K H a xs∧Iss K H l xs∧Vals xs its∧s.heap.IsList a its.toArray:=by
 subst hK
 rw [Is] at h
 obtain ⟨a,xs,rfl,h1,h2⟩:=h
 obtain ⟨its,h3,h4,_⟩:=I.list h1
 exact ⟨a,xs,its,rfl,r,h1,h2,h3,h4.isList⟩
mutual
theorem dw (I:Inv X pins σ H s) : ∀ (d e:Dt) {v:V},Is X.K H d v→Is X.K H e v→dEq d e=true
 | .tup l,.tup m,v,h1,h2=>by
  rw [Is] at h1; rw [Is] at h2
  obtain ⟨a,xs,rfl,q1,q2⟩:=h1
  obtain ⟨b,ys,e,q3,q4⟩:=h2
  cases e
  have e:=I.tuple_inj q1 q3
  subst e
  rw [dEq]
  exact dW I l m q2 q4
 | .lst l,.lst m,v,h1,h2=>by
  rw [Is] at h1; rw [Is] at h2
  obtain ⟨a,xs,rfl,q1,q2⟩:=h1
  obtain ⟨b,ys,e,q3,q4⟩:=h2
  cases e
  have e:=I.list_inj q1 q3
  subst e
  rw [dEq]
  exact dW I l m q2 q4
 | .tup l,.lst m,v,h1,h2=>by
  rw [Is] at h1; rw [Is] at h2
  obtain ⟨a,xs,rfl,q1,q2⟩:=h1
  obtain ⟨b,ys,e,q3,q4⟩:=h2
  cases e
  obtain ⟨i1,_,k1,_⟩:=I.tuple q1
  obtain ⟨i2,_,k2,_⟩:=I.list q3
  exact absurd rfl (SeqAt.ne_of_list_tuple k2.isList k1)
 | .lst l,.tup m,v,h1,h2=>by
  rw [Is] at h1; rw [Is] at h2
  obtain ⟨a,xs,rfl,q1,q2⟩:=h1
  obtain ⟨b,ys,e,q3,q4⟩:=h2
  cases e
  obtain ⟨i1,_,k1,_⟩:=I.tuple q3
  obtain ⟨i2,_,k2,_⟩:=I.list q1
  exact absurd rfl (SeqAt.ne_of_list_tuple k2.isList k1)
 | .non,e,v,h1,h2=>by
  rw [Is] at h1; subst h1
  cases e <;> rw [Is] at h2 <;> first | rfl | (exfalso; first | (cases h2; done) | (obtain ⟨_,_,z,_⟩:=h2; cases z))
 | .bl b,e,v,h1,h2=>by
  rw [Is] at h1; subst h1
  cases e <;> rw [Is] at h2 <;> first | (cases h2; rw [dEq]; exact beq_self_eq_true _) | (exfalso; first | (cases h2; done) | (obtain ⟨_,_,z,_⟩:=h2; cases z))
 | .int b,e,v,h1,h2=>by
  rw [Is] at h1; subst h1
  cases e <;> rw [Is] at h2 <;> first | (cases h2; rw [dEq]; exact beq_self_eq_true _) | (exfalso; first | (cases h2; done) | (obtain ⟨_,_,z,_⟩:=h2; cases z))
 | .str b,e,v,h1,h2=>by
  rw [Is] at h1; subst h1
  cases e <;> rw [Is] at h2 <;> first | (cases h2; rw [dEq]; exact beq_self_eq_true _) | (exfalso; first | (cases h2; done) | (obtain ⟨_,_,z,_⟩:=h2; cases z))
 | .tup l,.non,v,h1,h2=>by rw [Is] at h1; rw [Is] at h2; obtain ⟨_,_,z,_⟩:=h1; rw [h2] at z; cases z
 | .tup l,.bl _,v,h1,h2=>by rw [Is] at h1; rw [Is] at h2; obtain ⟨_,_,z,_⟩:=h1; rw [h2] at z; cases z
 | .tup l,.int _,v,h1,h2=>by rw [Is] at h1; rw [Is] at h2; obtain ⟨_,_,z,_⟩:=h1; rw [h2] at z; cases z
 | .tup l,.str _,v,h1,h2=>by rw [Is] at h1; rw [Is] at h2; obtain ⟨_,_,z,_⟩:=h1; rw [h2] at z; cases z
 | .lst l,.non,v,h1,h2=>by rw [Is] at h1; rw [Is] at h2; obtain ⟨_,_,z,_⟩:=h1; rw [h2] at z; cases z
 | .lst l,.bl _,v,h1,h2=>by rw [Is] at h1; rw [Is] at h2; obtain ⟨_,_,z,_⟩:=h1; rw [h2] at z; cases z
 | .lst l,.int _,v,h1,h2=>by rw [Is] at h1; rw [Is] at h2; obtain ⟨_,_,z,_⟩:=h1; rw [h2] at z; cases z
 | .lst l,.str _,v,h1,h2=>by rw [Is] at h1; rw [Is] at h2; obtain ⟨_,_,z,_⟩:=h1; rw [h2] at z; cases z
theorem dW (I:Inv X pins σ H s) : ∀ (l m:List Dt) {vs:List V},Iss X.K H l vs→Iss X.K H m vs→aW l m=true
 | [],[],vs,h1,h2=>by rw [aW]
 | [],b::m,vs,h1,h2=>by rw [Iss] at h1; rw [Iss] at h2; obtain ⟨_,_,z,_⟩:=h2; rw [h1] at z; cases z
 | a::l,[],vs,h1,h2=>by rw [Iss] at h1; rw [Iss] at h2; obtain ⟨_,_,z,_⟩:=h1; rw [h2] at z; cases z
 | a::l,b::m,vs,h1,h2=>by
  rw [Iss] at h1; rw [Iss] at h2
  obtain ⟨v,r,rfl,q1,q2⟩:=h1
  obtain ⟨v',r',e,q3,q4⟩:=h2
  cases e
  rw [aW,dw I a b q1 q3,dW I l m q2 q4]
  rfl
end
theorem d6 {d:Dt} : ∀ {l:List Dt} {j:Nat},l[j]?=some d→dep d≤cg l
 | [],j,h=>by simp at h
 | a::l,0,h=>by
  have e:a=d:=Option.some.inj h
  subst e
  rw [cg]; omega
 | a::l,j+1,h=>by
  have q:=d6 (l:=l) (j:=j) h
  rw [cg]; omega
theorem cO {A:Around} {l m:List Dt} {xs ys:List V} {us vs:List Value} (ih : ∀ (j:Nat) (d e:Dt) {x y:V} {u v:Value},l[j]?=some d→m[j]?=some e→Is X.K H d x→Is X.K H e y→RelV x u→RelV y v→SeqAt.EqAt A s u v (dEq d e))
  (h1:Iss X.K H l xs) (h2:Iss X.K H m ys) (r1:Vals xs us) (r2:Vals ys vs) : ∀ j (q1:j < us.toArray.size) (q2:j < vs.toArray.size),SeqAt.EqAt A s us.toArray[j] vs.toArray[j] (ej l m j):=by
 intro j q1 q2
 have q1':j < us.length:=by simpa using q1
 have q2':j < vs.length:=by simpa using q2
 have e1:us.toArray[j]=us[j]:=by simp
 have e2:vs.toArray[j]=vs[j]:=by simp
 rw [e1,e2]
 have lx:j < xs.length:=by rw [r1.length]; exact q1'
 have ly:j < ys.length:=by rw [r2.length]; exact q2'
 obtain ⟨u,hu,ru⟩:=r1.get (List.getElem?_eq_getElem lx)
 obtain ⟨v,hv,rv⟩:=r2.get (List.getElem?_eq_getElem ly)
 obtain ⟨d,hd,id⟩:=h1.get (List.getElem?_eq_getElem lx)
 obtain ⟨e,he,ie⟩:=h2.get (List.getElem?_eq_getElem ly)
 have e3:us[j]=u:=by rw [List.getElem?_eq_getElem q1'] at hu; exact Option.some.inj hu
 have e4:vs[j]=v:=by rw [List.getElem?_eq_getElem q2'] at hv; exact Option.some.inj hv
 have e5:ej l m j=dEq d e:=by unfold ej; rw [hd,he]
 rw [e3,e4,e5]
 exact ih j d e hd he id ie ru rv
theorem dv {l m:List Dt} {xs ys:List V} {us vs:List Value} (h1:Iss X.K H l xs) (h2:Iss X.K H m ys) (r1:Vals xs us) (r2:Vals ys vs):((List.range (min us.toArray.size vs.toArray.size)).all (ej l m) && us.toArray.size == vs.toArray.size)=aW l m:=by
 have e1:us.toArray.size=l.length:=by rw [List.size_toArray,← r1.length,h1.length]
 have e2:vs.toArray.size=m.length:=by rw [List.size_toArray,← r2.length,h2.length]
 rw [e1,e2,gB]
theorem ip (I:Inv X pins σ H s) : ∀ (n:Nat) (A:Around) (d e:Dt) {x y:V} {u v:Value},dep d≤n→A.units+n+1 < cLine→Is X.K H d x→Is X.K H e y→RelV x u→RelV y v→SeqAt.EqAt A s u v (dEq d e):=by
 intro n
 induction n with
 | zero =>
  intro A d e x y u v hn hu h1 h2 r1 r2
  have hu0:A.units < cLine:=by omega
  cases d with
  | tup l=>rw [dep] at hn; omega
  | lst l=>rw [dep] at hn; omega
  | non =>
   rw [Is] at h1; subst h1
   cases e with
   | tup m =>
    obtain ⟨a,xs,its,rfl,rfl,q1,q2,q3,q4⟩:=I.tupleD rfl h2 r2
    cases r1
    exact SeqAt.EqAt.none_tuple q4 hu0
   | lst m =>
    obtain ⟨a,xs,its,rfl,rfl,q1,q2,q3,q4⟩:=I.listD rfl h2 r2
    cases r1
    exact SeqAt.EqAt.none_list q4 hu0
   | _ =>
    rw [Is] at h2; subst h2
    exact dX r1 r2 rfl rfl
  | bl b =>
   rw [Is] at h1; subst h1
   cases e with
   | tup m =>
    obtain ⟨a,xs,its,rfl,rfl,q1,q2,q3,q4⟩:=I.tupleD rfl h2 r2
    cases r1
    exact SeqAt.EqAt.bool_tuple _ q4 hu0
   | lst m =>
    obtain ⟨a,xs,its,rfl,rfl,q1,q2,q3,q4⟩:=I.listD rfl h2 r2
    cases r1
    exact SeqAt.EqAt.bool_list _ q4 hu0
   | _ =>
    rw [Is] at h2; subst h2
    exact dX r1 r2 rfl rfl
  | int i =>
   rw [Is] at h1; subst h1
   cases e with
   | tup m =>
    obtain ⟨a,xs,its,rfl,rfl,q1,q2,q3,q4⟩:=I.tupleD rfl h2 r2
    obtain ⟨t,rfl⟩:=r1
    exact SeqAt.EqAt.int_tuple _ t q4 hu0
   | lst m =>
    obtain ⟨a,xs,its,rfl,rfl,q1,q2,q3,q4⟩:=I.listD rfl h2 r2
    obtain ⟨t,rfl⟩:=r1
    exact SeqAt.EqAt.int_list _ t q4 hu0
   | _ =>
    rw [Is] at h2; subst h2
    exact dX r1 r2 rfl rfl
  | str i =>
   rw [Is] at h1; subst h1
   cases e with
   | tup m =>
    obtain ⟨a,xs,its,rfl,rfl,q1,q2,q3,q4⟩:=I.tupleD rfl h2 r2
    obtain ⟨t,rfl⟩:=r1
    exact SeqAt.EqAt.str_tuple _ t q4 hu0
   | lst m =>
    obtain ⟨a,xs,its,rfl,rfl,q1,q2,q3,q4⟩:=I.listD rfl h2 r2
    obtain ⟨t,rfl⟩:=r1
    exact SeqAt.EqAt.str_list _ t q4 hu0
   | _ =>
    rw [Is] at h2; subst h2
    exact dX r1 r2 rfl rfl
 | succ n ih =>
  intro A d e x y u v hn hu h1 h2 r1 r2
  have hu0:A.units < cLine:=by omega
  have hu1:A.in1.units+n+1 < cLine:=by show A.units+1+n+1 < cLine; omega
  cases d with
  | tup l =>
   obtain ⟨a,xs,its,rfl,rfl,q1,q2,q3,q4⟩:=I.tupleD rfl h1 r1
   rw [dep] at hn
   cases e with
   | tup m =>
    obtain ⟨b,ys,ist,rfl,rfl,p1,p2,p3,p4⟩:=I.tupleD rfl h2 r2
    by_cases hab:a=b
    ·subst hab
     rw [dw I _ _ h1 h2]
     exact SeqAt.EqAt.same _
    ·refine SeqAt.EqAt.of_refs hab ?_
     have z:=SeqAt.RcAt.tuples q4 p4 hu0 (cO (X:=X) (fun j d e {x y u v} hd _ g1 g2 g3 g4=>ih A.in1 d e (Nat.le_trans (d6 hd) (by omega)) hu1 g1 g2 g3 g4) q2 p2 q3 p3)
     rw [dv q2 p2 q3 p3] at z
     rw [dEq]
     exact z
   | lst m =>
    obtain ⟨b,ys,ist,rfl,rfl,p1,p2,p3,p4⟩:=I.listD rfl h2 r2
    exact SeqAt.EqAt.tuple_list q4 p4 hu0
   | non=>rw [Is] at h2; subst h2; cases r2; exact SeqAt.EqAt.tuple_none q4 hu0
   | bl b=>rw [Is] at h2; subst h2; cases r2; exact SeqAt.EqAt.tuple_bool _ q4 hu0
   | int i=>rw [Is] at h2; subst h2; obtain ⟨t,rfl⟩:=r2; exact SeqAt.EqAt.tuple_int _ t q4 hu0
   | str i=>rw [Is] at h2; subst h2; obtain ⟨t,rfl⟩:=r2; exact SeqAt.EqAt.tuple_str _ t q4 hu0
  | lst l =>
   obtain ⟨a,xs,its,rfl,rfl,q1,q2,q3,q4⟩:=I.listD rfl h1 r1
   rw [dep] at hn
   cases e with
   | lst m =>
    obtain ⟨b,ys,ist,rfl,rfl,p1,p2,p3,p4⟩:=I.listD rfl h2 r2
    by_cases hab:a=b
    ·subst hab
     rw [dw I _ _ h1 h2]
     exact SeqAt.EqAt.same _
    ·refine SeqAt.EqAt.of_refs hab ?_
     rw [dEq]
     have ei:=dv q2 p2 q3 p3
     by_cases hz:its.toArray.size=ist.toArray.size
     ·have z:=SeqAt.RcAt.lists q4 p4 hz hu0 (cO (X:=X) (fun j d e {x y u v} hd _ g1 g2 g3 g4=>ih A.in1 d e (Nat.le_trans (d6 hd) (by omega)) hu1 g1 g2 g3 g4) q2 p2 q3 p3)
      rw [← hz,Nat.min_self,beq_self_eq_true,Bool.and_true] at ei
      rw [ei] at z
      exact z
     ·have hz':(its.toArray.size == ist.toArray.size)=false:=by simpa using hz
      rw [hz',Bool.and_false] at ei
      rw [← ei]
      exact SeqAt.RcAt.lists_lengths q4 p4 (by simpa using hz) hu0
   | tup m =>
    obtain ⟨b,ys,ist,rfl,rfl,p1,p2,p3,p4⟩:=I.tupleD rfl h2 r2
    exact SeqAt.EqAt.list_tuple q4 p4 hu0
   | non=>rw [Is] at h2; subst h2; cases r2; exact SeqAt.EqAt.list_none q4 hu0
   | bl b=>rw [Is] at h2; subst h2; cases r2; exact SeqAt.EqAt.list_bool _ q4 hu0
   | int i=>rw [Is] at h2; subst h2; obtain ⟨t,rfl⟩:=r2; exact SeqAt.EqAt.list_int _ t q4 hu0
   | str i=>rw [Is] at h2; subst h2; obtain ⟨t,rfl⟩:=r2; exact SeqAt.EqAt.list_str _ t q4 hu0
  | _ =>
   rw [Is] at h1; subst h1
   cases e with
   | tup m =>
    obtain ⟨a,xs,its,rfl,rfl,q1,q2,q3,q4⟩:=I.tupleD rfl h2 r2
    first
     | (cases r1; exact SeqAt.EqAt.none_tuple q4 hu0)
     | (cases r1; exact SeqAt.EqAt.bool_tuple _ q4 hu0)
     | (obtain ⟨t,rfl⟩:=r1; exact SeqAt.EqAt.int_tuple _ t q4 hu0)
     | (obtain ⟨t,rfl⟩:=r1; exact SeqAt.EqAt.str_tuple _ t q4 hu0)
   | lst m =>
    obtain ⟨a,xs,its,rfl,rfl,q1,q2,q3,q4⟩:=I.listD rfl h2 r2
    first
     | (cases r1; exact SeqAt.EqAt.none_list q4 hu0)
     | (cases r1; exact SeqAt.EqAt.bool_list _ q4 hu0)
     | (obtain ⟨t,rfl⟩:=r1; exact SeqAt.EqAt.int_list _ t q4 hu0)
     | (obtain ⟨t,rfl⟩:=r1; exact SeqAt.EqAt.str_list _ t q4 hu0)
   | _ =>
    rw [Is] at h2; subst h2
    exact dX r1 r2 rfl rfl
end
end L2
namespace L2
open PySem PySem.Spec PyProof.Rows
section
variable {X:Cx} {a b e o:Expr} {ta tb te:TE} {pos:Pos}
def jb:Dt→Bool
 | .tup _=>true
 | .lst _=>true
 | _=>false
def nc (K:PySem.W.Frag):R2:=fun x y H Q => ∃ d e,Is K H d x∧Is K H e y∧jb d=true∧jb e=true∧dep d≤50∧Q (.bl (dEq d e)) H
def nZ (K:PySem.W.Frag):R2:=fun x y H Q => ∃ d e,Is K H d x∧Is K H e y∧jb d=true∧jb e=true∧dep d≤50∧Q (.bl (!dEq d e)) H
theorem gw {pins:List (Addr×Obj)} {s:Shared} {σ:St} {H:Hp} {d e:Dt} {x y:V} {v u:Value} (hu:X.A.units+60 < cLine) (I:Inv X pins σ H s) (h1:Is X.K H d x) (h2:Is X.K H e y) (g1:jb d=true) (g2:jb e=true) (g3:dep d≤50) (rx:RelV x v) (ry:RelV y u) :
  SeqAt.RcAt X.A s v u (dEq d e)∧SeqAt.RcNeAt X.A s v u (!dEq d e):=by
 have hu0:X.A.units < cLine:=by omega
 have hu1:X.A.in1.units+50+1 < cLine:=by show X.A.units+1+50+1 < cLine; omega
 cases d with
 | tup l =>
  obtain ⟨a,xs,its,rfl,rfl,q1,q2,q3,q4⟩:=I.tupleD rfl h1 rx
  rw [dep] at g3
  cases e with
  | tup m =>
   obtain ⟨b,ys,ist,rfl,rfl,p1,p2,p3,p4⟩:=I.tupleD rfl h2 ry
   have it:=cO (X:=X) (A:=X.A.in1) (fun j d e {x y u v} hd _ g1 g2 g3 g4=>ip I 50 X.A.in1 d e (Nat.le_trans (d6 hd) (by omega)) hu1 g1 g2 g3 g4) q2 p2 q3 p3
   have z1:=SeqAt.RcAt.tuples q4 p4 hu0 it
   have z2:=SeqAt.RcNeAt.tuples q4 p4 hu0 it
   rw [dv q2 p2 q3 p3] at z1 z2
   rw [dEq]
   exact ⟨z1,z2⟩
  | lst m =>
   obtain ⟨b,ys,ist,rfl,rfl,p1,p2,p3,p4⟩:=I.listD rfl h2 ry
   exact ⟨SeqAt.RcAt.tuple_list q4 p4 hu0,SeqAt.RcNeAt.tuple_list q4 p4 hu0⟩
  | _=>cases g2
 | lst l =>
  obtain ⟨a,xs,its,rfl,rfl,q1,q2,q3,q4⟩:=I.listD rfl h1 rx
  rw [dep] at g3
  cases e with
  | lst m =>
   obtain ⟨b,ys,ist,rfl,rfl,p1,p2,p3,p4⟩:=I.listD rfl h2 ry
   have it:=cO (X:=X) (A:=X.A.in1) (fun j d e {x y u v} hd _ g1 g2 g3 g4=>ip I 50 X.A.in1 d e (Nat.le_trans (d6 hd) (by omega)) hu1 g1 g2 g3 g4) q2 p2 q3 p3
   rw [dEq]
   have ei:=dv q2 p2 q3 p3
   by_cases hz:its.toArray.size=ist.toArray.size
   ·have z1:=SeqAt.RcAt.lists q4 p4 hz hu0 it
    have z2:=SeqAt.RcNeAt.lists q4 p4 hz hu0 it
    rw [← hz,Nat.min_self,beq_self_eq_true,Bool.and_true] at ei
    rw [ei] at z1 z2
    exact ⟨z1,z2⟩
   ·have hz':(its.toArray.size == ist.toArray.size)=false:=by simpa using hz
    rw [hz',Bool.and_false] at ei
    rw [← ei]
    exact ⟨SeqAt.RcAt.lists_lengths q4 p4 (by simpa using hz) hu0,SeqAt.RcNeAt.lists_lengths q4 p4 (by simpa using hz) hu0⟩
  | tup m =>
   obtain ⟨b,ys,ist,rfl,rfl,p1,p2,p3,p4⟩:=I.tupleD rfl h2 ry
   exact ⟨SeqAt.RcAt.list_tuple q4 p4 hu0,SeqAt.RcNeAt.list_tuple q4 p4 hu0⟩
  | _=>cases g2
 | _=>cases g1
theorem mh (hu:X.A.units+60 < cLine):OpR X (compareOp .Eq) (nc X.K):=by
 intro pins s σ H x y v u Q I rx ry h
 obtain ⟨d,e,h1,h2,g1,g2,g3,q⟩:=h
 exact (gw hu I h1 h2 g1 g2 g3 rx ry).1 _ _ _ _ ⟨.bl (dEq d e),H,I,rfl,q⟩
theorem fz (hu:X.A.units+60 < cLine):OpR X (compareOp .NotEq) (nZ X.K):=by
 intro pins s σ H x y v u Q I rx ry h
 obtain ⟨d,e,h1,h2,g1,g2,g3,q⟩:=h
 exact (gw hu I h1 h2 g1 g2 g3 rx ry).2 _ _ _ _ ⟨.bl (!dEq d e),H,I,rfl,q⟩
end
mutual
def fC:Dt→Dt
 | .non => .non
 | .bl b => .int (if b then 1 else 0)
 | .int i => .int i
 | .str x => .str x
 | .tup l => .tup (cK l)
 | .lst l => .lst (cK l)
def cK:List Dt→List Dt
 | []=>[]
 | a::l=>fC a::cK l
end
mutual
theorem dB : ∀ d e:Dt,dEq d e=true↔fC d=fC e
 | .tup l,e=>by
  cases e <;> simp only [dEq,fC,Dt.tup.injEq,reduceCtorEq,Bool.false_eq_true]
  exact d7 l _
 | .lst l,e=>by
  cases e <;> simp only [dEq,fC,Dt.lst.injEq,reduceCtorEq,Bool.false_eq_true]
  exact d7 l _
 | .non,e=>by cases e <;> simp only [dEq,fC,reduceCtorEq,Bool.false_eq_true]
 | .bl b,e=>by cases e <;> simp only [dEq,fC,Dt.int.injEq,reduceCtorEq,Bool.false_eq_true,beq_iff_eq]; rename_i c; cases b <;> cases c <;> simp
 | .int b,e=>by cases e <;> simp only [dEq,fC,Dt.int.injEq,reduceCtorEq,Bool.false_eq_true,beq_iff_eq]
 | .str b,e=>by cases e <;> simp only [dEq,fC,Dt.str.injEq,reduceCtorEq,Bool.false_eq_true,beq_iff_eq]
theorem d7 : ∀ l m:List Dt,aW l m=true↔cK l=cK m
 | [],[]=>by simp only [aW,cK]
 | [],b::m=>by simp only [aW,cK,reduceCtorEq,Bool.false_eq_true]
 | a::l,[]=>by simp only [aW,cK,reduceCtorEq,Bool.false_eq_true]
 | a::l,b::m=>by
  simp only [aW,cK,Bool.and_eq_true,List.cons.injEq]
  rw [dB a b,d7 l m]
end
theorem jw {d d' e:Dt} (h:dEq d d'=true):dEq d e=dEq d' e:=by
 have q:=(dB d d').mp h
 rw [Bool.eq_iff_iff,dB,dB,q]
section
variable {X:Cx} {a b e o:Expr} {ta tb te:TE} {pos:Pos}
open Classical in
noncomputable def gL (K:PySem.W.Frag) (H:Hp) (d:Dt) (u:Value):Bool:=if h : ∃ e,dep e≤50 ∧ ∃ y,RelV y u∧Is K H e y then dEq (Classical.choose h) d else false
theorem iX {pins:List (Addr×Obj)} {s:Shared} {σ:St} {H:Hp} (I:Inv X pins σ H s) {d e:Dt} {y:V} {u:Value} (he:dep e≤50) (ry:RelV y u) (h:Is X.K H e y):gL X.K H d u=dEq e d:=by
 have ex : ∃ e,dep e≤50 ∧ ∃ y,RelV y u∧Is X.K H e y:=⟨e,he,y,ry,h⟩
 unfold gL
 rw [dif_pos ex]
 obtain ⟨_,y',r',h'⟩:=Classical.choose_spec ex
 have ey:y'=y:=r'.inj ry
 subst ey
 exact jw (dw I _ _ h' h)
theorem gK {pins:List (Addr×Obj)} {s:Shared} {σ:St} {H:Hp} (I:Inv X pins σ H s) {d:Dt} : ∀ {l:List Dt} {ys:List V} {us:List Value},Iss X.K H l ys→Vals ys us→(∀ e∈l,dep e≤50)→us.any (gL X.K H d)=l.any (fun e=>dEq e d)
 | [],ys,us,hl,hv,hd=>by
  rw [Iss] at hl
  subst hl
  cases hv
  rfl
 | e::l,ys,us,hl,hv,hd=>by
  rw [Iss] at hl
  obtain ⟨y,r,rfl,h1,h2⟩:=hl
  cases hv with
  | cons r1 r2 =>
   rw [List.any_cons,List.any_cons,gK I h2 r2 fun e he=>hd e (List.mem_cons_of_mem _ he),iX I (hd e List.mem_cons_self) r1 h1]
theorem kD {A:Around} {pins:List (Addr×Obj)} {s:Shared} {σ:St} {H:Hp} (I:Inv X pins σ H s) (hu:A.units+51 < cLine) {d:Dt} {x:V} {v:Value} (h0:Is X.K H d x) (rx:RelV x v) : ∀ {l:List Dt} {ys:List V} {us:List Value},Iss X.K H l ys→Vals ys us→(∀ e∈l,dep e≤50) →
  ∀ u∈us,SeqAt.EqAt A s u v (gL X.K H d u)
 | [],ys,us,hl,hv,hd,u,hm=>by
  rw [Iss] at hl
  subst hl
  cases hv
  cases hm
 | e::l,ys,us,hl,hv,hd,u,hm=>by
  rw [Iss] at hl
  obtain ⟨y,r,rfl,h1,h2⟩:=hl
  cases hv with
  | cons r1 r2 =>
   rcases List.mem_cons.mp hm with z | z
   ·subst z
    rw [iX I (hd e List.mem_cons_self) r1 h1]
    exact ip I 50 A e d (hd e List.mem_cons_self) hu h1 h0 r1 rx
   ·exact kD I hu h0 rx h2 r2 (fun e he=>hd e (List.mem_cons_of_mem _ he)) u z
def m9 (K:PySem.W.Frag) (neg:Bool):R2:=fun x y H Q => ∃ d p ys l,Is K H d x∧y = .ref p∧(SqL K H p ys∨SqT K H p ys)∧Iss K H l ys∧(∀ e∈l,dep e≤50)∧Q (.bl (if neg then !(l.any fun e=>dEq e d) else l.any fun e=>dEq e d)) H
theorem om (hu:X.A.units+60 < cLine):OpR X (compareOp .In) (m9 X.K false):=by
 intro pins s σ H x y v u Q I rx ry h
 obtain ⟨d,p,ys,l,h1,rfl,h2,h3,h4,q⟩:=h
 cases ry
 have hu1:X.A.in1.units+51 < cLine:=by show X.A.units+1+51 < cLine; omega
 rcases h2 with h2 | h2
 ·obtain ⟨its,r,pl,hz⟩:=I.list h2
  refine SeqAt.in_listAt (gL X.K H d) pl.isList (fun y hy=>kD I hu1 h1 rx h3 r h4 y (by simpa using hy)) ?_
  rw [List.any_toArray,gK I h3 r h4]
  exact ⟨.bl (l.any fun e=>dEq e d),H,I,rfl,q⟩
 ·obtain ⟨its,r,pl,hz⟩:=I.tuple h2
  refine SeqAt.in_tupleAt (gL X.K H d) pl (fun y hy=>kD I hu1 h1 rx h3 r h4 y (by simpa using hy)) ?_
  rw [List.any_toArray,gK I h3 r h4]
  exact ⟨.bl (l.any fun e=>dEq e d),H,I,rfl,q⟩
theorem jf (hu:X.A.units+60 < cLine):OpR X (compareOp .NotIn) (m9 X.K true):=by
 intro pins s σ H x y v u Q I rx ry h
 obtain ⟨d,p,ys,l,h1,rfl,h2,h3,h4,q⟩:=h
 cases ry
 have hu1:X.A.in1.units+51 < cLine:=by show X.A.units+1+51 < cLine; omega
 rcases h2 with h2 | h2
 ·obtain ⟨its,r,pl,hz⟩:=I.list h2
  refine SeqAt.notIn_listAt (gL X.K H d) pl.isList (fun y hy=>kD I hu1 h1 rx h3 r h4 y (by simpa using hy)) ?_
  rw [List.any_toArray,gK I h3 r h4]
  exact ⟨.bl (!(l.any fun e=>dEq e d)),H,I,rfl,q⟩
 ·obtain ⟨its,r,pl,hz⟩:=I.tuple h2
  refine SeqAt.notIn_tupleAt (gL X.K H d) pl (fun y hy=>kD I hu1 h1 rx h3 r h4 y (by simpa using hy)) ?_
  rw [List.any_toArray,gK I h3 r h4]
  exact ⟨.bl (!(l.any fun e=>dEq e d)),H,I,rfl,q⟩
theorem jX:OpR X (binaryOp .Add) (fun x y H Q => ∃ a b xs ys,x = .ref a∧y = .ref b∧SqT X.K H a xs∧SqT X.K H b ys∧xs.length+ys.length≤sizeLine ∧ ∀ p H',Same H H'→SqT X.K H' p (xs++ys)→Q (.ref p) H'):=by
 intro pins s σ H x y v u Q I rx ry h
 obtain ⟨a,b,xs,ys,rfl,rfl,ha,hb,hz,q⟩:=h
 by_cases hx:xs=[]
 ·subst hx
  cases rx
  cases ry
  obtain ⟨its,r1,p1,_⟩:=I.tuple ha
  obtain ⟨its2,r2,p2,_⟩:=I.tuple hb
  have e1:its=[]:=r1.nil_iff.mpr rfl
  subst e1
  obtain ⟨⟨cls,dd,data,sl⟩,ho,hc,n,hd⟩:=id p1
  obtain ⟨⟨cls2,dd2,data2,sl2⟩,ho2,hc2,n2,hd2⟩:=id p2
  simp only at hc hd hc2 hd2
  subst hc hd hc2 hd2
  exact concat_meets ⟨_,ho,rfl⟩ ⟨_,ho2,rfl⟩ noFill_tuple_add seq_tuple_add PySem.F.slot_tuple_add PySem.F.entry_tuple_add (PySem.F.args_tuple_add_2 _ _)
   (tuple_addW0 a b _ its2.toArray n n2 dd dd2 sl sl2 (by simp)) ⟨ho,ho2,⟨.ref b,H,I,rfl,q b H (Same.refl H) (by rw [List.nil_append]; exact hb)⟩⟩
 ·refine kS pins s σ H _ _ v u Q I rx ry ⟨a,b,xs,ys,rfl,rfl,ha,hb,hx,hz,fun e=>q a H (Same.refl H) (by rw [e,List.append_nil]; exact ha),fun _ p hp=>q p _ (fun b o e => ?_) (SqT.of ac)⟩
  rw [ae (al e hp)]
  exact e
theorem bX:bY X (.builtin "isinstance") (fun xs H Q => ∃ x n t b,xs=[x,.ty n]∧cj X.K H x t∧PySem.W.kitOne X.K t (.type n)=some b∧Q (.bl b) H):=by
 intro pins s σ H xs us Q I r h
 obtain ⟨x,n,t,b,rfl,ty,e,q⟩:=h
 obtain ⟨u,w',rfl,ru,rw'⟩:=lI r
 cases (show w'=Value.type n from rw')
 exact jp I ru ty e fun tk=>⟨.bl b,H,I.tok tk,rfl,q⟩
end
section
variable {X:Cx} {a:Expr} {ta:TA} {elts:List Expr} {x1:Nat} {tpos p pos:Pos}
end
end L2
namespace L2
open PySem PySem.Spec PyProof.Rows
section
variable {X:Cx} {a b e o:Expr} {ta tb te:TE} {pos:Pos}
theorem kT:OpR X (binaryOp .Add) (fun x y H Q => ∃ l b xs zs,x = .ref l∧y = .ref b∧SqL X.K H l xs∧SqL X.K H b zs∧xs.length+zs.length≤sizeLine ∧ ∀ p,H p=none→Q (.ref p) (upd H p (.lst (xs++zs)))):=by
 intro pins s σ H x y v u Q I rx ry h
 obtain ⟨l,b,xs,zs,rfl,rfl,hH,hB,hz,q⟩:=h
 cases rx
 cases ry
 obtain ⟨its,r,pl,z1⟩:=I.list hH
 obtain ⟨its2,r2,pl2,z2⟩:=I.list hB
 have hl:=r.length
 have hl2:=r2.length
 obtain ⟨⟨cls,dd,data,sl⟩,ho,hc,n,hd⟩:=pl.isList
 obtain ⟨⟨cls2,dd2,data2,sl2⟩,ho2,hc2,n2,hd2⟩:=pl2.isList
 simp only at hc hd hc2 hd2
 subst hc hd hc2 hd2
 refine concat_meets ⟨_,ho,rfl⟩ ⟨_,ho2,rfl⟩ noFill_list_add seq_list_add PySem.F.slot_list_add PySem.F.entry_list_add (PySem.F.args_list_add_2 _ _) (list_addW l b its.toArray its2.toArray n n2 dd dd2 sl sl2 (by rw [List.size_toArray,List.size_toArray]; omega)) ⟨ho,ho2,?_⟩
 have ea:its.toArray++its2.toArray=(its++its2).toArray:=by simp
 rw [ea]
 exact ⟨.ref _,_,I.lnew (t':=s.toks) (r.append r2) (by rw [List.length_append]; omega),rfl,q _ I.fresh⟩
end
section
variable {X:Cx} {m:Str} {pos apos:Pos} {e o:Expr} {es:List Expr} {ta:TE} {t:TA} {k:Nat}
end
end L2
namespace L2
open PySem PySem.Spec PyProof.Rows
section
variable {X:Cx}
end
end L2
namespace L2
open PySem PySem.Spec PyProof.Rows
section
variable {X:Cx} {tg:Expr}
end
theorem jW {X:Cx}:OpR X (binaryOp .FloorDiv) (rI (fun _ j=>0 < j∧j < 18446744073709551616) fun i j => .int (i / j)):=opI fun i j _ _ _ _ _ hc q=>by
 have h1:(0:Int) < j:=hc.1
 have h2:j < 18446744073709551616:=hc.2
 refine floordiv_int (by omega) (by rw [Int.fdiv_eq_ediv_of_nonneg i (by omega)]; exact q) (.inl (PyProof.noPylong_of_log2 ?_))
 have h3:j.natAbs < 2 ^ 64:=by show j.natAbs < 18446744073709551616; omega
 exact Nat.lt_trans ((Nat.log2_lt (by omega)).mpr h3) (by decide)
end L2
namespace L2
open PySem PySem.Spec PyProof.Rows
section
variable {prog:Program} {w:World} {A:Around} {E:Value→Shared→Prop} {s:Shared}
variable {z TI TO i1 i2 l1 l2:Addr} {b1 b2:Bool} {k1 k2:Nat} {xs ys:Array Value}
end
section
variable {X:Cx} {a b:Expr} {ta:TA} {elts:List Expr} {x1:Nat} {tpos p pos:Pos}
end
end L2
namespace L2
open PySem PySem.Spec PyProof.Rows
section
variable {X:Cx} {CX:CXT} {k:Nat} {f C:Addr} {fd:FuncData} {ps:List Str} {sp:Sp} {dvs:List V} {ds:List Value} {E:XK} {x m:Str} {p pos apos:Pos} {e:Expr} {es:List Expr} {t:TA}
end
end L2
namespace L2
open PySem PySem.Spec PyProof.Rows
section
variable {X:Cx} {tg a b:Expr} {ta:TA} {p p1 pos pos1:Pos}
end
section
variable {prog:Program} {w:World} {A:Around} {s:Shared} {R:Result→Shared→Prop} {r:Addr} {a b c:Int} {t u v:Tok} {n:Nat}
end
section
variable {X:Cx} {a b:Expr} {ta:TA} {p p1 pos pos1:Pos}
end
end L2
namespace L2
open PySem PySem.Spec PyProof.Rows
section
variable {X:Cx}
end
end L2
set_option autoImplicit false
namespace Tim
open PySem PyProof.Rows
def G (R:Keyed→Int) (xs:Array Keyed) (i:Nat):Int:=(xs[i]?.map R).getD 0
theorem dC {R:Keyed→Int} {xs ys:Array Keyed} {i j:Nat} (h:xs[i]?=ys[j]?):G R xs i=G R ys j:=by unfold G; rw [h]
theorem jB {R:Keyed→Int} {xs:Array Keyed} {i:Nat} {x:Keyed} (h:xs[i]?=some x):G R xs i=R x:=by unfold G; rw [h]; rfl
structure Ok (κ:SortKind) (a₀:Array Keyed) (st:SortSt):Prop where
 perm:(arrOf st).Perm a₀
 kind:kindOf st=κ
 failed:failedOf st=none
def eF (prog:Program) (w:World) (A:Around) (E:Value→Shared→Prop) (s:Shared) (κ:SortKind) (a₀:Array Keyed) (R:Keyed→Int):Prop :=
 ∀ (st:SortSt) (x y:Keyed) (Q:Option Bool→SortSt→Prop),x∈a₀→y∈a₀→kindOf st=κ→Q (some (decide (R x < R y))) st→wpS (model prog w) A E s (lt' x y) Q st
def Apart (R:Keyed→Int) (xs:Array Keyed):Prop:=(xs.toList.map R).Nodup
def Asc (R:Keyed→Int) (xs:Array Keyed) (lo n:Nat):Prop := ∀ i j,i < j→j < n→G R xs (lo+i) < G R xs (lo+j)
def Desc (R:Keyed→Int) (xs:Array Keyed) (lo n:Nat):Prop := ∀ i j,i < j→j < n→G R xs (lo+j) < G R xs (lo+i)
section
variable {prog:Program} {w:World} {A:Around} {E:Value→Shared→Prop} {s:Shared} {a₀:Array Keyed} {κ:SortKind} {R:Keyed→Int}
theorem Ok.size {st:SortSt} (h:Ok κ a₀ st):(arrOf st).size=a₀.size:=h.perm.size_eq
theorem Ok.at {st:SortSt} (h:Ok κ a₀ st) {i:Nat} (hi:i < a₀.size) : ∃ x,(arrOf st)[i]?=some x∧x∈a₀∧G R (arrOf st) i=R x:=by
 have hi':i < (arrOf st).size:=by rw [h.size]; exact hi
 have e:(arrOf st)[i]?=some (arrOf st)[i]:=getElem?_pos _ i hi'
 refine ⟨_,e,?_,jB e⟩
 exact h.perm.mem_iff.mp (Array.getElem_mem hi')
theorem Ok.arr {st:SortSt} (h:Ok κ a₀ st) {xs:Array Keyed} (hp:xs.Perm (arrOf st)):Ok κ a₀ (setArr st xs):=⟨hp.trans h.perm,h.kind,h.failed⟩
theorem Ok.apart {st:SortSt} (h:Ok κ a₀ st) (ha:Apart R a₀):Apart R (arrOf st) :=
 ((Array.perm_iff_toList_perm.mp h.perm).map R).nodup_iff.mpr ha
theorem Apart.ne {xs:Array Keyed} (h:Apart R xs) {i j:Nat} (hij:i≠j) (hi:i < xs.size) (hj:j < xs.size):G R xs i≠G R xs j:=by
 have ei:xs[i]?=some xs[i]:=getElem?_pos _ i hi
 have ej:xs[j]?=some xs[j]:=getElem?_pos _ j hj
 rw [jB ei,jB ej]
 intro he
 have h':=List.nodup_iff_pairwise_ne.mp h
 rw [List.pairwise_iff_getElem] at h'
 rcases Nat.lt_or_gt_of_ne hij with q | q
 ·exact h' i j (by simpa using hi) (by simpa using hj) q (by simpa using he)
 ·exact h' j i (by simpa using hj) (by simpa using hi) q (by simpa using he.symm)
theorem gm {st:SortSt} {i j:Nat} {Q:Option Bool→SortSt→Prop} (hL:eF prog w A E s κ a₀ R) (hO:Ok κ a₀ st) (hi:i < a₀.size) (hj:j < a₀.size)
  (h:Q (some (decide (G R (arrOf st) i < G R (arrOf st) j))) st):wpS (model prog w) A E s (ltAt' i j) Q st:=by
 obtain ⟨x,ex,mx,gx⟩:=hO.at (R:=R) hi
 obtain ⟨y,ey,my,gy⟩:=hO.at (R:=R) hj
 rw [ltAt'_eq]
 refine wpS_bind (wpS_get ?_)
 show wpS _ _ _ _ (elem' (arrOf st) i >>= fun a=>elem' (arrOf st) j >>= fun b=>lt' a b) Q st
 rw [elem'_eq,elem'_eq,ex,ey]
 refine wpS_bind (wpS_pure (wpS_bind (wpS_pure (hL st x y Q mx my hO.kind ?_))))
 rwa [gx,gy] at h
theorem Asc.one (xs:Array Keyed) (lo:Nat):Asc R xs lo 1:=fun i j h1 h2=>by omega
theorem Asc.succ {xs:Array Keyed} {lo n:Nat} (h:Asc R xs lo n) (hn:1≤n) (hl:G R xs (lo+n - 1) < G R xs (lo+n)):Asc R xs lo (n+1):=fun i j h1 h2=>by
 by_cases hj:j < n
 ·exact h i j h1 hj
 ·have:j=n:=by omega
  subst this
  by_cases hi:i=j - 1
  ·subst hi; rwa [show lo+(j - 1)=lo+j - 1 by omega]
  ·have:=h i (j - 1) (by omega) (by omega)
   rw [show lo+(j - 1)=lo+j - 1 by omega] at this
   omega
theorem Desc.succ {xs:Array Keyed} {lo n:Nat} (h:Desc R xs lo n) (hn:1≤n) (hl:G R xs (lo+n) < G R xs (lo+n - 1)):Desc R xs lo (n+1):=fun i j h1 h2=>by
 by_cases hj:j < n
 ·exact h i j h1 hj
 ·have:j=n:=by omega
  subst this
  by_cases hi:i=j - 1
  ·subst hi; rwa [show lo+(j - 1)=lo+j - 1 by omega]
  ·have:=h i (j - 1) (by omega) (by omega)
   rw [show lo+(j - 1)=lo+j - 1 by omega] at this
   omega
theorem Asc.cut {xs:Array Keyed} {lo n m:Nat} (h:Asc R xs lo n) (hm:m≤n):Asc R xs lo m:=fun i j h1 h2=>h i j h1 (by omega)
theorem hV {xs:Array Keyed} {lo n:Nat} (hs:lo+n≤xs.size) (h:Desc R xs lo n):Asc R (mirror xs lo (lo+n) ((lo+n - lo) / 2)) lo n:=fun i j h1 h2=>by
 have g : ∀ k,k < n→G R (mirror xs lo (lo+n) ((lo+n - lo) / 2)) (lo+k)=G R xs (lo+(n - 1 - k)):=fun k hk=>by
  refine dC ?_
  rw [getElem?_mirror_all hs,if_pos (by omega)]
  congr 1; omega
 rw [g i (by omega),g j h2]
 exact h _ _ (by omega) (by omega)
theorem hU {xs:Array Keyed} {lo n:Nat} (hs:lo+n≤xs.size) {i:Nat} (hi:i < lo):(mirror xs lo (lo+n) ((lo+n - lo) / 2))[i]?=xs[i]?:=by
 rw [getElem?_mirror_all hs,if_neg (by omega)]
structure jC (κ:SortKind) (a₀:Array Keyed) (lo:Nat) (st st':SortSt):Prop where
 ok:Ok κ a₀ st'
 pend:pendingOf st'=pendingOf st
 low : ∀ i,i < lo→(arrOf st')[i]?=(arrOf st)[i]?
theorem jy {st:SortSt} {lo nrem:Nat} {Q:Option Nat→SortSt→Prop} (hL:eF prog w A E s κ a₀ R) (ha:Apart R a₀) (hn:lo+nrem≤a₀.size) (h1:1≤nrem) (hO:Ok κ a₀ st)
  (h : ∀ m st',jC κ a₀ lo st st'→1≤m→m≤nrem→Asc R (arrOf st') lo m→Q (some m) st'):wpS (model prog w) A E s (countRun' lo nrem) Q st:=by
 have asc : ∀ (st:SortSt) (a:Nat) (Q:Option (Option Nat)×Nat→SortSt→Prop),Ok κ a₀ st→1≤a→a≤nrem→Asc R (arrOf st) lo a →
   (∀ n,a≤n→n≤nrem→Asc R (arrOf st) lo n→(n=nrem∨G R (arrOf st) (lo+n) < G R (arrOf st) (lo+n - 1))→Q (none,n) st) →
   ∀ f:Nat→Option (Option Nat)×Nat→StateT SortSt Sem (ForInStep (Option (Option Nat)×Nat)),
   (∀ x n st (P:ForInStep (Option (Option Nat)×Nat)→SortSt→Prop),wpS (model prog w) A E s (ltAt' (lo+n) (lo+n - 1)) (fun b st'=>match b with | some true=>P (.done (none,n)) st' | some false=>P (.yield (none,n+1)) st' | none=>False) st→wpS (model prog w) A E s (f x (none,n)) P st) →
   wpS (model prog w) A E s (forIn [a:nrem] ((none,a):Option (Option Nat)×Nat) f) Q st:=by
  intro st a Q hO ha1 han hs hq f hf
  refine wpS_forRange (I:=fun x c st'=>st'=st∧c=(none,x)∧Asc R (arrOf st) lo x) ?step ?fin ⟨rfl,rfl,hs⟩
  case fin =>
   rintro c st' ⟨rfl,rfl,hs'⟩
   rw [show max a nrem=nrem by omega] at hs' ⊢
   exact hq nrem han (Nat.le_refl _) hs' (.inl rfl)
  case step =>
   rintro x c st' hax hxn ⟨rfl,rfl,hs'⟩
   refine hf _ _ _ _ (gm hL hO (by omega) (by omega) ?_)
   by_cases hlt:G R (arrOf st') (lo+x) < G R (arrOf st') (lo+x - 1)
   ·rw [decide_eq_true hlt]; exact hq x hax (by omega) hs' (.inr hlt)
   ·rw [decide_eq_false hlt]
    have:=(hO.apart ha).ne (i:=lo+x) (j:=lo+x - 1) (by omega) (by rw [hO.size]; omega) (by rw [hO.size]; omega)
    exact ⟨rfl,rfl,hs'.succ (by omega) (by omega)⟩
 have body : ∀ (n:Nat) (st:SortSt) (P:ForInStep (Option (Option Nat)×Nat)→SortSt→Prop) (f:Option Bool→StateT SortSt Sem (ForInStep (Option (Option Nat)×Nat))),
   f (some true)=pure (.done (none,n))→f (some false)=pure (.yield (none,n+1)) →
   wpS (model prog w) A E s (ltAt' (lo+n) (lo+n - 1)) (fun b st'=>match b with | some true=>P (.done (none,n)) st' | some false=>P (.yield (none,n+1)) st' | none=>False) st →
   wpS (model prog w) A E s (ltAt' (lo+n) (lo+n - 1) >>= f) P st:=by
  intro n st P f f1 f2 hw
  refine wpS_bind (wpS_mono hw fun b st' hb => ?_)
  match b,hb with
  | some true,hb=>rw [f1]; exact wpS_pure hb
  | some false,hb=>rw [f2]; exact wpS_pure hb
 rw [countRun'_eq]
 refine wpS_bind (asc st 1 _ hO (Nat.le_refl 1) h1 (Asc.one _ _) (fun n hn1 hn2 hsn hor => ?_) _ fun x n st P hw=>body n st P _ rfl rfl hw)
 dsimp only
 by_cases hnn:n=nrem
 ·rw [if_pos (by simpa using hnn)]
  exact wpS_pure (h n st ⟨hO,rfl,fun _ _=>rfl⟩ hn1 hn2 hsn)
 rw [if_neg (by simpa using hnn)]
 have hlt:=hor.resolve_left hnn
 by_cases hgt:n > 1
 ·rw [if_pos hgt]
  refine wpS_bind (gm hL hO (by omega) (by omega) ?_)
  have:=hsn 0 (n - 1) (by omega) (by omega)
  rw [show lo+(n - 1)=lo+n - 1 by omega,Nat.add_zero] at this
  rw [decide_eq_true this]
  exact wpS_pure (h n st ⟨hO,rfl,fun _ _=>rfl⟩ hn1 hn2 hsn)
 rw [if_neg hgt]
 have hn1':n=1:=by omega
 subst hn1'
 refine wpS_bind (wpS_lift (wpAny_rule ⟨rfl,?_⟩))
 refine wpS_bind (wpS_mono (wpS_forRange (I:=fun x c st'=>st'=st∧c=(none,x,0)∧Desc R (arrOf st) lo x)
  (Q:=fun c st'=>st'=st ∧ ∃ n,c=(none,n,0)∧1≤n∧n≤nrem∧Desc R (arrOf st) lo n) ?step ?fin ⟨rfl,rfl,?init⟩) ?post)
 case init=>intro i j i1 i2; rw [show i=0 by omega,show j=1 by omega]; simpa using hlt
 case fin =>
  rintro c st' ⟨rfl,rfl,hd⟩
  rw [show max (1+1) nrem=nrem by omega] at hd ⊢
  exact ⟨rfl,_,rfl,by omega,by omega,hd⟩
 case step =>
  rintro x c st' hax hxn ⟨rfl,rfl,hd⟩
  dsimp only
  refine wpS_bind (gm hL hO (by omega) (by omega) ?_)
  have hne:=(hO.apart ha).ne (i:=lo+x) (j:=lo+x - 1) (by omega) (by rw [hO.size]; omega) (by rw [hO.size]; omega)
  by_cases hl:G R (arrOf st') (lo+x) < G R (arrOf st') (lo+x - 1)
  ·rw [decide_eq_true hl]
   exact wpS_pure ⟨rfl,rfl,hd.succ (by omega) hl⟩
  ·rw [decide_eq_false hl]
   refine wpS_bind (gm hL hO (by omega) (by omega) ?_)
   rw [decide_eq_true (show G R (arrOf st') (lo+x - 1) < G R (arrOf st') (lo+x) by omega)]
   exact wpS_pure ⟨rfl,_,rfl,by omega,by omega,hd⟩
 case post =>
  rintro c st' ⟨rfl,n,rfl,m1,m2,hd⟩
  dsimp only
  rw [if_neg (by omega)]
  have hsz:lo+n≤(arrOf st').size:=by rw [hO.size]; omega
  refine wpS_bind (wpS_reverse ?_)
  have hO':Ok κ a₀ (setArr st' (mirror (arrOf st') lo (lo+n) ((lo+n - lo) / 2))):=hO.arr (mirror_perm _ _ _ _)
  refine wpS_bind (asc _ n _ hO' m1 m2 (hV hsz hd) (fun m k1 k2 ks _ => ?_) _ fun x n st P hw=>body n st P _ rfl rfl hw)
  exact wpS_pure (h m _ ⟨hO',rfl,fun i hi=>hU hsz hi⟩ (by omega) k2 ks)
theorem kA {st:SortSt} {lo n ok:Nat} {Q:Bool→SortSt→Prop} (hL:eF prog w A E s κ a₀ R) (ha:Apart R a₀) (hn:lo+n≤a₀.size) (hok:ok≤n) (hO:Ok κ a₀ st) (hs:Asc R (arrOf st) lo ok)
  (h : ∀ st',jC κ a₀ lo st st'→Asc R (arrOf st') lo n→Q true st'):wpS (model prog w) A E s (binarySort' lo n ok) Q st:=by
 rw [binarySort'_eq]
 refine wpS_bind (wpS_mono (wpS_forRange (I:=fun k c st'=>c=(none,())∧jC κ a₀ lo st st'∧Asc R (arrOf st') lo (min k n))
  (Q:=fun c st'=>c=(none,())∧jC κ a₀ lo st st'∧Asc R (arrOf st') lo n) ?step ?fin ?init) ?post)
 case post =>
  rintro c st' ⟨rfl,hF,hs'⟩
  exact wpS_pure (h st' hF hs')
 case init =>
  refine ⟨rfl,⟨hO,rfl,fun _ _=>rfl⟩,fun i j h1 h2 => ?_⟩
  exact hs i j h1 (by omega)
 case fin =>
  rintro c st' ⟨hc,hF,hs'⟩
  refine ⟨hc,hF,hs'.cut (by omega)⟩
 case step =>
  rintro k c st' hak hkn ⟨rfl,hF,hs'⟩
  rw [show min k n=k by omega] at hs'
  have hap:=(hF.ok.apart ha)
  refine wpS_bind (wpS_mono (wpS_forRange (I:=fun x c st2=>st2=st' ∧ ∃ l r,c=(none,l,r)∧l≤r∧r≤k∧r - l≤k - x ∧
    (∀ i,i < l→G R (arrOf st') (lo+i) < G R (arrOf st') (lo+k))∧(∀ i,r≤i→i < k→G R (arrOf st') (lo+k) < G R (arrOf st') (lo+i)))
   (Q:=fun c st2=>st2=st' ∧ ∃ l r,c=(none,l,r)∧l≤k ∧
    (∀ i,i < l→G R (arrOf st') (lo+i) < G R (arrOf st') (lo+k))∧(∀ i,l≤i→i < k→G R (arrOf st') (lo+k) < G R (arrOf st') (lo+i))) ?istep ?ifin ?iinit) ?ipost)
  case iinit=>exact ⟨rfl,0,k,rfl,by omega,by omega,by omega,fun i hi=>by omega,fun i h1 h2=>by omega⟩
  case ifin =>
   rintro c st2 ⟨rfl,l,r,rfl,hlr,hrk,hm,hlo,hhi⟩
   have:l=r:=by omega
   subst this
   exact ⟨rfl,l,l,rfl,hrk,hlo,hhi⟩
  case istep =>
   rintro x c st2 _ hxk ⟨rfl,l,r,rfl,hlr,hrk,hm,hlo,hhi⟩
   dsimp only
   by_cases hge:l≥r
   ·rw [if_pos hge]
    have:l=r:=by omega
    subst this
    exact wpS_pure ⟨rfl,l,l,rfl,hrk,hlo,hhi⟩
   ·rw [if_neg hge]
    refine wpS_bind (gm hL hF.ok (by omega) (by omega) ?_)
    have hne:=hap.ne (i:=lo+k) (j:=lo+(l+r) / 2) (by omega) (by rw [hF.ok.size]; omega) (by rw [hF.ok.size]; omega)
    by_cases hl:G R (arrOf st2) (lo+k) < G R (arrOf st2) (lo+(l+r) / 2)
    ·rw [decide_eq_true hl]
     refine wpS_pure ⟨rfl,l,(l+r) / 2,rfl,by omega,by omega,by omega,hlo,fun i h1 h2 => ?_⟩
     by_cases hi:i=(l+r) / 2
     ·subst hi; exact hl
     ·have:=hs' ((l+r) / 2) i (by omega) h2
      omega
    ·rw [decide_eq_false hl]
     refine wpS_pure ⟨rfl,(l+r) / 2+1,r,rfl,by omega,by omega,by omega,fun i h1 => ?_,hhi⟩
     by_cases hi:i=(l+r) / 2
     ·subst hi; omega
     ·have:=hs' i ((l+r) / 2) (by omega) (by omega)
      omega
  case ipost =>
   rintro c st2 ⟨rfl,l,r,rfl,hlk,hlo,hhi⟩
   show wpS _ _ _ _ (moveDown' (lo+k) (lo+l) >>= fun _=>pure (ForInStep.yield (none,()))) _ _
   rw [moveDown'_eq]
   have hks:lo+k < (arrOf st2).size:=by rw [hF.ok.size]; omega
   have g:=getElem?_bubble hks (lo+k - (lo+l)) (by omega)
   refine wpS_bind (wpS_modify (wpS_pure ⟨rfl,⟨hF.ok.arr (bubble_perm _ _ _),hF.pend,fun i hi => ?_⟩,?_⟩))
   ·show (bubble (arrOf st2) (lo+k) (lo+k - (lo+l)))[i]?=_
    rw [g,if_neg (by omega),if_neg (by omega)]; exact hF.low i hi
   rw [show min (k+1) n=k+1 by omega]
   intro i j h1 h2
   show G R (bubble (arrOf st2) (lo+k) (lo+k - (lo+l))) (lo+i) < G R (bubble (arrOf st2) (lo+k) (lo+k - (lo+l))) (lo+j)
   have gg : ∀ i,i≤k→G R (bubble (arrOf st2) (lo+k) (lo+k - (lo+l))) (lo+i)=if i < l then G R (arrOf st2) (lo+i) else if i=l then G R (arrOf st2) (lo+k) else G R (arrOf st2) (lo+(i - 1)):=fun i hi=>by
    by_cases q1:i < l
    ·rw [if_pos q1]; refine dC ?_; rw [g,if_neg (by omega),if_neg (by omega)]
    ·rw [if_neg q1]
     by_cases q2:i=l
     ·rw [if_pos q2]; refine dC ?_; rw [g,if_pos (by omega)]
     ·rw [if_neg q2]; refine dC ?_; rw [g,if_neg (by omega),if_pos (by omega)]; congr 1; omega
   rw [gg i (by omega),gg j (by omega)]
   by_cases q1:i < l
   ·rw [if_pos q1]
    by_cases q2:j < l
    ·rw [if_pos q2]; exact hs' i j h1 (by omega)
    ·rw [if_neg q2]
     by_cases q3:j=l
     ·rw [if_pos q3]; exact hlo i q1
     ·rw [if_neg q3]; exact hs' i (j - 1) (by omega) (by omega)
   ·rw [if_neg q1,if_neg (show ¬ j < l by omega),if_neg (show ¬ j=l by omega)]
    by_cases q3:i=l
    ·rw [if_pos q3]; exact hhi (j - 1) (by omega) (by omega)
    ·rw [if_neg q3]; exact hs' (i - 1) (j - 1) (by omega) (by omega)
end
end Tim
set_option autoImplicit false
namespace Tim
open PySem PyProof.Rows
section lists
variable (R:Keyed→Int)
def Srt (l:List Keyed):Prop:=l.Pairwise fun x y=>R x≤R y
structure Lo (l out p q:List Keyed):Prop where
 perm:(out++(p++q)).Perm l
 so:Srt R out
 sp:Srt R p
 sq:Srt R q
 le : ∀ x∈out,∀ y∈p++q,R x≤R y
def Res (l:List Keyed) (r:Array Keyed):Prop:=r.toList.Perm l∧Srt R r.toList
variable {R}
theorem Srt.app {l r:List Keyed} (hl:Srt R l) (hr:Srt R r) (h : ∀ x∈l,∀ y∈r,R x≤R y):Srt R (l++r):=List.pairwise_append.mpr ⟨hl,hr,h⟩
theorem Srt.l {l r:List Keyed} (h:Srt R (l++r)):Srt R l:=(List.pairwise_append.mp h).1
theorem Srt.r {l r:List Keyed} (h:Srt R (l++r)):Srt R r:=(List.pairwise_append.mp h).2.1
theorem Srt.le {l r:List Keyed} (h:Srt R (l++r)) : ∀ x∈l,∀ y∈r,R x≤R y:=(List.pairwise_append.mp h).2.2
theorem Srt.head {x:Keyed} {l:List Keyed} (h:Srt R (x::l)) : ∀ y∈l,R x≤R y:=(List.pairwise_cons.mp h).1
theorem Lo.a {l out p p' q:List Keyed} (h:Lo R l out (p++p') q) (hle : ∀ x∈p,∀ y∈q,R x≤R y):Lo R l (out++p) p' q where
 perm:=by
  refine List.Perm.trans ?_ h.perm
  simp only [List.append_assoc]; exact List.Perm.refl _
 so:=h.so.app h.sp.l fun x hx y hy=>h.le x hx y (by simp [hy])
 sp:=h.sp.r
 sq:=h.sq
 le:=fun x hx y hy=>by
  rcases List.mem_append.mp hx with hx | hx
  ·refine h.le x hx y ?_
   rcases List.mem_append.mp hy with hy | hy
   ·simp [hy]
   ·simp [hy]
  ·rcases List.mem_append.mp hy with hy | hy
   ·exact h.sp.le x hx y hy
   ·exact hle x hx y hy
theorem Lo.b {l out p q q':List Keyed} (h:Lo R l out p (q++q')) (hle : ∀ x∈q,∀ y∈p,R x≤R y):Lo R l (out++q) p q' where
 perm:=by
  refine List.Perm.trans ?_ h.perm
  rw [List.append_assoc]
  refine List.Perm.append_left _ ?_
  rw [← List.append_assoc,← List.append_assoc]
  exact List.Perm.append_right _ List.perm_append_comm
 so:=h.so.app h.sq.l fun x hx y hy=>h.le x hx y (by simp [hy])
 sp:=h.sp
 sq:=h.sq.r
 le:=fun x hx y hy=>by
  rcases List.mem_append.mp hx with hx | hx
  ·refine h.le x hx y ?_
   rcases List.mem_append.mp hy with hy | hy
   ·simp [hy]
   ·simp [hy]
  ·rcases List.mem_append.mp hy with hy | hy
   ·exact hle x hx y hy
   ·exact h.sq.le x hx y hy
theorem Lo.doneA {l out p:List Keyed} (h:Lo R l out p []):(out++p++[]).Perm l∧Srt R (out++p++[]):=by
 refine ⟨?_,?_⟩
 ·have:=h.perm; simpa using this
 ·rw [List.append_nil]; exact h.so.app h.sp fun x hx y hy=>h.le x hx y (by simp [hy])
theorem Lo.doneB {l out q:List Keyed} (h:Lo R l out [] q):(out++[]++q).Perm l∧Srt R (out++[]++q):=by
 refine ⟨?_,?_⟩
 ·have:=h.perm; simpa using this
 ·rw [List.append_nil]; exact h.so.app h.sq fun x hx y hy=>h.le x hx y (by simp [hy])
theorem Lo.last {l out p q:List Keyed} (h:Lo R l out p q) (hle : ∀ x∈q,∀ y∈p,R x≤R y):(out++q++p).Perm l∧Srt R (out++q++p):=by
 have h':=Lo.b (q':=[]) (by rw [List.append_nil]; exact h) hle
 have:=h'.doneA
 rwa [List.append_nil] at this
structure Hi (l out p q:List Keyed):Prop where
 perm:(p++q++out).Perm l
 so:Srt R out
 sp:Srt R p
 sq:Srt R q
 le : ∀ x∈p++q,∀ y∈out,R x≤R y
theorem Hi.a {l out p p' q:List Keyed} (h:Hi (R:=R) l out (p'++p) q) (hle : ∀ x∈q,∀ y∈p,R x≤R y):Hi (R:=R) l (p++out) p' q where
 perm:=by
  refine List.Perm.trans ?_ h.perm
  rw [← List.append_assoc]
  refine List.Perm.append_right _ ?_
  rw [List.append_assoc,List.append_assoc]
  exact List.Perm.append_left _ List.perm_append_comm
 so:=h.sp.r.app h.so fun x hx y hy=>h.le x (by simp [hx]) y hy
 sp:=h.sp.l
 sq:=h.sq
 le:=fun x hx y hy=>by
  rcases List.mem_append.mp hy with hy | hy
  ·rcases List.mem_append.mp hx with hx | hx
   ·exact h.sp.le x hx y hy
   ·exact hle x hx y hy
  ·refine h.le x ?_ y hy
   rcases List.mem_append.mp hx with hx | hx
   ·simp [hx]
   ·simp [hx]
theorem Hi.b {l out p q q':List Keyed} (h:Hi (R:=R) l out p (q'++q)) (hle : ∀ x∈p,∀ y∈q,R x≤R y):Hi (R:=R) l (q++out) p q' where
 perm:=by
  refine List.Perm.trans ?_ h.perm
  simp only [List.append_assoc]; exact List.Perm.refl _
 so:=h.sq.r.app h.so fun x hx y hy=>h.le x (by simp [hx]) y hy
 sp:=h.sp
 sq:=h.sq.l
 le:=fun x hx y hy=>by
  rcases List.mem_append.mp hy with hy | hy
  ·rcases List.mem_append.mp hx with hx | hx
   ·exact hle x hx y hy
   ·exact h.sq.le x hx y hy
  ·refine h.le x ?_ y hy
   rcases List.mem_append.mp hx with hx | hx
   ·simp [hx]
   ·simp [hx]
theorem Hi.doneA {l out p:List Keyed} (h:Hi (R:=R) l out p []):(p++[]++out).Perm l∧Srt R (p++[]++out) :=
 ⟨h.perm,by rw [List.append_nil]; exact h.sp.app h.so fun x hx y hy=>h.le x (by simp [hx]) y hy⟩
theorem Hi.doneB {l out q:List Keyed} (h:Hi (R:=R) l out [] q):([]++q++out).Perm l∧Srt R ([]++q++out) :=
 ⟨h.perm,h.sq.app h.so fun x hx y hy=>h.le x (by simp [hx]) y hy⟩
theorem Hi.first {l out p q:List Keyed} (h:Hi (R:=R) l out p q) (hle : ∀ x∈q,∀ y∈p,R x≤R y):(q++p++out).Perm l∧Srt R (q++p++out):=by
 have h':=Hi.a (p':=[]) (by rw [List.nil_append]; exact h) hle
 have:=h'.doneB
 rwa [List.nil_append,← List.append_assoc] at this
end lists
end Tim
set_option autoImplicit false
namespace Tim
open PySem PyProof.Rows Lean
local macro_rules
| `(tactic| sleep $n:num)=>do
 let l:=[`PySem.Builtin.gallop, `PySem.Builtin.mergeLo, `PySem.Builtin.mergeHi, `PySem.Builtin.mergeAt]
 let n:=mkCIdent (mkPrivateNameCore `PySem.Builtin.List.W1All (l.getD n.getNat .anonymous))
 `(tactic| unfold $n:ident)
def fM:Bool→Keyed→Array Keyed→Nat→Nat→Nat→StateT SortSt Sem (Option Nat):=sortPriv% PySem.Builtin.gallop
def bey (left:Bool) (v k:Int):Bool:=if left=true then decide (v < k) else !decide (k < v)
theorem kB {left:Bool} {v v' k:Int} (h:v≤v') (hb:bey left v' k=true):bey left v k=true:=by
 unfold bey at *
 cases left <;> simp at hb ⊢ <;> omega
section
variable {prog:Program} {w:World} {A:Around} {E:Value→Shared→Prop} {s:Shared} {a₀:Array Keyed} {κ:SortKind} {R:Keyed→Int}
theorem ao {arr:Array Keyed} {i:Nat} {x:Keyed} {Q:Keyed→SortSt→Prop} {st:SortSt} (e:arr[i]?=some x) (h:Q x st):wpS (model prog w) A E s (elem' arr i) Q st:=by
 rw [elem'_eq,e]; exact wpS_pure h
theorem jt {left:Bool} {key:Keyed} {arr:Array Keyed} {base n hint:Nat} {st:SortSt} {Q:Option Nat→SortSt→Prop} (hL:eF prog w A E s κ a₀ R) (hk:kindOf st=κ)
  (mk:key∈a₀) (ma : ∀ i,i < n → ∃ x,arr[base+i]?=some x∧x∈a₀) (sa : ∀ i j,i≤j→j < n→G R arr (base+i)≤G R arr (base+j)) (hh:hint < n)
  (hq : ∀ k,k≤n→(∀ i,i < k→bey left (G R arr (base+i)) (R key)=true)→(∀ i,k≤i→i < n→bey left (G R arr (base+i)) (R key)=false)→Q (some k) st) :
  wpS (model prog w) A E s (fM left key arr base n hint) Q st:=by
 have hb : ∀ (i:Nat) (P:Option Bool→SortSt→Prop),i < n→P (some (bey left (G R arr (base+i)) (R key))) st →
   wpS (model prog w) A E s (elem' arr (base+i) >>= fun x=>if left=true then lt' x key else lt' key x >>= fun b=>pure (b.map fun c => !c)) P st:=by
  intro i P hi hP
  obtain ⟨x,ex,mx⟩:=ma i hi
  rw [jB ex] at hP
  refine wpS_bind (ao ex ?_)
  unfold bey at hP
  cases left with
  | true=>exact hL st x key P mx mk hk hP
  | false=>exact wpS_bind (hL st key x _ mk mx hk (wpS_pure hP))
 have up : ∀ i j,i≤j→j < n→bey left (G R arr (base+j)) (R key)=true→bey left (G R arr (base+i)) (R key)=true:=fun i j h1 h2=>kB (sa i j h1 h2)
 have down : ∀ i j,i≤j→j < n→bey left (G R arr (base+i)) (R key)=false→bey left (G R arr (base+j)) (R key)=false:=fun i j h1 h2 h3=>by
  cases h:bey left (G R arr (base+j)) (R key) with
  | false=>rfl
  | true=>rw [up i j h1 h2 h] at h3; cases h3
 have last : ∀ (lo hi:Nat) (f:Nat→Option (Option Nat)×Nat×Nat→StateT SortSt Sem (ForInStep (Option (Option Nat)×Nat×Nat))) (g:Option (Option Nat)×Nat×Nat→StateT SortSt Sem (Option Nat)),
   lo≤hi→hi≤n→(∀ i,i < lo→bey left (G R arr (base+i)) (R key)=true)→(∀ i,hi≤i→i < n→bey left (G R arr (base+i)) (R key)=false) →
   (∀ x lo hi (P:ForInStep (Option (Option Nat)×Nat×Nat)→SortSt→Prop),(lo≥hi→P (.done (none,lo,hi)) st) →
    (lo < hi→wpS (model prog w) A E s (elem' arr (base+(lo+(hi - lo) / 2)) >>= fun x=>if left=true then lt' x key else lt' key x >>= fun b=>pure (b.map fun c => !c)) (fun b st'=>st'=st∧match b with | some true=>P (.yield (none,lo+(hi - lo) / 2+1,hi)) st | some false=>P (.yield (none,lo,lo+(hi - lo) / 2)) st | none=>False) st) →
    wpS (model prog w) A E s (f x (none,lo,hi)) P st)→(∀ lo hi,g (none,lo,hi)=pure (some hi)) →
   wpS (model prog w) A E s (forIn [0:n] (none,lo,hi) f >>= g) Q st:=by
  intro lo hi f g h1 h2 h3 h4 hf hg
  refine wpS_bind (wpS_mono (wpS_forRange (I:=fun x c st'=>st'=st ∧ ∃ lo hi,c=(none,lo,hi)∧lo≤hi∧hi≤n∧hi - lo≤n - x∧(∀ i,i < lo→bey left (G R arr (base+i)) (R key)=true)∧(∀ i,hi≤i→i < n→bey left (G R arr (base+i)) (R key)=false))
   (Q:=fun c st'=>st'=st ∧ ∃ k,c=(none,k,k)∧k≤n∧(∀ i,i < k→bey left (G R arr (base+i)) (R key)=true)∧(∀ i,k≤i→i < n→bey left (G R arr (base+i)) (R key)=false)) ?step ?fin ⟨rfl,lo,hi,rfl,h1,h2,by omega,h3,h4⟩) ?post)
  case post =>
   rintro c st' ⟨rfl,k,rfl,k1,k2,k3⟩
   rw [hg]
   exact wpS_pure (hq k k1 k2 k3)
  case fin =>
   rintro c st' ⟨rfl,lo,hi,rfl,a1,a2,a3,a4,a5⟩
   have:lo=hi:=by omega
   subst this
   exact ⟨rfl,lo,rfl,a2,a4,a5⟩
  case step =>
   rintro x c st' _ hx ⟨rfl,lo,hi,rfl,a1,a2,a3,a4,a5⟩
   refine hf x lo hi _ (fun h => ?_) fun h=>hb _ _ (by omega) ⟨rfl,?_⟩
   ·have:lo=hi:=by omega
    subst this
    exact ⟨rfl,lo,rfl,a2,a4,a5⟩
   ·cases hm:bey left (G R arr (base+(lo+(hi - lo) / 2))) (R key) with
    | true=>exact ⟨rfl,_,_,rfl,by omega,by omega,by omega,fun i hi'=>up i _ (by omega) (by omega) hm,a5⟩
    | false=>exact ⟨rfl,_,_,rfl,by omega,by omega,by omega,a4,fun i hi' hn=>down _ i (by omega) hn hm⟩
 unfold fM
 sleep 0
 refine wpS_bind (hb hint _ hh ?_)
 dsimp only
 cases h0:bey left (G R arr (base+hint)) (R key) with
 | true =>
  rw [if_pos rfl]
  refine wpS_bind (wpS_mono (wpS_forRange (I:=fun x c st'=>st'=st ∧ ∃ l o,c=(none,l,o)∧l < o∧x+1≤o∧l < n - hint∧bey left (G R arr (base+(hint+l))) (R key)=true)
   (Q:=fun c st'=>st'=st ∧ ∃ l o,c=(none,l,o)∧l < o∧l < n - hint∧bey left (G R arr (base+(hint+l))) (R key)=true∧(o < n - hint→bey left (G R arr (base+(hint+o))) (R key)=false)) ?step ?fin ⟨rfl,0,1,rfl,by omega,by omega,by omega,h0⟩) ?post)
  case fin =>
   rintro c st' ⟨rfl,l,o,rfl,a1,a2,a3,a4⟩
   exact ⟨rfl,l,o,rfl,a1,a3,a4,fun h=>by omega⟩
  case step =>
   rintro x c st' _ hx ⟨rfl,l,o,rfl,a1,a2,a3,a4⟩
   dsimp only
   by_cases q:o≥n - hint
   ·rw [if_pos q]; exact wpS_pure ⟨rfl,l,o,rfl,a1,a3,a4,fun h=>by omega⟩
   ·rw [if_neg q]
    refine wpS_bind (hb (hint+o) _ (by omega) ?_)
    cases hm:bey left (G R arr (base+(hint+o))) (R key) with
    | true=>exact wpS_pure ⟨rfl,o,_,rfl,by omega,by omega,by omega,hm⟩
    | false=>exact wpS_pure ⟨rfl,l,o,rfl,a1,a3,a4,fun _=>hm⟩
  case post =>
   rintro c st' ⟨rfl,l,o,rfl,a1,a3,a4,a5⟩
   dsimp only
   refine last _ _ _ _ (by omega) (by omega) (fun i hi=>up i (hint+l) (by omega) (by omega) a4) (fun i h1 h2 => ?_) ?_ fun _ _=>rfl
   ·by_cases q:o < n - hint
    ·exact down (hint+o) i (by omega) h2 (a5 q)
    ·omega
   ·intro x lo hi P p1 p2
    dsimp only
    by_cases q:lo≥hi
    ·rw [if_pos q]; exact wpS_pure (p1 q)
    ·rw [if_neg q]
     refine wpS_bind (wpS_mono (p2 (by omega)) fun b st'' hb' => ?_)
     obtain ⟨rfl,hb'⟩:=hb'
     match b,hb' with
     | some true,hb'=>exact wpS_pure hb'
     | some false,hb'=>exact wpS_pure hb'
 | false =>
  rw [if_neg (by simp)]
  refine wpS_bind (wpS_mono (wpS_forRange (I:=fun x c st'=>st'=st ∧ ∃ l o,c=(none,l,o)∧l < o∧x+1≤o∧l < hint+1∧bey left (G R arr (base+(hint - l))) (R key)=false)
   (Q:=fun c st'=>st'=st ∧ ∃ l o,c=(none,l,o)∧l < o∧l < hint+1∧bey left (G R arr (base+(hint - l))) (R key)=false∧(o < hint+1→bey left (G R arr (base+(hint - o))) (R key)=true)) ?step ?fin ⟨rfl,0,1,rfl,by omega,by omega,by omega,h0⟩) ?post)
  case fin =>
   rintro c st' ⟨rfl,l,o,rfl,a1,a2,a3,a4⟩
   exact ⟨rfl,l,o,rfl,a1,a3,a4,fun h=>by omega⟩
  case step =>
   rintro x c st' _ hx ⟨rfl,l,o,rfl,a1,a2,a3,a4⟩
   dsimp only
   by_cases q:o≥hint+1
   ·rw [if_pos q]; exact wpS_pure ⟨rfl,l,o,rfl,a1,a3,a4,fun h=>by omega⟩
   ·rw [if_neg q]
    refine wpS_bind (hb (hint - o) _ (by omega) ?_)
    cases hm:bey left (G R arr (base+(hint - o))) (R key) with
    | true=>exact wpS_pure ⟨rfl,l,o,rfl,a1,a3,a4,fun _=>hm⟩
    | false=>exact wpS_pure ⟨rfl,o,_,rfl,by omega,by omega,by omega,hm⟩
  case post =>
   rintro c st' ⟨rfl,l,o,rfl,a1,a3,a4,a5⟩
   dsimp only
   refine last _ _ _ _ (by omega) (by omega) (fun i hi => ?_) (fun i h1 h2=>down (hint - l) i (by omega) h2 a4) ?_ fun _ _=>rfl
   ·by_cases q:o < hint+1
    ·exact up i (hint - o) (by omega) (by omega) (a5 q)
    ·omega
   ·intro x lo hi P p1 p2
    dsimp only
    by_cases q:lo≥hi
    ·rw [if_pos q]; exact wpS_pure (p1 q)
    ·rw [if_neg q]
     refine wpS_bind (wpS_mono (p2 (by omega)) fun b st'' hb' => ?_)
     obtain ⟨rfl,hb'⟩:=hb'
     match b,hb' with
     | some true,hb'=>exact wpS_pure hb'
     | some false,hb'=>exact wpS_pure hb'
end
end Tim
set_option autoImplicit false
namespace Tim
open PySem PyProof.Rows Lean
local macro_rules
| `(tactic| sleep $n:num)=>do
 let l:=[`PySem.Builtin.gallop, `PySem.Builtin.mergeLo, `PySem.Builtin.mergeHi, `PySem.Builtin.mergeAt]
 let n:=mkCIdent (mkPrivateNameCore `PySem.Builtin.List.W1All (l.getD n.getNat .anonymous))
 `(tactic| unfold $n:ident)
def gi:Array Keyed→Array Keyed→StateT SortSt Sem (Array Keyed):=sortPriv% PySem.Builtin.mergeLo
abbrev ce (st:SortSt) (g:Nat):SortSt:=SortSt.mk' (kindOf st) (arrOf st) (pendingOf st) g (failedOf st)
section
variable {prog:Program} {w:World} {A:Around} {E:Value→Shared→Prop} {s:Shared} {a₀:Array Keyed} {κ:SortKind} {R:Keyed→Int}
theorem bQ {left:Bool} {key:Keyed} {arr:Array Keyed} {base n hint:Nat} {l:List Keyed} {st:SortSt} {Q:Option Nat→SortSt→Prop} (hL:eF prog w A E s κ a₀ R) (hk:kindOf st=κ)
  (mk:key∈a₀) (hl : ∀ i,i < n→arr[base+i]?=l[i]?) (hn:l.length=n) (ml : ∀ x∈l,x∈a₀) (sl:Srt R l) (hh:hint < n)
  (hq : ∀ k,k≤n→(∀ p∈l.take k,bey left (R p) (R key)=true)→(∀ p∈l.drop k,bey left (R p) (R key)=false)→Q (some k) st) :
  wpS (model prog w) A E s (fM left key arr base n hint) Q st:=by
 subst hn
 have g : ∀ i (h:i < l.length),G R arr (base+i)=R l[i]:=fun i h=>jB (by rw [hl i h]; exact List.getElem?_eq_getElem h)
 refine jt hL hk mk (fun i hi=>⟨l[i],by rw [hl i hi]; exact List.getElem?_eq_getElem hi,ml _ (List.getElem_mem hi)⟩) (fun i j h1 h2 => ?_) hh fun k k1 k2 k3=>hq k k1 (fun p hp => ?_) fun p hp => ?_
 ·rw [g i (by omega),g j h2]
  by_cases h:i=j
  ·subst h; exact Int.le_refl _
  ·exact List.pairwise_iff_getElem.mp sl i j (by omega) h2 (by omega)
 ·obtain ⟨i,hi,rfl⟩:=List.getElem_of_mem hp
  rw [List.length_take] at hi
  have:=k2 i (by omega)
  rw [g i (by omega)] at this
  rw [List.getElem_take]; exact this
 ·obtain ⟨i,hi,rfl⟩:=List.getElem_of_mem hp
  rw [List.length_drop] at hi
  have:=k3 (k+i) (by omega) (by omega)
  rw [g (k+i) (by omega)] at this
  rw [List.getElem_drop]; exact this
theorem cb (a:Array Keyed) (i:Nat):(a.extract i a.size).toList=a.toList.drop i:=by
 rw [Array.toList_extract,List.extract_eq_take_drop,List.take_of_length_le]
 rw [List.length_drop,Array.length_toList]; omega
theorem gv (a:Array Keyed) (i k:Nat):(a.extract i (i+k)).toList=(a.toList.drop i).take k:=by
 rw [Array.toList_extract,List.extract_eq_take_drop]; congr 1; omega
theorem bq {a:Array Keyed} {i:Nat} (h:i < a.size) : ∃ x,a[i]?=some x∧a.toList.drop i=x::a.toList.drop (i+1):=by
 refine ⟨a[i],getElem?_pos _ i h,?_⟩
 rw [List.drop_eq_getElem_cons (by simpa using h)]
 simp
theorem d3 (a:Array Keyed) (i j:Nat):a[i+j]?=(a.toList.drop i)[j]?:=by
 rw [List.getElem?_drop,Array.getElem?_toList]
theorem cR {a:Array Keyed} {i:Nat} (h:i=a.size):a.toList.drop i=[]:=by
 subst h; exact List.drop_eq_nil_of_le (by simp)
theorem gA (a:Array Keyed) (i k:Nat):a.toList.drop i=(a.toList.drop i).take k++a.toList.drop (i+k):=by
 rw [← List.drop_drop,List.take_append_drop]
theorem hZ {a b:Array Keyed} {l:List Keyed} {st:SortSt} {Q:Array Keyed→SortSt→Prop} (hL:eF prog w A E s κ a₀ R) (hk:kindOf st=κ) (hl:a.toList++b.toList=l) (ml : ∀ x∈l,x∈a₀)
  (sa:Srt R a.toList) (sb:Srt R b.toList) (na:1≤a.size) (nb:1≤b.size) (hf : ∀ y,b[0]?=some y → ∀ x∈a.toList,R y≤R x) (hz : ∀ x∈a.toList.drop (a.size - 1),∀ y∈b.toList,R y≤R x)
  (hq : ∀ r g,Res R l r→Q r (ce st g)):wpS (model prog w) A E s (gi a b) Q st:=by
 subst hl
 generalize hll:a.toList++b.toList=l at *
 have mA : ∀ {x i},a[i]?=some x→x∈a₀:=fun {x i} h=>ml x (by rw [← hll]; exact List.mem_append_left _ (Array.mem_toList_iff.mpr (Array.mem_of_getElem? h)))
 have mB : ∀ {x i},b[i]?=some x→x∈a₀:=fun {x i} h=>ml x (by rw [← hll]; exact List.mem_append_right _ (Array.mem_toList_iff.mpr (Array.mem_of_getElem? h)))
 have mlA : ∀ z∈a.toList,z∈a₀:=fun z h=>ml z (by rw [← hll]; exact List.mem_append_left _ h)
 have mlB : ∀ z∈b.toList,z∈a₀:=fun z h=>ml z (by rw [← hll]; exact List.mem_append_right _ h)
 let In (out:Array Keyed) (ia ib:Nat):Prop:=Lo R l out.toList (a.toList.drop ia) (b.toList.drop ib)
 let Mid (c:Option (Array Keyed)) (out:Array Keyed) (ia ib:Nat):Prop:=match c with
  | some r=>Res R l r
  | none=>In out ia ib∧ia+1 < a.size∧ib < b.size
 have endB : ∀ {out ia ib},In out ia ib→ib=b.size→Res R l (out++a.extract ia a.size++b.extract ib b.size):=fun {out ia ib} h e=>by
  have h':Lo R l out.toList (a.toList.drop ia) (b.toList.drop ib):=h
  rw [cR e] at h'
  unfold Res
  rw [Array.toList_append,Array.toList_append,cb,cb,cR e]
  exact h'.doneA
 have endA : ∀ {out ia ib},In out ia ib→ia=a.size→Res R l (out++a.extract ia a.size++b.extract ib b.size):=fun {out ia ib} h e=>by
  have h':Lo R l out.toList (a.toList.drop ia) (b.toList.drop ib):=h
  rw [cR e] at h'
  unfold Res
  rw [Array.toList_append,Array.toList_append,cb,cb,cR e]
  exact h'.doneB
 have endL : ∀ {out ia ib},In out ia ib→ia+1=a.size→Res R l (out++b.extract ib b.size++a.extract ia a.size):=fun {out ia ib} h e=>by
  unfold Res
  rw [Array.toList_append,Array.toList_append,cb,cb]
  refine Lo.last h fun x hx y hy=>hz y ?_ x (List.mem_of_mem_drop hx)
  rwa [show a.size - 1=ia by omega]
 have pushA : ∀ {out ia ib x},In out ia ib→a[ia]?=some x→(∀ y∈b.toList.drop ib,R x≤R y)→In (out.push x) (ia+1) ib:=fun {out ia ib x} h e hle=>by
  have hlt:ia < a.size:=by
   rcases Nat.lt_or_ge ia a.size with q | q
   ·exact q
   ·rw [Array.getElem?_eq_none q] at e; cases e
  obtain ⟨x',e',d⟩:=bq hlt
  rw [e] at e'; cases e'
  have h':Lo R l out.toList ([x]++a.toList.drop (ia+1)) (b.toList.drop ib):=by rw [List.singleton_append,← d]; exact h
  show Lo R l (out.push x).toList _ _
  rw [Array.toList_push]
  exact h'.a fun z hz'=>by rw [List.mem_singleton.mp hz']; exact hle
 have pushB : ∀ {out ia ib x},In out ia ib→b[ib]?=some x→(∀ y∈a.toList.drop ia,R x≤R y)→In (out.push x) ia (ib+1):=fun {out ia ib x} h e hle=>by
  have hlt:ib < b.size:=by
   rcases Nat.lt_or_ge ib b.size with q | q
   ·exact q
   ·rw [Array.getElem?_eq_none q] at e; cases e
  obtain ⟨x',e',d⟩:=bq hlt
  rw [e] at e'; cases e'
  have h':Lo R l out.toList (a.toList.drop ia) ([x]++b.toList.drop (ib+1)):=by rw [List.singleton_append,← d]; exact h
  show Lo R l (out.push x).toList _ _
  rw [Array.toList_push]
  exact h'.b fun z hz'=>by rw [List.mem_singleton.mp hz']; exact hle
 have runA : ∀ {out ia ib k},In out ia ib→(∀ x∈(a.toList.drop ia).take k,∀ y∈b.toList.drop ib,R x≤R y)→In (out++a.extract ia (ia+k)) (ia+k) ib:=fun {out ia ib k} h hle=>by
  show Lo R l (out++a.extract ia (ia+k)).toList _ _
  rw [Array.toList_append,gv]
  refine Lo.a ?_ hle
  rw [← gA]; exact h
 have runB : ∀ {out ia ib k},In out ia ib→(∀ x∈(b.toList.drop ib).take k,∀ y∈a.toList.drop ia,R x≤R y)→In (out++b.extract ib (ib+k)) ia (ib+k):=fun {out ia ib k} h hle=>by
  show Lo R l (out++b.extract ib (ib+k)).toList _ _
  rw [Array.toList_append,gv]
  refine Lo.b ?_ hle
  rw [← gA]; exact h
 obtain ⟨y0,ey0,dy0⟩:=bq (a:=b) (i:=0) (by omega)
 unfold gi
 sleep 1
 refine wpS_bind (wpS_lift (wpAny_rule ⟨rfl,?_⟩))
 refine wpS_bind (ao ey0 ?_)
 have aY:In #[y0] 0 1:=by
  have h0:In #[] 0 0:=⟨by rw [← hll]; exact List.Perm.refl _,List.Pairwise.nil,sa,sb,fun x hx=>by simp at hx⟩
  exact pushB h0 ey0 (hf y0 ey0)
 by_cases q1:1=b.size
 ·rw [if_pos (by simpa using q1)]
  exact wpS_pure (hq _ (gallopOf st) (endB aY q1))
 rw [if_neg (by simpa using q1)]
 by_cases q2:0+1=a.size
 ·rw [if_pos (by simpa using q2)]
  exact wpS_pure (hq _ (gallopOf st) (endL aY q2))
 rw [if_neg (by simpa using q2)]
 refine wpS_bind (wpS_get ?_)
 refine wpS_bind (wpS_mono (wpS_forRange (I:=fun x c st'=>(∃ g,st'=ce st g) ∧ ∃ out ia ib m,c=(none,out,ia,ib,m)∧Mid none out ia ib∧x+1≤ia+ib)
  (Q:=fun c st'=>(∃ g,st'=ce st g) ∧ ∃ r out,c=(some r,out)∧Res R l r) ?step ?fin ⟨⟨gallopOf st,rfl⟩,_,_,_,_,rfl,⟨aY,by omega,by omega⟩,by omega⟩) ?post)
 case post =>
  rintro c st' ⟨⟨g,rfl⟩,r,out,rfl,hr⟩
  exact wpS_pure (hq r g hr)
 case fin =>
  rintro c st' ⟨_,out,ia,ib,m,rfl,⟨h,h1,h2⟩,h3⟩
  omega
 case step =>
  rintro x c st' _ hx ⟨⟨g,rfl⟩,out,ia,ib,m,rfl,hM,hc⟩
  dsimp only
  refine wpS_bind (wpS_mono (wpS_forRange (I:=fun _ c st'=>st'=ce st g ∧ ∃ out ia' ib' p q,c=(none,out,ia',ib',p,q)∧Mid none out ia' ib'∧ia+ib≤ia'+ib')
   (Q:=fun c st'=>st'=ce st g ∧ ∃ o out ia' ib' p q,c=(o,out,ia',ib',p,q)∧Mid o out ia' ib'∧(o=none→ia+ib≤ia'+ib')) ?step1 ?fin1 ⟨rfl,_,_,_,_,_,rfl,hM,by omega⟩) ?post1)
  case fin1 =>
   rintro c st' ⟨rfl,out,ia',ib',p,q,rfl,h1,h2⟩
   exact ⟨rfl,_,_,_,_,_,_,rfl,h1,fun _=>h2⟩
  case step1 =>
   rintro _ c st' _ _ ⟨rfl,out,ia',ib',p,q,rfl,⟨h1,h2,h3⟩,h4⟩
   dsimp only
   obtain ⟨y,ey,dy⟩:=bq h3
   obtain ⟨x,ex,dx⟩:=bq (show ia' < a.size by omega)
   refine wpS_bind (ao ey (wpS_bind (ao ex (wpS_bind (hL _ y x _ (mB ey) (mA ex) hk ?_)))))
   have sA:=h1.sp
   have sB:=h1.sq
   rw [dx] at sA
   rw [dy] at sB
   by_cases hlt:R y < R x
   ·rw [decide_eq_true hlt]
    refine wpS_bind (ao ey ?_)
    have h5:=pushB h1 ey (by
     rw [dx]; intro z hz'
     rcases List.mem_cons.mp hz' with rfl | hz'
     ·omega
     ·have:=sA.head z hz'; omega)
    by_cases q3:ib'+1=b.size
    ·rw [if_pos (by simpa using q3)]
     exact wpS_pure ⟨rfl,_,_,_,_,_,_,rfl,endB h5 q3,fun h=>by cases h⟩
    ·rw [if_neg (by simpa using q3)]
     split
     ·exact wpS_pure ⟨rfl,_,_,_,_,_,_,rfl,⟨h5,h2,by omega⟩,fun _=>by omega⟩
     ·exact wpS_pure ⟨rfl,_,_,_,_,_,rfl,⟨h5,h2,by omega⟩,by omega⟩
   ·rw [decide_eq_false hlt]
    refine wpS_bind (ao ex ?_)
    have h5:=pushA h1 ex (by
     rw [dy]; intro z hz'
     rcases List.mem_cons.mp hz' with rfl | hz'
     ·omega
     ·have:=sB.head z hz'; omega)
    by_cases q3:ia'+1+1=a.size
    ·rw [if_pos (by simpa using q3)]
     exact wpS_pure ⟨rfl,_,_,_,_,_,_,rfl,endL h5 q3,fun h=>by cases h⟩
    ·rw [if_neg (by simpa using q3)]
     split
     ·exact wpS_pure ⟨rfl,_,_,_,_,_,_,rfl,⟨h5,by omega,h3⟩,fun _=>by omega⟩
     ·exact wpS_pure ⟨rfl,_,_,_,_,_,rfl,⟨h5,by omega,h3⟩,by omega⟩
  case post1 =>
   rintro c st' ⟨rfl,o,out,ia',ib',p,q,rfl,h1,h2⟩
   cases o with
   | some r=>exact wpS_pure ⟨⟨g,rfl⟩,r,_,rfl,h1⟩
   | none =>
   dsimp only
   refine wpS_bind (wpS_lift (wpAny_rule ⟨rfl,?_⟩))
   refine wpS_bind (wpS_mono (wpS_forRange (I:=fun x c st'=>(∃ g,st'=ce st g) ∧ ∃ out ia2 ib2 m p q,c=(none,out,ia2,ib2,m,p,q)∧Mid none out ia2 ib2∧ia+ib+x≤ia2+ib2)
    (Q:=fun c st'=>(∃ g,st'=ce st g) ∧ ∃ o out ia2 ib2 m p q,c=(o,out,ia2,ib2,m,p,q)∧Mid o out ia2 ib2∧(o=none→ia+ib+1≤ia2+ib2)) ?step2 ?fin2 ⟨⟨g,rfl⟩,_,_,_,_,_,_,rfl,h1,h2 rfl⟩) ?post2)
   case fin2 =>
    rintro c st' ⟨hg,out,ia2,ib2,m,p,q,rfl,k1,k2⟩
    exact ⟨hg,_,_,_,_,_,_,_,rfl,k1,fun _=>by omega⟩
   case post2 =>
    rintro c st' ⟨⟨g,rfl⟩,o,out,ia2,ib2,m,p,q,rfl,k1,k2⟩
    cases o with
    | some r=>exact wpS_pure ⟨⟨g,rfl⟩,r,_,rfl,k1⟩
    | none =>
    dsimp only
    refine wpS_bind (wpS_modify (wpS_pure ⟨⟨_,rfl⟩,_,_,_,_,rfl,k1,?_⟩))
    have:=k2 rfl
    omega
   case step2 =>
    rintro x c st' _ _ ⟨⟨g,rfl⟩,out,ia2,ib2,m,p,q,rfl,⟨k1,k2,k3⟩,k4⟩
    dsimp only
    have jump : ∀ (c:Prop) [Decidable c] (f:StateT SortSt Sem (ForInStep (Option (Array Keyed)×Array Keyed×Nat×Nat×Nat×Nat×Nat))) f' P st',wpS (model prog w) A E s f P st'→wpS (model prog w) A E s f' P st'→wpS (model prog w) A E s (if c then f else f') P st':=fun c _ f f' P st' h1 h2=>by
     split
     ·exact h1
     ·exact h2
    refine jump _ _ _ _ _ ?_ ?_
    all_goals
     refine wpS_bind (wpS_modify ?_)
     obtain ⟨y,ey,dy⟩:=bq k3
     refine wpS_bind (ao ey (wpS_bind (bQ hL hk (mB ey) (fun i _=>d3 _ _ _) (by simp) (fun z hz'=>mlA z (List.mem_of_mem_drop hz')) k1.sp (by omega) fun k i1 i2 i3 => ?_)))
     have sB:=k1.sq
     rw [dy] at sB
     have hyB : ∀ z∈a.toList.drop (ia2+k),R y≤R z:=fun z hz'=>by
      rw [← List.drop_drop] at hz'
      have:=i3 z hz'
      unfold bey at this
      simp at this
      omega
     dsimp only
     by_cases k0:k > 0
     ·rw [if_pos k0]
      have h6:=runA (k:=k) k1 (fun u hu v hv=>by
       have:=i2 u hu
       unfold bey at this
       simp at this
       rw [dy] at hv
       rcases List.mem_cons.mp hv with rfl | hv
       ·omega
       ·have:=sB.head v hv; omega)
      by_cases q5:ia2+k+1=a.size
      ·rw [if_pos (by simpa using q5)]
       exact wpS_pure ⟨⟨_,rfl⟩,_,_,_,_,_,_,_,rfl,endL h6 q5,fun h=>by cases h⟩
      rw [if_neg (by simpa using q5)]
      by_cases q6:ia2+k=a.size
      ·rw [if_pos (by simpa using q6)]
       exact wpS_pure ⟨⟨_,rfl⟩,_,_,_,_,_,_,_,rfl,endA h6 q6,fun h=>by cases h⟩
      rw [if_neg (by simpa using q6)]
      refine wpS_bind (ao ey ?_)
      have h7:=pushB h6 ey hyB
      by_cases q4:ib2+1=b.size
      ·rw [if_pos (by simpa using q4)]
       exact wpS_pure ⟨⟨_,rfl⟩,_,_,_,_,_,_,_,rfl,endB h7 q4,fun h=>by cases h⟩
      rw [if_neg (by simpa using q4)]
      obtain ⟨x',ex',dx'⟩:=bq (show ia2+k < a.size by omega)
      refine wpS_bind (ao ex' (wpS_bind (bQ hL hk (mA ex') (fun i _=>d3 _ _ _) (by simp) (fun z hz'=>mlB z (List.mem_of_mem_drop hz')) h7.sq (by omega) fun k' j1 j2 j3 => ?_)))
      have sA:=h7.sp
      rw [dx'] at sA
      have lastB : ∀ y∈b.toList.drop (ib2+1+k'),R x'≤R y:=fun y hy=>by
       rw [← List.drop_drop] at hy
       have:=j3 y hy
       unfold bey at this
       simp at this
       omega
      dsimp only
      by_cases k0:k' > 0
      ·rw [if_pos k0]
       have h8:=runB (k:=k') h7 (fun u hu v hv=>by
        have:=j2 u hu
        unfold bey at this
        simp at this
        rw [dx'] at hv
        rcases List.mem_cons.mp hv with rfl | hv
        ·omega
        ·have:=sA.head v hv; omega)
       by_cases q5:ib2+1+k'=b.size
       ·rw [if_pos (by simpa using q5)]
        exact wpS_pure ⟨⟨_,rfl⟩,_,_,_,_,_,_,_,rfl,endB h8 q5,fun h=>by cases h⟩
       rw [if_neg (by simpa using q5)]
       refine wpS_bind (ao ex' ?_)
       have h9:=pushA h8 ex' lastB
       by_cases q6:ia2+k+1+1=a.size
       ·rw [if_pos (by simpa using q6)]
        exact wpS_pure ⟨⟨_,rfl⟩,_,_,_,_,_,_,_,rfl,endL h9 q6,fun h=>by cases h⟩
       rw [if_neg (by simpa using q6)]
       split
       ·exact wpS_pure ⟨⟨_,rfl⟩,_,_,_,_,_,_,_,rfl,⟨h9,by omega,by omega⟩,fun _=>by omega⟩
       ·exact wpS_pure ⟨⟨_,rfl⟩,_,_,_,_,_,_,rfl,⟨h9,by omega,by omega⟩,by omega⟩
      ·rw [if_neg k0]
       have k00:k'=0:=by omega
       subst k00
       rw [Nat.add_zero] at lastB
       refine wpS_bind (ao ex' ?_)
       have h9:=pushA h7 ex' lastB
       by_cases q6:ia2+k+1+1=a.size
       ·rw [if_pos (by simpa using q6)]
        exact wpS_pure ⟨⟨_,rfl⟩,_,_,_,_,_,_,_,rfl,endL h9 q6,fun h=>by cases h⟩
       rw [if_neg (by simpa using q6)]
       split
       ·exact wpS_pure ⟨⟨_,rfl⟩,_,_,_,_,_,_,_,rfl,⟨h9,by omega,by omega⟩,fun _=>by omega⟩
       ·exact wpS_pure ⟨⟨_,rfl⟩,_,_,_,_,_,_,rfl,⟨h9,by omega,by omega⟩,by omega⟩
     ·rw [if_neg k0]
      have k00:k=0:=by omega
      subst k00
      rw [Nat.add_zero] at hyB
      refine wpS_bind (ao ey ?_)
      have h7:=pushB k1 ey hyB
      by_cases q4:ib2+1=b.size
      ·rw [if_pos (by simpa using q4)]
       exact wpS_pure ⟨⟨_,rfl⟩,_,_,_,_,_,_,_,rfl,endB h7 q4,fun h=>by cases h⟩
      rw [if_neg (by simpa using q4)]
      obtain ⟨x',ex',dx'⟩:=bq (show ia2 < a.size by omega)
      refine wpS_bind (ao ex' (wpS_bind (bQ hL hk (mA ex') (fun i _=>d3 _ _ _) (by simp) (fun z hz'=>mlB z (List.mem_of_mem_drop hz')) h7.sq (by omega) fun k' j1 j2 j3 => ?_)))
      have sA:=h7.sp
      rw [dx'] at sA
      have lastB : ∀ y∈b.toList.drop (ib2+1+k'),R x'≤R y:=fun y hy=>by
       rw [← List.drop_drop] at hy
       have:=j3 y hy
       unfold bey at this
       simp at this
       omega
      dsimp only
      by_cases k0:k' > 0
      ·rw [if_pos k0]
       have h8:=runB (k:=k') h7 (fun u hu v hv=>by
        have:=j2 u hu
        unfold bey at this
        simp at this
        rw [dx'] at hv
        rcases List.mem_cons.mp hv with rfl | hv
        ·omega
        ·have:=sA.head v hv; omega)
       by_cases q5:ib2+1+k'=b.size
       ·rw [if_pos (by simpa using q5)]
        exact wpS_pure ⟨⟨_,rfl⟩,_,_,_,_,_,_,_,rfl,endB h8 q5,fun h=>by cases h⟩
       rw [if_neg (by simpa using q5)]
       refine wpS_bind (ao ex' ?_)
       have h9:=pushA h8 ex' lastB
       by_cases q6:ia2+1+1=a.size
       ·rw [if_pos (by simpa using q6)]
        exact wpS_pure ⟨⟨_,rfl⟩,_,_,_,_,_,_,_,rfl,endL h9 q6,fun h=>by cases h⟩
       rw [if_neg (by simpa using q6)]
       split
       ·exact wpS_pure ⟨⟨_,rfl⟩,_,_,_,_,_,_,_,rfl,⟨h9,by omega,by omega⟩,fun _=>by omega⟩
       ·exact wpS_pure ⟨⟨_,rfl⟩,_,_,_,_,_,_,rfl,⟨h9,by omega,by omega⟩,by omega⟩
      ·rw [if_neg k0]
       have k00:k'=0:=by omega
       subst k00
       rw [Nat.add_zero] at lastB
       refine wpS_bind (ao ex' ?_)
       have h9:=pushA h7 ex' lastB
       by_cases q6:ia2+1+1=a.size
       ·rw [if_pos (by simpa using q6)]
        exact wpS_pure ⟨⟨_,rfl⟩,_,_,_,_,_,_,_,rfl,endL h9 q6,fun h=>by cases h⟩
       rw [if_neg (by simpa using q6)]
       split
       ·exact wpS_pure ⟨⟨_,rfl⟩,_,_,_,_,_,_,_,rfl,⟨h9,by omega,by omega⟩,fun _=>by omega⟩
       ·exact wpS_pure ⟨⟨_,rfl⟩,_,_,_,_,_,_,rfl,⟨h9,by omega,by omega⟩,by omega⟩
end
end Tim
set_option autoImplicit false
namespace Tim
open PySem PyProof.Rows Lean
local macro_rules
| `(tactic| sleep $n:num)=>do
 let l:=[`PySem.Builtin.gallop, `PySem.Builtin.mergeLo, `PySem.Builtin.mergeHi, `PySem.Builtin.mergeAt]
 let n:=mkCIdent (mkPrivateNameCore `PySem.Builtin.List.W1All (l.getD n.getNat .anonymous))
 `(tactic| unfold $n:ident)
def gj:Array Keyed→Array Keyed→StateT SortSt Sem (Array Keyed):=sortPriv% PySem.Builtin.mergeHi
section
variable {prog:Program} {w:World} {A:Around} {E:Value→Shared→Prop} {s:Shared} {a₀:Array Keyed} {κ:SortKind} {R:Keyed→Int}
theorem ca (a:Array Keyed) (i:Nat):(a.extract 0 i).toList=a.toList.take i:=by
 rw [Array.toList_extract,List.extract_eq_take_drop]; simp
theorem iS (a:Array Keyed) (i k:Nat):(a.extract k i).toList=(a.toList.take i).drop k:=by
 rw [Array.toList_extract,List.extract_eq_take_drop,List.drop_take]
theorem bb {a:Array Keyed} {i:Nat} (h1:1≤i) (h:i≤a.size) : ∃ x,a[i - 1]?=some x∧a.toList.take i=a.toList.take (i - 1)++[x]:=by
 refine ⟨a[i - 1]'(by omega),getElem?_pos _ _ (by omega),?_⟩
 obtain ⟨j,rfl⟩ : ∃ j,i=j+1:=⟨i - 1,by omega⟩
 rw [List.take_add_one]
 simp [Array.getElem?_toList,getElem?_pos a j (by omega)]
theorem dE (a:Array Keyed) {i j:Nat} (h:j < i):a[0+j]?=(a.toList.take i)[j]?:=by
 rw [List.getElem?_take_of_lt h,Array.getElem?_toList,Nat.zero_add]
theorem fT (a:Array Keyed) {i k:Nat} (h:k≤i):a.toList.take i=a.toList.take k++(a.toList.take i).drop k:=by
 have:=(List.take_append_drop k (a.toList.take i)).symm
 rwa [List.take_take,Nat.min_eq_left h] at this
theorem ic {a b:Array Keyed} {l:List Keyed} {st:SortSt} {Q:Array Keyed→SortSt→Prop} (hL:eF prog w A E s κ a₀ R) (hk:kindOf st=κ) (hl:a.toList++b.toList=l) (ml : ∀ x∈l,x∈a₀)
  (sa:Srt R a.toList) (sb:Srt R b.toList) (na:1≤a.size) (nb:1≤b.size) (hf : ∀ y,b[0]?=some y → ∀ x∈a.toList,R y≤R x) (hz : ∀ x∈a.toList.drop (a.size - 1),∀ y∈b.toList,R y≤R x)
  (hq : ∀ r g,Res R l r→Q r (ce st g)):wpS (model prog w) A E s (gj a b) Q st:=by
 have mA : ∀ {x i},a[i]?=some x→x∈a₀:=fun {x i} h=>ml x (by rw [← hl]; exact List.mem_append_left _ (Array.mem_toList_iff.mpr (Array.mem_of_getElem? h)))
 have mB : ∀ {x i},b[i]?=some x→x∈a₀:=fun {x i} h=>ml x (by rw [← hl]; exact List.mem_append_right _ (Array.mem_toList_iff.mpr (Array.mem_of_getElem? h)))
 have mlA : ∀ z∈a.toList,z∈a₀:=fun z h=>ml z (by rw [← hl]; exact List.mem_append_left _ h)
 have mlB : ∀ z∈b.toList,z∈a₀:=fun z h=>ml z (by rw [← hl]; exact List.mem_append_right _ h)
 let In (out:Array Keyed) (i j:Nat):Prop:=Hi (R:=R) l out.toList.reverse (a.toList.take i) (b.toList.take j)
 let Mid (c:Option (Array Keyed)) (out:Array Keyed) (i j:Nat):Prop:=match c with
  | some r=>Res R l r
  | none=>In out i j∧(1≤i∧i≤a.size)∧2≤j∧j≤b.size
 have endA : ∀ {out i j},In out i j→i=0→Res R l (a.extract 0 i++b.extract 0 j++out.reverse):=fun {out i j} h e=>by
  subst e
  unfold Res
  rw [Array.toList_append,Array.toList_append,ca,ca,Array.toList_reverse]
  exact Hi.doneB h
 have endB : ∀ {out i j},In out i j→j=0→Res R l (a.extract 0 i++b.extract 0 j++out.reverse):=fun {out i j} h e=>by
  subst e
  unfold Res
  rw [Array.toList_append,Array.toList_append,ca,ca,Array.toList_reverse]
  exact Hi.doneA h
 have endF : ∀ {out i j},In out i j→j=1→Res R l (b.extract 0 j++a.extract 0 i++out.reverse):=fun {out i j} h e=>by
  subst e
  unfold Res
  rw [Array.toList_append,Array.toList_append,ca,ca,Array.toList_reverse]
  refine Hi.first h fun x hx y hy=>hf x ?_ y (List.mem_of_mem_take hy)
  obtain ⟨z,ez,dz⟩:=bb (a:=b) (i:=1) (Nat.le_refl _) nb
  rw [dz] at hx
  rw [List.mem_singleton.mp hx]; exact ez
 have pushA : ∀ {out i j x},In out i j→1≤i→a[i - 1]?=some x→(∀ y∈b.toList.take j,R y≤R x)→In (out.push x) (i - 1) j:=fun {out i j x} h h1 e hle=>by
  have hlt:i - 1 < a.size:=by
   rcases Nat.lt_or_ge (i - 1) a.size with q | q
   ·exact q
   ·rw [Array.getElem?_eq_none q] at e; cases e
  obtain ⟨x',e',d⟩:=bb h1 (show i≤a.size by omega)
  rw [e] at e'; cases e'
  have h':Hi (R:=R) l out.toList.reverse (a.toList.take (i - 1)++[x]) (b.toList.take j):=by rw [← d]; exact h
  show Hi l (out.push x).toList.reverse _ _
  rw [Array.toList_push,List.reverse_append,List.reverse_singleton]
  exact h'.a fun z hz' y hy=>by rw [List.mem_singleton.mp hy]; exact hle z hz'
 have pushB : ∀ {out i j x},In out i j→1≤j→b[j - 1]?=some x→(∀ y∈a.toList.take i,R y≤R x)→In (out.push x) i (j - 1):=fun {out i j x} h h1 e hle=>by
  have hlt:j - 1 < b.size:=by
   rcases Nat.lt_or_ge (j - 1) b.size with q | q
   ·exact q
   ·rw [Array.getElem?_eq_none q] at e; cases e
  obtain ⟨x',e',d⟩:=bb h1 (show j≤b.size by omega)
  rw [e] at e'; cases e'
  have h':Hi (R:=R) l out.toList.reverse (a.toList.take i) (b.toList.take (j - 1)++[x]):=by rw [← d]; exact h
  show Hi l (out.push x).toList.reverse _ _
  rw [Array.toList_push,List.reverse_append,List.reverse_singleton]
  exact h'.b fun z hz' y hy=>by rw [List.mem_singleton.mp hy]; exact hle z hz'
 have runA : ∀ {out i j k},In out i j→k≤i→(∀ x∈b.toList.take j,∀ y∈(a.toList.take i).drop k,R x≤R y)→In (out++(a.extract k i).reverse) k j:=fun {out i j k} h hki hle=>by
  show Hi l (out++(a.extract k i).reverse).toList.reverse _ _
  rw [Array.toList_append,Array.toList_reverse,List.reverse_append,List.reverse_reverse,iS]
  refine Hi.a ?_ hle
  rw [← fT a hki]; exact h
 have runB : ∀ {out i j k},In out i j→k≤j→(∀ x∈a.toList.take i,∀ y∈(b.toList.take j).drop k,R x≤R y)→In (out++(b.extract k j).reverse) i k:=fun {out i j k} h hki hle=>by
  show Hi l (out++(b.extract k j).reverse).toList.reverse _ _
  rw [Array.toList_append,Array.toList_reverse,List.reverse_append,List.reverse_reverse,iS]
  refine Hi.b ?_ hle
  rw [← fT b hki]; exact h
 obtain ⟨x0,ex0,dx0⟩:=bb (a:=a) (i:=a.size) na (Nat.le_refl _)
 unfold gj
 sleep 2
 refine wpS_bind (wpS_lift (wpAny_rule ⟨rfl,?_⟩))
 refine wpS_bind (ao ex0 ?_)
 have aY:In #[x0] (a.size - 1) b.size:=by
  have h0:In #[] a.size b.size:=by
   refine ⟨?_,List.Pairwise.nil,?_,?_,fun x _ y hy=>by simp at hy⟩
   ·rw [List.take_of_length_le (by simp),List.take_of_length_le (by simp),← hl]; simp
   ·rw [List.take_of_length_le (by simp)]; exact sa
   ·rw [List.take_of_length_le (by simp)]; exact sb
  refine pushA h0 na ex0 fun y hy=>hz x0 ?_ y (List.mem_of_mem_take hy)
  rw [List.take_of_length_le (by simp)] at dx0
  rw [dx0,List.drop_append_of_le_length (by simp)]
  simp
 by_cases q1:a.size - 1=0
 ·rw [if_pos (by simpa using q1)]
  exact wpS_pure (hq _ (gallopOf st) (endA aY q1))
 rw [if_neg (by simpa using q1)]
 by_cases q2:b.size=1
 ·rw [if_pos (by simpa using q2)]
  exact wpS_pure (hq _ (gallopOf st) (endF aY q2))
 rw [if_neg (by simpa using q2)]
 refine wpS_bind (wpS_get ?_)
 refine wpS_bind (wpS_mono (wpS_forRange (I:=fun x c st'=>(∃ g,st'=ce st g) ∧ ∃ i j out m,c=(none,i,j,out,m)∧Mid none out i j∧i+j+x+1≤a.size+b.size)
  (Q:=fun c st'=>(∃ g,st'=ce st g) ∧ ∃ r out,c=(some r,out)∧Res R l r) ?step ?fin ⟨⟨gallopOf st,rfl⟩,_,_,_,_,rfl,⟨aY,by omega,by omega⟩,by omega⟩) ?post)
 case post =>
  rintro c st' ⟨⟨g,rfl⟩,r,out,rfl,hr⟩
  exact wpS_pure (hq r g hr)
 case fin =>
  rintro c st' ⟨_,i,j,out,m,rfl,⟨h,h1,h2⟩,h3⟩
  omega
 case step =>
  rintro x c st' _ hx ⟨⟨g,rfl⟩,i,j,out,m,rfl,hM,hc⟩
  dsimp only
  refine wpS_bind (wpS_mono (wpS_forRange (I:=fun _ c st'=>st'=ce st g ∧ ∃ i' j' out p q,c=(none,i',j',out,p,q)∧Mid none out i' j'∧i'+j'≤i+j)
   (Q:=fun c st'=>st'=ce st g ∧ ∃ o i' j' out p q,c=(o,i',j',out,p,q)∧Mid o out i' j'∧(o=none→i'+j'≤i+j)) ?step1 ?fin1 ⟨rfl,_,_,_,_,_,rfl,hM,by omega⟩) ?post1)
  case fin1 =>
   rintro c st' ⟨rfl,i',j',out,p,q,rfl,h1,h2⟩
   exact ⟨rfl,_,_,_,_,_,_,rfl,h1,fun _=>h2⟩
  case step1 =>
   rintro _ c st' _ _ ⟨rfl,i',j',out,p,q,rfl,⟨h1,h2,h3⟩,h4⟩
   dsimp only
   obtain ⟨y,ey,dy⟩:=bb (a:=b) (i:=j') (by omega) (by omega)
   obtain ⟨x,ex,dx⟩:=bb (a:=a) (i:=i') (by omega) (by omega)
   refine wpS_bind (ao ey (wpS_bind (ao ex (wpS_bind (hL _ y x _ (mB ey) (mA ex) hk ?_)))))
   have sA:=h1.sp
   have sB:=h1.sq
   rw [dx] at sA
   rw [dy] at sB
   by_cases hlt:R y < R x
   ·rw [decide_eq_true hlt]
    refine wpS_bind (ao ex ?_)
    have h5:=pushA h1 (by omega) ex (by
     rw [dy]; intro z hz'
     rcases List.mem_append.mp hz' with hz' | hz'
     ·have:=sB.le z hz' y (by simp); omega
     ·rw [List.mem_singleton.mp hz']; omega)
    by_cases q3:i' - 1=0
    ·rw [if_pos (by simpa using q3)]
     exact wpS_pure ⟨rfl,_,_,_,_,_,_,rfl,endA h5 q3,fun h=>by cases h⟩
    ·rw [if_neg (by simpa using q3)]
     split
     ·exact wpS_pure ⟨rfl,_,_,_,_,_,_,rfl,⟨h5,by omega,h3⟩,fun _=>by omega⟩
     ·exact wpS_pure ⟨rfl,_,_,_,_,_,rfl,⟨h5,by omega,h3⟩,by omega⟩
   ·rw [decide_eq_false hlt]
    refine wpS_bind (ao ey ?_)
    have h5:=pushB h1 (by omega) ey (by
     rw [dx]; intro z hz'
     rcases List.mem_append.mp hz' with hz' | hz'
     ·have:=sA.le z hz' x (by simp); omega
     ·rw [List.mem_singleton.mp hz']; omega)
    by_cases q3:j' - 1=1
    ·rw [if_pos (by simpa using q3)]
     exact wpS_pure ⟨rfl,_,_,_,_,_,_,rfl,endF h5 q3,fun h=>by cases h⟩
    ·rw [if_neg (by simpa using q3)]
     split
     ·exact wpS_pure ⟨rfl,_,_,_,_,_,_,rfl,⟨h5,h2,by omega⟩,fun _=>by omega⟩
     ·exact wpS_pure ⟨rfl,_,_,_,_,_,rfl,⟨h5,h2,by omega⟩,by omega⟩
  case post1 =>
   rintro c st' ⟨rfl,o,i',j',out,p,q,rfl,h1,h2⟩
   cases o with
   | some r=>exact wpS_pure ⟨⟨g,rfl⟩,r,_,rfl,h1⟩
   | none =>
   dsimp only
   refine wpS_bind (wpS_lift (wpAny_rule ⟨rfl,?_⟩))
   refine wpS_bind (wpS_mono (wpS_forRange (I:=fun x c st'=>(∃ g,st'=ce st g) ∧ ∃ na2 nb2 out m p q,c=(none,na2,nb2,out,m,p,q)∧Mid none out na2 nb2∧na2+nb2+x≤i+j)
    (Q:=fun c st'=>(∃ g,st'=ce st g) ∧ ∃ o na2 nb2 out m p q,c=(o,na2,nb2,out,m,p,q)∧Mid o out na2 nb2∧(o=none→na2+nb2+1≤i+j)) ?step2 ?fin2 ⟨⟨g,rfl⟩,_,_,_,_,_,_,rfl,h1,h2 rfl⟩) ?post2)
   case fin2 =>
    rintro c st' ⟨hg,na2,nb2,out,m,p,q,rfl,k1,k2⟩
    exact ⟨hg,_,_,_,_,_,_,_,rfl,k1,fun _=>by omega⟩
   case post2 =>
    rintro c st' ⟨⟨g,rfl⟩,o,na2,nb2,out,m,p,q,rfl,k1,k2⟩
    cases o with
    | some r=>exact wpS_pure ⟨⟨g,rfl⟩,r,_,rfl,k1⟩
    | none =>
    dsimp only
    refine wpS_bind (wpS_modify (wpS_pure ⟨⟨_,rfl⟩,_,_,_,_,rfl,k1,?_⟩))
    have:=k2 rfl
    omega
   case step2 =>
    rintro x c st' _ _ ⟨⟨g,rfl⟩,na2,nb2,out,m,p,q,rfl,⟨k1,k2,k3,k5⟩,k4⟩
    dsimp only
    have jump : ∀ (c:Prop) [Decidable c] (f:StateT SortSt Sem (ForInStep (Option (Array Keyed)×Nat×Nat×Array Keyed×Nat×Nat×Nat))) f' P st',wpS (model prog w) A E s f P st'→wpS (model prog w) A E s f' P st'→wpS (model prog w) A E s (if c then f else f') P st':=fun c _ f f' P st' h1 h2=>by
     split
     ·exact h1
     ·exact h2
    refine jump _ _ _ _ _ ?_ ?_
    all_goals
     refine wpS_bind (wpS_modify ?_)
     obtain ⟨y,ey,dy⟩:=bb (a:=b) (i:=nb2) (by omega) k5
     refine wpS_bind (ao ey (wpS_bind (bQ hL hk (mB ey) (fun i hi=>dE _ hi) (by simp; omega) (fun z hz'=>mlA z (List.mem_of_mem_take hz')) k1.sp (by omega) fun k i1 i2 i3 => ?_)))
     have sB:=k1.sq
     rw [dy] at sB
     have hyA : ∀ z∈a.toList.take k,R z≤R y:=fun z hz'=>by
      have:=i2 z (by rw [List.take_take,Nat.min_eq_left i1]; exact hz')
      unfold bey at this
      simp at this
      omega
     dsimp only
     by_cases k0:na2 - k > 0
     ·rw [if_pos k0]
      have h6:=runA (k:=k) k1 i1 (fun u hu v hv=>by
       have:=i3 v hv
       unfold bey at this
       simp at this
       rw [dy] at hu
       rcases List.mem_append.mp hu with hu | hu
       ·have:=sB.le u hu y (by simp); omega
       ·rw [List.mem_singleton.mp hu]; omega)
      by_cases q5:k=0
      ·rw [if_pos (by simpa using q5)]
       exact wpS_pure ⟨⟨_,rfl⟩,_,_,_,_,_,_,_,rfl,endA h6 q5,fun h=>by cases h⟩
      rw [if_neg (by simpa using q5)]
      refine wpS_bind (ao ey ?_)
      have h7:=pushB h6 (by omega) ey hyA
      by_cases q4:nb2 - 1=1
      ·rw [if_pos (by simpa using q4)]
       exact wpS_pure ⟨⟨_,rfl⟩,_,_,_,_,_,_,_,rfl,endF h7 q4,fun h=>by cases h⟩
      rw [if_neg (by simpa using q4)]
      obtain ⟨x',ex',dx'⟩:=bb (a:=a) (i:=k) (by omega) (by omega)
      refine wpS_bind (ao ex' (wpS_bind (bQ hL hk (mA ex') (fun i hi=>dE _ hi) (by simp; omega) (fun z hz'=>mlB z (List.mem_of_mem_take hz')) h7.sq (by omega) fun k' j1 j2 j3 => ?_)))
      have sA:=h7.sp
      rw [dx'] at sA
      have lastB : ∀ y∈b.toList.take k',R y≤R x':=fun y hy=>by
       have:=j2 y (by rw [List.take_take,Nat.min_eq_left j1]; exact hy)
       unfold bey at this
       simp at this
       omega
      dsimp only
      by_cases k0:nb2 - 1 - k' > 0
      ·rw [if_pos k0]
       have h8:=runB (k:=k') h7 j1 (fun u hu v hv=>by
        have:=j3 v hv
        unfold bey at this
        simp at this
        rw [dx'] at hu
        rcases List.mem_append.mp hu with hu | hu
        ·have:=sA.le u hu x' (by simp); omega
        ·rw [List.mem_singleton.mp hu]; omega)
       by_cases q5:k'=1
       ·rw [if_pos (by simpa using q5)]
        exact wpS_pure ⟨⟨_,rfl⟩,_,_,_,_,_,_,_,rfl,endF h8 q5,fun h=>by cases h⟩
       rw [if_neg (by simpa using q5)]
       by_cases q7:k'=0
       ·rw [if_pos (by simpa using q7)]
        exact wpS_pure ⟨⟨_,rfl⟩,_,_,_,_,_,_,_,rfl,endB h8 q7,fun h=>by cases h⟩
       rw [if_neg (by simpa using q7)]
       refine wpS_bind (ao ex' ?_)
       have h9:=pushA h8 (by omega) ex' lastB
       by_cases q6:k - 1=0
       ·rw [if_pos (by simpa using q6)]
        exact wpS_pure ⟨⟨_,rfl⟩,_,_,_,_,_,_,_,rfl,endA h9 q6,fun h=>by cases h⟩
       rw [if_neg (by simpa using q6)]
       split
       ·exact wpS_pure ⟨⟨_,rfl⟩,_,_,_,_,_,_,_,rfl,⟨h9,by omega,by omega⟩,fun _=>by omega⟩
       ·exact wpS_pure ⟨⟨_,rfl⟩,_,_,_,_,_,_,rfl,⟨h9,by omega,by omega⟩,by omega⟩
      ·rw [if_neg k0]
       have k00:k'=nb2 - 1:=by omega
       subst k00
       refine wpS_bind (ao ex' ?_)
       have h9:=pushA h7 (by omega) ex' lastB
       by_cases q6:k - 1=0
       ·rw [if_pos (by simpa using q6)]
        exact wpS_pure ⟨⟨_,rfl⟩,_,_,_,_,_,_,_,rfl,endA h9 q6,fun h=>by cases h⟩
       rw [if_neg (by simpa using q6)]
       split
       ·exact wpS_pure ⟨⟨_,rfl⟩,_,_,_,_,_,_,_,rfl,⟨h9,by omega,by omega⟩,fun _=>by omega⟩
       ·exact wpS_pure ⟨⟨_,rfl⟩,_,_,_,_,_,_,rfl,⟨h9,by omega,by omega⟩,by omega⟩
     ·rw [if_neg k0]
      have k00:k=na2:=by omega
      subst k00
      refine wpS_bind (ao ey ?_)
      have h7:=pushB k1 (by omega) ey hyA
      by_cases q4:nb2 - 1=1
      ·rw [if_pos (by simpa using q4)]
       exact wpS_pure ⟨⟨_,rfl⟩,_,_,_,_,_,_,_,rfl,endF h7 q4,fun h=>by cases h⟩
      rw [if_neg (by simpa using q4)]
      obtain ⟨x',ex',dx'⟩:=bb (a:=a) (i:=k) (by omega) (by omega)
      refine wpS_bind (ao ex' (wpS_bind (bQ hL hk (mA ex') (fun i hi=>dE _ hi) (by simp; omega) (fun z hz'=>mlB z (List.mem_of_mem_take hz')) h7.sq (by omega) fun k' j1 j2 j3 => ?_)))
      have sA:=h7.sp
      rw [dx'] at sA
      have lastB : ∀ y∈b.toList.take k',R y≤R x':=fun y hy=>by
       have:=j2 y (by rw [List.take_take,Nat.min_eq_left j1]; exact hy)
       unfold bey at this
       simp at this
       omega
      dsimp only
      by_cases k0:nb2 - 1 - k' > 0
      ·rw [if_pos k0]
       have h8:=runB (k:=k') h7 j1 (fun u hu v hv=>by
        have:=j3 v hv
        unfold bey at this
        simp at this
        rw [dx'] at hu
        rcases List.mem_append.mp hu with hu | hu
        ·have:=sA.le u hu x' (by simp); omega
        ·rw [List.mem_singleton.mp hu]; omega)
       by_cases q5:k'=1
       ·rw [if_pos (by simpa using q5)]
        exact wpS_pure ⟨⟨_,rfl⟩,_,_,_,_,_,_,_,rfl,endF h8 q5,fun h=>by cases h⟩
       rw [if_neg (by simpa using q5)]
       by_cases q7:k'=0
       ·rw [if_pos (by simpa using q7)]
        exact wpS_pure ⟨⟨_,rfl⟩,_,_,_,_,_,_,_,rfl,endB h8 q7,fun h=>by cases h⟩
       rw [if_neg (by simpa using q7)]
       refine wpS_bind (ao ex' ?_)
       have h9:=pushA h8 (by omega) ex' lastB
       by_cases q6:k - 1=0
       ·rw [if_pos (by simpa using q6)]
        exact wpS_pure ⟨⟨_,rfl⟩,_,_,_,_,_,_,_,rfl,endA h9 q6,fun h=>by cases h⟩
       rw [if_neg (by simpa using q6)]
       split
       ·exact wpS_pure ⟨⟨_,rfl⟩,_,_,_,_,_,_,_,rfl,⟨h9,by omega,by omega⟩,fun _=>by omega⟩
       ·exact wpS_pure ⟨⟨_,rfl⟩,_,_,_,_,_,_,rfl,⟨h9,by omega,by omega⟩,by omega⟩
      ·rw [if_neg k0]
       have k00:k'=nb2 - 1:=by omega
       subst k00
       refine wpS_bind (ao ex' ?_)
       have h9:=pushA h7 (by omega) ex' lastB
       by_cases q6:k - 1=0
       ·rw [if_pos (by simpa using q6)]
        exact wpS_pure ⟨⟨_,rfl⟩,_,_,_,_,_,_,_,rfl,endA h9 q6,fun h=>by cases h⟩
       rw [if_neg (by simpa using q6)]
       split
       ·exact wpS_pure ⟨⟨_,rfl⟩,_,_,_,_,_,_,_,rfl,⟨h9,by omega,by omega⟩,fun _=>by omega⟩
       ·exact wpS_pure ⟨⟨_,rfl⟩,_,_,_,_,_,_,rfl,⟨h9,by omega,by omega⟩,by omega⟩
end
end Tim
set_option autoImplicit false
namespace Tim
open PySem PyProof.Rows Lean
local macro_rules
| `(tactic| sleep $n:num)=>do
 let l:=[`PySem.Builtin.gallop, `PySem.Builtin.mergeLo, `PySem.Builtin.mergeHi, `PySem.Builtin.mergeAt]
 let n:=mkCIdent (mkPrivateNameCore `PySem.Builtin.List.W1All (l.getD n.getNat .anonymous))
 `(tactic| unfold $n:ident)
def da:Nat→List (List Keyed)→List (Nat×Nat)
 | _,[]=>[]
 | k,r::rs=>(k,r.length)::da (k+r.length) rs
theorem cJ : ∀ (k:Nat) (l r:List (List Keyed)),da k (l++r)=da k l++da (k+l.flatten.length) r
 | k,[],r=>by simp [da]
 | k,x::l,r=>by
  rw [List.cons_append,da,da,cJ (k+x.length) l r,List.flatten_cons,List.length_append,List.cons_append,Nat.add_assoc]
theorem dO : ∀ (k:Nat) (l:List (List Keyed)),(da k l).length=l.length
 | _,[]=>rfl
 | k,x::l=>by rw [da,List.length_cons,dO _ l,List.length_cons]
structure Runs (κ:SortKind) (a₀:Array Keyed) (R:Keyed→Int) (st:SortSt) (rs:List (List Keyed)) (rest:List Keyed):Prop where
 ok:Ok κ a₀ st
 arr:(arrOf st).toList=rs.flatten++rest
 pend:(pendingOf st).toList.map (fun p=>(p.1,p.2.1))=da 0 rs
 srt : ∀ r∈rs,Srt R r
 pos : ∀ r∈rs,1≤r.length
theorem laid : ∀ (ms:List Keyed) (o j:Nat) (arr:Array Keyed) (pre seg post:List Keyed),arr.toList=pre++seg++post→pre.length=o+j→seg.length=ms.length →
  ((ms.zipIdx j).foldl (fun a (x:Keyed×Nat)=>match x with | (p,i)=>a.setIfInBounds (o+i) p) arr).toList=pre++ms++post
 | [],o,j,arr,pre,seg,post,h,_,hs=>by
  rw [List.zipIdx_nil,List.foldl_nil,h,List.eq_nil_of_length_eq_zero hs]
 | m::ms,o,j,arr,pre,seg,post,h,hp,hs=>by
  match seg,hs with
  | u::seg,hs =>
  rw [List.zipIdx_cons,List.foldl_cons]
  have:=laid ms o (j+1) (arr.setIfInBounds (o+j) m) (pre++[m]) seg post (by
   rw [Array.toList_setIfInBounds,h,List.append_assoc,List.set_append_right _ _ (by omega)]
   rw [show o+j - pre.length=0 by omega]
   simp) (by rw [List.length_append,List.length_singleton]; omega) (by simpa using hs)
  rw [this]; simp
section
variable {prog:Program} {w:World} {A:Around} {E:Value→Shared→Prop} {s:Shared} {a₀:Array Keyed} {κ:SortKind} {R:Keyed→Int}
theorem Runs.mem {st:SortSt} {rs:List (List Keyed)} {rest:List Keyed} (H:Runs κ a₀ R st rs rest) {x:Keyed} (h:x∈rs.flatten++rest):x∈a₀:=by
 rw [← H.arr] at h
 exact H.ok.perm.mem_iff.mp (Array.mem_toList_iff.mp h)
theorem iQ {arr:Array Keyed} {pre seg post:List Keyed} (h:arr.toList=pre++(seg++post)) {i:Nat} (hi:i < seg.length):arr[pre.length+i]?=seg[i]?:=by
 rw [← Array.getElem?_toList,h,List.getElem?_append_right (by omega),show pre.length+i - pre.length=i by omega,List.getElem?_append_left hi]
theorem iR {arr:Array Keyed} {pre seg post:List Keyed} {i j:Nat} (h:arr.toList=pre++(seg++post)) (hi:i=pre.length) (hj:j=pre.length+seg.length):(arr.extract i j).toList=seg:=by
 subst hi hj
 rw [Array.toList_extract,List.extract_eq_take_drop,h,List.drop_append_of_le_length (Nat.le_refl _),List.drop_length,List.nil_append,show pre.length+seg.length - pre.length=seg.length by omega]
 simp
theorem kF {σ:Type} {M:Model} {st st':σ} {Q:PUnit→σ→Prop} (h:Q ⟨⟩ st'):wpS M A E s (set st':StateT σ Sem PUnit) Q st:=by
 unfold wpS; rw [StateT.run_set]; exact wpAny_pure ⟨rfl,h⟩
theorem dQ {st:SortSt} {i:Nat} {r1 r2:List (List Keyed)} {x y rest:List Keyed} {Q:Bool→SortSt→Prop} (hL:eF prog w A E s κ a₀ R) (H:Runs κ a₀ R st (r1++x::y::r2) rest) (hi:i=r1.length)
  (hq : ∀ st' m,Runs κ a₀ R st' (r1++m::r2) rest→Q true st'):wpS (model prog w) A E s (mergeAt' i) Q st:=by
 subst hi
 have hp:=H.pend
 rw [cJ,List.map_eq_append_iff] at hp
 obtain ⟨P1,P',e1,m1,hp⟩:=hp
 rw [da,da] at hp
 obtain ⟨⟨sa,na,pw⟩,P',rfl,hx,hp⟩:=List.map_eq_cons_iff.mp hp
 obtain ⟨⟨sb,nb,pw2⟩,P2,rfl,hy,hp3⟩:=List.map_eq_cons_iff.mp hp
 simp only [Prod.mk.injEq,Nat.zero_add] at hx hy
 obtain ⟨rfl,rfl⟩:=hx
 obtain ⟨rfl,rfl⟩:=hy
 have l1:P1.length=r1.length:=by rw [← dO 0 r1,← m1,List.length_map]
 have pe:pendingOf st=(P1++(r1.flatten.length,x.length,pw)::(r1.flatten.length+x.length,y.length,pw2)::P2).toArray:=by rw [← e1]
 have g1:(pendingOf st)[r1.length]?=some (r1.flatten.length,x.length,pw):=by rw [pe,← l1]; simp
 have g2:(pendingOf st)[r1.length+1]?=some (r1.flatten.length+x.length,y.length,pw2):=by rw [pe,← l1]; simp
 have hx1:=H.pos x (by simp)
 have hy1:=H.pos y (by simp)
 have sx:=H.srt x (by simp)
 have sy:=H.srt y (by simp)
 have ha:(arrOf st).toList=r1.flatten++(x++(y++(r2.flatten++rest))):=by rw [H.arr]; simp
 have ha2:(arrOf st).toList=(r1.flatten++x)++(y++(r2.flatten++rest)):=by rw [ha]; simp
 have mx : ∀ z∈x,z∈a₀:=fun z h=>H.mem (by simp [h])
 have my : ∀ z∈y,z∈a₀:=fun z h=>H.mem (by simp [h])
 have gx : ∀ i,i < x.length→(arrOf st)[r1.flatten.length+i]?=x[i]?:=fun i h=>iQ ha h
 have gy : ∀ i,i < y.length→(arrOf st)[r1.flatten.length+x.length+i]?=y[i]?:=fun i h=>by
  have:=iQ ha2 h
  rwa [List.length_append] at this
 have fin : ∀ (st':SortSt) (m:List Keyed),Ok κ a₀ st'→(arrOf st').toList=r1.flatten++(m++(r2.flatten++rest)) →
   pendingOf st'=((pendingOf st).setIfInBounds r1.length (r1.flatten.length,x.length+y.length,pw)).eraseIdxIfInBounds (r1.length+1)→m.length=x.length+y.length→Srt R m→Q true st':=by
  intro st' m hO harr hpe hm hs
  refine hq st' m ⟨hO,by rw [harr]; simp,?_,fun r hr => ?_,fun r hr => ?_⟩
  ·have:(((pendingOf st).setIfInBounds r1.length (r1.flatten.length,x.length+y.length,pw)).eraseIdxIfInBounds (r1.length+1)).toList=P1++(r1.flatten.length,x.length+y.length,pw)::P2:=by
    rw [pe,← l1]
    simp [List.eraseIdx_append_of_length_le]
   rw [hpe,this,List.map_append,List.map_cons,m1,hp3,cJ,da,hm]
   simp only [Nat.zero_add,Nat.add_assoc]
  ·rcases List.mem_append.mp hr with hr | hr
   ·exact H.srt r (by simp [hr])
   ·rcases List.mem_cons.mp hr with rfl | hr
    ·exact hs
    ·exact H.srt r (by simp [hr])
  ·rcases List.mem_append.mp hr with hr | hr
   ·exact H.pos r (by simp [hr])
   ·rcases List.mem_cons.mp hr with rfl | hr
    ·omega
    ·exact H.pos r (by simp [hr])
 obtain ⟨y0,ys,ey⟩ : ∃ y0 ys,y=y0::ys:=by
  cases y with
  | nil=>simp at hy1
  | cons y0 ys=>exact ⟨y0,ys,rfl⟩
 have gy0:(arrOf st)[r1.flatten.length+x.length]?=some y0:=by
  have:=gy 0 (by omega)
  rw [Nat.add_zero] at this
  rw [this,ey]; rfl
 have hy0 : ∀ z∈y,R y0≤R z:=fun z hz=>by
  rw [ey] at hz sy
  rcases List.mem_cons.mp hz with rfl | hz
  ·omega
  ·exact sy.head z hz
 have O1:Ok κ a₀ (setPending st (((pendingOf st).setIfInBounds r1.length (r1.flatten.length,x.length+y.length,pw)).eraseIdxIfInBounds (r1.length+1))):=⟨H.ok.perm,H.ok.kind,H.ok.failed⟩
 unfold mergeAt'
 sleep 3
 refine wpS_bind (wpS_get ?_)
 show wpS _ _ _ _ (match ((pendingOf st)[r1.length]?,(pendingOf st)[r1.length+1]?) with | _=>_) _ _
 rw [g1,g2]
 dsimp only
 refine wpS_bind (kF ?_)
 have bF : ∀ {v k:Int},bey false v k=true→v≤k:=fun {v k} h=>by unfold bey at h; simp at h; omega
 have bF' : ∀ {v k:Int},bey false v k=false→k≤v:=fun {v k} h=>by unfold bey at h; simp at h; omega
 have bT : ∀ {v k:Int},bey true v k=true→v≤k:=fun {v k} h=>by unfold bey at h; simp at h; omega
 have bT' : ∀ {v k:Int},bey true v k=false→k≤v:=fun {v k} h=>by unfold bey at h; simp at h; omega
 refine wpS_bind (ao gy0 (wpS_bind (bQ hL H.ok.kind (my y0 (by rw [ey]; simp)) gx rfl mx sx (by omega) fun k k1 k2 k3 => ?_)))
 dsimp only
 by_cases q1:x.length - k=0
 ·rw [if_pos (by simpa using q1)]
  refine wpS_pure (fin _ (x++y) O1 (by show (arrOf st).toList=_; rw [ha]; simp) rfl (by simp) (sx.app sy fun u hu v hv => ?_))
  have a1:=bF (k2 u (by rw [List.take_of_length_le (by omega)]; exact hu))
  have a2:=hy0 v hv
  omega
 rw [if_neg (by simpa using q1)]
 have exk:x=x.take k++x.drop k:=(List.take_append_drop k x).symm
 have hne:x.drop k≠[]:=by intro h; rw [List.drop_eq_nil_iff] at h; omega
 obtain ⟨x',xl,exl⟩ : ∃ x' xl,x.drop k=x'++[xl]:=⟨_,_,(List.dropLast_concat_getLast hne).symm⟩
 have mxl:xl∈x:=List.mem_of_mem_drop (i:=k) (by rw [exl]; simp)
 have xle : ∀ z∈x,R z≤R xl:=fun z hz=>by
  rw [exk,exl,← List.append_assoc] at sx hz
  rcases List.mem_append.mp hz with hz | hz
  ·exact sx.le z hz xl (by simp)
  ·rw [List.mem_singleton.mp hz]; omega
 have gl:(arrOf st)[r1.flatten.length+k+(x.length - k) - 1]?=some xl:=by
  rw [show r1.flatten.length+k+(x.length - k) - 1=r1.flatten.length+(x.length - 1) by omega,gx _ (by omega)]
  have:x=(x.take k++x')++[xl]:=by rw [List.append_assoc,← exl]; exact exk
  rw [this]
  generalize x.take k++x'=t
  simp
 refine wpS_bind (ao gl (wpS_bind (bQ hL H.ok.kind (mx xl mxl) gy rfl my sy (by omega) fun nb j1 j2 j3 => ?_)))
 dsimp only
 by_cases q2:nb=0
 ·rw [if_pos (by simpa using q2)]
  subst q2
  refine wpS_pure (fin _ (x++y) O1 (by show (arrOf st).toList=_; rw [ha]; simp) rfl (by simp) (sx.app sy fun u hu v hv => ?_))
  have a1:=bT' (j3 v (by simpa using hv))
  have a2:=xle u hu
  omega
 rw [if_neg (by simpa using q2)]
 have eyk:y=y.take nb++y.drop nb:=(List.take_append_drop nb y).symm
 have a1:(arrOf st).toList=(r1.flatten++x.take k)++(x.drop k++(y++(r2.flatten++rest))):=by
  rw [ha]; conv=>lhs; rw [exk]
  simp only [List.append_assoc]
 have a2:(arrOf st).toList=(r1.flatten++x)++(y.take nb++(y.drop nb++(r2.flatten++rest))):=by
  rw [ha2]; conv=>lhs; rw [eyk]
  simp only [List.append_assoc]
 have eX:((arrOf st).extract (r1.flatten.length+k) (r1.flatten.length+x.length)).toList=x.drop k:=iR a1 (by rw [List.length_append,List.length_take]; omega) (by rw [List.length_append,List.length_take,List.length_drop]; omega)
 have eY:((arrOf st).extract (r1.flatten.length+x.length) (r1.flatten.length+x.length+nb)).toList=y.take nb:=iR a2 (by rw [List.length_append]) (by rw [List.length_append,List.length_take]; omega)
 have sX:Srt R (x.drop k):=by rw [exk] at sx; exact sx.r
 have sY:Srt R (y.take nb):=by rw [eyk] at sy; exact sy.l
 have zX:((arrOf st).extract (r1.flatten.length+k) (r1.flatten.length+x.length)).size=x.length - k:=by rw [← Array.length_toList,eX,List.length_drop]
 have zY:((arrOf st).extract (r1.flatten.length+x.length) (r1.flatten.length+x.length+nb)).size=nb:=by rw [← Array.length_toList,eY,List.length_take]; omega
 have hfst : ∀ y',((arrOf st).extract (r1.flatten.length+x.length) (r1.flatten.length+x.length+nb))[0]?=some y' → ∀ z∈((arrOf st).extract (r1.flatten.length+k) (r1.flatten.length+x.length)).toList,R y'≤R z:=fun y' h z hz=>by
  rw [← Array.getElem?_toList,eY,List.getElem?_take_of_lt (by omega),ey] at h
  cases h
  rw [eX] at hz
  exact bF' (k3 z hz)
 have hlst : ∀ z∈((arrOf st).extract (r1.flatten.length+k) (r1.flatten.length+x.length)).toList.drop (((arrOf st).extract (r1.flatten.length+k) (r1.flatten.length+x.length)).size - 1),∀ y'∈((arrOf st).extract (r1.flatten.length+x.length) (r1.flatten.length+x.length+nb)).toList,R y'≤R z:=fun z hz y' hy'=>by
  rw [eX,← Array.length_toList,eX,exl] at hz
  rw [eY] at hy'
  have:z=xl:=by simpa using hz
  rw [this]
  exact bT (j2 y' hy')
 have hml : ∀ z∈x.drop k++y.take nb,z∈a₀:=fun z hz=>by
  rcases List.mem_append.mp hz with hz | hz
  ·exact mx z (List.mem_of_mem_drop hz)
  ·exact my z (List.mem_of_mem_take hz)
 have done : ∀ (r:Array Keyed) (st':SortSt),kindOf st'=κ→failedOf st'=none→arrOf st'=arrOf st→pendingOf st'=((pendingOf st).setIfInBounds r1.length (r1.flatten.length,x.length+y.length,pw)).eraseIdxIfInBounds (r1.length+1) →
   Res R (x.drop k++y.take nb) r→Q true (setArr st' ((r.toList.zipIdx).foldl (fun a (x:Keyed×Nat)=>match x with | (p,i)=>a.setIfInBounds (r1.flatten.length+k+i) p) (arrOf st'))):=by
  intro r st' hkd hfl har hpd hr
  have len:r.toList.length=(x.length - k)+nb:=by rw [hr.1.length_eq,List.length_append,List.length_drop,List.length_take]; omega
  have a3:(arrOf st').toList=(r1.flatten++x.take k)++(x.drop k++y.take nb)++(y.drop nb++(r2.flatten++rest)):=by
   rw [har,a1]; conv=>lhs; rw [eyk]
   simp only [List.append_assoc]
  have ld:=laid r.toList (r1.flatten.length+k) 0 (arrOf st') _ _ _ a3 (by rw [List.length_append,List.length_take]; omega) (by rw [List.length_append,List.length_drop,List.length_take,len]; omega)
  refine fin _ (x.take k++r.toList++y.drop nb) ⟨?_,hkd,hfl⟩ (by rw [ld]; simp only [List.append_assoc]) hpd ?_ ?_
  ·refine Array.Perm.trans ?_ H.ok.perm
   rw [Array.perm_iff_toList_perm,ld,← har,a3]
   exact List.Perm.append_right _ (List.Perm.append_left _ hr.1)
  ·rw [List.length_append,List.length_append,List.length_take,List.length_drop,len]; omega
  ·have inR : ∀ z∈r.toList,z∈x.drop k∨z∈y.take nb:=fun z hz=>List.mem_append.mp (hr.1.mem_iff.mp hz)
   rw [exk] at sx
   rw [eyk] at sy
   have hyn : ∀ z∈y.take nb,R y0≤R z:=fun z hz=>hy0 z (List.mem_of_mem_take hz)
   refine ((sx.l).app hr.2 fun u hu v hv => ?_).app sy.r fun u hu v hv => ?_
   ·rcases inR v hv with hv | hv
    ·exact sx.le u hu v hv
    ·have b1:=bF (k2 u hu)
     have b2:=hyn v hv
     omega
   ·have b3:=bT' (j3 v hv)
    rcases List.mem_append.mp hu with hu | hu
    ·have:=xle u (List.mem_of_mem_take hu); omega
    ·rcases inR u hu with hu | hu
     ·have:=xle u (List.mem_of_mem_drop hu); omega
     ·exact sy.le u hu v hv
 have isN : ∀ st':SortSt,failedOf st'=none → ∀ P:Bool→Prop,P true→P (failedOf st').isNone:=fun st' h P hP=>by rw [h]; exact hP
 split
 ·refine wpS_bind (hZ hL H.ok.kind (by rw [eX,eY]) hml (by rw [eX]; exact sX) (by rw [eY]; exact sY) (Nat.le_trans (show 1≤x.length - k by omega) (Nat.le_of_eq zX.symm)) (Nat.le_trans (show 1≤nb by omega) (Nat.le_of_eq zY.symm)) hfst hlst fun r g hr => ?_)
  refine wpS_bind (wpS_modify (wpS_bind (wpS_get (wpS_pure (isN _ H.ok.failed (fun b=>Q b _) ?_)))))
  exact done r (ce (setPending st (((pendingOf st).setIfInBounds r1.length (r1.flatten.length,x.length+y.length,pw)).eraseIdxIfInBounds (r1.length+1))) g) H.ok.kind H.ok.failed rfl rfl hr
 ·refine wpS_bind (ic hL H.ok.kind (by rw [eX,eY]) hml (by rw [eX]; exact sX) (by rw [eY]; exact sY) (Nat.le_trans (show 1≤x.length - k by omega) (Nat.le_of_eq zX.symm)) (Nat.le_trans (show 1≤nb by omega) (Nat.le_of_eq zY.symm)) hfst hlst fun r g hr => ?_)
  refine wpS_bind (wpS_modify (wpS_bind (wpS_get (wpS_pure (isN _ H.ok.failed (fun b=>Q b _) ?_)))))
  exact done r (ce (setPending st (((pendingOf st).setIfInBounds r1.length (r1.flatten.length,x.length+y.length,pw)).eraseIdxIfInBounds (r1.length+1))) g) H.ok.kind H.ok.failed rfl rfl hr
end
end Tim
set_option autoImplicit false
namespace Tim
open PySem PyProof.Rows
section
variable {prog:Program} {w:World} {A:Around} {E:Value→Shared→Prop} {s:Shared} {a₀:Array Keyed} {κ:SortKind} {R:Keyed→Int}
theorem Runs.len {st:SortSt} {rs:List (List Keyed)} {rest:List Keyed} (H:Runs κ a₀ R st rs rest):rs.flatten.length+rest.length=a₀.size:=by
 rw [← List.length_append,← H.arr,Array.length_toList,H.ok.size]
theorem Runs.size {st:SortSt} {rs:List (List Keyed)} {rest:List Keyed} (H:Runs κ a₀ R st rs rest):(pendingOf st).size=rs.length:=by
 rw [← dO 0 rs,← H.pend,List.length_map,Array.length_toList]
theorem Runs.push {st:SortSt} {rs:List (List Keyed)} {run rest:List Keyed} (H:Runs κ a₀ R st rs (run++rest)) (hs:Srt R run) (h1:1≤run.length) :
  Runs κ a₀ R (setPending st ((pendingOf st).push (rs.flatten.length,run.length,0))) (rs++[run]) rest where
 ok:=⟨H.ok.perm,H.ok.kind,H.ok.failed⟩
 arr:=by
  show (arrOf st).toList=_
  rw [H.arr]; simp
 pend:=by
  show ((pendingOf st).push _).toList.map _=_
  rw [Array.toList_push,List.map_append,H.pend,cJ,Nat.zero_add]; rfl
 srt:=fun r hr=>by
  rcases List.mem_append.mp hr with hr | hr
  ·exact H.srt r hr
  ·rw [List.mem_singleton.mp hr]; exact hs
 pos:=fun r hr=>by
  rcases List.mem_append.mp hr with hr | hr
  ·exact H.pos r hr
  ·rw [List.mem_singleton.mp hr]; exact h1
theorem Runs.pow {st:SortSt} {rs:List (List Keyed)} {rest:List Keyed} (H:Runs κ a₀ R st rs rest) (i pw:Nat) :
  Runs κ a₀ R (setPending st ((pendingOf st).modify i fun x=>match x with | (a,b,_)=>(a,b,pw))) rs rest where
 ok:=⟨H.ok.perm,H.ok.kind,H.ok.failed⟩
 arr:=H.arr
 pend:=by
  rw [← H.pend]
  show ((pendingOf st).modify i _).toList.map _=_
  apply List.ext_getElem?
  intro j
  rw [List.getElem?_map,List.getElem?_map,Array.getElem?_toList,Array.getElem?_toList,Array.getElem?_modify]
  split
  ·cases (pendingOf st)[j]? <;> rfl
  ·rfl
 srt:=H.srt
 pos:=H.pos
theorem cI (r:List Keyed):[r].flatten.length=r.length:=by simp
theorem cX {α:Type} {l:List α} {i:Nat} (h:i+1 < l.length) : ∃ r1 x y r2,l=r1++x::y::r2∧r1.length=i:=by
 refine ⟨l.take i,l[i],l[i+1],l.drop (i+2),?_,by rw [List.length_take]; omega⟩
 rw [← List.drop_eq_getElem_cons,← List.drop_eq_getElem_cons,List.take_append_drop]
theorem Runs.run {st st':SortSt} {rs:List (List Keyed)} {rest:List Keyed} {lo n:Nat} (H:Runs κ a₀ R st rs rest) (F:jC κ a₀ lo st st') (hlo:lo=rs.flatten.length) (hs:Asc R (arrOf st') lo n) (hn:lo+n≤a₀.size) :
  ∃ run rest',Runs κ a₀ R st' rs (run++rest')∧run.length=n∧Srt R run:=by
 have hz:(arrOf st').toList.length=a₀.size:=by rw [Array.length_toList,F.ok.size]
 have low:(arrOf st').toList.take lo=rs.flatten:=by
  apply List.ext_getElem?
  intro j
  by_cases hj:j < lo
  ·rw [List.getElem?_take_of_lt hj,Array.getElem?_toList,F.low j hj,← Array.getElem?_toList,H.arr,List.getElem?_append_left (by omega)]
  ·rw [List.getElem?_eq_none (by rw [List.length_take]; omega),List.getElem?_eq_none (by omega)]
 refine ⟨((arrOf st').toList.drop lo).take n,((arrOf st').toList.drop lo).drop n,⟨F.ok,?_,by rw [F.pend]; exact H.pend,H.srt,H.pos⟩,?_,?_⟩
 ·rw [List.take_append_drop,← low,List.take_append_drop]
 ·rw [List.length_take,List.length_drop,hz]; omega
 ·unfold Srt
  rw [List.pairwise_iff_getElem]
  intro i j hi hj hij
  rw [List.length_take,List.length_drop,hz] at hi hj
  have:=hs i j hij (by omega)
  have g : ∀ i (hi:i < n),G R (arrOf st') (lo+i)=R ((((arrOf st').toList.drop lo).take n)[i]'(by rw [List.length_take,List.length_drop,hz]; omega)):=fun i hi=>by
   refine jB ?_
   rw [List.getElem_take,List.getElem_drop,← Array.getElem?_toList]
   exact List.getElem?_eq_getElem (by omega)
  rw [g i (by omega),g j (by omega)] at this
  omega
theorem i9 {st:SortSt} {Q:Unit→SortSt→Prop} (hL:eF prog w A E s κ a₀ R) (ha:Apart R a₀) (hO:Ok κ a₀ st) (hp:pendingOf st = #[])
  (h : ∀ st',(arrOf st').Perm a₀→failedOf st'=none→Srt R (arrOf st').toList→Q () st'):wpS (model prog w) A E s sortRuns' Q st:=by
 rw [sortRuns'_eq]
 refine wpS_bind (wpS_get ?_)
 dsimp only
 simp only [hO.size]
 generalize minRun' a₀.size a₀.size 0=M
 have aY:Runs κ a₀ R st [] (arrOf st).toList:=⟨hO,rfl,by rw [hp]; rfl,fun r hr=>by simp at hr,fun r hr=>by simp at hr⟩
 refine wpS_bind (wpS_mono (wpS_forRange
  (I:=fun x c st' => ∃ rs rest,c=(none,rs.flatten.length)∧Runs κ a₀ R st' rs rest∧x≤rs.flatten.length)
  (Q:=fun c st' => ∃ rs lo,c=(none,lo)∧Runs κ a₀ R st' rs []) ?step ?fin ⟨[],_,rfl,aY,Nat.le_refl _⟩) ?post)
 case fin =>
  rintro c st' ⟨rs,rest,rfl,H,hx⟩
  have:=H.len
  have hr:rest=[]:=List.eq_nil_of_length_eq_zero (by omega)
  subst hr
  exact ⟨rs,_,rfl,H⟩
 case step =>
  rintro x c st' _ hx ⟨rs,rest,rfl,H,hxl⟩
  dsimp only
  have hlen0:=H.len
  by_cases hge:rs.flatten.length≥a₀.size
  ·rw [if_pos hge]
   have hr:rest=[]:=List.eq_nil_of_length_eq_zero (by omega)
   subst hr
   exact wpS_pure ⟨rs,_,rfl,H⟩
  rw [if_neg hge]
  refine wpS_bind (jy hL ha (by omega) (by omega) H.ok fun m st2 hF m1 m2 hs => ?_)
  dsimp only
  by_cases hlt:m < M
  ·rw [if_pos hlt]
   refine wpS_bind (wpS_lift (wpAny_rule ⟨rfl,?_⟩))
   refine wpS_bind (kA hL ha (by omega) (by omega) hF.ok hs fun st3 hF3 hs3 => ?_)
   have hF':jC κ a₀ rs.flatten.length st' st3:=⟨hF3.ok,hF3.pend.trans hF.pend,fun i hi=>(hF3.low i hi).trans (hF.low i hi)⟩
   simp only [Bool.not_true,Bool.false_eq_true,if_false]
   refine wpS_bind (wpS_get ?_)
   obtain ⟨run,rest',H3,hlen,hsr⟩:=H.run hF' rfl hs3 (by omega)
   have hl3:=H3.len
   have hl:=H.len
   rw [List.length_append] at hl3
   cases hb:(pendingOf st3).back? with
   | none =>
    dsimp only
    refine wpS_bind (wpS_modify (wpS_pure ⟨rs++[run],rest',?_,?_,?_⟩))
    ·rw [List.flatten_append,List.length_append]; simp [hlen]
    ·have:=H3.push hsr (by omega)
     rwa [hlen] at this
    ·rw [List.flatten_append,List.length_append,cI]; omega
   | some b =>
    obtain ⟨s1,n1,b3⟩:=b
    dsimp only
    refine wpS_bind (wpS_mono (wpS_forRange (I:=fun _ c st4=>c=(none,()) ∧ ∃ rs',Runs κ a₀ R st4 rs' (run++rest'))
     (Q:=fun c st4=>c=(none,()) ∧ ∃ rs',Runs κ a₀ R st4 rs' (run++rest')) ?istep (fun _ _ hh=>hh) ⟨rfl,rs,H3⟩) ?ipost)
    case istep =>
     rintro _ c st4 _ _ ⟨rfl,rs',H4⟩
     refine wpS_bind (wpS_get ?_)
     have hz:=H4.size
     by_cases hgt:(pendingOf st4).size > 1
     ·rw [if_pos hgt,getElem?_pos (pendingOf st4) _ (show (pendingOf st4).size - 2 < (pendingOf st4).size by omega)]
      dsimp only
      split
      ·exact wpS_pure ⟨rfl,rs',H4⟩
      ·obtain ⟨r1,u,v,r2,rfl,hr1⟩:=cX (show (pendingOf st4).size - 2+1 < rs'.length by omega)
       refine wpS_bind (dQ hL H4 hr1.symm fun st5 m H5 => ?_)
       exact wpS_pure ⟨rfl,_,H5⟩
     ·rw [if_neg hgt]
      exact wpS_pure ⟨rfl,rs',H4⟩
    case ipost =>
     rintro c st4 ⟨rfl,rs',H4⟩
     dsimp only
     have hl4:=H4.len
     rw [List.length_append] at hl4
     have hlo:rs'.flatten.length=rs.flatten.length:=by omega
     refine wpS_bind (wpS_modify (wpS_bind (wpS_modify (wpS_pure ⟨rs'++[run],rest',?_,?_,?_⟩))))
     ·rw [List.flatten_append,List.length_append]; simp [hlen,hlo]
     ·have:=(H4.pow ((pendingOf st4).size - 1) (power' a₀.size (2 * s1+n1) (2 * s1+n1+n1+min (a₀.size - rs.flatten.length) M) a₀.size)).push hsr (by omega)
      rwa [hlen,hlo] at this
     ·rw [List.flatten_append,List.length_append,cI]; omega
  ·rw [if_neg hlt]
   refine wpS_bind (wpS_get ?_)
   obtain ⟨run,rest',H3,hlen,hsr⟩:=H.run hF rfl hs (by omega)
   have hl3:=H3.len
   have hl:=H.len
   rw [List.length_append] at hl3
   cases hb:(pendingOf st2).back? with
   | none =>
    dsimp only
    refine wpS_bind (wpS_modify (wpS_pure ⟨rs++[run],rest',?_,?_,?_⟩))
    ·rw [List.flatten_append,List.length_append]; simp [hlen]
    ·have:=H3.push hsr (by omega)
     rwa [hlen] at this
    ·rw [List.flatten_append,List.length_append,cI]; omega
   | some b =>
    obtain ⟨s1,n1,b3⟩:=b
    dsimp only
    refine wpS_bind (wpS_mono (wpS_forRange (I:=fun _ c st4=>c=(none,()) ∧ ∃ rs',Runs κ a₀ R st4 rs' (run++rest'))
     (Q:=fun c st4=>c=(none,()) ∧ ∃ rs',Runs κ a₀ R st4 rs' (run++rest')) ?istep (fun _ _ hh=>hh) ⟨rfl,rs,H3⟩) ?ipost)
    case istep =>
     rintro _ c st4 _ _ ⟨rfl,rs',H4⟩
     refine wpS_bind (wpS_get ?_)
     have hz:=H4.size
     by_cases hgt:(pendingOf st4).size > 1
     ·rw [if_pos hgt,getElem?_pos (pendingOf st4) _ (show (pendingOf st4).size - 2 < (pendingOf st4).size by omega)]
      dsimp only
      split
      ·exact wpS_pure ⟨rfl,rs',H4⟩
      ·obtain ⟨r1,u,v,r2,rfl,hr1⟩:=cX (show (pendingOf st4).size - 2+1 < rs'.length by omega)
       refine wpS_bind (dQ hL H4 hr1.symm fun st5 m H5 => ?_)
       exact wpS_pure ⟨rfl,_,H5⟩
     ·rw [if_neg hgt]
      exact wpS_pure ⟨rfl,rs',H4⟩
    case ipost =>
     rintro c st4 ⟨rfl,rs',H4⟩
     dsimp only
     have hl4:=H4.len
     rw [List.length_append] at hl4
     have hlo:rs'.flatten.length=rs.flatten.length:=by omega
     refine wpS_bind (wpS_modify (wpS_bind (wpS_modify (wpS_pure ⟨rs'++[run],rest',?_,?_,?_⟩))))
     ·rw [List.flatten_append,List.length_append]; simp [hlen,hlo]
     ·have:=(H4.pow ((pendingOf st4).size - 1) (power' a₀.size (2 * s1+n1) (2 * s1+n1+n1+m) a₀.size)).push hsr (by omega)
      rwa [hlen,hlo] at this
     ·rw [List.flatten_append,List.length_append,cI]; omega
 case post =>
  rintro c st' ⟨rs,lo,rfl,H⟩
  dsimp only
  have hl:=H.len
  have hcount:rs.length≤rs.flatten.length:=by
   have : ∀ rs:List (List Keyed),(∀ r∈rs,1≤r.length)→rs.length≤rs.flatten.length:=by
    intro rs
    induction rs with
    | nil=>intro _; simp
    | cons r rs ih =>
     intro hr
     have a1:=ih fun q hq=>hr q (List.mem_cons_of_mem _ hq)
     have a2:=hr r (List.mem_cons_self ..)
     rw [List.flatten_cons,List.length_append,List.length_cons]; omega
   exact this rs H.pos
  refine wpS_bind (wpS_mono (wpS_forRange (I:=fun x c st4=>c=(none,()) ∧ ∃ rs',Runs κ a₀ R st4 rs' []∧rs'.length+x≤a₀.size)
   (Q:=fun c st4=>c=(none,()) ∧ ∃ rs',Runs κ a₀ R st4 rs' []∧rs'.length≤1) ?istep ?ifin ⟨rfl,rs,H,by rw [List.length_nil] at hl; omega⟩) ?ipost)
  case ifin =>
   rintro c st4 ⟨rfl,rs',H4,hc⟩
   exact ⟨rfl,rs',H4,by omega⟩
  case istep =>
   rintro y c st4 _ _ ⟨rfl,rs',H4,hc⟩
   refine wpS_bind (wpS_get ?_)
   have hz:=H4.size
   by_cases hle:(pendingOf st4).size≤1
   ·rw [if_pos hle]
    exact wpS_pure ⟨rfl,rs',H4,by omega⟩
   rw [if_neg hle]
   have go : ∀ i,i+1 < (pendingOf st4).size → ∀ (f:Bool→StateT SortSt Sem (ForInStep (Option Unit×Unit))) (P:ForInStep (Option Unit×Unit)→SortSt→Prop),f true=pure (.yield (none,())) →
     (∀ st5 rs',Runs κ a₀ R st5 rs' []→rs'.length+(y+1)≤a₀.size→P (.yield (none,())) st5)→wpS (model prog w) A E s (mergeAt' i >>= f) P st4:=by
    intro i hi f P hf hP
    obtain ⟨r1,u,v,r2,rfl,hr1⟩:=cX (show i+1 < rs'.length by omega)
    refine wpS_bind (dQ hL H4 hr1.symm fun st5 m H5 => ?_)
    rw [hf]
    refine wpS_pure (hP _ _ H5 ?_)
    simp only [List.length_append,List.length_cons] at hc ⊢
    omega
   refine go _ ?_ _ _ ?_ fun st5 rs' H5 hc5=>⟨rfl,rs',H5,hc5⟩
   rotate_left
   ·rfl
   split
   ·split <;> omega
   ·rw [if_neg (by simp)]; omega
  case ipost =>
   rintro c st4 ⟨rfl,rs',H4,hc⟩
   refine wpS_pure (h st4 H4.ok.perm H4.ok.failed ?_)
   rw [H4.arr,List.append_nil]
   match rs',hc,H4.srt with
   | [],_,_=>exact List.Pairwise.nil
   | [r],_,hs=>rw [List.flatten_cons,List.flatten_nil,List.append_nil]; exact hs r (by simp)
end
end Tim
set_option autoImplicit false
namespace Ord'
section
variable {α:Type} [DecidableEq α]
def lx (lt:α→α→Bool):List α→List α→Bool
 | [],[]=>false
 | [],_::_=>true
 | _::_,[]=>false
 | x::xs,y::ys=>if x=y then lx lt xs ys else lt x y
structure Tot {β:Type} (lt:β→β→Bool):Prop where
 irr : ∀ a,lt a a=false
 tr : ∀ a b c,lt a b=true→lt b c=true→lt a c=true
 tot : ∀ a b,lt a b=false→lt b a=false→a=b
theorem Tot.asymm {β:Type} {lt:β→β→Bool} (t:Tot lt) {a b:β} (h:lt a b=true):lt b a=false:=by
 cases q:lt b a with
 | false=>rfl
 | true=>have:=t.tr _ _ _ h q; rw [t.irr] at this; cases this
theorem j7 {lt:α→α→Bool} (t:Tot lt):Tot (lx lt) where
 irr:=fun a=>by
  induction a with
  | nil=>rfl
  | cons x xs ih=>rw [lx,if_pos rfl]; exact ih
 tr:=fun a=>by
  induction a with
  | nil =>
   intro b c h1 h2
   cases b with
   | nil=>cases h1
   | cons y ys =>
    cases c with
    | nil=>cases h2
    | cons z zs=>rfl
  | cons x xs ih =>
   intro b c h1 h2
   cases b with
   | nil=>cases h1
   | cons y ys =>
    cases c with
    | nil=>cases h2
    | cons z zs =>
     rw [lx] at h1 h2 ⊢
     by_cases q1:x=y
     ·subst q1
      rw [if_pos rfl] at h1
      by_cases q2:x=z
      ·subst q2
       rw [if_pos rfl] at h2 ⊢
       exact ih _ _ h1 h2
      ·rw [if_neg q2] at h2 ⊢
       exact h2
     ·rw [if_neg q1] at h1
      by_cases q2:y=z
      ·subst q2
       rw [if_neg q1]; exact h1
      ·rw [if_neg q2] at h2
       have q3:x≠z:=fun e=>by
        subst e
        rw [t.asymm h1] at h2; cases h2
       rw [if_neg q3]
       exact t.tr _ _ _ h1 h2
 tot:=fun a=>by
  induction a with
  | nil =>
   intro b h1 h2
   cases b with
   | nil=>rfl
   | cons y ys=>cases h1
  | cons x xs ih =>
   intro b h1 h2
   cases b with
   | nil=>cases h2
   | cons y ys =>
    rw [lx] at h1 h2
    by_cases q1:x=y
    ·subst q1
     rw [if_pos rfl] at h1 h2
     rw [ih _ h1 h2]
    ·rw [if_neg q1] at h1
     rw [if_neg fun e=>q1 e.symm] at h2
     exact absurd (t.tot _ _ h1 h2) q1
def ltI (a b:Int):Bool:=decide (a < b)
theorem la:Tot ltI where
 irr:=fun a=>by simp [ltI]
 tr:=fun a b c h1 h2=>by simp only [ltI,decide_eq_true_eq] at *; omega
 tot:=fun a b h1 h2=>by simp only [ltI,decide_eq_false_iff_not] at *; omega
def ltR:List Int→List Int→Bool:=lx ltI
def ltP:List (List Int)→List (List Int)→Bool:=lx ltR
theorem k9:Tot ltR:=j7 la
theorem cN:Tot ltP:=j7 k9
end
section
variable {β:Type} (lt:β→β→Bool) (L:List β)
def bu (k:β):Nat:=L.countP fun x=>lt x k
variable {lt}
theorem eW {p q:β→Bool} : ∀ {l:List β},(∀ x∈l,p x=true→q x=true)→(∃ x∈l,q x=true∧p x=false)→l.countP p < l.countP q
 | [],_,h=>by obtain ⟨x,hx,_⟩:=h; simp at hx
 | y::l,hm,h=>by
  rw [List.countP_cons,List.countP_cons]
  have mono:l.countP p≤l.countP q:=List.countP_mono_left fun x hx hp=>hm x (by simp [hx]) hp
  obtain ⟨x,hx,h1,h2⟩:=h
  rcases List.mem_cons.mp hx with rfl | hx
  ·rw [h1,h2]; simp; omega
  ·have:=eW (l:=l) (fun x hx=>hm x (by simp [hx])) ⟨x,hx,h1,h2⟩
   by_cases q1:p y=true
   ·rw [q1,hm y (by simp) q1]; simp; omega
   ·rw [if_neg q1]; split <;> omega
theorem dr (t:Tot lt) {a b:β} (ha:a∈L) (hb:b∈L):lt a b=decide ((bu lt L a:Int) < bu lt L b):=by
 have up : ∀ {a b:β},a∈L→lt a b=true→bu lt L a < bu lt L b:=fun {a b} ha h=>eW (fun x _ hx=>t.tr _ _ _ hx h) ⟨a,ha,h,t.irr a⟩
 cases h:lt a b with
 | true=>have:=up ha h; simp; omega
 | false =>
  symm
  rw [decide_eq_false_iff_not]
  intro hlt
  cases h2:lt b a with
  | true=>have:=up hb h2; omega
  | false=>have:=t.tot _ _ h h2; subst this; omega
theorem f9 (t:Tot lt) {a b:β} (ha:a∈L) (hb:b∈L) (h:bu lt L a=bu lt L b):a=b:=by
 have h1:=dr L t ha hb
 have h2:=dr L t hb ha
 rw [h] at h1 h2
 simp at h1 h2
 exact t.tot _ _ h1 h2
theorem df (t:Tot lt) : ∀ {l m:List β},l.Pairwise (fun a b=>lt a b=true)→m.Pairwise (fun a b=>lt a b=true)→(∀ x,x∈l↔x∈m)→l=m
 | [],[],_,_,_=>rfl
 | [],y::m,_,_,h=>by have:=(h y).mpr (by simp); simp at this
 | x::l,[],_,_,h=>by have:=(h x).mp (by simp); simp at this
 | x::l,y::m,hl,hm,h=>by
  obtain ⟨l1,l2⟩:=List.pairwise_cons.mp hl
  obtain ⟨m1,m2⟩:=List.pairwise_cons.mp hm
  have e:x=y:=by
   rcases List.mem_cons.mp ((h x).mp (by simp)) with e | e
   ·exact e
   ·rcases List.mem_cons.mp ((h y).mpr (by simp)) with e' | e'
    ·exact e'.symm
    ·have a1:=m1 x e
     have a2:=l1 y e'
     rw [t.asymm a1] at a2; cases a2
  subst e
  congr 1
  refine df t l2 m2 fun z => ?_
  have nl : ∀ {l:List β},(∀ y∈l,lt x y=true)→x∉l:=fun {l} q z=>by have:=q x z; rw [t.irr] at this; cases this
  constructor
  ·intro hz
   rcases List.mem_cons.mp ((h z).mp (List.mem_cons_of_mem _ hz)) with e | e
   ·subst e; exact absurd hz (nl l1)
   ·exact e
  ·intro hz
   rcases List.mem_cons.mp ((h z).mpr (List.mem_cons_of_mem _ hz)) with e | e
   ·subst e; exact absurd hz (nl m1)
   ·exact e
end
end Ord'
set_option autoImplicit false
namespace Tab
open PySem PySem.SetTable
def it (M:Nat):Nat→Nat→Nat
 | 0,x=>x
 | n+1,x=>(5 * it M n x+1) % M
theorem kl (M:Nat) : ∀ (a b x:Nat),it M (a+b) x=it M a (it M b x)
 | 0,b,x=>by rw [Nat.zero_add]; rfl
 | a+1,b,x=>by rw [show a+1+b=(a+b)+1 by omega,it,it,kl M a b x]
def fU:Nat→Nat
 | 0=>0
 | n+1=>5 * fU n+1
theorem ke {M d:Nat} (hd:d ∣ M) : ∀ (n x:Nat),it M n x % d=(5 ^ n * x+fU n) % d
 | 0,x=>by simp [it,fU]
 | n+1,x=>by
  rw [it,Nat.mod_mod_of_dvd _ hd,fU,Nat.pow_succ]
  have ih:=ke hd n x
  rw [Nat.add_mod,Nat.mul_mod,ih,← Nat.mul_mod,← Nat.add_mod]
  congr 1
  rw [Nat.mul_add,← Nat.mul_assoc,Nat.mul_comm 5 (5 ^ n)]; omega
theorem oj : ∀ k,k < 12→5 ^ 2 ^ k % 2 ^ (k+1)=1∧fU (2 ^ k) % 2 ^ (k+1)=2 ^ k:=by
 have sB : ∀ n,4 * fU n+1=5 ^ n:=by
  intro n
  induction n with
  | zero=>rfl
  | succ n ih=>rw [fU,Nat.pow_succ,← ih]; omega
 have e : ∀ n,fU n=(5 ^ n - 1) / 4:=fun n=>by have:=sB n; omega
 intro k hk
 rw [e]
 match k,hk with
 | 0,_ | 1,_ | 2,_ | 3,_ | 4,_ | 5,_ | 6,_ | 7,_ | 8,_ | 9,_ | 10,_ | 11,_=>decide +kernel
theorem mv {M k x:Nat} (hk:k < 12) (hd:2 ^ (k+1) ∣ M):it M (2 ^ k) x % 2 ^ (k+1)=(x+2 ^ k) % 2 ^ (k+1):=by
 obtain ⟨h1,h2⟩:=oj k hk
 rw [ke hd,Nat.add_mod,Nat.mul_mod,h1,h2,Nat.one_mul,Nat.mod_mod,Nat.add_mod x,Nat.mod_eq_of_lt (show 2 ^ k < 2 ^ (k+1) by rw [Nat.pow_succ]; have:=Nat.two_pow_pos k; omega)]
theorem kj {m:Nat} (hm:m≤12) (x j:Nat) : ∀ k,k≤m → ∃ l,l < 2 ^ k∧it (2 ^ m) l x % 2 ^ k=j % 2 ^ k
 | 0,_=>⟨0,by simp,by simp [Nat.mod_one]⟩
 | k+1,hk=>by
  obtain ⟨l,hl,e⟩:=kj hm x j k (by omega)
  have hp:(2:Nat) ^ (k+1)=2 * 2 ^ k:=by rw [Nat.pow_succ]; omega
  have h2:=Nat.two_pow_pos k
  by_cases q:it (2 ^ m) l x % 2 ^ (k+1)=j % 2 ^ (k+1)
  ·exact ⟨l,by omega,q⟩
  ·refine ⟨2 ^ k+l,by omega,?_⟩
   rw [kl,mv (by omega) (Nat.pow_dvd_pow 2 hk)]
   generalize it (2 ^ m) l x=y at e q ⊢
   rw [hp] at q ⊢
   generalize 2 ^ k=d at e q h2 ⊢
   have a1:=Nat.mod_add_div y d
   have a2:=Nat.mod_add_div j d
   have ey:y % (2 * d)=y % d+d * (y / d % 2):=by rw [Nat.mul_comm 2 d]; exact Nat.mod_mul
   have ej:j % (2 * d)=j % d+d * (j / d % 2):=by rw [Nat.mul_comm 2 d]; exact Nat.mod_mul
   have ez:(y+d) % (2 * d)=(y+d) % d+d * ((y+d) / d % 2):=by rw [Nat.mul_comm 2 d]; exact Nat.mod_mul
   rw [Nat.add_mod_right,Nat.add_div_right _ h2] at ez
   rw [ey,ej] at q
   rw [ez,ej,e]
   have c1:y / d % 2=0∨y / d % 2=1:=by omega
   have c2:j / d % 2=0∨j / d % 2=1:=by omega
   rw [e] at q
   have c3:(y / d+1) % 2=1 - y / d % 2:=by omega
   show _+d * ((y / d+1) % 2)=_
   rw [c3]
   rcases c1 with c1 | c1 <;> rcases c2 with c2 | c2 <;> rw [c1,c2] at q ⊢ <;> simp at q ⊢
theorem nq {M x:Nat} (h:x < M) : ∀ n,it M n x < M
 | 0=>h
 | n+1=>Nat.mod_lt _ (by omega)
theorem ki {m x j:Nat} (hm:m≤12) (hx:x < 2 ^ m) (hj:j < 2 ^ m) : ∃ l,l < 2 ^ m∧it (2 ^ m) l x=j:=by
 obtain ⟨l,hl,e⟩:=kj hm x j m (Nat.le_refl _)
 rw [Nat.mod_eq_of_lt (nq hx l),Nat.mod_eq_of_lt hj] at e
 exact ⟨l,hl,e⟩
def ah (t:SetTable) (h:Int):Nat→Probe
 | 0=>t.probeStart h
 | n+1=>t.advance (ah t h n)
def block (M:Nat) (h:Int):Nat→Nat×Nat
 | 0=>(bits h % M,bits h)
 | l+1=>leap (M - 1) (block M h l).1 (block M h l).2
theorem c8 {t t':SetTable} (e:t.mask=t'.mask) (h:Int) : ∀ n,ah t h n=ah t' h n
 | 0=>by simp only [ah,probeStart,e]
 | n+1=>by simp only [ah,c8 e h n,advance,e]
theorem gH (t:SetTable) (h:Int) : ∀ l,∃ n,n≤10 * l∧ah t h n={ j:=(block (t.mask+1) h l).1,more:=runEnd t.mask (block (t.mask+1) h l).1 - (block (t.mask+1) h l).1,i:=(block (t.mask+1) h l).1,perturb:=(block (t.mask+1) h l).2,dummy:=none }
 | 0=>⟨0,by omega,rfl⟩
 | l+1=>by
  obtain ⟨n,hn,e⟩:=gH t h l
  have go : ∀ k,k≤runEnd t.mask (block (t.mask+1) h l).1 - (block (t.mask+1) h l).1→ah t h (n+k)={ j:=(block (t.mask+1) h l).1+k,more:=runEnd t.mask (block (t.mask+1) h l).1 - (block (t.mask+1) h l).1 - k,i:=(block (t.mask+1) h l).1,perturb:=(block (t.mask+1) h l).2,dummy:=none }:=by
   intro k
   induction k with
   | zero=>intro _; exact e
   | succ k ih =>
    intro hk
    show t.advance (ah t h (n+k))=_
    rw [ih (by omega)]
    unfold advance
    rw [if_pos (by show _ > 0; dsimp only; omega)]
    simp only [Probe.mk.injEq,and_self,and_true]
    omega
  have hr:runEnd t.mask (block (t.mask+1) h l).1 - (block (t.mask+1) h l).1≤9:=by unfold runEnd; split <;> omega
  refine ⟨n+(runEnd t.mask (block (t.mask+1) h l).1 - (block (t.mask+1) h l).1)+1,by omega,?_⟩
  show t.advance (ah t h (n+_))=_
  rw [go _ (Nat.le_refl _)]
  unfold advance
  rw [if_neg (by show ¬ _ > 0; dsimp only; omega)]
  rfl
theorem ff (M:Nat) (h:Int) : ∀ l,(block M h l).2=bits h / 32 ^ l
 | 0=>by simp [block]
 | l+1=>by
  show (block M h l).2 / 32=_
  rw [ff M h l,Nat.div_div_eq_div_mul,Nat.pow_succ]
theorem lA (h:Int):bits h < 2 ^ 64:=by
 unfold bits; omega
theorem ec {M:Nat} (hM:1≤M) (h:Int) : ∀ n,(block M h (12+n)).1=it M n (block M h 12).1
 | 0=>rfl
 | n+1=>by
  have h0:(block M h (12+n)).2 / 32=0:=by
   rw [ff,Nat.div_div_eq_div_mul,← Nat.pow_succ]
   refine Nat.div_eq_of_lt (Nat.lt_of_lt_of_le (lA h) ?_)
   exact Nat.le_trans (show 2 ^ 64≤32 ^ 13 by decide +kernel) (Nat.pow_le_pow_right (by omega) (by omega))
  show ((block M h (12+n)).1 * 5+1+(block M h (12+n)).2 / 32) % (M - 1+1)=_
  rw [h0,it,← ec hM h n,Nat.add_zero,Nat.mul_comm,show M - 1+1=M by omega]
theorem d9 {M:Nat} (hM:1≤M) (h:Int) : ∀ l,(block M h l).1 < M
 | 0=>Nat.mod_lt _ hM
 | l+1=>by
  show _ % (M - 1+1) < M
  rw [show M - 1+1=M by omega]; exact Nat.mod_lt _ hM
theorem nG {t:SetTable} {m:Nat} (hm:m≤12) (ht:t.mask+1=2 ^ m) (h:Int) {j:Nat} (hj:j < 2 ^ m) : ∃ n,n < 10 * turns t.mask∧(ah t h n).j=j∧(ah t h n).dummy=none:=by
 have hM:1≤t.mask+1:=by omega
 obtain ⟨l,hl,e⟩:=ki hm (show (block (t.mask+1) h 12).1 < 2 ^ m by rw [← ht]; exact d9 hM h 12) hj
 rw [← ht] at e
 obtain ⟨n,hn,e2⟩:=gH t h (12+l)
 refine ⟨n,by unfold turns; omega,?_,by rw [e2]⟩
 rw [e2]
 show (block (t.mask+1) h (12+l)).1=j
 rw [ec hM,e]
theorem cv (t:SetTable) (h:Int) : ∀ n,(ah t h n).dummy=none
 | 0=>rfl
 | n+1=>by
  show (t.advance (ah t h n)).dummy=none
  unfold advance
  split
  ·exact cv t h n
  ·exact cv t h n
end Tab
set_option autoImplicit false
namespace Tab
open PySem PySem.SetTable
def Rise (xs:Array Nat):Prop:=xs.toList.Pairwise (· < ·)
theorem Rise.lt {xs:Array Nat} (h:Rise xs) {i j a b:Nat} (ij:i < j) (hi:xs[i]?=some a) (hj:xs[j]?=some b):a < b:=by
 rw [← Array.getElem?_toList] at hi hj
 obtain ⟨h1,rfl⟩:=List.getElem?_eq_some_iff.mp hi
 obtain ⟨h2,rfl⟩:=List.getElem?_eq_some_iff.mp hj
 exact List.pairwise_iff_getElem.mp h i j h1 h2 ij
theorem em {xs:Array Nat} (hr:Rise xs) (j:Nat) : ∀ (f lo hi:Nat),hi - lo≤f→lo≤hi→hi≤xs.size→(∀ i a,i < lo→xs[i]?=some a→a < j)→(∀ i a,hi≤i→xs[i]?=some a→j≤a) →
  below.go xs j f lo hi≤xs.size∧(∀ i a,i < below.go xs j f lo hi→xs[i]?=some a→a < j)∧(∀ i a,below.go xs j f lo hi≤i→xs[i]?=some a→j≤a)
 | 0,lo,hi,hf,h1,h2,h3,h4=>by
  have:lo=hi:=by omega
  subst this
  exact ⟨h2,h3,h4⟩
 | f+1,lo,hi,hf,h1,h2,h3,h4=>by
  unfold below.go
  by_cases q:lo < hi
  ·rw [if_pos q]
   dsimp only
   have hmid:(lo+hi) / 2 < xs.size:=by omega
   have e:xs[(lo+hi) / 2]?=some (xs.getD ((lo+hi) / 2) j):=by
    rw [Array.getD_eq_getD_getElem?,Array.getElem?_eq_getElem hmid]; rfl
   by_cases q2:xs.getD ((lo+hi) / 2) j < j
   ·rw [if_pos q2]
    refine em hr j f _ _ (by omega) (by omega) h2 (fun i a hi' ha => ?_) h4
    by_cases q3:i=(lo+hi) / 2
    ·subst q3; rw [e] at ha; cases ha; exact q2
    ·exact Nat.lt_trans (hr.lt (show i < (lo+hi) / 2 by omega) ha e) q2
   ·rw [if_neg q2]
    refine em hr j f _ _ (by omega) (by omega) (by omega) h3 fun i a hi' ha => ?_
    by_cases q3:i=(lo+hi) / 2
    ·subst q3; rw [e] at ha; cases ha; omega
    ·have:=hr.lt (show (lo+hi) / 2 < i by omega) e ha
     omega
  ·rw [if_neg q]
   have:lo=hi:=by omega
   subst this
   exact ⟨h2,h3,h4⟩
theorem ee {xs:Array Nat} (hr:Rise xs) (j:Nat):below xs j≤xs.size∧(∀ i a,i < below xs j→xs[i]?=some a→a < j)∧(∀ i a,below xs j≤i→xs[i]?=some a→j≤a) :=
 em hr j _ _ _ (Nat.le_refl _) (Nat.zero_le _) (Nat.le_refl _) (fun i a h=>by omega) fun i a h e=>by
  rw [Array.getElem?_eq_none h] at e; cases e
theorem kC {xs:Array Nat} (hr:Rise xs) {i j:Nat} (h:xs[i]?=some j):below xs j=i:=by
 obtain ⟨h1,h2,h3⟩:=ee hr j
 rcases Nat.lt_trichotomy (below xs j) i with q | q | q
 ·have hb:below xs j < xs.size:=by
   have:i < xs.size:=by
    rcases Nat.lt_or_ge i xs.size with z | z
    ·exact z
    ·rw [Array.getElem?_eq_none z] at h; cases h
   omega
  have e:=Array.getElem?_eq_getElem hb
  have a1:=hr.lt q e h
  have a2:=h3 _ _ (Nat.le_refl _) e
  omega
 ·exact q
 ·have:=h2 i j q h; omega
theorem bj {t:SetTable} (hr:Rise t.place) {i j:Nat} (h:t.place[i]?=some j):t.slot j = .live i:=by
 unfold slot
 dsimp only
 rw [kC hr h,h,if_pos (by simp)]
theorem kH {t:SetTable} (hd:t.dummies = #[]) {j:Nat} (h:j∉t.place.toList):t.slot j = .empty:=by
 unfold slot
 dsimp only
 rw [if_neg,if_neg]
 ·unfold has; rw [hd]; simp
 ·intro q
  have e:=eq_of_beq q
  rw [← Array.getElem?_toList] at e
  exact h (List.mem_of_getElem? e)
theorem kI {t:SetTable} (hr:Rise t.place) {j:Nat} (h:j∈t.place.toList) : ∃ i,t.place[i]?=some j∧t.slot j = .live i:=by
 obtain ⟨i,hi,e⟩:=List.getElem_of_mem h
 have:t.place[i]?=some j:=by rw [← Array.getElem?_toList,List.getElem?_eq_getElem hi,e]
 exact ⟨i,this,bj hr this⟩
structure eu (t:SetTable) (m:Nat) (hs:List Int):Prop where
 lo:3≤m
 hi:m≤11
 mask:t.mask+1=2 ^ m
 dum:t.dummies = #[]
 len:t.place.size=hs.length
 rise:Rise t.place
 top : ∀ j∈t.place.toList,j < 2 ^ m
 reach : ∀ (i:Nat) (h:Int),hs[i]?=some h → ∃ n,t.place[i]?=some (ah t h n).j ∧ ∀ k,k < n→(ah t h k).j∈t.place.toList
theorem iK : ∀ (l:List Nat) (b:Nat),l.Pairwise (· < ·)→(∀ x∈l,b≤x) → ∃ j,b≤j∧j≤b+l.length∧j∉l
 | [],b,_,_=>⟨b,Nat.le_refl _,by simp,by simp⟩
 | x::r,b,hp,hb=>by
  obtain ⟨p1,p2⟩:=List.pairwise_cons.mp hp
  by_cases q:x=b
  ·subst q
   obtain ⟨j,h1,h2,h3⟩:=iK r (x+1) p2 fun y hy=>p1 y hy
   refine ⟨j,by omega,by rw [List.length_cons]; omega,?_⟩
   intro z
   rcases List.mem_cons.mp z with z | z
   ·omega
   ·exact h3 z
  ·refine ⟨b,Nat.le_refl _,by omega,?_⟩
   have hx:=hb x (by simp)
   intro z
   rcases List.mem_cons.mp z with z | z
   ·omega
   ·have:=p1 b z; omega
theorem no (p:Nat→Prop) [DecidablePred p] : ∀ n,p n → ∃ m,m≤n∧p m ∧ ∀ k,k < m → ¬ p k
 | 0,h=>⟨0,Nat.le_refl _,h,fun k hk=>by omega⟩
 | n+1,h=>by
  by_cases q : ∃ k,k < n+1∧p k
  ·obtain ⟨k,hk,pk⟩:=q
   by_cases q2:k=n+1
   ·omega
   ·have : ∃ k',k'≤n∧p k':=⟨k,by omega,pk⟩
    clear q2 pk hk k
    obtain ⟨k',hk',pk'⟩:=this
    have go : ∀ k',k'≤n→p k' → ∃ m,m≤n+1∧p m ∧ ∀ k,k < m → ¬ p k:=by
     intro k'
     induction k' using Nat.strongRecOn with
     | ind k' ih =>
      intro h1 h2
      by_cases z : ∃ k,k < k'∧p k
      ·obtain ⟨k,z1,z2⟩:=z
       exact ih k z1 (by omega) z2
      ·exact ⟨k',by omega,h2,fun k hk hp=>z ⟨k,hk,hp⟩⟩
    exact go k' hk' pk'
  ·exact ⟨n+1,Nat.le_refl _,h,fun k hk hp=>q ⟨k,hk,hp⟩⟩
theorem io {t:SetTable} {m:Nat} {hs:List Int} (g:eu t m hs) (hl:hs.length < 2 ^ m) (h:Int) :
  ∃ N,N < 10 * turns t.mask∧(ah t h N).j∉t.place.toList∧(ah t h N).j < 2 ^ m ∧ ∀ k,k < N→(ah t h k).j∈t.place.toList:=by
 obtain ⟨j,_,j2,j3⟩:=iK t.place.toList 0 g.rise fun x _=>Nat.zero_le x
 rw [Array.length_toList,g.len] at j2
 obtain ⟨n,hn,e,_⟩:=nG (by have:=g.hi; omega) g.mask h (show j < 2 ^ m by omega)
 obtain ⟨N,h1,h2,h3⟩:=no (fun n=>(ah t h n).j∉t.place.toList) n (by rw [e]; exact j3)
 refine ⟨N,by omega,h2,?_,fun k hk=>Classical.not_not.mp (h3 k hk)⟩
 rw [← g.mask]
 have : ∀ n,(ah t h n).j+(ah t h n).more < t.mask+1:=by
  intro n
  have blk : ∀ i,i < t.mask+1→i+(runEnd t.mask i - i) < t.mask+1:=fun i hi=>by unfold runEnd; split <;> omega
  induction n with
  | zero=>exact blk _ (Nat.mod_lt _ (by omega))
  | succ n ih =>
   show (t.advance (ah t h n)).j+(t.advance (ah t h n)).more < _
   unfold advance
   split
   ·dsimp only; omega
   ·exact blk _ (Nat.mod_lt _ (by omega))
 have:=this N
 omega
theorem lN {t:SetTable} {m:Nat} {hs:List Int} (g:eu t m hs) {hashAt:Nat→Int} {h:Int} {N:Nat} (hN:(ah t h N).j∉t.place.toList) (hb : ∀ k,k < N→(ah t h k).j∈t.place.toList) :
  ∀ (f n:Nat),n≤N→N - n < f →
   (probe.go t hashAt h f (ah t h n)=some (.empty (ah t h N).j none) ∧ ∀ k i,n≤k→k < N→t.place[i]?=some (ah t h k).j→hashAt i≠h) ∨
   ∃ k i,n≤k∧k < N∧t.place[i]?=some (ah t h k).j∧hashAt i=h∧probe.go t hashAt h f (ah t h n)=some (.candidate (ah t h k).j i (ah t h (k+1))) ∧
    ∀ k' i',n≤k'→k' < k→t.place[i']?=some (ah t h k').j→hashAt i'≠h
 | 0,n,_,hf=>by omega
 | f+1,n,hn,hf=>by
  unfold probe.go
  by_cases q:n=N
  ·subst q
   rw [kH g.dum hN]
   refine .inl ⟨?_,fun k i h1 h2=>by omega⟩
   show some (Met.empty (ah t h n).j (ah t h n).dummy)=_
   rw [cv]
  ·obtain ⟨i,hi,hs⟩:=kI g.rise (hb n (by omega))
   rw [hs]
   dsimp only
   have uniq : ∀ i',t.place[i']?=some (ah t h n).j→i'=i:=fun i' e=>by
    have:=bj g.rise e
    rw [hs] at this
    cases this; rfl
   by_cases q2:hashAt i=h
   ·rw [if_pos (by simpa using q2)]
    exact .inr ⟨n,i,Nat.le_refl _,by omega,hi,q2,rfl,fun k' i' h1 h2=>by omega⟩
   ·rw [if_neg (by simpa using q2)]
    rcases lN g hN hb f (n+1) (by omega) (by omega) with ⟨e,r⟩ | ⟨k,i',h1,h2,h3,h4,e,r⟩
    ·refine .inl ⟨e,fun k i' h1 h2 h3 => ?_⟩
     by_cases z:k=n
     ·subst z; rw [uniq i' h3]; exact q2
     ·exact r k i' (by omega) h2 h3
    ·refine .inr ⟨k,i',by omega,h2,h3,h4,e,fun k' i'' h5 h6 h7 => ?_⟩
     by_cases z:k'=n
     ·subst z; rw [uniq i'' h7]; exact q2
     ·exact r k' i'' (by omega) h6 h7
end Tab
namespace NwS
open PySem
def byText (w:World):Bool:=w.params.followText "set-order"
abbrev setObj (es:Array (Int×Value)) (ep:Nat) (t:SetTable):Obj:={ cls := .type "set",dict:=none,data := .set es ep t,slots := #[] }
section
variable {prog:Program} {w:World} {A:Around} {E:Value→Shared→Prop} {s:Shared}
theorem eJ {h:Heap} {a:Addr} {es es':Array (Int×Value)} {ep:Nat} {t t':SetTable} (ho:h.get? a=some (setObj es ep t)) :
  (h.update a (Obj.putSet es' t')).get? a=some (setObj es' (ep+1) t'):=by
 have:=Heap.get?_update_self (Obj.putSet es' t') ho (by rw [putSet_of es' t' rfl]; rfl)
 rw [putSet_of es' t' rfl] at this; exact this
end
end NwS
set_option autoImplicit false
namespace Tab
open PySem PySem.SetTable NwS
section
variable {prog:Program} {w:World} {K:Type} [DecidableEq K] (knd:HeapKind prog w K)
inductive Keyd (h:Heap):List K→List (Int×Value)→Prop
 | nil:Keyd h [] []
 | cons {k:K} {b:Addr} {ks:List K} {r:List (Int×Value)}:knd.is h k b→Keyd h ks r→Keyd h (k::ks) ((knd.hash k,.ref b)::r)
variable {knd}
theorem Keyd.length {h:Heap} {ks:List K} {r:List (Int×Value)} (x:Keyd knd h ks r):ks.length=r.length:=by
 induction x with
 | nil=>rfl
 | cons _ _ ih=>simp [ih]
theorem Keyd.get {h:Heap} {ks:List K} {r:List (Int×Value)} (x:Keyd knd h ks r) {i:Nat} {e:Int×Value} (he:r[i]?=some e) : ∃ k b,ks[i]?=some k∧e=(knd.hash k,.ref b)∧knd.is h k b:=by
 induction x generalizing i with
 | nil=>simp at he
 | @cons k b ks r h1 _ ih =>
  cases i with
  | zero=>simp at he; exact ⟨k,b,rfl,he.symm,h1⟩
  | succ i=>simpa using ih (by simpa using he)
theorem Keyd.at {h:Heap} {ks:List K} {r:List (Int×Value)} (x:Keyd knd h ks r) {i:Nat} {k:K} (hk:ks[i]?=some k) : ∃ b,r[i]?=some (knd.hash k,.ref b)∧knd.is h k b:=by
 induction x generalizing i with
 | nil=>simp at hk
 | @cons k' b ks r h1 _ ih =>
  cases i with
  | zero=>simp at hk; subst hk; exact ⟨b,rfl,h1⟩
  | succ i=>simpa using ih (by simpa using hk)
theorem Keyd.append {h:Heap} {k1 k2:List K} {r1 r2:List (Int×Value)} (x:Keyd knd h k1 r1) (y:Keyd knd h k2 r2):Keyd knd h (k1++k2) (r1++r2):=by
 induction x with
 | nil=>exact y
 | cons h1 _ ih=>exact .cons h1 ih
theorem Keyd.take {h:Heap} {ks:List K} {r:List (Int×Value)} (x:Keyd knd h ks r) : ∀ n,Keyd knd h (ks.take n) (r.take n):=by
 induction x with
 | nil=>intro n; simpa using Keyd.nil
 | cons h1 t ih =>
  intro n
  cases n with
  | zero=>exact .nil
  | succ n=>exact .cons h1 (ih n)
theorem Keyd.drop {h:Heap} {ks:List K} {r:List (Int×Value)} (x:Keyd knd h ks r) : ∀ n,Keyd knd h (ks.drop n) (r.drop n):=by
 induction x with
 | nil=>intro n; simpa using Keyd.nil
 | cons h1 t ih =>
  intro n
  cases n with
  | zero=>exact .cons h1 t
  | succ n=>exact ih n
def cc (knd:HeapKind prog w K):Prop := ∀ {A:Around} {E:Value→Shared→Prop} {s:Shared} {k:K} {a:Addr} {Q:Bool→Shared→Prop},knd.is s.heap k a→Q false s→wpAny (model prog w) A (ofAClassStatement 8 (.ref a)) Q E s
variable {A:Around} {E:Value→Shared→Prop} {s:Shared}
theorem kJ (hc:cc knd) {k:K} {b:Addr} (hk:knd.is s.heap k b) : ∀ (l:List Value) {Q:Bool→Shared→Prop},(∀ v∈l,∃ k' b',v = .ref b'∧knd.is s.heap k' b')→Q false s →
  wpAny (model prog w) A (searchCouldBeSeen (.ref b) l) Q E s:=by
 intro l Q hl h
 unfold searchCouldBeSeen
 refine wpAny_bind (wpAny_forIn_list _ (fun rest r s'=>r=(none,())∧s'=s ∧ ∀ v∈rest,∃ k' b',v = .ref b'∧knd.is s.heap k' b') _ ?_ ?_ _ _ ⟨rfl,rfl,hl⟩)
 ·rintro v rest r s' ⟨rfl,rfl,hall⟩
  obtain ⟨k',b',rfl,hk'⟩:=hall v (by simp)
  have go : ∀ v∈rest,∃ k' b',v=Value.ref b'∧knd.is s'.heap k' b':=fun v hv=>hall v (by simp [hv])
  dsimp only
  split
  ·exact wpAny_pure ⟨rfl,rfl,go⟩
  ·refine wpAny_bind (knd.quiet hk ?_)
   rw [if_neg (by simp)]
   refine wpAny_bind (knd.quiet hk' ?_)
   rw [if_neg (by simp)]
   refine wpAny_bind (hc hk ?_)
   rw [if_neg (by simp)]
   refine wpAny_bind (hc hk' ?_)
   rw [if_neg (by simp)]
   exact wpAny_pure ⟨rfl,rfl,go⟩
 ·rintro r s' ⟨rfl,rfl,_⟩
  exact wpAny_pure h
theorem jc (hc:cc knd) {a b:Addr} {es:Array (Int×Value)} {ep m:Nat} {t:SetTable} {ks:List K} {k:K} {Q:SetFound→Shared→Prop} (hu:knd.room A)
  (ho:s.heap.get? a=some (setObj es ep t)) (kd:Keyd knd s.heap ks es.toList) (g:eu t m (es.toList.map (·.1))) (hl:es.size < 2 ^ m) (hk:knd.is s.heap k b)
  (q1:k∈ks→Q (.there none) s)
  (q2:k∉ks → ∀ n,(ah t (knd.hash k) n).j∉t.place.toList→(ah t (knd.hash k) n).j < 2 ^ m→(∀ i,i < n→(ah t (knd.hash k) i).j∈t.place.toList)→Q (.free (ah t (knd.hash k) n).j false) s) :
  wpAny (model prog w) A (setSearch a (.ref b) (knd.hash k) true) Q E s:=by
 have hlen:(es.toList.map (·.1)).length < 2 ^ m:=by simpa using hl
 obtain ⟨N,hN,n1,n2,n3⟩:=io g hlen (knd.hash k)
 have hfit:t.fits es.size=true:=by
  have h1:=g.len
  rw [List.length_map,Array.length_toList] at h1
  have h2:=g.mask
  unfold SetTable.fits SetTable.fill
  rw [g.dum]
  simp [h1]; omega
 have hodd:t.gaveWay=false:=by
  have h2:=g.mask
  have h3:=g.lo
  unfold SetTable.gaveWay
  obtain ⟨q,rfl⟩ : ∃ q,m=q+1:=⟨m - 1,by omega⟩
  rw [Nat.pow_succ] at h2
  simp; omega
 have hN2:N < 100000:=by
  have h2:=g.mask
  have h4:=g.hi
  have:(2:Nat) ^ m≤2 ^ 11:=Nat.pow_le_pow_right (by omega) h4
  unfold turns at hN; omega
 have main : ∀ (f n:Nat) (st:Option Probe),N - n < f→n≤N→st.getD (t.probeStart (knd.hash k))=ah t (knd.hash k) n →
   (∀ (k' i:Nat),k' < n→t.place[i]?=some (ah t (knd.hash k) k').j→ks[i]?≠some k)→wpAny (model prog w) A (setSearchFrom a (.ref b) (knd.hash k) true f st) Q E s:=by
  intro f
  induction f with
  | zero=>intro n st h1; omega
  | succ f ih =>
   intro n st h1 h2 h3 h4
   unfold setSearchFrom
   refine wpAny_bind (wpAny_setState_of ho rfl hfit ?_)
   dsimp only
   rw [hodd,h3,if_neg (by simp)]
   rcases lN g (hashAt:=fun i=>(es[i]?.map (·.1)).getD 0) n1 n3 (10 * turns t.mask) n h2 (by omega) with ⟨e,r⟩ | ⟨k',i,g1,g2,g3,g4,e,r⟩
   ·have pe : ∀ f:Nat→Int,f=(fun i=>(es[i]?.map (·.1)).getD 0)→t.probe f (knd.hash k) (ah t (knd.hash k) n)=some (.empty (ah t (knd.hash k) N).j none):=by rintro f rfl; exact e
    rw [pe]
    rotate_left
    ·rfl
    dsimp only
    refine wpAny_pure (q2 (fun hm => ?_) N n1 n2 n3)
    obtain ⟨i,hi⟩:=List.getElem?_of_mem hm
    obtain ⟨b',e1,_⟩:=kd.at hi
    obtain ⟨n0,e2,e3⟩:=g.reach i (knd.hash k) (by rw [List.getElem?_map,e1]; rfl)
    have hin:(ah t (knd.hash k) n0).j∈t.place.toList:=by rw [← Array.getElem?_toList] at e2; exact List.mem_of_getElem? e2
    have hlt:n0 < N:=by
     rcases Nat.lt_trichotomy n0 N with z | z | z
     ·exact z
     ·subst z; exact absurd hin n1
     ·exact absurd (e3 N z) n1
    by_cases z:n0 < n
    ·exact h4 n0 i z e2 hi
    ·refine r n0 i (by omega) hlt e2 ?_
     rw [← Array.getElem?_toList,e1]; rfl
   ·have pe : ∀ f:Nat→Int,f=(fun i=>(es[i]?.map (·.1)).getD 0)→t.probe f (knd.hash k) (ah t (knd.hash k) n)=some (.candidate (ah t (knd.hash k) k').j i (ah t (knd.hash k) (k'+1))):=by rintro f rfl; exact e
    rw [pe]
    rotate_left
    ·rfl
    dsimp only
    have hlt:i < es.toList.length:=by
     have h1:i < t.place.size:=by
      rcases Nat.lt_or_ge i t.place.size with z | z
      ·exact z
      ·rw [Array.getElem?_eq_none z] at g3; cases g3
     have h2:=g.len
     rw [List.length_map] at h2
     omega
    obtain ⟨k2,b2,hki,hee,hk2⟩:=kd.get (List.getElem?_eq_getElem hlt)
    have hei:es[i]?=some (knd.hash k2,.ref b2):=by rw [← Array.getElem?_toList,List.getElem?_eq_getElem hlt,hee]
    have hsame:t.sameMemory t.moves t.mask=some true:=by unfold SetTable.sameMemory; rw [if_pos (by simp)]
    split
    ·refine wpAny_bind (kJ hc hk _ (fun v hv => ?_) ?_)
     ·obtain ⟨e',he',rfl⟩:=List.mem_map.mp hv
      have he2:e'∈es.toList:=by
       rw [Array.toList_filter] at he'
       exact (List.mem_filter.mp he').1
      obtain ⟨i',hi'⟩:=List.getElem?_of_mem he2
      obtain ⟨k3,b3,_,rfl,h3'⟩:=kd.get hi'
      exact ⟨k3,b3,rfl,h3'⟩
     ·rw [if_neg (by simp)]
      rw [hei]
      dsimp only
      refine wpAny_bind (wpAny_holding (knd.eqBool hu hk2 hk (wpAny_bind (wpAny_setState_of ho rfl hfit ?_))))
      dsimp only
      by_cases kk:k2=k
      ·rw [decide_eq_true kk,if_pos (by simp)]
       refine wpAny_pure (q1 ?_)
       rw [← kk]; exact List.mem_of_getElem? hki
      ·rw [decide_eq_false kk,if_neg (by simp),hsame]
       dsimp only
       rw [if_pos rfl,bj g.rise g3]
       dsimp only
       rw [hei]
       dsimp only
       refine wpAny_bind (wpAny_isSame_ref_self ?_)
       refine wpAny_bind (wpAny_pure ?_)
       rw [if_pos rfl]
       dsimp only
       rw [if_neg (by simp)]
       refine ih (k'+1) _ (by omega) (by omega) rfl fun k2' i2 z1 z2 z3 => ?_
       by_cases z4:k2' < n
       ·exact h4 k2' i2 z4 z2 z3
       ·by_cases z5:k2'=k'
        ·subst z5
         have:i2=i:=by
          have a1:=bj g.rise z2
          have a2:=bj g.rise g3
          rw [a1] at a2; cases a2; rfl
         subst this
         rw [hki] at z3
         cases z3
         exact kk rfl
        ·refine r k2' i2 (by omega) (by omega) z2 ?_
         obtain ⟨b3,e3,_⟩:=kd.at z3
         rw [← Array.getElem?_toList,e3]; rfl
    ·rw [hei]
     dsimp only
     refine wpAny_bind (wpAny_holding (knd.eqBool hu hk2 hk (wpAny_bind (wpAny_setState_of ho rfl hfit ?_))))
     dsimp only
     by_cases kk:k2=k
     ·rw [decide_eq_true kk,if_pos (by simp)]
      refine wpAny_pure (q1 ?_)
      rw [← kk]; exact List.mem_of_getElem? hki
     ·rw [decide_eq_false kk,if_neg (by simp),hsame]
      dsimp only
      rw [if_pos rfl,bj g.rise g3]
      dsimp only
      rw [hei]
      dsimp only
      refine wpAny_bind (wpAny_isSame_ref_self ?_)
      refine wpAny_bind (wpAny_pure ?_)
      rw [if_pos rfl]
      dsimp only
      rw [if_neg (by simp)]
      refine ih (k'+1) _ (by omega) (by omega) rfl fun k2' i2 z1 z2 z3 => ?_
      by_cases z4:k2' < n
      ·exact h4 k2' i2 z4 z2 z3
      ·by_cases z5:k2'=k'
       ·subst z5
        have:i2=i:=by
         have a1:=bj g.rise z2
         have a2:=bj g.rise g3
         rw [a1] at a2; cases a2; rfl
        subst this
        rw [hki] at z3
        cases z3
        exact kk rfl
       ·refine r k2' i2 (by omega) (by omega) z2 ?_
        obtain ⟨b3,e3,_⟩:=kd.at z3
        rw [← Array.getElem?_toList,e3]; rfl
 exact main 100000 0 none (by omega) (Nat.zero_le _) rfl fun k' i h=>by omega
end
end Tab
set_option autoImplicit false
namespace Tab
open PySem PySem.SetTable NwS
def bx {α:Type} (l:List α) (p:Nat) (x:α):List α:=l.take p++x::l.drop p
theorem gr {α:Type} {l:List α} {p:Nat} (x:α) (hp:p≤l.length) (i:Nat):(bx l p x)[i]?=if i < p then l[i]? else if i=p then some x else l[i - 1]?:=by
 unfold bx
 have hlen:(l.take p).length=p:=by rw [List.length_take]; omega
 by_cases h1:i < p
 ·rw [if_pos h1,List.getElem?_append_left (by omega),List.getElem?_take_of_lt h1]
 ·rw [if_neg h1,List.getElem?_append_right (by omega),hlen]
  by_cases h2:i=p
  ·subst h2; rw [if_pos rfl]; simp
  ·rw [if_neg h2]
   obtain ⟨q,rfl⟩ : ∃ q,i=p+q+1:=⟨i - p - 1,by omega⟩
   rw [show p+q+1 - p=q+1 by omega,List.getElem?_cons_succ,List.getElem?_drop]; rfl
theorem aZ {α:Type} (xs:Array α) (p:Nat) (x:α):(insertAt xs p x).toList=bx xs.toList p x:=by
 unfold insertAt bx
 rw [Array.toList_append,Array.toList_push,Array.toList_extract,Array.toList_extract,List.extract_eq_take_drop,List.extract_eq_take_drop,List.append_assoc,List.take_of_length_le (i:=xs.size - p) (by simp)]
 simp
theorem gq {α:Type} {l:List α} {p:Nat} {x y:α}:y∈bx l p x↔y=x∨y∈l:=by
 unfold bx
 rw [List.mem_append,List.mem_cons]
 constructor
 ·rintro (h | h | h)
  ·exact .inr (List.mem_of_mem_take h)
  ·exact .inl h
  ·exact .inr (List.mem_of_mem_drop h)
 ·rintro (h | h)
  ·exact .inr (.inl h)
  ·rw [← List.take_append_drop p l,List.mem_append] at h
   rcases h with h | h
   ·exact .inl h
   ·exact .inr (.inr h)
theorem b9 {α:Type} (l:List α) (p:Nat) (x:α):(bx l p x).Perm (l++[x]):=by
 unfold bx
 have:(l.take p++x::l.drop p).Perm (x::(l.take p++l.drop p)):=List.perm_middle
 rw [List.take_append_drop] at this
 exact this.trans (List.perm_append_comm (l₁:=[x]) (l₂:=l))
theorem dU {α:Type} (l:List α) (p:Nat) (x:α):(bx l p x).length=l.length+1:=by
 rw [(b9 l p x).length_eq,List.length_append]; rfl
theorem km {α β:Type} (f:α→β) (l:List α) (p:Nat) (x:α):(bx l p x).map f=bx (l.map f) p (f x):=by
 unfold bx; simp [List.map_take,List.map_drop]
theorem jN {t:SetTable} {m:Nat} {hs:List Int} (g:eu t m hs) {h:Int} {n:Nat} (h1:(ah t h n).j∉t.place.toList) (h2:(ah t h n).j < 2 ^ m) (h3 : ∀ i,i < n→(ah t h i).j∈t.place.toList) (pl:Bool) :
  eu { (t.put (ah t h n).j).1 with plain:=pl } m (bx hs (t.put (ah t h n).j).2 h)∧(t.put (ah t h n).j).1.mask=t.mask∧(t.put (ah t h n).j).2≤hs.length:=by
 obtain ⟨b1,b2,b3⟩:=ee g.rise (ah t h n).j
 have hpl:(t.put (ah t h n).j).2=below t.place (ah t h n).j:=rfl
 have hpt:(t.put (ah t h n).j).1.place=insertAt t.place (below t.place (ah t h n).j) (ah t h n).j:=rfl
 have hlen:=g.len
 have hp : ∀ h' k,ah ({ (t.put (ah t h n).j).1 with plain:=pl }:SetTable) h' k=ah t h' k:=fun h' k=>c8 (t':=t) (by rfl) h' k
 refine ⟨⟨g.lo,g.hi,g.mask,?_,?_,?_,fun j hj => ?_,fun i h' e => ?_⟩,rfl,by rw [hpl]; omega⟩
 ·show (if has t.dummies _ then _ else t.dummies) = #[]
  rw [g.dum]; simp [has]
 ·show (insertAt t.place _ _).size=_
  rw [← Array.length_toList,aZ,dU,dU,Array.length_toList,hlen]
 ·show (insertAt t.place _ _).toList.Pairwise _
  rw [aZ]
  unfold bx
  have hr:t.place.toList.Pairwise (· < ·):=g.rise
  rw [← List.take_append_drop (below t.place (ah t h n).j) t.place.toList,List.pairwise_append] at hr
  obtain ⟨r1,r2,r3⟩:=hr
  have lowr : ∀ x∈t.place.toList.take (below t.place (ah t h n).j),x < (ah t h n).j:=fun x hx=>by
   obtain ⟨i,hi,e⟩:=List.getElem_of_mem hx
   rw [List.length_take] at hi
   rw [List.getElem_take] at e
   exact b2 i x (by omega) (by rw [← Array.getElem?_toList,List.getElem?_eq_getElem (by omega),e])
  have high : ∀ x∈t.place.toList.drop (below t.place (ah t h n).j),(ah t h n).j < x:=fun x hx=>by
   obtain ⟨i,hi,e⟩:=List.getElem_of_mem hx
   rw [List.length_drop] at hi
   rw [List.getElem_drop] at e
   have a1:=b3 (below t.place (ah t h n).j+i) x (by omega) (by rw [← Array.getElem?_toList,List.getElem?_eq_getElem (by omega),e])
   have a2:(ah t h n).j≠x:=fun z=>h1 (z ▸ List.mem_of_mem_drop hx)
   omega
  refine List.pairwise_append.mpr ⟨r1,List.pairwise_cons.mpr ⟨high,r2⟩,fun x hx y hy => ?_⟩
  rcases List.mem_cons.mp hy with rfl | hy
  ·exact lowr x hx
  ·exact r3 x hx y hy
 ·have hj':j∈bx t.place.toList (below t.place (ah t h n).j) (ah t h n).j:=by rw [← aZ]; exact hj
  rcases gq.mp hj' with rfl | z
  ·exact h2
  ·exact g.top j z
 ·have mem : ∀ j,j∈t.place.toList→j∈({ (t.put (ah t h n).j).1 with plain:=pl }:SetTable).place.toList:=fun j z=>by
   show j∈(insertAt t.place _ _).toList
   rw [aZ]; exact gq.mpr (.inr z)
  have pg : ∀ i:Nat,({ (t.put (ah t h n).j).1 with plain:=pl }:SetTable).place[i]?=if i < below t.place (ah t h n).j then t.place[i]? else if i=below t.place (ah t h n).j then some (ah t h n).j else t.place[i - 1]?:=fun i=>by
   show (insertAt t.place _ _)[i]?=_
   rw [← Array.getElem?_toList,aZ,gr _ (by rw [Array.length_toList]; omega)]
   simp only [Array.getElem?_toList]
  rw [hpl,gr _ (by omega)] at e
  by_cases q1:i < below t.place (ah t h n).j
  ·rw [if_pos q1] at e
   obtain ⟨n0,e1,e2⟩:=g.reach i h' e
   refine ⟨n0,by rw [pg,if_pos q1,hp]; exact e1,fun k hk=>by rw [hp]; exact mem _ (e2 k hk)⟩
  ·rw [if_neg q1] at e
   by_cases q2:i=below t.place (ah t h n).j
   ·rw [if_pos q2] at e
    cases e
    exact ⟨n,by rw [pg,if_neg q1,if_pos q2,hp],fun k hk=>by rw [hp]; exact mem _ (h3 k hk)⟩
   ·rw [if_neg q2] at e
    obtain ⟨n0,e1,e2⟩:=g.reach (i - 1) h' e
    exact ⟨n0,by rw [pg,if_neg q1,if_neg q2,hp]; exact e1,fun k hk=>by rw [hp]; exact mem _ (e2 k hk)⟩
end Tab
set_option autoImplicit false
namespace Tab
open PySem PySem.SetTable NwS
def T0 (mask:Nat):SetTable:={ mask,place := #[],dummies := #[],finger:=0,led:=true,moves:=0,plain:=true }
abbrev bst (mask:Nat) (h:Int) (l:Nat):Probe:={ j:=(block (mask+1) h l).1,more:=runEnd mask (block (mask+1) h l).1 - (block (mask+1) h l).1,i:=(block (mask+1) h l).1,perturb:=(block (mask+1) h l).2,dummy:=none }
theorem gt {t:SetTable} {h:Int} {l n:Nat} (e:ah t h n=bst t.mask h l) : ∀ k,k≤runEnd t.mask (block (t.mask+1) h l).1 - (block (t.mask+1) h l).1 →
  ah t h (n+k)={ bst t.mask h l with j:=(block (t.mask+1) h l).1+k,more:=runEnd t.mask (block (t.mask+1) h l).1 - (block (t.mask+1) h l).1 - k }:=by
 intro k
 induction k with
 | zero=>intro _; exact e
 | succ k ih =>
  intro hk
  show t.advance (ah t h (n+k))=_
  rw [ih (by omega)]
  unfold advance
  rw [if_pos (by show _ > 0; dsimp only; omega)]
  simp only [Probe.mk.injEq,and_self,and_true]
  omega
theorem g9 {t:SetTable} {h:Int} {l n:Nat} (e:ah t h n=bst t.mask h l):ah t h (n+(runEnd t.mask (block (t.mask+1) h l).1 - (block (t.mask+1) h l).1)+1)=bst t.mask h (l+1):=by
 show t.advance (ah t h (n+_))=_
 rw [gt e _ (Nat.le_refl _)]
 unfold advance
 rw [if_neg (by show ¬ _ > 0; dsimp only; omega)]
 rfl
theorem lj {mask m:Nat} (hm:m≤12) (hM:mask+1=2 ^ m) {owner:Array (Option Nat)} (hz:owner.size=mask+1) {j0:Nat} (h0:owner[j0]?=some none) (h:Int) :
  ∃ n,layClean.free mask owner (turns mask) (bits h % (mask+1)) (bits h)=some (ah (T0 mask) h n).j∧owner[(ah (T0 mask) h n).j]?=some none ∧ ∀ i,i < n → ∃ v,owner[(ah (T0 mask) h i).j]?=some (some v):=by
 have hj:j0 < 2 ^ m:=by
  rw [← hM,← hz]
  rcases Nat.lt_or_ge j0 owner.size with q | q
  ·exact q
  ·rw [Array.getElem?_eq_none q] at h0; cases h0
 obtain ⟨l1,hl1,e1⟩:=ki hm (show (block (mask+1) h 12).1 < 2 ^ m by rw [← hM]; exact d9 (by omega) h 12) hj
 rw [← hM] at e1
 have e0:(block (mask+1) h (12+l1)).1=j0:=by rw [ec (by omega),e1]
 have main : ∀ d l f n,l+d=12+l1→d < f→ah (T0 mask) h n=bst mask h l→(∀ i,i < n → ∃ v,owner[(ah (T0 mask) h i).j]?=some (some v)) →
   ∃ n,layClean.free mask owner f (block (mask+1) h l).1 (block (mask+1) h l).2=some (ah (T0 mask) h n).j∧owner[(ah (T0 mask) h n).j]?=some none ∧ ∀ i,i < n → ∃ v,owner[(ah (T0 mask) h i).j]?=some (some v):=by
  intro d
  induction d with
  | zero =>
   intro l f n hl hf hp hb
   obtain ⟨f,rfl⟩ : ∃ q,f=q+1:=⟨f - 1,by omega⟩
   have hl':l=12+l1:=by omega
   subst hl'
   unfold layClean.free
   have:(List.range (runEnd mask (block (mask+1) h (12+l1)).1+1 - (block (mask+1) h (12+l1)).1)).find? (fun k=>(owner.getD ((block (mask+1) h (12+l1)).1+k) (some 0)).isNone)=some 0:=by
    rw [List.find?_range_eq_some]
    refine ⟨?_,?_,fun j hj=>by omega⟩
    ·rw [Nat.add_zero,e0,Array.getD_eq_getD_getElem?,h0]; rfl
    ·rw [List.mem_range]; unfold runEnd; split <;> omega
   rw [this]
   refine ⟨n,?_,?_,hb⟩
   ·rw [hp]; rfl
   ·rw [hp]; show owner[(block (mask+1) h (12+l1)).1]?=_; rw [e0]; exact h0
  | succ d ih =>
   intro l f n hl hf hp hb
   obtain ⟨f,rfl⟩ : ∃ q,f=q+1:=⟨f - 1,by omega⟩
   unfold layClean.free
   have hin : ∀ k,k≤runEnd mask (block (mask+1) h l).1 - (block (mask+1) h l).1→(ah (T0 mask) h (n+k)).j=(block (mask+1) h l).1+k:=fun k hk=>by
    have:=gt (t:=T0 mask) (h:=h) (l:=l) (n:=n) hp k hk
    rw [this]; rfl
   have hlt:=d9 (M:=mask+1) (by omega) h l
   have hrun:runEnd mask (block (mask+1) h l).1 < mask+1:=by unfold runEnd; split <;> omega
   have hge:(block (mask+1) h l).1≤runEnd mask (block (mask+1) h l).1:=by unfold runEnd; split <;> omega
   have occ : ∀ k,k < runEnd mask (block (mask+1) h l).1+1 - (block (mask+1) h l).1→(!(owner.getD ((block (mask+1) h l).1+k) (some 0)).isNone)=true → ∃ v,owner[(ah (T0 mask) h (n+k)).j]?=some (some v):=fun k hk hn=>by
    rw [hin k (by omega)]
    have hb':(block (mask+1) h l).1+k < owner.size:=by omega
    rw [Array.getD_eq_getD_getElem?,Array.getElem?_eq_getElem hb'] at hn
    rw [Array.getElem?_eq_getElem hb']
    cases hv:owner[(block (mask+1) h l).1+k] with
    | none=>rw [hv] at hn; simp at hn
    | some v=>exact ⟨v,rfl⟩
   cases hf':(List.range (runEnd mask (block (mask+1) h l).1+1 - (block (mask+1) h l).1)).find? (fun k=>(owner.getD ((block (mask+1) h l).1+k) (some 0)).isNone) with
   | some k =>
    obtain ⟨a1,a2,a3⟩:=List.find?_range_eq_some.mp hf'
    rw [List.mem_range] at a2
    refine ⟨n+k,?_,?_,fun i hi => ?_⟩
    ·rw [hin k (by omega)]
    ·rw [hin k (by omega)]
     have hb':(block (mask+1) h l).1+k < owner.size:=by omega
     rw [Array.getD_eq_getD_getElem?,Array.getElem?_eq_getElem hb'] at a1
     rw [Array.getElem?_eq_getElem hb']
     cases hv:owner[(block (mask+1) h l).1+k] with
     | none=>rfl
     | some v=>rw [hv] at a1; simp at a1
    ·by_cases q:i < n
     ·exact hb i q
     ·have:=occ (i - n) (by omega) (a3 (i - n) (by omega))
      rwa [show n+(i - n)=i by omega] at this
   | none =>
    have a1:=List.find?_range_eq_none.mp hf'
    dsimp only
    refine ih (l+1) f _ (by omega) (by omega) (g9 (t:=T0 mask) hp) fun i hi => ?_
    by_cases q:i < n
    ·exact hb i q
    ·have hi':i < n+(runEnd mask (block (mask+1) h l).1 - (block (mask+1) h l).1)+1:=hi
     have:=occ (i - n) (by omega) (a1 (i - n) (by omega))
     rwa [show n+(i - n)=i by omega] at this
 have:=main (12+l1) 0 (turns mask) 0 (by omega) (by unfold turns; omega) rfl fun i hi=>by omega
 exact this
structure Own (mask:Nat) (owner:Array (Option Nat)) (hs:List Int):Prop where
 size:owner.size=mask+1
 free:owner.toList.countP (·.isNone)+hs.length=mask+1
 has : ∀ v,v < hs.length → ∃ j:Nat,owner[j]?=some (some v)
 val : ∀ (j v:Nat),owner[j]?=some (some v) → ∃ h n,hs[v]?=some h∧(ah (T0 mask) h n).j=j ∧ ∀ i,i < n → ∃ v',owner[(ah (T0 mask) h i).j]?=some (some v')
 inj : ∀ (j j' v:Nat),owner[j]?=some (some v)→owner[j']?=some (some v)→j=j'
theorem kR (mask:Nat):Own mask (Array.replicate (mask+1) none) [] where
 size:=by simp
 free:=by simp [List.countP_replicate]
 has:=fun v hv=>by simp at hv
 val:=fun j v e=>by
  rw [Array.getElem?_replicate] at e
  split at e <;> simp at e
 inj:=fun j j' v e=>by
  rw [Array.getElem?_replicate] at e
  split at e <;> simp at e
theorem jV {mask m:Nat} (hm:m≤12) (hM:mask+1=2 ^ m) {owner:Array (Option Nat)} {hs:List Int} (o:Own mask owner hs) (hl:hs.length < mask+1) (h:Int) :
  ∃ j,layClean.free mask owner (turns mask) (bits h % (mask+1)) (bits h)=some j∧Own mask (owner.setIfInBounds j (some hs.length)) (hs++[h]):=by
 have hc:0 < owner.toList.countP (·.isNone):=by have:=o.free; omega
 obtain ⟨x,hx,hxn⟩:=List.countP_pos_iff.mp hc
 obtain ⟨j0,hj0⟩:=List.getElem?_of_mem hx
 have h0:owner[j0]?=some none:=by
  rw [← Array.getElem?_toList,hj0]
  cases x with
  | none=>rfl
  | some _=>simp at hxn
 obtain ⟨n,e,e1,e2⟩:=lj hm hM o.size h0 h
 have hlt:(ah (T0 mask) h n).j < owner.size:=by
  rcases Nat.lt_or_ge (ah (T0 mask) h n).j owner.size with q | q
  ·exact q
  ·rw [Array.getElem?_eq_none q] at e1; cases e1
 refine ⟨_,e,?_⟩
 have gs : ∀ j:Nat,(owner.setIfInBounds (ah (T0 mask) h n).j (some hs.length))[j]?=if (ah (T0 mask) h n).j=j then some (some hs.length) else owner[j]?:=fun j=>by
  rw [Array.getElem?_setIfInBounds]
  split
  ·first | rfl | (rename_i q; subst q; rw [if_pos hlt])
  ·rfl
 have keep : ∀ (j v:Nat),owner[j]?=some (some v)→(owner.setIfInBounds (ah (T0 mask) h n).j (some hs.length))[j]?=some (some v):=fun j v ev=>by
  rw [gs,if_neg]
  ·exact ev
  ·intro z; subst z; rw [e1] at ev; cases ev
 have old : ∀ (j v:Nat),owner[j]?=some (some v)→v < hs.length:=fun j v ev=>by
  obtain ⟨h',_,q,_⟩:=o.val j v ev
  exact (List.getElem?_eq_some_iff.mp q).1
 refine ⟨by rw [Array.size_setIfInBounds]; exact o.size,?_,fun v hv => ?_,fun j v ev => ?_,fun j j' v ev ev' => ?_⟩
 ·rw [Array.toList_setIfInBounds,List.countP_set (by simpa using hlt)]
  have hn:owner.toList[(ah (T0 mask) h n).j]'(by simpa using hlt)=none:=by
   have:owner.toList[(ah (T0 mask) h n).j]?=some none:=by rw [Array.getElem?_toList]; exact e1
   rw [List.getElem?_eq_getElem (by simpa using hlt)] at this
   exact Option.some.inj this
  rw [hn]
  have:=o.free
  simp only [Option.isNone_none,if_true,Option.isNone_some,Bool.false_eq_true,if_false,List.length_append,List.length_singleton]
  omega
 ·rw [List.length_append,List.length_singleton] at hv
  by_cases q:v < hs.length
  ·obtain ⟨j,ej⟩:=o.has v q
   exact ⟨j,keep j v ej⟩
  ·have:v=hs.length:=by omega
   subst this
   exact ⟨_,by rw [gs,if_pos rfl]⟩
 ·rw [gs] at ev
  split at ev
  ·rename_i q
   cases ev
   exact ⟨h,n,by simp,q,fun i hi=>let ⟨v',e'⟩:=e2 i hi; ⟨v',keep _ _ e'⟩⟩
  ·obtain ⟨h',n',a1,a2,a3⟩:=o.val j v ev
   exact ⟨h',n',by rw [List.getElem?_append_left (old j v ev)]; exact a1,a2,fun i hi=>let ⟨v',e'⟩:=a3 i hi; ⟨v',keep _ _ e'⟩⟩
 ·rw [gs] at ev ev'
  split at ev
  ·rename_i q
   cases ev
   split at ev'
   ·rename_i q'; rw [← q,← q']
   ·have:=old j' _ ev'; omega
  ·split at ev'
   ·cases ev'
    have:=old j _ ev; omega
   ·exact o.inj j j' v ev ev'
theorem kz {mask m:Nat} (hm:m≤12) (hM:mask+1=2 ^ m) (hashes:Array Int) (hl:hashes.size < mask+1) : ∃ owner,layClean mask hashes=some owner∧Own mask owner hashes.toList:=by
 have step : ∀ (rest pre:List Int) (owner:Array (Option Nat)),Own mask owner pre→pre.length+rest.length < mask+1 →
   ∃ owner',rest.foldl (init:=some (owner,pre.length)) (fun acc h=>do
    let (owner,k) ← acc
    let j ← layClean.free mask owner (turns mask) (bits h % (mask+1)) (bits h)
    pure (owner.setIfInBounds j (some k),k+1))=some (owner',(pre++rest).length)∧Own mask owner' (pre++rest):=by
  intro rest
  induction rest with
  | nil=>intro pre owner o _; exact ⟨owner,by simp,by simpa using o⟩
  | cons h rest ih =>
   intro pre owner o hlen
   obtain ⟨j,e,o'⟩:=jV hm hM o (by omega) h
   obtain ⟨owner',e1,o1⟩:=ih (pre++[h]) _ o' (by simp at hlen ⊢; omega)
   refine ⟨owner',?_,by simpa using o1⟩
   rw [List.foldl_cons]
   show List.foldl _ ((layClean.free mask owner (turns mask) (bits h % (mask+1)) (bits h)).bind fun j=>some (owner.setIfInBounds j (some pre.length),pre.length+1)) rest=_
   rw [e]
   have:(pre++[h]).length=pre.length+1:=by simp
   rw [this] at e1
   simpa using e1
 obtain ⟨owner,e,o⟩:=step hashes.toList [] _ (kR mask) (by simpa using hl)
 refine ⟨owner,?_,by simpa using o⟩
 unfold layClean
 rw [← Array.foldl_toList]
 show Option.map _ (List.foldl _ (some (Array.replicate (mask+1) none,([]:List Int).length)) hashes.toList)=_
 rw [e]; rfl
end Tab
set_option autoImplicit false
namespace Tab
open PySem PySem.SetTable NwS
theorem lf {mask m:Nat} (h3:3≤m) (h11:m≤11) (hM:mask+1=2 ^ m) (finger moves:Nat) (led plain:Bool) (hashes:Array Int) (hl:hashes.size < mask+1) :
  ∃ t order,laid mask finger moves led plain hashes=some (t,order)∧t.mask=mask∧t.led=led∧t.plain=plain∧order.toList.Perm (List.range hashes.size)∧eu t m (order.toList.map fun v=>hashes.getD v 0):=by
 obtain ⟨owner,e,o⟩:=kz (by omega) hM hashes hl
 unfold laid
 rw [e]
 let live:=(List.range (mask+1)).filterMap fun j=>(owner.getD j none).map (j,·)
 have ml : ∀ j v,(j,v)∈live↔owner[j]?=some (some v):=fun j v=>by
  show (j,v)∈(List.range (mask+1)).filterMap _↔_
  rw [List.mem_filterMap]
  constructor
  ·rintro ⟨j',hj',e'⟩
   rw [List.mem_range] at hj'
   have hb:j' < owner.size:=by have:=o.size; omega
   rw [Array.getD_eq_getD_getElem?,Array.getElem?_eq_getElem hb] at e'
   cases hv:owner[j'] with
   | none=>rw [hv] at e'; simp at e'
   | some v' =>
    rw [hv] at e'
    simp at e'
    obtain ⟨rfl,rfl⟩:=e'
    rw [Array.getElem?_eq_getElem hb,hv]
  ·intro e'
   have hb:j < owner.size:=by
    rcases Nat.lt_or_ge j owner.size with q | q
    ·exact q
    ·rw [Array.getElem?_eq_none q] at e'; cases e'
   refine ⟨j,by rw [List.mem_range]; have:=o.size; omega,?_⟩
   rw [Array.getD_eq_getD_getElem?,e']; rfl
 have pw:live.Pairwise fun a b=>a.1 < b.1:=by
  refine List.pairwise_filterMap.mpr (List.pairwise_lt_range.imp fun {a a'} h b hb b' hb' => ?_)
  cases h1:owner.getD a none with
  | none=>rw [h1] at hb; simp at hb
  | some v =>
   cases h2:owner.getD a' none with
   | none=>rw [h2] at hb'; simp at hb'
   | some v' =>
    rw [h1] at hb; rw [h2] at hb'
    simp at hb hb'
    rw [← hb,← hb']; exact h
 refine ⟨_,_,rfl,rfl,rfl,rfl,?_,?_⟩
 ·show (live.map (·.2)).Perm _
  refine (List.perm_ext_iff_of_nodup ?_ List.nodup_range).mpr fun v => ?_
  ·refine List.pairwise_map.mpr (List.Pairwise.imp_of_mem (fun {a b} ha hb hab => ?_) pw)
   intro z
   obtain ⟨j,v⟩:=a
   obtain ⟨j',v'⟩:=b
   have z':v=v':=z
   subst z'
   have:=o.inj j j' v ((ml _ _).mp ha) ((ml _ _).mp hb)
   have hab':j < j':=hab
   omega
  ·rw [List.mem_map,List.mem_range]
   constructor
   ·rintro ⟨⟨j,v'⟩,hm,rfl⟩
    obtain ⟨h',_,q,_⟩:=o.val j v' ((ml _ _).mp hm)
    have:=(List.getElem?_eq_some_iff.mp q).1
    simpa using this
   ·intro hv
    obtain ⟨j,ej⟩:=o.has v (by simpa using hv)
    exact ⟨(j,v),(ml _ _).mpr ej,rfl⟩
 ·have inP : ∀ j v,owner[j]?=some (some v)→j∈(live.map (·.1)).toArray.toList:=fun j v ev=>List.mem_map.mpr ⟨(j,v),(ml _ _).mpr ev,rfl⟩
  refine ⟨h3,h11,hM,rfl,?_,?_,fun j hj => ?_,fun i h eh => ?_⟩
  ·show (live.map (·.1)).toArray.size=((live.map (·.2)).map _).length
   simp
  ·show (live.map (·.1)).Pairwise _
   exact List.pairwise_map.mpr pw
  ·have hj':j∈live.map (·.1):=hj
   obtain ⟨⟨j',v⟩,hm,rfl⟩:=List.mem_map.mp hj'
   have e':=(ml _ _).mp hm
   rw [← hM,← o.size]
   rcases Nat.lt_or_ge j' owner.size with q | q
   ·exact q
   ·rw [Array.getElem?_eq_none q] at e'; cases e'
  ·have eh':((live.map (·.2)).map fun v=>hashes.getD v 0)[i]?=some h:=eh
   rw [List.getElem?_map,List.getElem?_map] at eh'
   cases hi:live[i]? with
   | none=>rw [hi] at eh'; simp at eh'
   | some jv =>
    obtain ⟨j,v⟩:=jv
    rw [hi] at eh'
    simp only [Option.map_some,Option.some.injEq] at eh'
    have ev:=(ml _ _).mp (List.mem_of_getElem? hi)
    obtain ⟨h',n,a1,a2,a3⟩:=o.val j v ev
    have hh:h'=h:=by
     rw [Array.getD_eq_getD_getElem?,← Array.getElem?_toList,a1] at eh'; exact eh'
    subst hh
    have hp : ∀ (t:SetTable) k,t.mask=mask→ah t h' k=ah (T0 mask) h' k:=fun t k et=>c8 (by rw [et]; rfl) h' k
    refine ⟨n,?_,fun k hk => ?_⟩
    ·rw [hp _ _ rfl,a2]
     show (live.map (·.1)).toArray[i]?=some j
     simp [hi]
    ·rw [hp _ _ rfl]
     obtain ⟨v',e'⟩:=a3 k hk
     exact inP _ v' e'
end Tab
set_option autoImplicit false
namespace Tab
open PySem PySem.SetTable NwS
section
variable {prog:Program} {w:World} {K:Type} [DecidableEq K] {knd:HeapKind prog w K}
structure Fit (knd:HeapKind prog w K):Prop where
 cls:cc knd
 val : ∀ {A:Around} {E:Value→Shared→Prop} {s:Shared} {k:K} {a:Addr} {Q:Bool→Shared→Prop},knd.is s.heap k a→Q true s→wpAny (model prog w) A (hashByValue 8 (.ref a)) Q E s
 keep : ∀ {h h':Heap} {k:K} {b:Addr},knd.is h k b→(∀ c o x n,h.get? c=some o→o.cls = .type "tuple"→o.data = .seq x n→h'.get? c=some o)→knd.is h' k b
structure gM (knd:HeapKind prog w K) (h:Heap) (a:Addr) (ks:List K):Prop where
 has : ∃ es ep t m,h.get? a=some (setObj es ep t)∧Keyd knd h ks es.toList∧eu t m (es.toList.map (·.1))∧m % 2=1∧es.size * 5 < t.mask * 3∧t.plain=true∧(byText w=false→t.led=true)
 nod:ks.Nodup
theorem Keyd.imp {h h':Heap} (f : ∀ k b,knd.is h k b→knd.is h' k b) : ∀ {ks:List K} {r:List (Int×Value)},Keyd knd h ks r→Keyd knd h' ks r
 | _,_,.nil => .nil
 | _,_,.cons h1 t => .cons (f _ _ h1) (t.imp f)
theorem Fit.but (F:Fit knd) {h h':Heap} {a:Addr} {es:Array (Int×Value)} {ep:Nat} {t:SetTable} (ho:h.get? a=some (setObj es ep t)) (sb:Heap.SameBut a h h') {k:K} {b:Addr} (hk:knd.is h k b):knd.is h' k b :=
 F.keep hk fun c o x n e hc hd=>by
  refine (sb.2 c ?_).trans e
  intro z
  subst z
  rw [ho] at e
  cases e
  cases hd
theorem Keyd.pick {h:Heap} {ks:List K} {es:Array (Int×Value)} (x:Keyd knd h ks es.toList) : ∀ (o:List Nat),(∀ v∈o,v < es.size) →
  ∃ ks',ks'=o.filterMap (ks[·]?)∧Keyd knd h ks' (o.filterMap (es[·]?))∧(o.filterMap (es[·]?)).map (·.1)=o.map fun v=>(es.map (·.1)).getD v 0
 | [],_=>⟨[],rfl,.nil,rfl⟩
 | v::o,ho=>by
  obtain ⟨ks',e,y,z⟩:=x.pick o fun u hu=>ho u (by simp [hu])
  have hv:=ho v (by simp)
  obtain ⟨k,b,h1,h2,h3⟩:=x.get (i:=v) (e:=es[v]) (by rw [Array.getElem?_toList]; exact Array.getElem?_eq_getElem hv)
  refine ⟨k::ks',?_,?_,?_⟩
  ·rw [List.filterMap_cons,h1,e]
  ·rw [List.filterMap_cons,Array.getElem?_eq_getElem hv,h2]
   exact .cons h3 y
  ·rw [List.filterMap_cons,Array.getElem?_eq_getElem hv,List.map_cons,List.map_cons,z]
   congr 1
   rw [Array.getD_eq_getD_getElem?,Array.getElem?_map,Array.getElem?_eq_getElem hv]; rfl
theorem dJ {α:Type} : ∀ (l:List α),(List.range l.length).filterMap (l[·]?)=l
 | []=>by simp
 | x::l=>by
  rw [List.length_cons,List.range_succ_eq_map,List.filterMap_cons]
  simp only [List.getElem?_cons_zero,List.filterMap_map]
  have:(fun y=>(x::l)[y]?) ∘ Nat.succ=fun y=>l[y]?:=by funext y; simp
  rw [this,dJ l]
variable {A:Around} {E:Value→Shared→Prop} {s:Shared}
theorem jJ (F:Fit knd) {a:Addr} {es:Array (Int×Value)} {ep m:Nat} {t:SetTable} {ks:List K} {wanted m':Nat} {Q:Unit→Shared→Prop} (ho:s.heap.get? a=some (setObj es ep t)) (kd:Keyd knd s.heap ks es.toList)
  (hfit:t.fits es.size=true) (hsz:es.size < 1100) (hw:sizeAbove wanted=2 ^ m') (h3:3≤m') (h11:m'≤11) (hl:es.size < 2 ^ m') (hpl:t.plain=true)
  (hQ : ∀ h' es' ep' t' ks',Heap.SameBut a s.heap h'→h'.get? a=some (setObj es' ep' t')→Keyd knd h' ks' es'.toList→ks'.Perm ks→eu t' m' (es'.toList.map (·.1))→t'.mask=2 ^ m' - 1→t'.plain=true→t'.led=t.led→Q () { s with heap:=h' }) :
  wpAny (model prog w) A (setRelay a wanted) Q E s:=by
 have hp:1≤2 ^ m':=Nat.two_pow_pos m'
 have hle:2 ^ m'≤2 ^ 11:=Nat.pow_le_pow_right (by omega) h11
 obtain ⟨t',order,e1,e2,e3,e4,e5,e6⟩:=lf (mask:=2 ^ m' - 1) h3 h11 (by omega) t.finger (t.movedTo (2 ^ m' - 1)) t.led t.plain (es.map (·.1)) (by rw [Array.size_map]; omega)
 have hall : ∀ v∈order.toList,v < es.size:=fun v hv=>by
  have:=e5.mem_iff.mp hv
  rw [List.mem_range,Array.size_map] at this; exact this
 obtain ⟨ks',k1,k2,k3⟩:=kd.pick order.toList hall
 have hperm:ks'.Perm ks:=by
  rw [k1]
  have:=e5.filterMap (ks[·]?)
  rw [Array.size_map,← Array.length_toList,← kd.length,dJ] at this
  exact this
 have hes:(order.filterMap (es[·]?)).toList=order.toList.filterMap (es[·]?):=by rw [Array.toList_filterMap]
 have hsize:(order.filterMap (es[·]?)).size=es.size:=by
  rw [← Array.length_toList,hes,← k2.length,hperm.length_eq,kd.length,Array.length_toList]
 unfold setRelay
 refine wpAny_bind (wpAny_setState_of ho rfl hfit ?_)
 dsimp only
 rw [hw,if_neg (by rw [sizeLine_eq]; omega)]
 have er:t.relaid (es.map (·.1)) wanted=some (t',order):=by unfold relaid; rw [hw]; exact e1
 rw [er]
 refine wpAny_bind ?_
 show wpAny _ _ (if ((order.filterMap (es[·]?)).size != es.size)=true then _ else _) _ _ _
 rw [if_neg (by rw [hsize]; simp)]
 refine wpAny_pure ?_
 have sb:=Heap.SameBut.update s.heap a (Obj.putSet (order.filterMap (es[·]?)) t')
 refine wpAny_storeSet_of ho rfl ?_ (fits_of_scanBound (by rw [hsize]; unfold scanBound; omega))
 refine hQ _ (order.filterMap (es[·]?)) (ep+1) t' ks' sb (eJ ho) ?_ hperm ?_ e2 (e4.trans hpl) e3
 ·rw [hes]; exact k2.imp fun k b=>F.but ho sb
 ·rw [hes,k3]; exact e6
end
end Tab
set_option autoImplicit false
namespace Tab
open PySem PySem.SetTable NwS
section
variable {prog:Program} {w:World} {K:Type} [DecidableEq K] {knd:HeapKind prog w K} {A:Around} {E:Value→Shared→Prop} {s:Shared}
theorem lB (F:Fit knd) (hu:knd.room A) {a b:Addr} {ks:List K} {k:K} {Q:Bool→Shared→Prop} (S:gM knd s.heap a ks) (hroom:ks.length < 1000) (hk:knd.is s.heap k b)
  (h : ∀ h' ks' r,Heap.SameBut a s.heap h'→gM knd h' a ks'→ks'.Perm (if k∈ks then ks else ks++[k])→Q r { s with heap:=h' }) :
  wpAny (model prog w) A (setAddHashed a (.ref b) (knd.hash k)) Q E s:=by
 obtain ⟨es,ep,t,m,ho,kd,g,hodd,hload,hpl,hled⟩:=S.has
 have hlen:es.size=ks.length:=by rw [kd.length,Array.length_toList]
 have hmask:=g.mask
 have hfit:t.fits es.size=true:=by
  have h1:=g.len
  rw [List.length_map,Array.length_toList] at h1
  unfold SetTable.fits SetTable.fill
  rw [g.dum]
  simp [h1]; omega
 unfold setAddHashed setAddHashedIn
 refine wpAny_holding (wpAny_bind (wpAny_setState_of ho rfl hfit ?_))
 dsimp only
 rw [if_neg (by simp [byScan,Value.scannable])]
 refine wpAny_bind (jc F.cls hu ho kd g (by omega) hk (fun hm => ?_) fun hm n p1 p2 p3 => ?_)
 ·refine wpAny_pure ?_
  have e:s={ s with heap:=s.heap }:=by cases s; rfl
  rw [e]
  exact h s.heap ks false (Heap.SameBut.refl a s.heap) S (by rw [if_pos hm])
 ·dsimp only
  refine wpAny_bind (wpAny_setState_of ho rfl hfit ?_)
  dsimp only
  have hplain:(t.put (ah t (knd.hash k) n).j).1.plain=true:=hpl
  rw [if_pos hplain]
  refine wpAny_bind (F.val hk ?_)
  rw [if_pos rfl]
  obtain ⟨g1,g2,g3⟩:=jN g p1 p2 p3 true
  have et:({ (t.put (ah t (knd.hash k) n).j).1 with plain:=true }:SetTable)=(t.put (ah t (knd.hash k) n).j).1:=by
   have:(t.put (ah t (knd.hash k) n).j).1.plain=true:=hpl
   cases hh:(t.put (ah t (knd.hash k) n).j).1
   rw [hh] at this
   simp only at this
   simp [this]
  rw [et] at g1
  have hes:(insertAt es (t.put (ah t (knd.hash k) n).j).2 (knd.hash k,Value.ref b)).toList=bx es.toList (t.put (ah t (knd.hash k) n).j).2 (knd.hash k,.ref b):=aZ _ _ _
  have kd1:Keyd knd s.heap (bx ks (t.put (ah t (knd.hash k) n).j).2 k) (insertAt es (t.put (ah t (knd.hash k) n).j).2 (knd.hash k,Value.ref b)).toList:=by
   rw [hes]
   exact (kd.take _).append (.cons hk (kd.drop _))
  have gg:eu (t.put (ah t (knd.hash k) n).j).1 m ((insertAt es (t.put (ah t (knd.hash k) n).j).2 (knd.hash k,Value.ref b)).toList.map (·.1)):=by
   rw [hes,km]; exact g1
  have hsz:(insertAt es (t.put (ah t (knd.hash k) n).j).2 (knd.hash k,Value.ref b)).size=es.size+1:=by
   rw [← Array.length_toList,hes,dU,Array.length_toList]
  have nod1:(bx ks (t.put (ah t (knd.hash k) n).j).2 k).Nodup:=by
   refine (b9 _ _ _).nodup_iff.mpr ?_
   refine List.nodup_append.mpr ⟨S.nod,by simp,fun x hx y hy => ?_⟩
   rw [List.mem_singleton.mp hy]
   exact fun z=>hm (z ▸ hx)
  have hfill:(t.put (ah t (knd.hash k) n).j).1.fill=es.size+1:=by
   unfold SetTable.fill
   rw [gg.dum,gg.len,List.length_map,Array.length_toList,hsz]; simp
  generalize hT:(t.put (ah t (knd.hash k) n).j).1=T at *
  generalize hP:(t.put (ah t (knd.hash k) n).j).2=P at *
  generalize hES:insertAt es P (knd.hash k,Value.ref b)=ES at *
  have hfit1:T.fits ES.size=true:=by
   have h1:=gg.len
   have h5:=gg.mask
   rw [List.length_map,Array.length_toList] at h1
   unfold SetTable.fits
   rw [hfill,hsz]
   rw [hsz] at h1
   simp [h1]
   rw [g2]; omega
  have sb:=Heap.SameBut.update s.heap a (Obj.putSet ES T)
  have ho1:=eJ (es':=ES) (t':=T) ho
  have kd2:Keyd knd (s.heap.update a (Obj.putSet ES T)) (bx ks P k) ES.toList:=kd1.imp fun k b=>F.but ho sb
  have hled1:byText w=false→T.led=true:=fun z=>by rw [← hT]; exact hled z
  have hplT:T.plain=true:=hplain
  refine wpAny_bind (wpAny_storeSet_of ho rfl ?_ (fits_of_scanBound (by rw [hsz]; unfold scanBound; omega)))
  by_cases hfull:T.tooFull=true
  ·rw [if_pos (by rw [hfull]; rfl)]
   unfold SetTable.tooFull at hfull
   rw [hfill] at hfull
   have hf:T.mask * 3≤(es.size+1) * 5:=by simpa using hfull
   rw [g2] at hf
   have hg:=gg.mask
   rw [g2] at hg
   have cs : ∃ m',sizeAbove (grown (es.size+1))=2 ^ m'∧3≤m'∧m'≤11∧m' % 2=1∧(es.size+1) * 5 < (2 ^ m' - 1) * 3∧es.size+1 < 2 ^ m':=by
    have hm3:=g.lo
    have hm11:=g.hi
    have:m=3∨m=5∨m=7∨m=9∨m=11:=by omega
    rcases this with rfl | rfl | rfl | rfl | rfl
    ·have e:es.size=4:=by omega
     rw [e]; exact ⟨5,by decide,by decide,by decide,by decide,by decide,by decide⟩
    ·have e:es.size=18:=by omega
     rw [e]; exact ⟨7,by decide,by decide,by decide,by decide,by decide,by decide⟩
    ·have e:es.size=76:=by omega
     rw [e]; exact ⟨9,by decide,by decide,by decide,by decide,by decide,by decide⟩
    ·have e:es.size=306:=by omega
     rw [e]; exact ⟨11,by decide,by decide,by decide,by decide,by decide,by decide⟩
    ·omega
   obtain ⟨m',c1,c2,c3,c4,c5,c6⟩:=cs
   refine wpAny_bind (jJ (s:={ s with heap:=s.heap.update a (Obj.putSet ES T) }) (m:=m) F ho1 kd2 hfit1 (by omega) c1 c2 c3 (by omega) hplT fun h' es' ep' t' ks' sb' ho' kd' hp' g' hm' hpl' hl' => ?_)
   refine wpAny_pure (h h' ks' true (sb.trans sb') ⟨⟨es',ep',t',m',ho',kd',g',c4,?_,hpl',fun z=>hl'.trans (hled1 z)⟩,hp'.nodup_iff.mpr nod1⟩ ?_)
   ·have:es'.size=es.size+1:=by rw [← Array.length_toList,← kd'.length,hp'.length_eq,kd2.length,Array.length_toList,hsz]
    rw [this,hm']; exact c5
   ·rw [if_neg hm]; exact hp'.trans (b9 _ _ _)
  ·rw [if_neg (by simpa using hfull)]
   refine wpAny_pure (h _ (bx ks P k) true sb ⟨⟨ES,ep+1,T,m,ho1,kd2,gg,hodd,?_,hplT,hled1⟩,nod1⟩ ?_)
   ·unfold SetTable.tooFull at hfull
    rw [hfill] at hfull
    rw [hsz]
    simpa using hfull
   ·rw [if_neg hm]; exact b9 _ _ _
end
end Tab
set_option autoImplicit false
namespace Nest
open PySem
section
variable {prog:Program} {w:World} {K:Type} [DecidableEq K] (knd:PySem.KeyKind prog w K)
inductive Refs (h:Heap):List (List K)→List Value→Prop
 | nil:Refs h [] []
 | cons {k:List K} {b:Addr} {ks:List (List K)} {vs:List Value}:IsTupleKey knd h k b→Refs h ks vs→Refs h (k::ks) (.ref b::vs)
def IsNest (h:Heap) (ks:List (List K)) (a:Addr):Prop := ∃ o its n,h.get? a=some o∧o.cls = .type "tuple"∧o.data = .seq its n∧Refs knd h ks its.toList
variable {knd}
theorem Refs.inj {h:Heap} {x y:List (List K)} {vs:List Value} (r:Refs knd h x vs) (q:Refs knd h y vs):x=y:=by
 induction r generalizing y with
 | nil=>cases q; rfl
 | cons h1 _ ih =>
  cases q with
  | cons h2 t2=>rw [h1.inj h2,ih t2]
theorem Refs.imp {h h':Heap} (f : ∀ k b,IsTupleKey knd h k b→IsTupleKey knd h' k b) : ∀ {ks:List (List K)} {vs:List Value},Refs knd h ks vs→Refs knd h' ks vs
 | _,_,.nil => .nil
 | _,_,.cons h1 t => .cons (f _ _ h1) (t.imp f)
theorem IsNest.typeIs {s:Shared} {ks:List (List K)} {a:Addr} (x:IsNest knd s.heap ks a):s.TypeIs (.ref a) "tuple":=let ⟨o,_,_,e,c,_⟩:=x; ⟨o,e,c⟩
theorem IsNest.inj {h:Heap} {a:Addr} {x y:List (List K)} (p:IsNest knd h x a) (q:IsNest knd h y a):x=y:=by
 obtain ⟨o1,i1,n1,e1,_,d1,r1⟩:=p
 obtain ⟨o2,i2,n2,e2,_,d2,r2⟩:=q
 rw [e1] at e2
 cases e2
 rw [d1] at d2
 cases d2
 exact r1.inj r2
theorem IsNest.keeps {h h':Heap} {ks:List (List K)} {a d:Addr} {o:Obj} {es:Array DictEntry} {ep:Nat} (x:IsNest knd h ks a) (ho:h.get? d=some o) (hd:o.data = .dict es ep) (hs:Heap.SameBut d h h'):IsNest knd h' ks a:=by
 obtain ⟨o1,i1,n1,e1,c1,d1,r1⟩:=x
 refine ⟨o1,i1,n1,(hs.2 a ?_).trans e1,c1,d1,r1.imp fun k b p=>p.keeps ho hd hs⟩
 intro z
 subst z
 rw [e1] at ho
 cases ho
 rw [d1] at hd
 cases hd
def bP (knd:PySem.KeyKind prog w K) (ks:List (List K)):Int:=reduceHash (Builtin.Tuple.tupleHashOf (ks.map (tupleKeyHash knd)))
def db (ks:List (List K)):Nat:=(ks.map fun k=>k.length+1).sum+1
variable {A:Around} {E:Value→Shared→Prop} {s:Shared}
theorem li {ks:List (List K)} {a:Addr} {Q:Int→Shared→Prop} (hu:A.units+4 < cLine) (hk:IsNest knd s.heap ks a) (h:Q (bP knd ks) { s with toks:=s.toks+db ks }) :
  wpAny (model prog w) A (pyHash (.ref a)) Q E s:=by
 have hT:=hk.typeIs
 obtain ⟨o,its,n,ho,_,hd,hi⟩:=hk
 unfold pyHash pyHashByItsType
 refine wpAny_bind (wpAny_cRoomFor_or (.inr (by omega)) ?_)
 refine wpAny_bind (wpAny_specialOf hT F.slot_tuple_hash.lookup ?_)
 rw [if_neg (by rw [beq_builtin_none]; exact Bool.false_ne_true)]
 refine wpAny_bind (wpAny_specialOf hT F.slot_tuple_hash.lookup ?_)
 refine wpAny_bind (wpAny_callSpecialIfBoundUnlessNone?_slot hT F.slot_tuple_hash (wpAny_call_entry F.slot_tuple_hash hT F.entry_tuple_hash ?_ (F.args_tuple_hash_1 _)))
 show wpAny _ _ (Builtin.Tuple.tupleItemsOf (.ref a) >>= _) _ _ s
 refine wpAny_bind (wpAny_tupleItemsOf ho hd (wpAny_bind ?_))
 rw [← Array.forIn_toList]
 refine wpAny_forIn_list _
  (fun rest (b:Array Int) s' => ∃ one two,ks=one++two∧Refs knd s.heap two rest∧b.toList=one.map (tupleKeyHash knd)∧s'={ s with toks:=s.toks+(one.map fun k=>k.length+1).sum })
  _ ?_ ?_ _ _ ⟨[],ks,rfl,hi,rfl,rfl⟩
 ·rintro x rest b s' ⟨one,two,rfl,hl,hb,rfl⟩
  cases hl with
  | @cons k c ks' _ h1 hl' =>
   refine wpAny_bind (wpAny_pyHash_tuple (knd:=knd) (show A.in1.units < cLine from ?_) h1 ?_)
   ·show A.units+1 < cLine; omega
   ·exact wpAny_pure ⟨one++[k],ks',by simp,hl',by simp [hb],by simp [Nat.add_assoc]⟩
 ·rintro b s' ⟨one,two,rfl,hl,hb,rfl⟩
  cases hl
  rw [List.append_nil] at h
  show wpAny _ _ (retInt (Builtin.Tuple.tupleHashOf b.toList)) _ _ _
  rw [hb]
  refine wpAny_ret_mkInt ?_
  unfold bP reduceHash db at h
  show wpAny _ _ (if _ then _ else _) Q E _
  by_cases hr:(decide (-(2:Int) ^ 63≤Builtin.Tuple.tupleHashOf (one.map (tupleKeyHash knd))) && decide (Builtin.Tuple.tupleHashOf (one.map (tupleKeyHash knd)) < 2 ^ 63))=true
  ·rw [if_pos hr] at h ⊢
   exact wpAny_pure (by simpa [Nat.add_assoc] using h)
  ·rw [if_neg hr] at h ⊢
   exact wpAny_bind (wpAny_rule (wpAny_pure (by simpa [Nat.add_assoc] using h)))
theorem lq {x y:List (List K)} {a b:Addr} {P:Fin→Shared→Prop} (hu:A.units+3 < cLine) (hx:IsNest knd s.heap x a) (hy:IsNest knd s.heap y b) (h:P (.done (.ret (.bool (decide (x=y))))) s) :
  wpAny (model prog w) A (Builtin.«tuple.__eq__» ⟨[.ref a,.ref b],[]⟩) P E s:=by
 have hTb:=hy.typeIs
 obtain ⟨oa,xs,na,hoa,_,hda,ra⟩:=hx
 obtain ⟨ob,ys,nb,hob,_,hdb,rb⟩:=hy
 show wpAny _ _ (isInstance (.ref b) (.type "tuple") >>= _) _ _ s
 refine wpAny_bind (wpAny_isInstance hTb isSubtype_tuple_tuple ?_)
 rw [if_neg (by simp)]
 refine wpAny_bind (wpAny_tupleItemsOf hoa hda (wpAny_bind (wpAny_tupleItemsOf hob hdb (wpAny_bind ?_))))
 refine wpAny_forIn_list _
  (fun rest r s'=>r.1=none∧s'=s ∧ ∃ x' y' xs' ys',rest=List.zip xs' ys'∧Refs knd s.heap x' xs'∧Refs knd s.heap y' ys'∧decide (x'=y')=decide (x=y)∧(xs'.length == ys'.length)=(xs.size == ys.size))
  _ ?_ ?_ _ _ ⟨rfl,rfl,x,y,xs.toList,ys.toList,rfl,ra,rb,rfl,by simp⟩
 ·rintro ⟨u,v⟩ rest r s' ⟨hr,rfl,x',y',xs',ys',hz,hx',hy',hdec,hlen⟩
  cases hx' with
  | nil=>simp at hz
  | @cons k1 c1 x2 xs2 h1 t1 =>
   cases hy' with
   | nil=>simp at hz
   | @cons k2 c2 y2 ys2 h2 t2 =>
    simp only [List.zip_cons_cons,List.cons.injEq,Prod.mk.injEq] at hz
    obtain ⟨⟨rfl,rfl⟩,rfl⟩:=hz
    refine wpAny_bind (wpAny_eqBool_tuple (knd:=knd) (by omega) h1 h2 ?_)
    by_cases hk:k1=k2
    ·subst hk
     rw [decide_eq_true rfl,if_neg (by simp)]
     refine wpAny_pure ⟨rfl,rfl,x2,y2,xs2,ys2,rfl,t1,t2,?_,by simpa using hlen⟩
     rw [← hdec]
     simp
    ·rw [decide_eq_false hk,if_pos (by simp)]
     have hf:decide (x=y)=false:=by rw [← hdec]; simp [hk]
     rw [hf] at h
     exact wpAny_bind (wpAny_pure (wpAny_pure (wpAny_pure h)))
 ·rintro ⟨r1,r2⟩ s' ⟨hr,rfl,x',y',xs',ys',hz,hx',hy',hdec,hlen⟩
  simp only at hr
  subst hr
  refine wpAny_pure ?_
  have e:(xs.size == ys.size)=decide (x=y):=by
   rw [← hdec,← hlen]
   cases hx' with
   | nil =>
    cases hy' with
    | nil=>simp
    | cons _ _=>simp
   | cons _ _ =>
    cases hy' with
    | nil=>simp
    | cons _ _=>simp at hz
  show P (.done (.ret (.bool (xs.size == ys.size)))) s'
  rw [e]; exact h
theorem ny {x y:List (List K)} {a b:Addr} {Q:Bool→Shared→Prop} (hu:A.units+8 < cLine) (hx:IsNest knd s.heap x a) (hy:IsNest knd s.heap y b) (h:Q (decide (x=y)) s) :
  wpAny (model prog w) A (eqBool (.ref a) (.ref b)) Q E s:=by
 unfold eqBool
 try with_reducible refine wpAny_holding ?_
 by_cases hab:(Value.ref a == Value.ref b)=true
 ·rw [if_pos hab]
  have e:a=b:=by have:=eq_of_beq hab; injection this
  subst e
  obtain rfl:=hx.inj hy
  exact wpAny_bind (wpAny_rule (wpAny_pure (by simpa using h)))
 ·rw [if_neg hab]
  exact wpAny_bind (wpAny_richCompare_same_room (op := .Eq) hx.typeIs hy.typeIs F.slot_tuple_eq
   (wpAny_call_entry F.slot_tuple_eq hx.typeIs F.entry_tuple_eq (lq (by show A.units+_+3 < cLine; omega) hx hy ⟨_,rfl,(fun e=>nomatch e),wpAny_truthy_bool h⟩) (F.args_tuple_eq_2 _ _)) (by omega))
theorem jM (n:Nat) {ks:List K} {a:Addr} {Q:Bool→Shared→Prop} (hk:IsTupleKey knd s.heap ks a) (h:Q true s):wpAny (model prog w) A (eqIsQuiet (n+1) (.ref a)) Q E s:=by
 have hT:=hk.typeIs
 obtain ⟨o,its,m,ho,_,hd,hi⟩:=hk
 unfold eqIsQuiet
 refine wpAny_bind (wpAny_specialOf hT F.slot_tuple_eq.lookup ?_)
 show wpAny _ _ (isInstance (.ref a) (.type "tuple") >>= _) _ _ s
 refine wpAny_bind (wpAny_isInstance hT isSubtype_tuple_tuple ?_)
 rw [if_neg (by simp)]
 refine wpAny_bind (wpAny_seqItems ho hd (wpAny_bind ?_))
 show wpAny _ _ (forIn its _ _) _ _ s
 rw [← Array.forIn_toList]
 refine wpAny_forIn_list _ (fun rest r s'=>r.1=none∧s'=s ∧ ∀ v∈rest,carriedByValue v=true) _ ?_ ?_ _ _ ⟨rfl,rfl,hi.byValue⟩
 ·rintro v rest r s' ⟨hr,rfl,hall⟩
  rw [eqIsQuiet_byValue _ (hall v List.mem_cons_self)]
  refine wpAny_bind (wpAny_pure ?_)
  rw [if_neg (by simp)]
  exact wpAny_pure ⟨rfl,rfl,fun u q=>hall u (List.mem_cons_of_mem _ q)⟩
 ·rintro ⟨r1,r2⟩ s' ⟨hr,rfl,_⟩
  simp only at hr
  subst hr
  exact wpAny_pure h
theorem jL {ks:List (List K)} {a:Addr} {Q:Bool→Shared→Prop} (hk:IsNest knd s.heap ks a) (h:Q true s):wpAny (model prog w) A (eqIsQuiet 8 (.ref a)) Q E s:=by
 have hT:=hk.typeIs
 obtain ⟨o,its,m,ho,_,hd,hi⟩:=hk
 unfold eqIsQuiet
 refine wpAny_bind (wpAny_specialOf hT F.slot_tuple_eq.lookup ?_)
 show wpAny _ _ (isInstance (.ref a) (.type "tuple") >>= _) _ _ s
 refine wpAny_bind (wpAny_isInstance hT isSubtype_tuple_tuple ?_)
 rw [if_neg (by simp)]
 refine wpAny_bind (wpAny_seqItems ho hd (wpAny_bind ?_))
 show wpAny _ _ (forIn its _ _) _ _ s
 rw [← Array.forIn_toList]
 refine wpAny_forIn_list _ (fun rest r s'=>r.1=none∧s'=s ∧ ∃ ks,Refs knd s.heap ks rest) _ ?_ ?_ _ _ ⟨rfl,rfl,ks,hi⟩
 ·rintro v rest r s' ⟨hr,rfl,ks',hall⟩
  cases hall with
  | @cons k c ks2 _ h1 t =>
   refine wpAny_bind (jM 6 h1 ?_)
   rw [if_neg (by simp)]
   exact wpAny_pure ⟨rfl,rfl,ks2,t⟩
 ·rintro ⟨r1,r2⟩ s' ⟨hr,rfl,_⟩
  simp only at hr
  subst hr
  exact wpAny_pure h
end
def bg {prog:Program} {w:World} {K:Type} [DecidableEq K] (knd:PySem.KeyKind prog w K):HeapKind prog w (List (List K)) where
 is:=IsNest knd
 hash:=bP knd
 draws:=db
 room:=fun A=>A.units+8 < cLine
 inj:=fun p q=>p.inj q
 keeps:=fun x ho hd hs=>x.keeps ho hd hs
 pyHash:=fun hu hk h=>li (by omega) hk h
 eqBool:=fun hu hx hy h=>ny hu hx hy h
 quiet:=fun hk h=>jL hk h
end Nest
namespace NwS
open PySem
open Sem (wp)
theorem aJ:Slot "set_iterator" "__next__" "set_iterator.__next__" :=
 .of (owner:="set_iterator") (n:="__next__") (by rw [typeLookup_type,builtinLookup_eq_fast]; kernel_rfl) (by decide +kernel) (by decide +kernel) (by decide +kernel)
  (by first | exact .inl (by decide +kernel) | exact .inr (by decide +kernel)) (by rw [isSubtype_type]; kernel_rfl)
theorem cz:Slot "set_iterator" "__iter__" "set_iterator.__iter__" :=
 .of (owner:="set_iterator") (n:="__iter__") (by rw [typeLookup_type,builtinLookup_eq_fast]; kernel_rfl) (by decide +kernel) (by decide +kernel) (by decide +kernel)
  (by first | exact .inl (by decide +kernel) | exact .inr (by decide +kernel)) (by rw [isSubtype_type]; kernel_rfl)
theorem cm:entryFor table "set_iterator.__next__"=some Builtin.«set_iterator.__next__»:=entryFor_of_fast (by kernel_rfl)
theorem eB:entryFor table "set_iterator.__iter__"=some Builtin.«dict_keyiterator.__iter__» :=
 entryFor_alias (id':="dict_keyiterator.__iter__") (by kernel_rfl) rfl (by decide +kernel) (by kernel_rfl)
theorem cW (a:Value):argsOk "set_iterator.__next__" ⟨[a],[]⟩:=by unfold argsOk; kernel_rfl
theorem fS (a:Value):argsOk "set_iterator.__iter__" ⟨[a],[]⟩:=by unfold argsOk; kernel_rfl
theorem dZ:entryFor table "set.__iter__"=some Builtin.«frozenset.__iter__» :=
 entryFor_alias (id':="frozenset.__iter__") (by kernel_rfl) rfl (by decide +kernel) (by kernel_rfl)
def SIter (h:Heap) (I a:Addr) (first:Value) (i n ep:Nat):Prop :=
 ∃ o,h.get? I=some o∧o.cls = .type "set_iterator"∧o.data = .fields #[first,.int i 0,.ref a,.int n 0,.int ep 0]
theorem g0 {α:Type} {l:List α} {i:Nat} (h:i < l.length):(l[i]::l.eraseIdx i).Perm l:=by
 have e:l=l.take i++l[i]::l.drop (i+1):=by
  rw [List.getElem_cons_drop h,List.take_append_drop]
 rw [List.eraseIdx_eq_take_drop_succ]
 conv=>rhs; rw [e]
 exact List.perm_middle.symm
theorem eK {α:Type} (next:Nat→Nat) : ∀ (n k:Nat) (left:List α) (out:Array α),n=left.length→(pickOrder.go next n k left out).toList.Perm (out.toList++left)
 | 0,k,left,out,h=>by
  have:left=[]:=List.length_eq_zero_iff.mp h.symm
  subst this
  simp [pickOrder.go]
 | n+1,k,left,out,h=>by
  have hl:next k % left.length < left.length:=Nat.mod_lt _ (by omega)
  unfold pickOrder.go
  rw [List.getElem?_eq_getElem hl]
  dsimp only
  refine (eK next n (k+1) _ _ (by rw [List.length_eraseIdx_of_lt hl]; omega)).trans ?_
  rw [Array.toList_push,List.append_assoc]
  exact (g0 hl).append_left _
theorem aX {α:Type} (next:Nat→Nat) (xs:Array α):(pickOrder next xs).toList.Perm xs.toList:=by
 have:=eK next xs.size 0 xs.toList #[] (by simp)
 simpa [pickOrder] using this
section
variable {prog:Program} {w:World} {A:Around} {E:Value→Shared→Prop} {s:Shared}
theorem SIter.typeIs {I a:Addr} {f:Value} {i n ep:Nat} (h:SIter s.heap I a f i n ep):s.TypeIs (.ref I) "set_iterator":=let ⟨o,ho,hc,_⟩:=h; ⟨o,ho,hc⟩
theorem SIter.at {h h':Heap} {I a:Addr} {f:Value} {i n ep:Nat} (x:SIter h I a f i n ep) (e : ∀ o,h.get? I=some o→h'.get? I=some o):SIter h' I a f i n ep:=let ⟨o,ho,r⟩:=x; ⟨o,e _ ho,r⟩
theorem eR {I a:Addr} {f:Value} {i n ep:Nat} {Q:Value→Shared→Prop} (hit:SIter s.heap I a f i n ep) (h:Q (.ref I) s):wpAny (model prog w) A (pyIter (.ref I)) Q E s:=by
 refine wpAny_pyIter_slot hit.typeIs cz (wpAny_call_entry cz hit.typeIs eB ?_ (fS _))
 show wpAny _ _ (ret (.ref I)) _ _ s
 exact wpAny_pure ⟨_,rfl, "set_iterator",_,hit.typeIs,aJ.lookup,h⟩
theorem stop_ok {h:Heap} {R:Fin→Shared→Prop} {Q:Option Value→Shared→Prop} (hh:A.handled=none) (hQ : ∀ h',(∀ b o,h.get? b=some o→h'.get? b=some o)→Q none { s with heap:=h' }) :
  wpAny (model prog w) A.in1 (newExc (.type "StopIteration") [] >>= fun e=>(raiseNew e:Sem Fin)) R (fun e s'=>wpAny (model prog w) A (isInstance e (.type "StopIteration") >>= fun b=>if b=true then pure none else throw e) Q E s') { s with heap:=h }:=by
 refine wpAny_bind ?_
 simp only [newExc,newTuple]
 refine wpAny_bind (wpAny_newObj_type ?_ (by size_fits))
 refine wpAny_bind (m:=firstArgMember _ _) (wpAny_of_eq (a:=Value.none) (by first | rfl | (simp only [firstArgMember]; rfl)) ?_)
 refine wpAny_newObj_type ?_ (by size_fits)
 simp only [raiseNew]
 refine wpAny_bind (wpAny_handled ?_)
 rw [show A.in1.handled=none from hh]
 refine wpAny_bind (wpAny_pure (wpAny_throw ?_))
 refine wpAny_bind (wpAny_isInstance (T:="StopIteration") (b:=true) ⟨_,Heap.get?_push_size _ rfl,rfl⟩ isSubtype_stop ?_)
 exact wpAny_pure (hQ _ fun b o e=>Heap.get?_push_of_some _ (Heap.get?_push_of_some _ e))
theorem gd {I a:Addr} {i sl nx:Nat} {es:Array (Int×Value)} {ep:Nat} {t:SetTable} {v:Value} {Q:Option Value→Shared→Prop}
  (hs:s.heap.get? a=some (setObj es ep t)) (hf:t.fits es.size=true) (hit:SIter s.heap I a (.int sl 0) i es.size ep)
  (hn : ∀ (E':Value→Shared→Prop) (Q':Option (Value×Nat)→Shared→Prop),Q' (some (v,nx)) s→wpAny (model prog w) A.in1 (setNext a sl i ep) Q' E' s)
  (hQ : ∀ h',SIter h' I a (.int nx 0) (i+1) es.size ep→Heap.SameBut I s.heap h'→Q (some v) { s with heap:=h' }) :
  wpAny (model prog w) A (pyNext (.ref I)) Q E s:=by
 obtain ⟨o,ho,hc,hd⟩:=id hit
 unfold pyNext
 refine wpAny_bind (wpAny_attempt (wpAny_callSpecial?_slot (name:=Str.ofString "__next__") hit.typeIs aJ
  (wpAny_call_entry aJ hit.typeIs cm ?_ (cW _))))
 unfold Builtin.«set_iterator.__next__»
 refine wpAny_bind (wpAny_pure ?_)
 refine wpAny_bind (wpAny_fieldsOf ho hd ?_)
 dsimp only
 refine wpAny_bind (wpAny_setEntries_of hs rfl hf ?_)
 rw [if_neg (by simp)]
 simp only [Int.toNat_natCast]
 refine wpAny_bind (hn _ _ ?_)
 dsimp only
 refine wpAny_bind (wpAny_setField ho hd (by simp) ?_)
 have hd1:=Obj.data_mapFields hd (fun vs:Array Value=>vs.setIfInBounds 0 (rawInt (nx:Int)))
 have ho1:=Heap.get?_update_self (Obj.mapFields fun vs:Array Value=>vs.setIfInBounds 0 (rawInt (nx:Int))) ho (Obj.isFreed_of_fields hd1)
 refine wpAny_bind (wpAny_setField ho1 hd1 (by simp) ?_)
 have hit':SIter ((s.heap.update I (Obj.mapFields (·.setIfInBounds 0 (rawInt (nx:Int))))).update I (Obj.mapFields (·.setIfInBounds 1 (rawInt ((i:Int)+1))))) I a (.int nx 0) (i+1) es.size ep :=
  ⟨_,Heap.get?_update_self _ ho1 (Obj.isFreed_of_fields (Obj.data_mapFields hd1 _)),(Obj.cls_mapFields ..).trans ((Obj.cls_mapFields ..).trans hc),by rw [Obj.data_mapFields hd1]; simp [rawInt]⟩
 exact wpAny_pure ⟨_,rfl,wpAny_pure (hQ _ hit' ((Heap.SameBut.update ..).trans (Heap.SameBut.update ..)))⟩
theorem iU {I a:Addr} {i sl:Nat} {es:Array (Int×Value)} {ep:Nat} {t:SetTable} {Q:Option Value→Shared→Prop} (hh:A.handled=none)
  (hs:s.heap.get? a=some (setObj es ep t)) (hf:t.fits es.size=true) (hit:SIter s.heap I a (.int sl 0) i es.size ep)
  (hn : ∀ (E':Value→Shared→Prop) (Q':Option (Value×Nat)→Shared→Prop),Q' none s→wpAny (model prog w) A.in1 (setNext a sl i ep) Q' E' s)
  (hQ : ∀ h',(∀ b o,b≠I→s.heap.get? b=some o→h'.get? b=some o)→Q none { s with heap:=h' }) :
  wpAny (model prog w) A (pyNext (.ref I)) Q E s:=by
 obtain ⟨o,ho,hc,hd⟩:=id hit
 unfold pyNext
 refine wpAny_bind (wpAny_attempt (wpAny_callSpecial?_slot (name:=Str.ofString "__next__") hit.typeIs aJ
  (wpAny_call_entry aJ hit.typeIs cm ?_ (cW _))))
 unfold Builtin.«set_iterator.__next__»
 refine wpAny_bind (wpAny_pure ?_)
 refine wpAny_bind (wpAny_fieldsOf ho hd ?_)
 dsimp only
 refine wpAny_bind (wpAny_setEntries_of hs rfl hf ?_)
 rw [if_neg (by simp)]
 simp only [Int.toNat_natCast]
 refine wpAny_bind (hn _ _ ?_)
 dsimp only
 refine wpAny_bind (wpAny_setField ho hd (by simp) ?_)
 refine stop_ok hh fun h' hk=>hQ h' fun b o' hb e=>hk b o' ?_
 exact (Heap.get?_update_other _ _ (Ne.symm hb)).trans e
end
end NwS
namespace NwS
open PySem
open Sem (wp)
section
variable {prog:Program} {w:World} {A:Around} {E:Value→Shared→Prop} {s:Shared}
theorem fo {Q:Bool→Shared→Prop} (h:Q (byText w) s):wpAny (model prog w) A setsByText Q E s:=by
 unfold setsByText
 exact wpAny_bind (wpAny_askSetting (wpAny_pure h))
theorem cA {a:Addr} {sl i ep:Nat} {es:Array (Int×Value)} {t:SetTable} {Q:Option (Value×Nat)→Shared→Prop} (hb:byText w=true)
  (hs:s.heap.get? a=some (setObj es ep t)) (hf:t.fits es.size=true)
  (h:Q (((pickOrder (w.params.setOrder a ep) es)[i]?).map fun e=>(e.2,sl)) s):wpAny (model prog w) A (setNext a sl i ep) Q E s:=by
 unfold setNext
 refine wpAny_bind (wpAny_setState_of hs rfl hf ?_)
 refine wpAny_bind (fo ?_)
 rw [hb,if_pos rfl]
 rw [if_neg (by simp)]
 refine wpAny_bind ?_
 unfold setWalk
 refine wpAny_bind (wpAny_setState_of hs rfl hf ?_)
 refine wpAny_bind (fo ?_)
 rw [hb,if_pos rfl]
 refine wpAny_bind (wpAny_askSetting (wpAny_pure ?_))
 exact wpAny_pure h
theorem gO (hh:A.handled=none) (hb:byText w=true) {I a:Addr} (hne:a≠I) {es:Array (Int×Value)} {ep:Nat} {t:SetTable} (hf:t.fits es.size=true) :
  Walks prog w A I [I,a] [I] es.size (fun i v=>((pickOrder (w.params.setOrder a ep) es)[i]?).map (·.2)=some v)
   (fun i h=>SIter h I a (.int (0:Nat) 0) i es.size ep∧h.get? a=some (setObj es ep t)) where
 sub:=fun b hb=>by simp at hb; simp [hb]
 frame:=fun _ _ _ st hk=>⟨st.1.at fun o e=>hk I (by simp) o e,hk a (by simp) _ st.2⟩
 item:=fun i s Q E hi st hQ=>by
  have hz:(pickOrder (w.params.setOrder a ep) es).size=es.size:=by
   rw [← Array.length_toList,(aX _ es).length_eq,Array.length_toList]
  obtain ⟨e,he⟩ : ∃ e,(pickOrder (w.params.setOrder a ep) es)[i]?=some e:=⟨_,Array.getElem?_eq_getElem (by omega)⟩
  refine gd (v:=e.2) (nx:=0) st.2 hf st.1 (fun E' Q' q=>cA hb st.2 hf (by rw [he]; exact q)) fun h' hit' hsb => ?_
  exact hQ _ h' s.toks (by rw [he]; rfl) ⟨hit',(hsb.2 a hne).trans st.2⟩ fun b o hb e=>(hsb.2 b (fun z=>hb (by simp [z]))).trans e
 done:=fun s Q E st hQ=>by
  have hz:(pickOrder (w.params.setOrder a ep) es).size=es.size:=by
   rw [← Array.length_toList,(aX _ es).length_eq,Array.length_toList]
  have he:(pickOrder (w.params.setOrder a ep) es)[es.size]?=none:=Array.getElem?_eq_none (by omega)
  refine iU hh st.2 hf st.1 (fun E' Q' q=>cA hb st.2 hf (by rw [he]; exact q)) fun h' hk => ?_
  exact hQ h' s.toks fun b o hb e=>hk b o (fun z=>hb (by simp [z])) e
 self:=fun _ _ _ _ st hQ=>eR st.1 hQ
theorem ik {w:World} {a:Addr} {ep:Nat} {es:Array (Int×Value)} {acc:Array Value} (h:ItemsOf (fun i v=>((pickOrder (w.params.setOrder a ep) es)[i]?).map (·.2)=some v) acc es.size) :
  acc.toList.Perm (es.toList.map (·.2)):=by
 have e:acc.toList=(pickOrder (w.params.setOrder a ep) es).toList.map (·.2):=by
  apply List.ext_getElem?
  intro i
  rw [List.getElem?_map,Array.getElem?_toList,Array.getElem?_toList]
  by_cases hi:i < acc.size
  ·have:=h.2 i acc[i] (Array.getElem?_eq_getElem hi)
   rw [Array.getElem?_eq_getElem hi]; exact this.symm
  ·rw [Array.getElem?_eq_none (by omega),Array.getElem?_eq_none (by rw [← Array.length_toList,(aX _ es).length_eq,Array.length_toList]; have:=h.1; omega)]; rfl
 rw [e]
 exact (aX _ es).map _
theorem jo {es:Array (Int×Value)} {acc:Array Value} (h:ItemsOf (fun i v=>(es[i]?).map (·.2)=some v) acc es.size) :
  acc.toList.Perm (es.toList.map (·.2)):=by
 have e:acc.toList=es.toList.map (·.2):=by
  apply List.ext_getElem?
  intro i
  rw [List.getElem?_map,Array.getElem?_toList,Array.getElem?_toList]
  by_cases hi:i < acc.size
  ·have:=h.2 i acc[i] (Array.getElem?_eq_getElem hi)
   rw [Array.getElem?_eq_getElem hi]; exact this.symm
  ·rw [Array.getElem?_eq_none (by omega),Array.getElem?_eq_none (by have:=h.1; omega)]; rfl
 rw [e]
end
end NwS
namespace NwS
open PySem
open Sem (wp)
section
variable {prog:Program} {w:World} {A:Around} {E:Value→Shared→Prop} {s:Shared}
theorem kv {a:Addr} {es:Array (Int×Value)} {ep:Nat} {t:SetTable} {Q:Bool→Shared→Prop} (hs:s.heap.get? a=some (setObj es ep t)) (hf:t.fits es.size=true)
  (h:Q (!byText w && (!t.plain && decide (es.size > 1))) s):wpAny (model prog w) A (setDrawn a) Q E s:=by
 unfold setDrawn
 refine wpAny_bind (wpAny_setState_of hs rfl hf ?_)
 refine wpAny_bind (fo ?_)
 exact wpAny_pure h
end
end NwS
set_option autoImplicit false
namespace Tab
open PySem PySem.SetTable NwS Nest
section
variable {prog:Program} {w:World} {A:Around} {E:Value→Shared→Prop} {s:Shared}
theorem eT {ns:List Int} {vs:List Value} (h:ItemsAre (intKind prog w) ns vs) : ∀ v∈vs,∃ n t,v = .int n t:=by
 induction h with
 | nil=>intro v hv; simp at hv
 | cons h1 _ ih =>
  intro v hv
  rcases List.mem_cons.mp hv with rfl | hv
  ·obtain ⟨t,rfl⟩:=Value.isInt_shape h1; exact ⟨_,t,rfl⟩
  ·exact ih v hv
theorem mE (n:Nat) {ns:List Int} {a:Addr} {Q:Bool→Shared→Prop} (hk:IsTupleKey (intKind prog w) s.heap ns a) (h:Q false s):wpAny (model prog w) A (ofAClassStatement (n+1) (.ref a)) Q E s:=by
 have hT:=hk.typeIs
 obtain ⟨o,its,m,ho,_,hd,hi⟩:=hk
 unfold ofAClassStatement
 refine wpAny_bind (wpAny_typeOf hT ?_)
 refine wpAny_bind (wpAny_pure ?_)
 show wpAny _ _ (seqItems? (.ref a) >>= _) _ _ s
 refine wpAny_bind (wpAny_seqItems ho hd (wpAny_bind ?_))
 show wpAny _ _ (forIn its _ _) _ _ s
 rw [← Array.forIn_toList]
 refine wpAny_forIn_list _ (fun rest r s'=>r.1=none∧s'=s ∧ ∀ v∈rest,∃ n t,v = .int n t) _ ?_ ?_ _ _ ⟨rfl,rfl,eT hi⟩
 ·rintro v rest r s' ⟨hr,rfl,hall⟩
  obtain ⟨i,t,rfl⟩:=hall v (by simp)
  unfold ofAClassStatement
  refine wpAny_bind (wpAny_pure ?_)
  rw [if_neg (by simp)]
  exact wpAny_pure ⟨rfl,rfl,fun u q=>hall u (List.mem_cons_of_mem _ q)⟩
 ·rintro ⟨r1,r2⟩ s' ⟨hr,rfl,_⟩
  simp only at hr
  subst hr
  exact wpAny_pure h
theorem ky:cc (bg (intKind prog w)):=fun {A E s k a Q} hk h=>by
 have hk':IsNest (intKind prog w) s.heap k a:=hk
 have hT:=hk'.typeIs
 obtain ⟨o,its,m,ho,_,hd,hi⟩:=hk'
 unfold ofAClassStatement
 refine wpAny_bind (wpAny_typeOf hT ?_)
 refine wpAny_bind (wpAny_pure ?_)
 show wpAny _ _ (seqItems? (.ref a) >>= _) _ _ s
 refine wpAny_bind (wpAny_seqItems ho hd (wpAny_bind ?_))
 show wpAny _ _ (forIn its _ _) _ _ s
 rw [← Array.forIn_toList]
 refine wpAny_forIn_list _ (fun rest r s'=>r.1=none∧s'=s ∧ ∃ ks,Refs (intKind prog w) s.heap ks rest) _ ?_ ?_ _ _ ⟨rfl,rfl,k,hi⟩
 ·rintro v rest r s' ⟨hr,rfl,ks',hall⟩
  cases hall with
  | @cons k c ks2 _ h1 t =>
   refine wpAny_bind (mE 6 h1 ?_)
   rw [if_neg (by simp)]
   exact wpAny_pure ⟨rfl,rfl,ks2,t⟩
 ·rintro ⟨r1,r2⟩ s' ⟨hr,rfl,_⟩
  simp only at hr
  subst hr
  exact wpAny_pure h
theorem lW (n:Nat) {ns:List Int} {a:Addr} {Q:Bool→Shared→Prop} (hk:IsTupleKey (intKind prog w) s.heap ns a) (h:Q true s):wpAny (model prog w) A (hashByValue (n+1) (.ref a)) Q E s:=by
 have hT:=hk.typeIs
 obtain ⟨o,its,m,ho,_,hd,hi⟩:=hk
 unfold hashByValue
 refine wpAny_bind (wpAny_specialOf hT F.slot_tuple_hash.lookup ?_)
 show wpAny _ _ (seqItems? (.ref a) >>= _) _ _ s
 refine wpAny_bind (wpAny_seqItems ho hd (wpAny_bind ?_))
 show wpAny _ _ (forIn its _ _) _ _ s
 rw [← Array.forIn_toList]
 refine wpAny_forIn_list _ (fun rest r s'=>r.1=none∧s'=s ∧ ∀ v∈rest,∃ n t,v = .int n t) _ ?_ ?_ _ _ ⟨rfl,rfl,eT hi⟩
 ·rintro v rest r s' ⟨hr,rfl,hall⟩
  obtain ⟨i,t,rfl⟩:=hall v (by simp)
  have e : ∀ n i t,hashByValue n (.int i t)=pure true:=fun n i t=>by cases n <;> (unfold hashByValue; rfl)
  rw [e]
  refine wpAny_bind (wpAny_pure ?_)
  exact wpAny_pure ⟨rfl,rfl,fun u q=>hall u (List.mem_cons_of_mem _ q)⟩
 ·rintro ⟨r1,r2⟩ s' ⟨hr,rfl,_⟩
  simp only at hr
  subst hr
  exact wpAny_pure h
theorem jD {k:List (List Int)} {a:Addr} {Q:Bool→Shared→Prop} (hk:IsNest (intKind prog w) s.heap k a) (h:Q true s):wpAny (model prog w) A (hashByValue 8 (.ref a)) Q E s:=by
 have hT:=hk.typeIs
 obtain ⟨o,its,m,ho,_,hd,hi⟩:=hk
 unfold hashByValue
 refine wpAny_bind (wpAny_specialOf hT F.slot_tuple_hash.lookup ?_)
 show wpAny _ _ (seqItems? (.ref a) >>= _) _ _ s
 refine wpAny_bind (wpAny_seqItems ho hd (wpAny_bind ?_))
 show wpAny _ _ (forIn its _ _) _ _ s
 rw [← Array.forIn_toList]
 refine wpAny_forIn_list _ (fun rest r s'=>r.1=none∧s'=s ∧ ∃ ks,Refs (intKind prog w) s.heap ks rest) _ ?_ ?_ _ _ ⟨rfl,rfl,k,hi⟩
 ·rintro v rest r s' ⟨hr,rfl,ks',hall⟩
  cases hall with
  | @cons k c ks2 _ h1 t =>
   refine wpAny_bind (lW 6 h1 ?_)
   rw [if_neg (by simp)]
   exact wpAny_pure ⟨rfl,rfl,ks2,t⟩
 ·rintro ⟨r1,r2⟩ s' ⟨hr,rfl,_⟩
  simp only at hr
  subst hr
  exact wpAny_pure h
theorem j9 {K:Type} [DecidableEq K] {knd:PySem.KeyKind prog w K} {h h':Heap} {k:List K} {b:Addr} (x:IsTupleKey knd h k b) (f : ∀ c o x n,h.get? c=some o→o.cls = .type "tuple"→o.data = .seq x n→h'.get? c=some o):IsTupleKey knd h' k b:=by
 obtain ⟨o1,i1,n1,e1,c1,d1,r1⟩:=x
 exact ⟨o1,i1,n1,f _ _ _ _ e1 c1 d1,c1,d1,r1⟩
theorem nest_grow {K:Type} [DecidableEq K] {knd:PySem.KeyKind prog w K} {h h':Heap} {k:List (List K)} {b:Addr} (x:IsNest knd h k b) (f : ∀ c o x n,h.get? c=some o→o.cls = .type "tuple"→o.data = .seq x n→h'.get? c=some o):IsNest knd h' k b:=by
 obtain ⟨o1,i1,n1,e1,c1,d1,r1⟩:=x
 exact ⟨o1,i1,n1,f _ _ _ _ e1 c1 d1,c1,d1,r1.imp fun k b p=>j9 p f⟩
theorem kt:Fit (bg (intKind prog w)):=⟨ky,fun hk h=>jD hk h,fun hk f=>nest_grow hk f⟩
end
section
variable {prog:Program} {w:World} {K:Type} [DecidableEq K] {knd:HeapKind prog w K} {A:Around} {E:Value→Shared→Prop} {s:Shared}
theorem dg {a:Addr} {sl i ep:Nat} {es:Array (Int×Value)} {t:SetTable} {Q:Option (Value×Nat)→Shared→Prop} (hb:byText w=false)
  (hs:s.heap.get? a=some (setObj es ep t)) (hf:t.fits es.size=true) (hl:t.led=true) (hp:t.plain=true)
  (h:Q (match es[SetTable.below t.place sl]?,t.place[SetTable.below t.place sl]? with
   | some (_,x),some j=>some (x,j+1)
   | _,_=>none) s):wpAny (model prog w) A (setNext a sl i ep) Q E s:=by
 unfold setNext
 refine wpAny_bind (wpAny_setState_of hs rfl hf ?_)
 refine wpAny_bind (fo ?_)
 rw [hb,if_neg (by simp)]
 show wpAny _ _ (if (!t.plain && decide (es.size > 1))=true then _ else _) _ _ _
 rw [hp,if_neg (by simp)]
 show wpAny _ _ ((if (!t.led && !es.isEmpty)=true then unsupported "set:maker-not-led" else pure ()) >>= _) _ _ _
 rw [hl,if_neg (by simp)]
 exact wpAny_bind (wpAny_pure (wpAny_pure h))
def nxt (t:SetTable) (i:Nat):Nat:=if i=0 then 0 else t.place.getD (i - 1) 0+1
theorem eL {t:SetTable} (hr:Rise t.place) {i:Nat} (hi:i≤t.place.size):below t.place (nxt t i)=i:=by
 obtain ⟨h1,h2,h3⟩:=ee hr (nxt t i)
 have low : ∀ k,k < i→k < below t.place (nxt t i):=fun k hk=>by
  rcases Nat.lt_or_ge k (below t.place (nxt t i)) with q | q
  ·exact q
  ·have hk':k < t.place.size:=by omega
   have:=h3 k _ q (Array.getElem?_eq_getElem hk')
   unfold nxt at this
   rw [if_neg (by omega),Array.getD_eq_getD_getElem?,Array.getElem?_eq_getElem (show i - 1 < t.place.size by omega)] at this
   simp only [Option.getD_some] at this
   by_cases z:k=i - 1
   ·subst z; omega
   ·have:=hr.lt (show k < i - 1 by omega) (Array.getElem?_eq_getElem hk') (Array.getElem?_eq_getElem (show i - 1 < t.place.size by omega))
    omega
 have high:below t.place (nxt t i)≤i:=by
  rcases Nat.lt_or_ge i (below t.place (nxt t i)) with q | q
  ·have hi':i < t.place.size:=by omega
   have:=h2 i _ q (Array.getElem?_eq_getElem hi')
   unfold nxt at this
   by_cases z:i=0
   ·rw [if_pos z] at this; omega
   ·rw [if_neg z,Array.getD_eq_getD_getElem?,Array.getElem?_eq_getElem (show i - 1 < t.place.size by omega)] at this
    simp only [Option.getD_some] at this
    have:=hr.lt (show i - 1 < i by omega) (Array.getElem?_eq_getElem (show i - 1 < t.place.size by omega)) (Array.getElem?_eq_getElem hi')
    omega
  ·exact q
 rcases Nat.lt_or_ge (below t.place (nxt t i)) i with q | q
 ·exact absurd (low _ q) (Nat.lt_irrefl _)
 ·omega
theorem i6 (hh:A.handled=none) (hb:byText w=false) {I a:Addr} (hne:a≠I) {es:Array (Int×Value)} {ep:Nat} {t:SetTable} (hf:t.fits es.size=true) (hr:Rise t.place) (hl:t.led=true) (hp:t.plain=true) :
  Walks prog w A I [I,a] [I] es.size (fun i v=>(es[i]?).map (·.2)=some v)
   (fun i h=>SIter h I a (.int (nxt t i:Nat) 0) i es.size ep∧h.get? a=some (setObj es ep t)) where
 sub:=fun b hb=>by simp at hb; simp [hb]
 frame:=fun _ _ _ st hk=>⟨st.1.at fun o e=>hk I (by simp) o e,hk a (by simp) _ st.2⟩
 item:=fun i s Q E hi st hQ=>by
  have hpz:t.place.size=es.size:=by simp [SetTable.fits] at hf; exact hf.1
  have he:es[i]?=some (es[i]'(by omega)):=Array.getElem?_eq_getElem (by omega)
  have hpp:t.place[i]?=some (t.place[i]'(by omega)):=Array.getElem?_eq_getElem (by omega)
  refine gd (v:=(es[i]'(by omega)).2) (nx:=t.place[i]'(by omega)+1) st.2 hf st.1 (fun E' Q' q=>dg hb st.2 hf hl hp ?_) fun h' hit' hsb => ?_
  ·rw [eL hr (by omega),he,hpp]; exact q
  ·refine hQ _ h' s.toks (by rw [he]; rfl) ⟨?_,(hsb.2 a hne).trans st.2⟩ fun b o hb e=>(hsb.2 b (fun z=>hb (by simp [z]))).trans e
   have:nxt t (i+1)=t.place[i]'(by omega)+1:=by
    unfold nxt
    rw [if_neg (by omega),Array.getD_eq_getD_getElem?,show i+1 - 1=i from rfl,hpp]; rfl
   rw [this]; exact hit'
 done:=fun s Q E st hQ=>by
  have hpz:t.place.size=es.size:=by simp [SetTable.fits] at hf; exact hf.1
  refine iU hh st.2 hf st.1 (fun E' Q' q=>dg hb st.2 hf hl hp ?_) fun h' hk => ?_
  ·rw [eL hr (by omega),Array.getElem?_eq_none (by omega)]; exact q
  ·exact hQ h' s.toks fun b o hb e=>hk b o (fun z=>hb (by simp [z])) e
 self:=fun _ _ _ _ st hQ=>eR st.1 hQ
end
end Tab
set_option autoImplicit false
namespace Tab
open PySem PySem.SetTable NwS Nest
open Sem (wp)
section
variable {prog:Program} {w:World} {A:Around} {E:Value→Shared→Prop} {s:Shared}
structure Led (w:World) (h:Heap) (a:Addr) (es:Array (Int×Value)) (ep:Nat) (t:SetTable):Prop where
 obj:h.get? a=some (setObj es ep t)
 fit:t.fits es.size=true
 bd:es.size < scanBound
 rise:Rise t.place
 plain:t.plain=true
 led:byText w=false→t.led=true
theorem kc {a:Addr} {es:Array (Int×Value)} {ep:Nat} {t:SetTable} (L:Led w s.heap a es ep t) {Q:Value→Shared→Prop}
  (hQ : ∀ I fp P St h',(∀ A':Around,A'.handled=none→Walks prog w A' I fp [I] es.size P St)→St 0 h'→(∀ b∈fp,b < h'.objs.size)→I∈fp→s.heap.objs.size≤I→(∀ b∈fp,b=a∨s.heap.objs.size≤b) →
   (∀ b o,s.heap.get? b=some o→h'.get? b=some o)→(∀ acc,ItemsOf P acc es.size→acc.toList.Perm (es.toList.map (·.2)))→Q (.ref I) { s with heap:=h' }) :
  wpAny (model prog w) A (pyIter (.ref a)) Q E s:=by
 have ho:=L.obj
 have hf:=L.fit
 have hT:s.TypeIs (.ref a) "set":=⟨_,ho,rfl⟩
 have hlt:a < s.heap.objs.size:=Heap.lt_size ho
 refine wpAny_pyIter_slot hT F.slot_set_iter (wpAny_call_entry F.slot_set_iter hT dZ ?_ (F.args_set_iter_1 _))
 unfold Builtin.«frozenset.__iter__» Builtin.Frozenset.slot0 Builtin.Frozenset.sizeOf
 refine wpAny_bind (wpAny_bind (wpAny_pure (wpAny_pure ?_)))
 refine wpAny_bind (wpAny_bind (wpAny_setEntries_of ho rfl hf (wpAny_pure ?_)))
 refine wpAny_bind (kv ho hf ?_)
 rw [L.plain,if_neg (by simp)]
 refine wpAny_bind (wpAny_pure ?_)
 refine wpAny_bind (wpAny_setEpoch_of ho rfl hf ?_)
 refine wpAny_bind (wpAny_newObj_type (wpAny_pure ⟨_,rfl, "set_iterator",_,⟨_,Heap.get?_push_size _ rfl,rfl⟩,aJ.lookup,?_⟩))
 have hne:a≠s.heap.objs.size:=Nat.ne_of_lt hlt
 have go : ∀ (P:Nat→Value→Prop) (St:Nat→Heap→Prop),(∀ A':Around,A'.handled=none→Walks prog w A' s.heap.objs.size [s.heap.objs.size,a] [s.heap.objs.size] es.size P St) →
   (∀ h',SIter h' s.heap.objs.size a (.int (0:Nat) 0) 0 es.size ep→h'.get? a=some (setObj es ep t)→St 0 h')→(∀ acc,ItemsOf P acc es.size→acc.toList.Perm (es.toList.map (·.2))) →
   Q (.ref s.heap.objs.size) { s with heap:=s.heap.push { cls := .type "set_iterator",data := .fields #[.int (0:Nat) 0,.int (0:Nat) 0,.ref a,.int es.size 0,.int ep 0] } }:=by
  intro P St W st it
  refine hQ _ _ P St _ W (st _ ⟨_,Heap.get?_push_size _ rfl,rfl,rfl⟩ (Heap.get?_push_of_some _ ho)) (fun b hb' => ?_) (by simp) (Nat.le_refl _) (fun b hb' => ?_) (fun b o e=>Heap.get?_push_of_some _ e) it
  ·rw [Heap.size_push]
   rcases List.mem_cons.mp hb' with e | e
   ·rw [e]; exact Nat.lt_succ_self _
   ·rw [List.mem_singleton.mp e]; exact Nat.lt_succ_of_lt hlt
  ·rcases List.mem_cons.mp hb' with e | e
   ·exact .inr (by rw [e]; exact Nat.le_refl _)
   ·exact .inl (List.mem_singleton.mp e)
 cases hbt:byText w with
 | true=>exact go _ _ (fun A' hh=>gO hh hbt hne hf) (fun h' a1 a2=>⟨a1,a2⟩) fun acc q=>ik q
 | false=>exact go _ _ (fun A' hh=>i6 hh hbt hne hf L.rise (L.led hbt) L.plain) (fun h' a1 a2=>⟨a1,a2⟩) fun acc q=>jo q
theorem gE {a:Addr} {es:Array (Int×Value)} {ep:Nat} {t:SetTable} (hh:A.handled=none) (L:Led w s.heap a es ep t) {Q:List Value→Shared→Prop}
  (hQ : ∀ vs h' tk,vs.Perm (es.toList.map (·.2))→(∀ b o,s.heap.get? b=some o→h'.get? b=some o)→Q vs { s with heap:=h',toks:=tk }) :
  wpAny (model prog w) A (collect (.ref a)) Q E s:=by
 have ho:=L.obj
 have hlt:a < s.heap.objs.size:=Heap.lt_size ho
 have hSa:s.heap.objs.size≠a:=Nat.ne_of_gt hlt
 have hn:es.size≤sizeLine:=fits_of_scanBound L.bd
 unfold collect
 refine wpAny_bind (wpAny_runValue (codeAny_builtin F.entry_proto_collect ?_))
 rw [Around.under_plainId F.plain_proto_collect _]
 show wpAny _ A.in1 (newList [] >>= fun l=>again (.builtin "list.__iadd__" ⟨[l,.ref a],[]⟩)) _ _ s
 refine wpAny_bind (wpAny_newObj_type ?_)
 refine wpAny_pure ⟨plainId_quiet F.plain_list_iadd _,codeAny_builtin F.entry_list_iadd ?_⟩
 rw [Around.under_plainId F.plain_list_iadd _]
 have L1:Led w (s.heap.push { cls := .type "list",data := .seq ([]:List Value).toArray }) a es ep t:={ L with obj:=Heap.get?_push_of_some _ ho }
 have hT1:Shared.TypeIs { s with heap:=s.heap.push { cls := .type "list",data := .seq ([]:List Value).toArray } } (.ref a) "set":=⟨_,L1.obj,rfl⟩
 show wpAny _ A.in1 (Builtin.List.listExtendWith (.ref s.heap.objs.size) (.ref a) (.ref s.heap.objs.size)) _ _ _
 unfold Builtin.List.listExtendWith
 refine wpAny_bind (wpAny_typeOf hT1 ?_)
 have h1:Builtin.List.listSameRef (.ref s.heap.objs.size) (.ref a)=false:=by simp [Builtin.List.listSameRef,hSa]
 have h2:(Value.type "set" == Value.type "list")=false:=by decide
 have h3:(Value.type "set" == Value.type "tuple")=false:=by decide
 simp only [h1,h2,h3,Bool.or_false,Bool.false_eq_true,if_false]
 refine wpAny_bind (kc (s:={ s with heap:=s.heap.push { cls := .type "list",data := .seq ([]:List Value).toArray } }) L1 fun I fp P St h' W st0 hfp hI hIf hfa hk items => ?_)
 have L2':Led w h' a es ep t:={ L1 with obj:=hk _ _ L1.obj }
 have hT2:Shared.TypeIs { s with heap:=h' } (.ref a) "set":=⟨_,L2'.obj,rfl⟩
 refine wpAny_bind (wpAny_holding ?_)
 unfold Builtin.List.listLengthHint
 refine wpAny_bind (wpAny_specialOf hT2 F.slot_set_len.lookup ?_)
 (generalize hid:("set.__len__":String)=id0; (fail_if_success (clear hid id0)); dsimp only; rw [show splitId id0=some ("set", "__len__") from by subst hid; decide +kernel]; subst hid)
 refine wpAny_bind (wpAny_isInstance (b:=true) hT2 (by rw [isSubtype_type]; kernel_rfl) ?_)
 refine wpAny_bind (wpAny_typeOf hT2 ?_)
 refine wpAny_pure ?_
 show wpAny _ A.in1 (rule "list.extend.makes-room" >>= fun _=>Builtin.List.listTouch (.ref s.heap.objs.size) >>= fun _ =>
  again (.builtin "list.extend.loop" ⟨[.ref s.heap.objs.size,.ref I,.ref s.heap.objs.size],[]⟩)) _ _ _
 refine wpAny_bind (wpAny_rule ?_)
 have hSf:s.heap.objs.size∉fp:=fun hm=>by
  rcases hfa _ hm with e | e
  ·exact hSa e
  ·rw [Heap.size_push] at e; omega
 have hS₁:h'.get? s.heap.objs.size=some { cls := .type "list",data := .seq ([]:List Value).toArray }:=hk _ _ (Heap.get?_push_size _ rfl)
 refine wpAny_bind ?_
 show wpAny _ A.in1 (updateSeq s.heap.objs.size (·.push .none) >>= fun _=>updateSeq s.heap.objs.size (·.pop)) _ _ _
 refine wpAny_bind (wpAny_updateSeq hS₁ rfl ?_)
 have hS₂:=Heap.get?_update_self (Obj.mapSeq (·.push Value.none)) hS₁ rfl
 refine wpAny_updateSeq hS₂ rfl ?_
 have hS₃:=Heap.get?_update_self (Obj.mapSeq (·.pop)) hS₂ rfl
 have oth : ∀ b o,b≠s.heap.objs.size→h'.get? b=some o →
   ((h'.update s.heap.objs.size (Obj.mapSeq (·.push Value.none))).update s.heap.objs.size (Obj.mapSeq (·.pop))).get? b=some o :=
  fun b o hb e=>(Heap.get?_update_other _ _ (Ne.symm hb)).trans ((Heap.get?_update_other _ _ (Ne.symm hb)).trans e)
 have WS:=(W A.in1.in1 hh).toS
 refine wpAny_pure ⟨plainId_quiet F.plain_extend_loop _,codeAny_extend_loopS (A:=A) (W A.in1 hh).toS hn _ hSf _ es.size 0 _ _ _ rfl (Nat.zero_le _)
  (WS.frame 0 ({ s with heap:=h' }:Shared) _ s.toks st0 (Nat.le_refl _) fun b hb o e=>oth b o (fun h=>hSf (h ▸ hb)) e) hS₃ (ItemsOf.nil P) fun s' acc' c' hm hS' hacc => ?_⟩
 obtain ⟨h4,g4,d4,tk4,os4⟩:=s'
 have eg:g4=s.gens:=hm.gens
 have ed:d4=s.drawn:=hm.drawn
 have eo:os4=s.os:=hm.os
 subst eg; subst ed; subst eo
 show wpAny _ A (load s.heap.objs.size >>= _) _ _ _
 refine wpAny_bind (wpAny_load hS' ?_)
 refine wpAny_pure (hQ _ h4 tk4 (items _ hacc) fun b o e => ?_)
 have hlb:b < s.heap.objs.size:=Heap.lt_size e
 refine hm.heap b o (fun hm' => ?_) (oth b o (Nat.ne_of_lt hlb) (hk b o (Heap.get?_push_of_some _ e)))
 rcases List.mem_cons.mp hm' with z | z
 ·exact absurd z (Nat.ne_of_lt hlb)
 ·have z:=List.mem_singleton.mp z
  have hIf':s.heap.objs.size+1≤I:=by rw [← Heap.size_push s.heap { cls := .type "list",data := .seq ([]:List Value).toArray }]; exact hIf
  exact absurd (Nat.lt_trans hlb hIf') (by rw [z]; exact Nat.lt_irrefl _)
end
end Tab
set_option autoImplicit false
namespace SortN
open PySem PyProof.Rows Ord' Nest Tim
section
variable {prog:Program} {w:World} {A:Around} {E:Value→Shared→Prop} {s:Shared}
theorem gW {a b:Int} {t u:Tok} {Q:Value→Shared→Prop} (h:Q (.bool (decide (a < b))) s):wpAny (model prog w) A (richCompare .Lt (.int a t) (.int b u)) Q E s:=by
 have:=@wpAny_lt_int prog w A E s a b t u Q h
 exact this
theorem k8 {x y:List Int} {a b:Addr} {P:Fin→Shared→Prop} (hx:IsTupleKey (intKind prog w) s.heap x a) (hy:IsTupleKey (intKind prog w) s.heap y b) (h:P (.done (.ret (.bool (ltR x y)))) s) :
  wpAny (model prog w) A (Builtin.«tuple.__lt__» ⟨[.ref a,.ref b],[]⟩) P E s:=by
 have hTb:=hy.typeIs
 obtain ⟨oa,xs,na,hoa,_,hda,ra⟩:=hx
 obtain ⟨ob,ys,nb,hob,_,hdb,rb⟩:=hy
 show wpAny _ _ (isInstance (.ref b) (.type "tuple") >>= _) _ _ s
 refine wpAny_bind (wpAny_isInstance hTb isSubtype_tuple_tuple ?_)
 rw [if_neg (by simp)]
 refine wpAny_bind (wpAny_tupleItemsOf hoa hda (wpAny_bind (wpAny_tupleItemsOf hob hdb (wpAny_bind ?_))))
 refine wpAny_forIn_list _
  (fun rest r s'=>r.1=none∧s'=s ∧ ∃ x' y' xs' ys',rest=List.zip xs' ys'∧ItemsAre (intKind prog w) x' xs'∧ItemsAre (intKind prog w) y' ys'∧ltR x' y'=ltR x y∧decide (xs'.length < ys'.length)=decide (xs.size < ys.size))
  _ ?_ ?_ _ _ ⟨rfl,rfl,x,y,xs.toList,ys.toList,rfl,ra,rb,rfl,by simp⟩
 ·rintro ⟨u,v⟩ rest r s' ⟨hr,rfl,x',y',xs',ys',hz,hx',hy',hlt,hlen⟩
  cases hx' with
  | nil=>simp at hz
  | @cons k1 c1 x2 xs2 h1 t1 =>
   cases hy' with
   | nil=>simp at hz
   | @cons k2 c2 y2 ys2 h2 t2 =>
    simp only [List.zip_cons_cons,List.cons.injEq,Prod.mk.injEq] at hz
    obtain ⟨⟨rfl,rfl⟩,rfl⟩:=hz
    refine wpAny_bind ((intKind prog w).eqBool (a:=k1) (b:=k2) h1 h2 ?_)
    by_cases hk:k1=k2
    ·subst hk
     rw [decide_eq_true rfl,if_neg (by simp)]
     refine wpAny_pure ⟨rfl,rfl,x2,y2,xs2,ys2,rfl,t1,t2,?_,by simpa using hlen⟩
     rw [← hlt]
     show _=lx ltI (k1::x2) (k1::y2)
     rw [lx,if_pos rfl]; rfl
    ·rw [decide_eq_false hk,if_pos (by simp)]
     obtain ⟨t3,rfl⟩:=Value.isInt_shape h1
     obtain ⟨t4,rfl⟩:=Value.isInt_shape h2
     refine wpAny_bind (wpAny_rule (wpAny_bind (gW ?_)))
     have e:decide (k1 < k2)=ltR x y:=by
      rw [← hlt]
      show _=lx ltI (k1::x2) (k2::y2)
      rw [lx,if_neg hk]; rfl
     rw [e]
     exact wpAny_bind (wpAny_pure (wpAny_pure (wpAny_pure h)))
 ·rintro ⟨r1,r2⟩ s' ⟨hr,rfl,x',y',xs',ys',hz,hx',hy',hlt,hlen⟩
  simp only at hr
  subst hr
  refine wpAny_pure ?_
  have e:decide (xs.size < ys.size)=ltR x y:=by
   rw [← hlt,← hlen]
   cases hx' with
   | nil =>
    cases hy' with
    | nil=>rfl
    | cons _ _=>simp [ltR,lx]
   | cons _ _ =>
    cases hy' with
    | nil=>simp [ltR,lx]
    | cons _ _=>simp at hz
  show P (.done (.ret (.bool (decide (xs.size < ys.size))))) s'
  rw [e]; exact h
theorem gU {x y:List Int} {a b:Addr} {Q:Value→Shared→Prop} (hu:A.units < cLine) (hx:IsTupleKey (intKind prog w) s.heap x a) (hy:IsTupleKey (intKind prog w) s.heap y b) (h:Q (.bool (ltR x y)) s) :
  wpAny (model prog w) A (richCompare .Lt (.ref a) (.ref b)) Q E s :=
 wpAny_richCompare_same_room (op := .Lt) hx.typeIs hy.typeIs F.slot_tuple_lt (wpAny_call_entry F.slot_tuple_lt hx.typeIs F.entry_tuple_lt (k8 hx hy ⟨_,rfl,(fun e=>nomatch e),h⟩) (F.args_tuple_lt_2 _ _)) hu
theorem jg {x y:List Int} {a b:Addr} {Q:Bool→Shared→Prop} (hu:A.units < cLine) (hx:IsTupleKey (intKind prog w) s.heap x a) (hy:IsTupleKey (intKind prog w) s.heap y b) (h:Q (ltR x y) s) :
  wpAny (model prog w) A (oneLt' false (.ref a) (.ref b)) Q E s:=by
 rw [oneLt'_eq]
 exact wpAny_bind (gU hu hx hy (wpAny_truthy_bool h))
theorem bt {a:Addr} {o:Obj} {its:Array Value} {n:Nat} {Q:Array Value→Shared→Prop} (ho:s.heap.get? a=some o) (hd:o.data = .seq its n) (h:Q its s):wpAny (model prog w) A (Builtin.List.listItems (.ref a)) Q E s:=by
 unfold Builtin.List.listItems
 exact wpAny_bind (wpAny_seqItems ho hd (wpAny_pure h))
theorem ii {x y:List (List Int)} {a b:Addr} {Q:Bool→Shared→Prop} (hu:A.units < cLine) (hx:IsNest (intKind prog w) s.heap x a) (hy:IsNest (intKind prog w) s.heap y b) (h:Q (ltP x y) s) :
  wpAny (model prog w) A (keyLt' (tuples' false) (.ref a) (.ref b)) Q E s:=by
 obtain ⟨oa,xs,na,hoa,_,hda,ra⟩:=hx
 obtain ⟨ob,ys,nb,hob,_,hdb,rb⟩:=hy
 show wpAny _ _ (Builtin.List.listItems (.ref a) >>= _) _ _ s
 refine wpAny_bind (bt hoa hda (wpAny_bind (bt hob hdb (wpAny_bind ?_))))
 have loop : ∀ (xs' ys':List Value) (i:Nat) (x' y':List (List Int)) (f:(Value×Value)×Nat→Option Bool×Unit→Sem (ForInStep (Option Bool×Unit))) (R:Option Bool×Unit→Shared→Prop),
   (∀ p q i (P:ForInStep (Option Bool×Unit)→Shared→Prop),wpAny (model prog w) A (eqBool p q) (fun e s'=>s'=s∧if e=true then P (.yield (none,())) s else wpAny (model prog w) A (oneLt' false p q) (fun c s'=>s'=s∧P (.done (some c,())) s) E s) E s→wpAny (model prog w) A (f ((p,q),i) (none,())) P E s) →
   Refs (intKind prog w) s.heap x' xs'→Refs (intKind prog w) s.heap y' ys' →
   (∀ c,c=ltP x' y'→R (some c,()) s)→((∀ c:Bool,c=decide (xs'.length < ys'.length)→c=ltP x' y')→R (none,()) s) →
   wpAny (model prog w) A (forIn ((xs'.zip ys').zipIdx i) (none,()) f) R E s:=by
  intro xs'
  induction xs' with
  | nil =>
   intro ys' i x' y' f R hf hx hy h1 h2
   rw [List.zip_nil_left,List.zipIdx_nil,List.forIn_nil]
   refine wpAny_pure (h2 fun c hc => ?_)
   cases hx
   cases hy with
   | nil=>rw [hc]; rfl
   | cons _ _=>rw [hc]; simp [ltP,lx]
  | cons u xs' ih =>
   intro ys' i x' y' f R hf hx hy h1 h2
   cases ys' with
   | nil =>
    rw [List.zip_nil_right,List.zipIdx_nil,List.forIn_nil]
    refine wpAny_pure (h2 fun c hc => ?_)
    cases hy
    cases hx with
    | cons _ _=>rw [hc]; simp [ltP,lx]
   | cons v ys' =>
    cases hx with
    | @cons k1 c1 x2 _ g1 t1 =>
     cases hy with
     | @cons k2 c2 y2 _ g2 t2 =>
      rw [List.zip_cons_cons,List.zipIdx_cons,List.forIn_cons]
      refine wpAny_bind (hf _ _ _ _ (wpAny_eqBool_tuple (knd:=intKind prog w) hu g1 g2 ⟨rfl,?_⟩))
      by_cases hk:k1=k2
      ·subst hk
       rw [decide_eq_true rfl,if_pos rfl]
       have e:ltP (k1::x2) (k1::y2)=ltP x2 y2:=by
        show lx ltR _ _=_
        rw [lx,if_pos rfl]; rfl
       refine ih ys' (i+1) x2 y2 f R hf t1 t2 (fun c hc=>h1 c (by rw [e]; exact hc)) fun hc=>h2 fun c q => ?_
       rw [e]
       exact hc c (by rw [q]; simp)
      ·rw [decide_eq_false hk,if_neg (by simp)]
       refine jg hu g1 g2 ⟨rfl,wpAny_pure (h1 _ ?_)⟩
       show _=lx ltR (k1::x2) (k2::y2)
       rw [lx,if_neg hk]
 refine loop xs.toList ys.toList 0 x y _ _ (fun p q i P hw => ?_) ra rb (fun c hc => ?_) fun hc => ?_
 ·refine wpAny_bind (wpAny_mono hw (fun e s' he => ?_) fun _ _ z=>z)
  obtain ⟨rfl,he⟩:=he
  cases e with
  | true=>exact wpAny_pure he
  | false =>
   rw [if_neg (by simp)] at he
   rw [if_pos (by simp)]
   refine wpAny_bind (wpAny_mono (show wpAny (model prog w) A (oneLt' (false && _) p q) _ E s' from he) (fun c s2 hc => ?_) fun _ _ z=>z)
   obtain ⟨rfl,hc⟩:=hc
   exact wpAny_pure hc
 ·exact wpAny_pure (by rw [hc]; exact h)
 ·refine wpAny_pure ?_
  have:=hc (decide (xs.size < ys.size)) (by simp)
  rw [this]; exact h
end
end SortN
set_option autoImplicit false
namespace SortN
open PySem PyProof.Rows Ord' Nest Tim
section
variable {prog:Program} {w:World} {A:Around} {E:Value→Shared→Prop} {s:Shared}
theorem fE {M:Model} {α β:Type} {f:α→Sem β} : ∀ {l:List α} {m:List β},Paired (fun x y => ∀ Q:β→Shared→Prop,Q y s→wpAny M A (f x) Q E s) l m → ∀ {Q:List β→Shared→Prop},Q m s→wpAny M A (l.mapM f) Q E s
 | _,_,.nil,Q,h=>by rw [List.mapM_nil]; exact wpAny_pure h
 | _,_,.cons h1 t,Q,h=>by
  rw [List.mapM_cons]
  refine wpAny_bind (h1 _ (wpAny_bind (fE t (wpAny_pure h))))
theorem il {a b:Addr} {o:Obj} {its:Array Value} {n:Nat} {r:List Value} {Q:Option Value→Shared→Prop} (hT:s.TypeIs (.ref a) "tuple") (ho:s.heap.get? a=some o) (hd:o.data = .seq its n) (hl:its.toList = .ref b::r) (h:Q (some (.ref b)) s) :
  wpAny (model prog w) A (firstOfTuple' (.ref a)) Q E s:=by
 show wpAny _ _ (typeOf (.ref a) >>= _) _ _ s
 refine wpAny_bind (wpAny_typeOf hT ?_)
 rw [if_neg (by decide)]
 refine wpAny_bind (bt ho hd (wpAny_pure ?_))
 have e:its[0]?=some (.ref b):=by rw [← Array.getElem?_toList,hl]; rfl
 rw [e]; exact h
inductive Els (prog:Program) (w:World) (h:Heap):List (List (List Int))→List Value→Prop
 | nil:Els prog w h [] []
 | cons {k:List Int} {k2:List (List Int)} {a:Addr} {ks:List (List (List Int))} {vs:List Value}:IsNest (intKind prog w) h (k::k2) a→Els prog w h ks vs→Els prog w h ((k::k2)::ks) (.ref a::vs)
theorem Els.length {h:Heap} {ks:List (List (List Int))} {vs:List Value} (x:Els prog w h ks vs):ks.length=vs.length:=by
 induction x with
 | nil=>rfl
 | cons _ _ ih=>simp [ih]
theorem Els.grow {h h':Heap} (f : ∀ k a,IsNest (intKind prog w) h k a→IsNest (intKind prog w) h' k a) : ∀ {ks:List (List (List Int))} {vs:List Value},Els prog w h ks vs→Els prog w h' ks vs
 | _,_,.nil => .nil
 | _,_,.cons h1 t => .cons (f _ _ h1) (t.grow f)
theorem eU : ∀ {ks:List (List (List Int))} {vs:List Value},Els prog w s.heap ks vs → ∃ fs:List Value,Paired (fun v (y:Option Value) => ∀ Q:Option Value→Shared→Prop,Q y s→wpAny (model prog w) A (firstOfTuple' v) Q E s) vs (fs.map some)∧fs.length=vs.length ∧ ∀ f∈fs,∃ b k,f = .ref b∧IsTupleKey (intKind prog w) s.heap k b
 | _,_,.nil=>⟨[],.nil,rfl,fun f hf=>by simp at hf⟩
 | _,_,.cons (k:=k) (a:=a) h1 t=>by
  obtain ⟨fs,p,e,q⟩:=eU t
  have h1':=h1
  obtain ⟨o,its,n,ho,_,hd,r⟩:=h1'
  generalize hl:its.toList=l at r
  cases r with
  | @cons _ b _ vs g1 _ =>
   refine ⟨.ref b::fs,.cons (fun Q hQ=>il h1.typeIs ho hd hl hQ) p,by simp [e],fun f hf => ?_⟩
   ·rcases List.mem_cons.mp hf with rfl | hf
    ·exact ⟨b,k,rfl,g1⟩
    ·exact q f hf
theorem jk {ks:List (List (List Int))} {vs:List Value} {Q:SortKind→Shared→Prop} (hx:Els prog w s.heap ks vs) (h1:1≤vs.length) (h:Q (tuples' false) s):wpAny (model prog w) A (keyKind' vs.toArray) Q E s:=by
 obtain ⟨fs,p,e,q⟩:=eU (A:=A) (E:=E) hx
 rw [keyKind'_eq,List.mapM_toArray]
 refine wpAny_bind ?_
 show wpAny _ _ (List.toArray <$> _) _ _ _
 rw [← bind_pure_comp]
 refine wpAny_bind (fE p (wpAny_pure ?_))
 rw [if_pos (by simp)]
 refine wpAny_bind (wpAny_rule ?_)
 have ef:(fs.map some).toArray.filterMap id=fs.toArray:=by
  rw [List.filterMap_toArray,List.filterMap_map]
  simp
 rw [ef]
 refine wpAny_bind ?_
 rw [oneTypeOnly'_eq,List.mapM_toArray]
 refine wpAny_bind ?_
 show wpAny _ _ (List.toArray <$> _) _ _ _
 rw [← bind_pure_comp]
 have pt : ∀ {fs:List Value},(∀ f∈fs,∃ b k,f = .ref b∧IsTupleKey (intKind prog w) s.heap k b)→Paired (fun v y => ∀ Q:Value→Shared→Prop,Q y s→wpAny (model prog w) A (typeOf v) Q E s) fs (fs.map fun _=>Value.type "tuple"):=by
  intro fs
  induction fs with
  | nil=>intro _; exact .nil
  | cons f fs ih =>
   intro hf
   obtain ⟨b,k,rfl,hk⟩:=hf f (by simp)
   exact .cons (fun Q hQ=>wpAny_typeOf hk.typeIs hQ) (ih fun g hg=>hf g (by simp [hg]))
 refine wpAny_bind (fE (pt q) (wpAny_pure ?_))
 obtain ⟨f,fs',rfl⟩ : ∃ f fs',fs=f::fs':=by
  cases fs with
  | nil=>simp at e; omega
  | cons f fs'=>exact ⟨f,fs',rfl⟩
 have e0:(List.map (fun _=>Value.type "tuple") (f::fs')).toArray[0]?=some (Value.type "tuple"):=by simp
 rw [e0]
 have hall:((List.map (fun _=>Value.type "tuple") (f::fs')).toArray.all fun x=>x == Value.type "tuple")=true:=by
  simp only [List.all_toArray,List.all_map,List.all_eq_true]
  intro _ _
  rfl
 first | dsimp only | skip
 rw [hall,if_pos rfl]
 refine wpAny_pure (wpAny_pure ?_)
 exact h
noncomputable def au (prog:Program) (w:World) (h:Heap) (v:Value):List (List Int):=open Classical in if q : ∃ k,∃ a,v = .ref a∧IsNest (intKind prog w) h k a then q.choose else []
theorem aQ {h:Heap} {k:List (List Int)} {a:Addr} (x:IsNest (intKind prog w) h k a):au prog w h (.ref a)=k:=by
 unfold au
 have q : ∃ k,∃ b,Value.ref a = .ref b∧IsNest (intKind prog w) h k b:=⟨k,a,rfl,x⟩
 rw [dif_pos q]
 obtain ⟨b,e,y⟩:=q.choose_spec
 cases e
 exact y.inj x
theorem Els.keys {h:Heap} {ks:List (List (List Int))} {vs:List Value} (x:Els prog w h ks vs):vs.map (au prog w h)=ks:=by
 induction x with
 | nil=>rfl
 | cons h1 _ ih=>rw [List.map_cons,ih,aQ h1]
theorem Els.mem {h:Heap} {ks:List (List (List Int))} {vs:List Value} (x:Els prog w h ks vs) {v:Value} (hv:v∈vs) : ∃ a k k2,v = .ref a∧IsNest (intKind prog w) h (k::k2) a∧(k::k2)∈ks:=by
 induction x with
 | nil=>simp at hv
 | @cons k k2 a ks vs h1 t ih =>
  rcases List.mem_cons.mp hv with rfl | hv
  ·exact ⟨a,k,k2,rfl,h1,by simp⟩
  ·obtain ⟨b,j,j2,e,y,z⟩:=ih hv
   exact ⟨b,j,j2,e,y,by simp [z]⟩
theorem ir {h:Heap} : ∀ {vs:List Value},(∀ v∈vs,∃ a k k2,v = .ref a∧IsNest (intKind prog w) h (k::k2) a)→Els prog w h (vs.map (au prog w h)) vs
 | [],_ => .nil
 | v::vs,hv=>by
  obtain ⟨a,k,k2,rfl,x⟩:=hv v (by simp)
  rw [List.map_cons,aQ x]
  exact .cons x (ir fun u hu=>hv u (by simp [hu]))
theorem jh {h₀:Heap} {ks:List (List (List Int))} {vs:List Value} (hu:A.units < cLine) (x:Els prog w h₀ ks vs) (f : ∀ k a,IsNest (intKind prog w) h₀ k a→IsNest (intKind prog w) s.heap k a) :
  eF prog w A E s (tuples' false) (pairsOf vs) (fun p=>(bu ltP ks (au prog w h₀ p.1):Int)):=by
 intro st p q Q hp hq hk hQ
 have mem : ∀ p:Keyed,p∈pairsOf vs→p.1∈vs:=fun p hp=>by
  rw [← Array.mem_toList_iff,pairsOf_toList] at hp
  exact (mem_zip_self hp).2
 obtain ⟨a,k,k2,e1,n1,m1⟩:=x.mem (mem p hp)
 obtain ⟨b,j,j2,e2,n2,m2⟩:=x.mem (mem q hq)
 rw [lt'_eq]
 refine wpS_bind (wpS_get ?_)
 rw [hk]
 have e:decide ((bu ltP ks (au prog w h₀ p.1):Int) < (bu ltP ks (au prog w h₀ q.1):Int))=ltP (k::k2) (j::j2):=by
  rw [dr ks cN m1 m2]
  simp only [e1,e2,aQ n1,aQ n2]
 have hQ:Q (some (ltP (k::k2) (j::j2))) st:=by rw [← e]; exact hQ
 refine wpS_bind (wpS_lift (wpAny_attempt ?_))
 rw [e1,e2]
 exact ii hu (f _ _ n1) (f _ _ n2) ⟨rfl,wpS_pure hQ⟩
theorem iw {h₀:Heap} {ks:List (List (List Int))} {vs:List Value} (x:Els prog w h₀ ks vs) (hn:ks.Nodup):Apart (fun p=>(bu ltP ks (au prog w h₀ p.1):Int)) (pairsOf vs):=by
 unfold Tim.Apart
 rw [pairsOf_toList]
 have e:(vs.zip vs).map (fun p=>(bu ltP ks (au prog w h₀ p.1):Int))=ks.map fun k=>(bu ltP ks k:Int):=by
  have:(vs.zip vs).map (fun p=>(bu ltP ks (au prog w h₀ p.1):Int))=(((vs.zip vs).map Prod.fst).map (au prog w h₀)).map fun k=>(bu ltP ks k:Int):=by
   rw [List.map_map,List.map_map]; rfl
  rw [this,List.map_fst_zip (Nat.le_refl _),x.keys]
 rw [e]
 refine List.pairwise_map.mpr (List.Pairwise.imp_of_mem (fun {a b} ha hb hab => ?_) hn)
 intro z
 exact hab (f9 ks cN ha hb (by omega))
theorem ja {a:Addr} {ks:List (List (List Int))} {vs:List Value} {n:Nat} {P:PySem.Fin→Shared→Prop} (hu:A.units < cLine) (ho:s.heap.get? a=some (seqObj "list" vs.toArray n)) (hx:Els prog w s.heap ks vs) (hn:ks.Nodup) (hz:vs.length≤100000)
  (h : ∀ (out:List Value) (ks':List (List (List Int))),out.Perm vs→out.map (au prog w s.heap)=ks'→ks'.Perm ks→ks'.Pairwise (fun a b=>ltP a b=true)→P (.done (.ret .none)) { s with heap:=sortedHeap s.heap a vs out.toArray }) :
  wpAny (model prog w) A (Builtin.«list.sort» ⟨[.ref a],[]⟩) P E s:=by
 rw [list_sort_plain]
 have ha:a < s.heap.objs.size:=Heap.lt_size ho
 refine wpAny_bind (listItems_at ho rfl ?_)
 refine wpAny_bind (listUpdate_at ho rfl ?_ (by rw [List.size_toArray,sizeLine_eq]; omega) (Nat.zero_le _))
 obtain ⟨e1,ho1⟩ : ∃ e1,(s.heap.update a (Obj.mapSeq fun _ => #[])).get? a=some (seqObj "list" #[] e1):=⟨_,get?_update_seq ho (fun _ => #[])⟩
 refine wpAny_bind (seqEpoch_at ho1 rfl ?_)
 refine wpAny_bind (wpAny_newTuple ?_ (by show vs.length≤_; rw [sizeLine_eq]; omega))
 refine wpAny_bind (wpAny_newList ?_ (Nat.zero_le _))
 refine wpAny_holding ?_
 have ho6:(((s.heap.update a (Obj.mapSeq fun _ => #[])).push (seqObj "tuple" vs.toArray 0)).push (seqObj "list" #[] 0)).get? a=some (seqObj "list" #[] e1):=Heap.get?_push_of_some _ (Heap.get?_push_of_some _ ho1)
 have grow : ∀ k b,IsNest (intKind prog w) s.heap k b→IsNest (intKind prog w) (((s.heap.update a (Obj.mapSeq fun _ => #[])).push (seqObj "tuple" vs.toArray 0)).push (seqObj "list" #[] 0)) k b:=fun k b x=>by
  refine Tab.nest_grow x fun c o y m e hc hd => ?_
  have hne:c≠a:=by
   intro z
   subst z
   rw [ho] at e
   cases e
   have hc':Value.type "list"=Value.type "tuple":=hc
   injection hc' with z
   exact absurd z (by decide)
  exact Heap.get?_push_of_some _ (Heap.get?_push_of_some _ ((Heap.get?_update_ne _ _ _ _ hne).trans e))
 show wpAny (model prog w) A _ P E { s with heap:=((s.heap.update a (Obj.mapSeq fun _ => #[])).push (seqObj "tuple" vs.toArray 0)).push (seqObj "list" #[] 0) }
 dsimp only
 by_cases h2:vs.toArray.size < 2
 ·rw [if_pos h2,if_pos h2]
  refine wpAny_bind (wpAny_pure ?_)
  rw [StateT.run_pure]
  refine wpAny_bind (wpAny_pure ?_)
  dsimp only
  refine wpAny_bind (seqEpoch_at ho6 rfl ?_)
  have eo:((vs.toArray.zip vs.toArray).map (·.2))=vs.toArray:=by
   apply Array.toList_inj.mp
   simp [List.map_snd_zip]
  refine wpAny_bind (listUpdate_at ho6 rfl ?_ (Nat.zero_le _) (by show (Array.map _ (vs.toArray.zip vs.toArray)).size≤_; rw [eo,List.size_toArray,sizeLine_eq]; omega))
  simp only [bne_self_eq_false,Bool.false_eq_true,if_false]
  have hP:=h vs ks (List.Perm.refl _) hx.keys (List.Perm.refl _) (by
   have hl:=hx.length
   rw [List.size_toArray] at h2
   match ks,hl with
   | [],_=>exact .nil
   | [k],_=>exact List.pairwise_singleton _ _
   | k::k'::r,hl=>simp at hl; omega)
  refine wpAny_pure ?_
  show P _ { s with heap:=sortedHeap s.heap a vs ((vs.toArray.zip vs.toArray).map (·.2)) }
  rw [eo]; exact hP
 ·rw [if_neg h2,if_neg h2]
  refine wpAny_bind (jk (s:={ s with heap:=_ }) (hx.grow grow) (by rw [List.size_toArray] at h2; omega) ?_)
  refine wpAny_bind (wpAny_mono (i9 (κ:=tuples' false) (a₀:=pairsOf vs) (R:=fun p=>(bu ltP ks (au prog w s.heap p.1):Int)) (st:=SortSt.mk' (tuples' false) (vs.toArray.zip vs.toArray) #[] 7 none)
   (Q:=fun _ st'=>(arrOf st').Perm (pairsOf vs)∧failedOf st'=none∧Srt (fun p=>(bu ltP ks (au prog w s.heap p.1):Int)) (arrOf st').toList)
   (jh hu hx grow) (iw hx hn) ⟨Array.Perm.refl _,rfl,rfl⟩ rfl fun st' a1 a2 a3=>⟨a1,a2,a3⟩) ?_ fun _ _ e=>e)
  rintro ⟨⟨⟩,st'⟩ s' ⟨rfl,hp,hf,hs⟩
  dsimp only
  refine wpAny_bind (seqEpoch_at ho6 rfl ?_)
  refine wpAny_bind (listUpdate_at ho6 rfl ?_ (Nat.zero_le _) (by refine Nat.le_trans (Nat.le_of_eq ((Array.size_map ..).trans (hp.size_eq.trans (pairsOf_size _)))) ?_; rw [sizeLine_eq]; omega))
  rw [hf]
  simp only [bne_self_eq_false,Bool.false_eq_true,if_false]
  have hl:(arrOf st').toList.Perm (vs.zip vs):=by rw [← pairsOf_toList]; exact Array.perm_iff_toList_perm.mp hp
  have hmem : ∀ p,p∈(arrOf st').toList→p.1=p.2∧p.1∈vs:=fun p hp'=>mem_zip_self (hl.mem_iff.mp hp')
  have e2:(arrOf st').toList.map (·.2)=(arrOf st').toList.map (·.1):=List.map_congr_left fun p hp'=>(hmem p hp').1.symm
  have hpv:((arrOf st').toList.map (·.2)).Perm vs:=by
   have:=hl.map Prod.fst
   rw [List.map_fst_zip (Nat.le_refl _)] at this
   rw [e2]; exact this
  have hpk:(((arrOf st').toList.map (·.2)).map (au prog w s.heap)).Perm ks:=by
   have:=hpv.map (au prog w s.heap)
   rwa [hx.keys] at this
  have hP:=h _ _ hpv rfl hpk (by
   rw [e2,List.map_map]
   have nd:(((arrOf st').toList.map (·.2)).map (au prog w s.heap)).Nodup:=hpk.nodup_iff.mpr hn
   rw [e2,List.map_map] at nd
   refine List.pairwise_map.mpr ?_
   have both:=(List.pairwise_map.mp nd).and hs
   refine List.Pairwise.imp_of_mem (fun {p q} ha hb hab => ?_) both
   have kin : ∀ p∈(arrOf st').toList,au prog w s.heap p.1∈ks:=fun p hp'=>by
    rw [← hx.keys]; exact List.mem_map.mpr ⟨p.1,(hmem p hp').2,rfl⟩
   show ltP (au prog w s.heap p.1) (au prog w s.heap q.1)=true
   rw [dr ks cN (kin p ha) (kin q hb),decide_eq_true_eq]
   have h1:(bu ltP ks (au prog w s.heap p.1):Int)≤(bu ltP ks (au prog w s.heap q.1):Int):=hab.2
   have h2:bu ltP ks (au prog w s.heap p.1)≠bu ltP ks (au prog w s.heap q.1):=fun z=>hab.1 (f9 ks cN (kin p ha) (kin q hb) z)
   omega)
  refine wpAny_pure ?_
  have eo:(arrOf st').map (·.2)=((arrOf st').toList.map (·.2)).toArray:=by
   apply Array.toList_inj.mp
   rw [Array.toList_map]
  show P _ { s with heap:=sortedHeap s.heap a vs ((arrOf st').map (·.2)) }
  rw [eo]; exact hP
end
end SortN
namespace NwS
open PySem PySem.Spec PyProof.Rows
open Sem (wp)
section
variable {prog:Program} {w:World} {A:Around} {R:Result→Shared→Prop} {I:Addr} {fp wr:List Addr} {G:Array GenState→Array GenState→Prop} {n:Nat} {P:Nat→Value→Prop} {St:Nat→Shared→Prop}
end
section
variable {prog:Program} {w:World} {A:Around} {E:Value→Shared→Prop} {s:Shared}
theorem k7 (a:Value) {Q₁:Value→Shared→Prop}
  (h:Q₁ (.ref s.heap.objs.size) { s with heap:=s.heap.push { cls := .type "set",dict:=none,data := .set #[] 0 (.fresh 0 0 (!byText w)) } }) :
  codeAny (model prog w) A (.call (.builtin "set.__new__") ⟨[.type "set",a],[]⟩) (wants Q₁ E) s:=by
 refine codeAny_of_tree ?_
 show wpAny _ A.in1 (do checkBuiltinCall "set.__new__" ⟨[.type "set",a],[]⟩; again (.builtin "set.__new__" ⟨[.type "set",a],[]⟩)) _ _ s
 refine wpAny_bind (wpAny_of_eq (F.newCall_set_1 a) (wpAny_pure ⟨plainId_quiet F.plain_set_new _,codeAny_builtin F.entry_set_new ?_⟩))
 rw [Around.under_plainId F.plain_set_new _]
 unfold Builtin.«set.__new__» Builtin.Frozenset.newClass
 have hsub:=sub_set_self
 obtain ⟨hp,g,d,tk,os⟩:=s
 dsimp only
 wp_walk
 refine wpAny_askSetting (wpAny_pure ?_)
 dsimp only
 simp only [newObj]
 refine wpAny_bind (wpAny_alloc (wpAny_pure ?_))
 exact wpAny_pure h
set_option maxRecDepth 100000 in
set_option maxHeartbeats 3200000 in
end
end NwS
set_option autoImplicit false
namespace SortN
open PySem PySem.Spec PyProof.Rows Ord' Nest Tim
open Sem (wp)
section
variable {prog:Program} {w:World} {A:Around} {E:Value→Shared→Prop} {s:Shared}
theorem bL {l:Addr} {Q:Value→Shared→Prop} {C:List Value→List (List (List Int))→Heap→Prop} (hu:A.units+4 < cLine)
  (hc:wpAny (model prog w) A.in1 (collect (.ref l)) (fun vs s1 => ∃ h1 tk ks,s1={ s with heap:=h1,toks:=tk }∧(∀ b o,s.heap.get? b=some o→h1.get? b=some o)∧Els prog w h1 ks vs∧ks.Nodup∧vs.length≤100000∧C vs ks h1) E s)
  (h : ∀ (h1 h':Heap) (tk n:Nat) (vs out:List Value) (ks ks':List (List (List Int))),C vs ks h1→out.Perm vs→out.map (au prog w h1)=ks'→ks'.Perm ks→ks'.Pairwise (fun a b=>ltP a b=true)→Els prog w h1 ks vs →
   h'.get? h1.objs.size=some (seqObj "list" out.toArray n)→(∀ b o,s.heap.get? b=some o→h1.get? b=some o)→(∀ b o,h1.get? b=some o→h'.get? b=some o)→Q (.ref h1.objs.size) { s with heap:=h',toks:=tk }) :
  wpAny (model prog w) A (call (.builtin "sorted") [.ref l]) Q E s:=by
 refine Calls.call_function_entry kind_sorted plain_sorted entry_sorted (args_sorted1 _) ?_
 unfold Builtin.«sorted»
 refine wpAny_bind (m:=checkCount "sorted" 1 1 _) (wpAny_pure ?_)
 refine wpAny_bind (wpAny_mono hc (fun vs s1 hv => ?_) fun _ _ e=>e)
 obtain ⟨h1,tk,ks,rfl,hk,hx,hn,hz,hC⟩:=hv
 refine wpAny_bind (wpAny_newList ?_ (by rw [sizeLine_eq]; omega))
 have hoL:(h1.push (seqObj "list" vs.toArray 0)).get? h1.objs.size=some (seqObj "list" vs.toArray 0):=Heap.get?_push_size _ rfl
 have hx1:Els prog w (h1.push (seqObj "list" vs.toArray 0)) ks vs:=hx.grow fun k a x=>Tab.nest_grow x fun c o y m e _ _=>Heap.get?_push_of_some _ e
 have keq : ∀ (out:List Value),out.Perm vs→out.map (au prog w (h1.push (seqObj "list" vs.toArray 0)))=out.map (au prog w h1):=fun out hp=>List.map_congr_left fun v hv=>by
  obtain ⟨a,k,k2,rfl,x,_⟩:=hx.mem (hp.mem_iff.mp hv)
  obtain ⟨a',j,j2,e,y,_⟩:=hx1.mem (hp.mem_iff.mp hv)
  cases e
  rw [aQ x,aQ y]
  exact y.inj (Tab.nest_grow x fun c o y m e _ _=>Heap.get?_push_of_some _ e)
 refine wpAny_bind (wpAny_holding (wpAny_call_entry slot_list_sort ⟨_,hoL,rfl⟩ entry_list_sort (ja (s:={ s with heap:=h1.push (seqObj "list" vs.toArray 0),toks:=tk }) (show A.units+1+1 < cLine by omega) hoL hx1 hn hz fun out ks' p1 p2 p3 p4=>⟨_,rfl,?_⟩) (args_list_sort _)))
 refine wpAny_pure ⟨_,rfl,?_⟩
 obtain ⟨n,hn'⟩:=sortedHeap_at (h:=h1.push (seqObj "list" vs.toArray 0)) (vs:=vs) (out:=out.toArray) (n:=0) hoL
 refine h h1 _ tk n vs out ks ks' hC p1 ?_ p3 p4 hx hn' hk fun b o e => ?_
 ·rw [← keq out p1]; exact p2
 ·have hlt:b < h1.objs.size:=Heap.lt_size e
  rw [sortedHeap_old (Nat.ne_of_lt hlt) (by rw [Heap.size_push]; exact Nat.lt_succ_of_lt hlt),Heap.get?_push_ne _ _ _ (Nat.ne_of_lt hlt)]
  exact e
end
end SortN
namespace Tab
open PySem PySem.Spec PySem.SetTable NwS Nest PyProof.Rows
open Sem (wp)
section
variable {prog:Program} {w:World} {K:Type} [DecidableEq K] {knd:HeapKind prog w K} {A:Around} {R:Result→Shared→Prop} {I:Addr} {fp:List Addr} {G:Array GenState→Array GenState→Prop} {n:Nat} {P:Nat→Value→Prop} {St:Nat→Shared→Prop}
theorem ji (Fk:Fit knd) (hu:knd.room A.in1) (W:WalksS prog w A.in1 I fp [I] G n P St) (S:Addr) (hSf:S∉fp)
  (hI : ∀ i s,St i s → ∀ o x m,s.heap.get? I=some o→o.cls = .type "tuple"→o.data = .seq x m→False)
  (val:Nat→K) (adr:Nat→Addr) (hval : ∀ i v,P i v→v = .ref (adr i)) (hb:n < 1000) :
  ∀ (k i:Nat) (s:Shared),n - i=k→i≤n→St i s→(∀ j,j < n→knd.is s.heap (val j) (adr j)) →
   (∃ ks,gM knd s.heap S ks∧ks.length≤i ∧ ∀ x,x∈ks ↔ ∃ j,j < i∧val j=x) →
   (∀ s',Moved (S::[I]) G s s'→(∃ ks,gM knd s'.heap S ks∧ks.length≤n ∧ ∀ x,x∈ks ↔ ∃ j,j < n∧val j=x)→R (.ok (.ret .none)) s') →
   codeAny (model prog w) A (.builtin "set.update.loop" ⟨[.ref S,.ref I],[]⟩) R s:=by
 have hSw:S∉[I]:=fun h=>hSf (W.sub _ h)
 have hsub : ∀ b∈[I],b∈S::[I]:=fun b hb=>List.mem_cons_of_mem _ hb
 have keepI : ∀ i s s',St i s→Moved [I] G s s' → ∀ c o x m,s.heap.get? c=some o→o.cls = .type "tuple"→o.data = .seq x m→s'.heap.get? c=some o:=fun i s s' st hm c o x m e hc hd=>by
  refine hm.heap c o (fun z => ?_) e
  rw [List.mem_singleton.mp z] at e
  exact hI i s st o x m e hc hd
 have SN : ∀ i s s' ks,St i s→Moved [I] G s s'→gM knd s.heap S ks→gM knd s'.heap S ks:=fun i s s' ks st hm hS=>by
  obtain ⟨⟨es,ep,t,m,ho,kd,r⟩,nd⟩:=hS
  exact ⟨⟨es,ep,t,m,hm.heap S _ hSw ho,kd.imp fun k b hk=>Fk.keep hk (keepI i s s' st hm),r⟩,nd⟩
 intro k
 induction k with
 | zero =>
  intro i s hk hi hst hkeys hS hR
  have hin:i=n:=by omega
  subst hin
  refine codeAny_builtin F.entry_set_update_loop ?_
  rw [Around.under_plainId F.plain_set_update_loop _]
  show wpAny _ A.in1 (pyNext (.ref I) >>= _) _ _ s
  refine wpAny_bind (W.done s _ _ hst fun s' hm => ?_)
  show wpAny _ A.in1 (ret Value.none) _ _ s'
  obtain ⟨ks,hS,r⟩:=hS
  exact wpAny_pure (hR s' (hm.mono hsub) ⟨ks,SN _ _ _ _ hst hm hS,r⟩)
 | succ k ih =>
  intro i s hk hi hst hkeys hS hR
  have hlt:i < n:=by omega
  refine codeAny_builtin F.entry_set_update_loop ?_
  rw [Around.under_plainId F.plain_set_update_loop _]
  show wpAny _ A.in1 (pyNext (.ref I) >>= _) _ _ s
  refine wpAny_bind (W.item i s _ _ hlt hst fun v s' hP hst' hm => ?_)
  obtain rfl:=hval i v hP
  obtain ⟨ks,hS,hl,hmem⟩:=hS
  have hS':=SN _ _ _ _ hst hm hS
  have hk' : ∀ j,j < n→knd.is s'.heap (val j) (adr j):=fun j hj=>Fk.keep (hkeys j hj) (keepI i s s' hst hm)
  show wpAny _ A.in1 (holding [Value.ref (adr i)] (setAdd S (.ref (adr i))) >>= _) _ _ s'
  refine wpAny_bind (wpAny_holding ?_)
  unfold setAdd
  refine wpAny_holding ?_
  refine wpAny_bind (knd.pyHash hu (hk' i hlt) ?_)
  refine lB (s:={ s' with toks:=s'.toks+knd.draws (val i) }) Fk hu hS' (by omega) (hk' i hlt) fun h' ks' r hsb hS2 hp => ?_
  have hS0:=hS'.has
  obtain ⟨es0,ep0,t0,m0,ho0,_⟩:=hS0
  have hk2 : ∀ j,j < n→knd.is h' (val j) (adr j):=fun j hj=>Fk.but ho0 hsb (hk' j hj)
  have hks':ks'.length≤i+1 ∧ ∀ x,x∈ks' ↔ ∃ j,j < i+1∧val j=x:=by
   constructor
   ·rw [hp.length_eq]
    split
    ·omega
    ·rw [List.length_append,List.length_singleton]; omega
   ·intro x
    rw [hp.mem_iff]
    have e:x∈(if val i∈ks then ks else ks++[val i])↔x∈ks∨x=val i:=by
     split
     ·rename_i q
      exact ⟨.inl,fun z=>z.elim id fun z=>z ▸ q⟩
     ·rw [List.mem_append,List.mem_singleton]
    rw [e,hmem x]
    constructor
    ·rintro (⟨j,j1,j2⟩ | z)
     ·exact ⟨j,by omega,j2⟩
     ·exact ⟨i,by omega,z.symm⟩
    ·rintro ⟨j,j1,j2⟩
     by_cases z:j=i
     ·subst z; exact .inr j2.symm
     ·exact .inl ⟨j,by omega,j2⟩
  refine wpAny_pure ⟨plainId_quiet F.plain_set_update_loop _,ih (i+1) _ (by omega) hlt (W.frame _ s' _ _ hst' (Nat.le_add_right _ _) fun b hb o e => ?_) hk2 ⟨ks',hS2,hks'⟩ fun s'' hm'' hS'' => ?_⟩
  ·rw [hsb.2 b (fun h:b=S=>hSf (by rw [← h]; exact hb))]; exact e
  ·refine hR s'' (Moved.trans W.gtrans ((hm.mono hsub).then_heap (Nat.le_add_right _ _) fun b o hb e => ?_) hm'') hS''
   rw [hsb.2 b (fun h:b=S=>hb (by rw [h]; exact List.mem_cons_self))]; exact e
end
section
variable {prog:Program} {w:World} {K:Type} [DecidableEq K] {knd:HeapKind prog w K} {A:Around} {E:Value→Shared→Prop} {s:Shared}
theorem iq:eu (SetTable.fresh 0 0 (!byText w)) 3 [] where
 lo:=by omega
 hi:=by omega
 mask:=rfl
 dum:=rfl
 len:=rfl
 rise:=List.Pairwise.nil
 top:=fun j hj=>by simp [SetTable.fresh] at hj
 reach:=fun i h e=>by simp at e
theorem jz (Fk:Fit knd) (hr : ∀ B:Around,B.units≤A.units+12→knd.room B) {l:Addr} {items:Array Value} {val:Nat→K} {adr:Nat→Addr} {Q:Value→Shared→Prop}
  (hh:A.handled=none) (hl:s.heap.IsList l items) (hi : ∀ (i:Nat) v,items[i]?=some v→v = .ref (adr i)) (hk : ∀ j,j < items.size→knd.is s.heap (val j) (adr j)) (hb:items.size < 1000)
  (h : ∀ (h':Heap) (tk:Nat) (ks:List K),gM knd h' s.heap.objs.size ks→ks.length≤items.size→(∀ x,x∈ks ↔ ∃ j,j < items.size∧val j=x) →
   (∀ b o,b < s.heap.objs.size→s.heap.get? b=some o→h'.get? b=some o)→Q (.ref s.heap.objs.size) { s with heap:=h',toks:=tk }) :
  wpAny (model prog w) A (call (.type "set") [.ref l]) Q E s:=by
 obtain ⟨c,tl,hmro⟩:=F.called_set.mro
 have hmade:=F.called_set.made
 have hsub:=F.called_set.sub
 refine wpAny_call (codeAny_of_tree ?_)
 show wpAny _ _ (callAny (.type "set") _) _ _ _
 refine wpAny_pure ⟨Code.quiet_builtin _ (by decide +kernel),codeAny_builtin F.entry_type_call ?_⟩
 rw [Around.under_plain (weight_type_call_type "set" [.ref l] []) rfl]
 have h1:=F.called_set.notType
 have h2:=F.called_set.canCreate
 have hct:=F.typeCall_set_1 (.ref l)
 repeat (any_goals (first | assumption | wp_step))
 refine codeAny_mono (k7 (.ref l) (E:=E) (Q₁:=fun obj s₁=>obj = .ref s.heap.objs.size∧s₁={ s with heap:=s.heap.push { cls := .type "set",dict:=none,data := .set #[] 0 (.fresh 0 0 (!byText w)) } }) ⟨rfl,rfl⟩) fun r s₁ hr₁ => ?_
 cases r with
 | error e=>exact hr₁
 | ok fl =>
  cases fl with
  | ret obj =>
   obtain ⟨rfl,rfl⟩:=hr₁
   have hS:(s.heap.push { cls := .type "set",dict:=none,data := .set #[] 0 (.fresh 0 0 (!byText w)) }).get? s.heap.objs.size=some { cls := .type "set",dict:=none,data := .set #[] 0 (.fresh 0 0 (!byText w)) }:=Heap.get?_push_size _ rfl
   have hT:Shared.TypeIs { s with heap:=s.heap.push { cls := .type "set",dict:=none,data := .set #[] 0 (.fresh 0 0 (!byText w)) } } (.ref s.heap.objs.size) "set":=⟨_,hS,rfl⟩
   have hli:=F.called_set.init.lookup
   have hbi:=F.called_set.init.bind (.ref s.heap.objs.size)
   repeat (any_goals (first | assumption | wp_step))
   refine codeAny_mono (codeAny_call_builtin (R:=wants (fun r s₂=>r = .none ∧ ∃ h' tk ks,s₂={ s with heap:=h',toks:=tk } ∧
     gM knd h' s.heap.objs.size ks∧ks.length≤items.size∧(∀ x,x∈ks ↔ ∃ j,j < items.size∧val j=x) ∧
     (∀ b o,b < s.heap.objs.size→s.heap.get? b=some o→h'.get? b=some o)) E) F.called_set.init.plain F.entry_set_init (check_set_init_1 hT ?_)) fun r₂ s₂ hr₂ => ?_
   ·obtain ⟨ol,hol,hcl,nl,hdl⟩:=hl
    obtain ⟨ocls,odict,odata,oslots⟩:=ol
    simp only at hcl hdl
    subst hcl; subst hdl
    have hol':(s.heap.push { cls := .type "set",dict:=none,data := .set #[] 0 (.fresh 0 0 (!byText w)) }).get? l=some { cls := .type "list",dict:=odict,data := .seq items nl,slots:=oslots }:=Heap.get?_push_of_some _ hol
    have hsls:=F.sub_list_set
    have hslf:=F.sub_list_frozenset
    have hne:(Value.type "list" == Value.type "dict")=false:=by decide
    have hl1:(s.heap.push { cls := .type "set",dict:=none,data := .set #[] 0 (.fresh 0 0 (!byText w)) }).IsList l items:=⟨_,hol',rfl,nl,rfl⟩
    unfold Builtin.«set.__init__» noKeywords Builtin.Frozenset.updateFrom
    generalize hPI:pyIter=PI
    wp_walk
    subst hPI
    refine wpAny_pyIter_list hl1 ?_
    refine wpAny_bind (wpAny_runValue ?_)
    have hlS:l < s.heap.objs.size:=Heap.lt_size hol
    have hh3:A.in1.in1.in1.handled=none:=by simp [hh]
    have hneI:l≠(s.heap.push { cls := .type "set",dict:=none,data := .set #[] 0 (.fresh 0 0 (!byText w)) }).objs.size:=by
     rw [Heap.size_push]; exact Nat.ne_of_lt (Nat.lt_succ_of_lt hlS)
    have hSf:s.heap.objs.size∉[(s.heap.push { cls := .type "set",dict:=none,data := .set #[] 0 (.fresh 0 0 (!byText w)) }).objs.size,l]:=by
     rw [Heap.size_push]; simp only [List.mem_cons,List.mem_singleton,List.not_mem_nil,or_false,not_or]
     exact ⟨Nat.ne_of_lt (Nat.lt_succ_self _),Nat.ne_of_gt hlS⟩
    refine ji Fk (hr _ ?room) ((Walks.list hh3 _ l hneI items).toS) s.heap.objs.size
     hSf ?hI val adr hi hb (items.size - 0) 0 _ (by omega) (Nat.zero_le _)
     ⟨⟨_,Heap.get?_push_size _ rfl,rfl,rfl⟩,(hl1.push _)⟩ (fun j hj=>Fk.keep (hk j hj) fun c o x n e _ _=>Heap.get?_push_of_some _ (Heap.get?_push_of_some _ e)) ?hS0 ?hR
    case room=>show A.units+1+1+1≤A.units+12; omega
    case hI =>
     intro i s1 st o x m e hc hd
     obtain ⟨⟨o2,e2,c2,d2⟩,_⟩:=st
     rw [e] at e2
     cases e2
     rw [hd] at d2
     cases d2
    case hS0 =>
     have hget:((s.heap.push { cls := .type "set",dict:=none,data := .set #[] 0 (.fresh 0 0 (!byText w)) }).push { cls := .type "list_iterator",data := .fields #[.ref l,.int 0 0] }).get? s.heap.objs.size
       = some { cls := .type "set",dict:=none,data := .set #[] 0 (.fresh 0 0 (!byText w)) }:=Heap.get?_push_of_some _ hS
     exact ⟨[],⟨⟨#[],0,_,3,hget,.nil,iq,rfl,(show 0 * 5 < 7 * 3 by decide),rfl,fun z=>by show (!byText w)=true; rw [z]; rfl⟩,.nil⟩,Nat.le_refl _,fun x=>by simp⟩
    case hR =>
     intro s' hm hS'
     obtain ⟨h',g',d',tk',os'⟩:=s'
     have eg:g'=s.gens:=hm.gens
     have ed:d'=s.drawn:=hm.drawn
     have eo:os'=s.os:=hm.os
     subst eg; subst ed; subst eo
     show wpAny _ _ _ _ _ _
     refine wpAny_pure ?_
     show wpAny _ _ (ret Value.none) _ _ _
     obtain ⟨ks,k1,k2,k3⟩:=hS'
     refine wpAny_pure ⟨rfl,h',tk',ks,rfl,k1,k2,k3,fun b o hb e => ?_⟩
     have hb1:b≠s.heap.objs.size:=Nat.ne_of_lt hb
     have hb2:b≠(s.heap.push { cls := .type "set",dict:=none,data := .set #[] 0 (.fresh 0 0 (!byText w)) }).objs.size:=by
      rw [Heap.size_push]; exact Nat.ne_of_lt (Nat.lt_succ_of_lt hb)
     exact hm.heap b o (by simp only [List.mem_cons,List.mem_singleton,List.not_mem_nil,or_false,not_or]; exact ⟨hb1,hb2⟩) (Heap.get?_push_of_some _ (Heap.get?_push_of_some _ e))
   ·cases r₂ with
    | error e=>exact hr₂
    | ok fl₂ =>
     cases fl₂ with
     | ret r =>
      obtain ⟨rfl,h',tk,ks,rfl,k1,k2,k3,hk'⟩:=hr₂
      repeat (any_goals (first | assumption | wp_step))
      exact h _ _ ks k1 k2 k3 hk'
     | _=>exact hr₂.elim
  | _=>exact hr₁.elim
end
end Tab
set_option autoImplicit false
namespace L2
open PySem PySem.Spec PyProof.Rows Nest SortN Ord'
def dR (r:List Int):Dt := .tup (r.map .int)
def dP (k:List (List Int)):Dt := .tup (k.map dR)
section
variable {X:Cx} {pins:List (Addr×Obj)} {σ:St} {H:Hp} {s:Shared}
theorem dS {K:PySem.W.Frag} : ∀ {r:List Int} {xs:List V} {its:List Value},Iss K H (r.map .int) xs→Vals xs its→ItemsAre (intKind X.prog X.w) r its
 | [],xs,its,h,v=>by
  rw [List.map_nil,Iss] at h
  subst h
  cases v
  exact .nil
 | n::r,xs,its,h,v=>by
  rw [List.map_cons,Iss] at h
  obtain ⟨x,ys,rfl,h1,h2⟩:=h
  rw [Is] at h1
  subst h1
  cases v with
  | cons r1 r2 =>
   obtain ⟨t,rfl⟩:=r1
   exact .cons (by simp [intKind,Value.isInt]) (dS h2 r2)
theorem fH (I:Inv X pins σ H s) {r:List Int} {a:Addr} (h:Is X.K H (dR r) (.ref a)):IsTupleKey (intKind X.prog X.w) s.heap r a:=by
 obtain ⟨b,xs,its,e,_,_,h2,v,o,ho,hc,n,hd⟩:=I.tupleD rfl h (show RelV (.ref a) (.ref a) from rfl)
 cases e
 exact ⟨o,its.toArray,n,ho,hc,hd,dS h2 v⟩
theorem dI (I:Inv X pins σ H s) : ∀ {k:List (List Int)} {xs:List V} {its:List Value},Iss X.K H (k.map dR) xs→Vals xs its→Refs (intKind X.prog X.w) s.heap k its
 | [],xs,its,h,v=>by
  rw [List.map_nil,Iss] at h
  subst h
  cases v
  exact .nil
 | r::k,xs,its,h,v=>by
  rw [List.map_cons,Iss] at h
  obtain ⟨x,ys,rfl,h1,h2⟩:=h
  have h1':=h1
  unfold dR at h1'
  rw [Is] at h1'
  obtain ⟨a,_,rfl,_,_⟩:=h1'
  cases v with
  | cons r1 r2 =>
   cases r1
   exact .cons (fH I h1) (dI I h2 r2)
theorem a6 (I:Inv X pins σ H s) {k:List (List Int)} {a:Addr} (h:Is X.K H (dP k) (.ref a)):IsNest (intKind X.prog X.w) s.heap k a:=by
 obtain ⟨b,xs,its,e,_,_,h2,v,o,ho,hc,n,hd⟩:=I.tupleD rfl h (show RelV (.ref a) (.ref a) from rfl)
 cases e
 exact ⟨o,its.toArray,n,ho,hc,hd,dI I h2 v⟩
theorem fI {K:PySem.W.Frag} {k:List (List Int)} {v:V} (h:Is K H (dP k) v) : ∃ a,v = .ref a:=by
 unfold dP at h
 rw [Is] at h
 obtain ⟨a,_,rfl,_⟩:=h
 exact ⟨a,rfl⟩
theorem ku (I:Inv X pins σ H s) : ∀ {ks:List (List (List Int))} {xs:List V} {its:List Value},(∀ k∈ks,k≠[])→Iss X.K H (ks.map dP) xs→Vals xs its→Els X.prog X.w s.heap ks its
 | [],xs,its,_,h,v=>by
  rw [List.map_nil,Iss] at h
  subst h
  cases v
  exact .nil
 | k::ks,xs,its,hne,h,v=>by
  rw [List.map_cons,Iss] at h
  obtain ⟨x,ys,rfl,h1,h2⟩:=h
  obtain ⟨a,rfl⟩:=fI h1
  cases v with
  | cons r1 r2 =>
   cases r1
   match k,hne k (by simp),h1 with
   | [],q,_=>exact absurd rfl q
   | r::k2,_,h1=>exact .cons (a6 I h1) (ku I (fun k hk=>hne k (by simp [hk])) h2 r2)
theorem cP (I:Inv X pins σ H s) {h1:Heap} (hk : ∀ b o,s.heap.get? b=some o→h1.get? b=some o) {P:Addr→List (List Int)→Prop} (hP : ∀ a k,P a k→Is X.K H (dP k) (.ref a)) :
  ∀ {out:List Value},(∀ v∈out,∃ a k,v = .ref a∧P a k) → ∃ xs:List V,Vals xs out∧Iss X.K H ((out.map (au X.prog X.w h1)).map dP) xs
 | [],_=>⟨[],.nil,Iss.nil⟩
 | v::out,h=>by
  obtain ⟨xs,e1,e2⟩:=cP I hk hP (out:=out) fun u hu=>h u (by simp [hu])
  obtain ⟨a,k,rfl,p⟩:=h v (by simp)
  refine ⟨.ref a::xs,.cons rfl e1,?_⟩
  rw [List.map_cons,List.map_cons,aQ (Tab.nest_grow (a6 I (hP a k p)) fun c o x n e _ _=>hk c o e)]
  exact Iss.cons (hP a k p) e2
end
section
variable {X:Cx}
theorem fO (hu:X.A.units+4 < cLine):bY X (.builtin "sorted") (fun xs H Q => ∃ (p:Addr) (ps:List V) (ks:List (List (List Int))),xs=[.ref p]∧SqL X.K H p ps∧Iss X.K H (ks.map dP) ps∧ks.Nodup∧(∀ k∈ks,k≠[])∧ks.length≤4000 ∧
  ∀ (l:Addr) (out:List V) (ks':List (List (List Int))),H l=none→Iss X.K H (ks'.map dP) out→ks'.Perm ks→ks'.Pairwise (fun a b=>ltP a b=true)→Q (.ref l) (upd H l (.lst out))):=by
 intro pins s σ H xs us Q I r h
 obtain ⟨p,ps,ks,rfl,hx,hi,hn,hne,hz,q⟩:=h
 obtain ⟨u,rfl,ru⟩:=dD r
 cases ru
 obtain ⟨its,rv,ht,hsz⟩:=I.list hx
 have hel:=ku I hne hi rv
 have hlen:its.length=ks.length:=hel.length.symm
 have pe : ∀ {ks:List (List (List Int))} {ps:List V} {its:List Value},Iss X.K H (ks.map dP) ps→Vals ps its → ∀ v∈its,∃ a k,v = .ref a∧Is X.K H (dP k) (.ref a):=by
  intro ks
  induction ks with
  | nil =>
   intro ps its h v u hu'
   rw [List.map_nil,Iss] at h
   subst h
   cases v
   simp at hu'
  | cons k ks ih =>
   intro ps its h v u hu'
   rw [List.map_cons,Iss] at h
   obtain ⟨x,ys,rfl,h1,h2⟩:=h
   obtain ⟨a,rfl⟩:=fI h1
   cases v with
   | cons r1 r2 =>
    cases r1
    rcases List.mem_cons.mp hu' with rfl | hu'
    ·exact ⟨a,k,rfl,h1⟩
    ·exact ih h2 r2 u hu'
 refine bL (C:=fun vs ks' h1=>vs=its) hu (collect_list ht.isList ⟨_,s.toks,ks,rfl,fun b o e => ?_,hel.grow fun k a x=>Tab.nest_grow x fun c o y m e _ _ => ?_,hn,by omega,rfl⟩ (by rw [sizeLine_eq]; omega)) fun h1 h' tk n vs out ks1 ks' hC p1 p2 p3 p4 hx1 hl hk hk' => ?_
 ·have hlt:b < s.heap.objs.size:=Heap.lt_size e
  rw [Heap.get?_update_ne _ _ _ _ (Nat.ne_of_lt hlt)]
  exact Heap.get?_push_of_some _ e
 ·have hlt:c < s.heap.objs.size:=Heap.lt_size e
  rw [Heap.get?_update_ne _ _ _ _ (Nat.ne_of_lt hlt)]
  exact Heap.get?_push_of_some _ e
 subst hC
 obtain ⟨xs,x1,x2⟩:=cP I hk (P:=fun a k=>Is X.K H (dP k) (.ref a)) (fun a k z=>z) (out:=out) fun v hv=>pe hi rv v (p1.mem_iff.mp hv)
 rw [p2] at x2
 have hks:ks1=ks:=by
  have e1:=hx1.keys
  have e2:=(hel.grow (h':=h1) fun k a x=>Tab.nest_grow x fun c o y m e _ _=>hk c o e).keys
  rw [← e1,← e2]
 subst hks
 have I1:Inv X pins σ H { s with heap:=h1,toks:=tk }:=I.kept hk
 have hlo:out.length=ks1.length:=by rw [p1.length_eq,hlen]
 have I2:Inv X pins σ (upd H h1.objs.size (.lst xs)) { s with heap:=h',toks:=tk } :=
  I1.laid (t':=tk) hk' (Nat.le_refl _) (show ObjOk X.prog X.w _ _ _ (.lst xs) from ⟨by rw [x1.length,hlo,sizeLine_eq]; omega,out,n,x1,hl⟩)
 exact ⟨.ref h1.objs.size,_,I2,rfl,q _ _ _ (I1.hok.fresh (Nat.le_refl _)) x2 p3 p4⟩
end
end L2
set_option autoImplicit false
namespace Tab
open PySem PySem.SetTable NwS Nest
section
variable {prog:Program} {w:World} {K:Type} [DecidableEq K]
def l8 (knd:HeapKind prog w K) (T:K→Addr→Prop):HeapKind prog w K where
 is:=fun h k a=>knd.is h k a∧T k a
 hash:=knd.hash
 draws:=knd.draws
 room:=knd.room
 inj:=fun p q=>knd.inj p.1 q.1
 keeps:=fun p ho hd hs=>⟨knd.keeps p.1 ho hd hs,p.2⟩
 pyHash:=fun hu p h=>knd.pyHash hu p.1 h
 eqBool:=fun hu p q h=>knd.eqBool hu p.1 q.1 h
 quiet:=fun p h=>knd.quiet p.1 h
theorem lp {knd:HeapKind prog w K} (F:Fit knd) (T:K→Addr→Prop):Fit (l8 knd T) :=
 ⟨fun p h=>F.cls p.1 h,fun p h=>F.val p.1 h,fun p f=>⟨F.keep p.1 f,p.2⟩⟩
theorem Keyd.list {knd:HeapKind prog w K} {T:K→Addr→Prop} {h:Heap} : ∀ {ks:List K} {r:List (Int×Value)},Keyd (l8 knd T) h ks r → ∃ bs:List (K×Addr),ks=bs.map (·.1)∧r=bs.map (fun p=>(knd.hash p.1,Value.ref p.2)) ∧ ∀ p∈bs,T p.1 p.2
 | _,_,.nil=>⟨[],rfl,rfl,fun p hp=>by simp at hp⟩
 | _,_,.cons (k:=k) (b:=b) h1 t=>by
  obtain ⟨bs,e1,e2,e3⟩:=t.list
  refine ⟨(k,b)::bs,by simp [e1],by simp only [List.map_cons]; rw [← e2]; rfl,fun p hp => ?_⟩
  rcases List.mem_cons.mp hp with rfl | hp
  ·exact h1.2
  ·exact e3 p hp
end
end Tab
namespace L2
open PySem PySem.Spec PyProof.Rows Nest SortN Ord' Tab
section
variable {X:Cx}
def cy (P:Program) (w:World) (a:Addr) (bs:List (List (List Int)×Addr)):HO:=HO.ext fun h => ∃ es ep t m,h.get? a=some (NwS.setObj es ep t)∧es.toList=bs.map (fun p=>(bP (intKind P w) p.1,Value.ref p.2))∧eu t m (es.toList.map (·.1))∧m % 2=1∧es.size * 5 < t.mask * 3∧t.plain=true∧(NwS.byText w=false→t.led=true)
theorem iM {H:Hp} {K:PySem.W.Frag} : ∀ {ks:List (List (List Int))} {ps:List V} {its:List Value},Iss K H (ks.map dP) ps→Vals ps its → ∀ (i:Nat) v,its[i]?=some v → ∃ a k,ks[i]?=some k∧v = .ref a∧Is K H (dP k) (.ref a)
 | [],ps,its,h,v,i,u,e=>by
  rw [List.map_nil,Iss] at h
  subst h
  cases v
  simp at e
 | k::ks,ps,its,h,v,i,u,e=>by
  rw [List.map_cons,Iss] at h
  obtain ⟨x,ys,rfl,h1,h2⟩:=h
  obtain ⟨a,rfl⟩:=fI h1
  cases v with
  | cons r1 r2 =>
   cases r1
   cases i with
   | zero=>simp at e; exact ⟨a,k,rfl,e.symm,h1⟩
   | succ i=>simpa using iM h2 r2 i u (by simpa using e)
theorem fc (hc:X.calm=true) (hu:X.A.units+40 < cLine):bY X (.type "set") (fun xs H Q => ∃ (p:Addr) (ps:List V) (ks:List (List (List Int))),xs=[.ref p]∧SqL X.K H p ps∧Iss X.K H (ks.map dP) ps∧ks.length < 1000 ∧
  ∀ (l:Addr) (bs:List (List (List Int)×Addr)),H l=none→(bs.map (·.1)).Nodup→bs.length≤ks.length→(∀ k,k∈bs.map (·.1)↔k∈ks)→(∀ q∈bs,Is X.K H (dP q.1) (.ref q.2))→Q (.ref l) (upd H l (cy X.prog X.w l bs))):=by
 intro pins s σ H xs us Q I r h
 obtain ⟨p,ps,ks,rfl,hx,hi,hz,q⟩:=h
 obtain ⟨u,rfl,ru⟩:=dD r
 cases ru
 obtain ⟨its,rv,ht,hsz⟩:=I.list hx
 have hlen:its.length=ks.length:=by rw [← rv.length,hi.length,List.length_map]
 have hv:=iM hi rv
 let T:List (List Int)→Addr→Prop:=fun k a=>Is X.K H (dP k) (.ref a)
 let adr:Nat→Addr:=fun i=>match its[i]? with | some (.ref a)=>a | _=>0
 let val:Nat→List (List Int):=fun i=>ks.getD i []
 have hadr : ∀ (i:Nat) v,its.toArray[i]?=some v→v = .ref (adr i):=fun i v e=>by
  rw [List.getElem?_toArray] at e
  obtain ⟨a,k,_,rfl,_⟩:=hv i v e
  show Value.ref a = .ref (match its[i]? with | some (.ref a)=>a | _=>0)
  rw [e]
 have hkey : ∀ j,j < its.toArray.size→(l8 (bg (intKind X.prog X.w)) T).is s.heap (val j) (adr j):=fun j hj=>by
  rw [List.size_toArray] at hj
  obtain ⟨a,k,e1,e2,e3⟩:=hv j its[j] (List.getElem?_eq_getElem hj)
  have ea:adr j=a:=by
   show (match its[j]? with | some (.ref a)=>a | _=>0)=a
   rw [List.getElem?_eq_getElem hj,e2]
  have ek:val j=k:=by
   show ks.getD j []=k
   rw [List.getD_eq_getElem?_getD,e1]; rfl
  rw [ea,ek]
  exact ⟨a6 I e3,e3⟩
 refine jz (lp kt T) (fun B hB=>show B.units+8 < cLine by omega) (I.ok.hd hc) ht.isList hadr hkey (by rw [List.size_toArray]; omega) fun h' tk ks' S k2 k3 hk => ?_
 obtain ⟨⟨es,ep,t,m,ho,kd,rest⟩,nd⟩:=S
 obtain ⟨bs,e1,e2,e3⟩:=kd.list
 have hes:es.toList=bs.map (fun p=>(bP (intKind X.prog X.w) p.1,Value.ref p.2)):=e2
 refine ⟨.ref s.heap.objs.size,_,I.laid (fun b o e=>hk b o (Heap.lt_size e) e) (Nat.le_refl _) (show ObjOk X.prog X.w _ h' _ (cy X.prog X.w s.heap.objs.size bs) from ?_),rfl,q _ bs (I.hok.fresh (Nat.le_refl _)) (by rw [← e1]; exact nd) ?_ ?_ e3⟩
 ·refine ⟨⟨es,ep,t,m,ho,hes,rest⟩,⟨_,ho⟩,fun h1 h2 p k => ?_⟩
  obtain ⟨es,ep,t,m,p1,p2⟩:=p
  exact ⟨es,ep,t,m,k _ p1,p2⟩
 ·rw [← List.length_map (as:=bs) (·.1),← e1]
  rw [List.size_toArray] at k2; omega
 ·intro k
  rw [← e1,k3 k,List.size_toArray]
  constructor
  ·rintro ⟨j,j1,j2⟩
   rw [← j2]
   show ks.getD j []∈ks
   rw [List.getD_eq_getElem?_getD,List.getElem?_eq_getElem (by omega)]
   exact List.getElem_mem _
  ·intro hm
   obtain ⟨j,hj,e⟩:=List.getElem_of_mem hm
   refine ⟨j,by omega,?_⟩
   show ks.getD j []=k
   rw [List.getD_eq_getElem?_getD,List.getElem?_eq_getElem hj,e]; rfl
theorem cp (hc:X.calm=true) (hu:X.A.units+4 < cLine):bY X (.builtin "sorted") (fun xs H Q => ∃ (p:Addr) (bs:List (List (List Int)×Addr)),xs=[.ref p]∧H p=some (cy X.prog X.w p bs)∧(bs.map (·.1)).Nodup∧bs.length < 4000∧(∀ q∈bs,q.1≠[]∧Is X.K H (dP q.1) (.ref q.2)) ∧
  ∀ (l:Addr) (out:List V) (ks':List (List (List Int))),H l=none→Iss X.K H (ks'.map dP) out→ks'.Perm (bs.map (·.1))→ks'.Pairwise (fun a b=>ltP a b=true)→Q (.ref l) (upd H l (.lst out))):=by
 intro pins s σ H xs us Q I r h
 obtain ⟨p,bs,rfl,hx,hn,hz,hb,q⟩:=h
 obtain ⟨u,rfl,ru⟩:=dD r
 cases ru
 obtain ⟨⟨es,ep,t,m,ho,hes,g,hodd,hload,hpl,hled⟩,_,_⟩:=I.hok p _ hx
 have hlen:es.size=bs.length:=by rw [← Array.length_toList,hes,List.length_map]
 have L:Led X.w s.heap p es ep t:=by
  refine ⟨ho,?_,by unfold scanBound; omega,g.rise,hpl,hled⟩
  have h1:=g.len
  rw [List.length_map,Array.length_toList] at h1
  unfold SetTable.fits SetTable.fill
  rw [g.dum]
  simp [h1]; omega
 have hes2:es.toList.map (·.2)=bs.map fun p=>Value.ref p.2:=by rw [hes,List.map_map]; rfl
 have mem : ∀ vs:List Value,vs.Perm (es.toList.map (·.2)) → ∀ v∈vs,∃ a k,v = .ref a∧k≠[]∧Is X.K H (dP k) (.ref a):=fun vs hp v hv=>by
  have:=hp.mem_iff.mp hv
  rw [hes2] at this
  obtain ⟨q,hq,rfl⟩:=List.mem_map.mp this
  exact ⟨q.2,q.1,rfl,hb q hq⟩
 refine bL (C:=fun vs ks' h1=>vs.Perm (es.toList.map (·.2))) hu (gE (show X.A.in1.handled=none from I.ok.hd hc) L fun vs h1 tk hp hk=>⟨h1,tk,vs.map (au X.prog X.w h1),rfl,hk,ir fun v hv => ?_,?_,?_,hp⟩) fun h1 h' tk n vs out ks1 ks' hC p1 p2 p3 p4 hx1 hl hk hk' => ?_
 ·obtain ⟨a,k,rfl,hne,hi⟩:=mem vs hp v hv
  match k,hne,hi with
  | r::k2,_,hi=>exact ⟨a,r,k2,rfl,Tab.nest_grow (a6 I hi) fun c o y m e _ _=>hk c o e⟩
  | [],z,_=>exact absurd rfl z
 ·have:=hp.map (au X.prog X.w h1)
  refine this.nodup_iff.mpr ?_
  rw [hes2,List.map_map]
  have e:bs.map (au X.prog X.w h1 ∘ fun p=>Value.ref p.2)=bs.map (·.1):=List.map_congr_left fun q hq=>aQ (Tab.nest_grow (a6 I (hb q hq).2) fun c o y m e _ _=>hk c o e)
  rw [e]; exact hn
 ·rw [hp.length_eq,List.length_map,Array.length_toList]; omega
 obtain ⟨xs,x1,x2⟩:=cP I hk (P:=fun a k=>Is X.K H (dP k) (.ref a)) (fun a k z=>z) (out:=out) fun v hv=>by
  obtain ⟨a,k,e,_,hi⟩:=mem vs hC v (p1.mem_iff.mp hv)
  exact ⟨a,k,e,hi⟩
 rw [p2] at x2
 have hks:ks1.Perm (bs.map (·.1)):=by
  rw [← hx1.keys]
  have:=hC.map (au X.prog X.w h1)
  rw [hes2,List.map_map] at this
  have e:bs.map (au X.prog X.w h1 ∘ fun p=>Value.ref p.2)=bs.map (·.1):=List.map_congr_left fun q hq=>aQ (Tab.nest_grow (a6 I (hb q hq).2) fun c o y m e _ _=>hk c o e)
  rwa [e] at this
 have I1:Inv X pins σ H { s with heap:=h1,toks:=tk }:=I.kept hk
 have hlo:out.length=bs.length:=by rw [p1.length_eq,hC.length_eq,List.length_map,Array.length_toList,hlen]
 have I2:Inv X pins σ (upd H h1.objs.size (.lst xs)) { s with heap:=h',toks:=tk } :=
  I1.laid (t':=tk) hk' (Nat.le_refl _) (show ObjOk X.prog X.w _ _ _ (.lst xs) from ⟨by rw [x1.length,hlo,sizeLine_eq]; omega,out,n,x1,hl⟩)
 exact ⟨.ref h1.objs.size,_,I2,rfl,q _ _ _ (I1.hok.fresh (Nat.le_refl _)) x2 (p3.trans hks) p4⟩
end
end L2
set_option autoImplicit false
namespace DictR
open PySem
open Sem (wp)
section
variable {prog:Program} {w:World} {A:Around} {E:Value→Shared→Prop} {s:Shared}
def Raw (h:Heap) (d:Addr) (es:Array DictEntry) (ep:Nat):Prop := ∃ o,h.get? d=some o∧o.ExactDict∧o.data = .dict es ep
theorem Raw.typeIs {d:Addr} {es:Array DictEntry} {ep:Nat} (x:Raw s.heap d es ep):s.TypeIs (.ref d) "dict":=let ⟨o,e,c,_⟩:=x; ⟨o,e,c.1⟩
theorem Raw.at {h h':Heap} {d:Addr} {es:Array DictEntry} {ep:Nat} (x:Raw h d es ep) (f : ∀ o,h.get? d=some o→h'.get? d=some o):Raw h' d es ep:=let ⟨o,e,r⟩:=x; ⟨o,f o e,r⟩
theorem j6 {I d:Addr} {i ep:Nat} {es:Array DictEntry} (hi:i < es.size) {Q:Option Value→Shared→Prop} (it:s.heap.IsKeyIter I d i es.size ep) (dd:Raw s.heap d es ep)
  (hQ : ∀ h',h'.IsKeyIter I d (i+1) es.size ep→Heap.SameBut I s.heap h'→Q (some es[i].key) { s with heap:=h' }):wpAny (model prog w) A (pyNext (.ref I)) Q E s:=by
 obtain ⟨oi,ei,ci,di⟩:=id it
 obtain ⟨od,ed,cd,fd⟩:=dd
 unfold pyNext
 refine wpAny_bind (wpAny_attempt (wpAny_callSpecial?_slot (name:=Str.ofString "__next__") it.typeIs F.slot_dict_keyiterator_next
  (wpAny_call_entry F.slot_dict_keyiterator_next it.typeIs F.entry_dict_keyiterator_next ?_ (F.args_dict_keyiterator_next_1 _))))
 refine wpAny_bind (wpAny_pure (wpAny_bind (wpAny_bind ?_)))
 first | refine wpAny_bind (wpAny_typeNameOfWhole_keyiter it.typeIs (wpAny_pure ?_)) | refine wpAny_bind (wpAny_typeNameOf_keyiter it.typeIs (wpAny_pure ?_))
 refine wpAny_bind (wpAny_fieldsOf ei di ?_)
 rw [if_neg (by decide)]
 show wpAny _ _ (if (Value.ref d == Value.none)=true then _ else _) _ _ _
 rw [if_neg (show ¬ ((Value.ref d == Value.none)=true) from by intro z; cases eq_of_beq z)]
 refine wpAny_bind (wpAny_pure (wpAny_bind (wpAny_dictEntries ed fd ?_)))
 rw [if_neg (by simp)]
 refine wpAny_bind (wpAny_pure (wpAny_bind (wpAny_dictEpoch ed fd ?_)))
 rw [if_neg (by simp)]
 refine wpAny_pure ?_
 simp only [show ¬ ((i:Int) < 0) from by omega,if_false,Int.toNat_natCast,Array.getElem?_eq_getElem hi]
 refine wpAny_bind ?_
 first | refine wpAny_bind (wpAny_typeNameOfWhole_keyiter it.typeIs (wpAny_pure ?_)) | refine wpAny_bind (wpAny_typeNameOf_keyiter it.typeIs (wpAny_pure ?_))
 refine wpAny_bind (wpAny_isOneOf_keyiter it.typeIs ?_)
 show wpAny _ _ (setField (.ref I) 1 (rawInt ((i:Int)+1)) >>= _) _ _ s
 refine wpAny_bind (wpAny_setField ei di (by simp) ?_)
 have it':(s.heap.update I (Obj.mapFields (·.setIfInBounds 1 (rawInt ((i:Int)+1))))).IsKeyIter I d (i+1) es.size ep :=
  ⟨_,Heap.get?_update_self _ ei (Obj.isFreed_of_fields (Obj.data_mapFields di _)),(Obj.cls_mapFields ..).trans ci,by rw [Obj.data_mapFields di]; simp [rawInt]⟩
 refine wpAny_bind (wpAny_holding ?_)
 refine wpAny_bind (wpAny_isOneOf_keyiter (s:={ s with heap:=s.heap.update I (Obj.mapFields (·.setIfInBounds 1 (rawInt ((i:Int)+1)))) }) it'.typeIs ?_)
 show wpAny _ _ (pure es[i].key) _ _ _
 exact wpAny_pure (wpAny_pure ⟨_,rfl,wpAny_pure (hQ _ it' (Heap.SameBut.update ..))⟩)
theorem lr {I d:Addr} {ep:Nat} {es:Array DictEntry} {Q:Option Value→Shared→Prop} (hh:A.handled=none) (it:s.heap.IsKeyIter I d es.size es.size ep) (dd:Raw s.heap d es ep)
  (hQ : ∀ h',(∀ b o,b≠I→s.heap.get? b=some o→h'.get? b=some o)→Q none { s with heap:=h' }):wpAny (model prog w) A (pyNext (.ref I)) Q E s:=by
 obtain ⟨oi,ei,ci,di⟩:=id it
 obtain ⟨od,ed,cd,fd⟩:=dd
 unfold pyNext
 refine wpAny_bind (wpAny_attempt (wpAny_callSpecial?_slot (name:=Str.ofString "__next__") it.typeIs F.slot_dict_keyiterator_next
  (wpAny_call_entry F.slot_dict_keyiterator_next it.typeIs F.entry_dict_keyiterator_next ?_ (F.args_dict_keyiterator_next_1 _))))
 refine wpAny_bind (wpAny_pure (wpAny_bind (wpAny_bind ?_)))
 first | refine wpAny_bind (wpAny_typeNameOfWhole_keyiter it.typeIs (wpAny_pure ?_)) | refine wpAny_bind (wpAny_typeNameOf_keyiter it.typeIs (wpAny_pure ?_))
 refine wpAny_bind (wpAny_fieldsOf ei di ?_)
 rw [if_neg (by decide)]
 show wpAny _ _ (if (Value.ref d == Value.none)=true then _ else _) _ _ _
 rw [if_neg (show ¬ ((Value.ref d == Value.none)=true) from by intro z; cases eq_of_beq z)]
 refine wpAny_bind (wpAny_pure (wpAny_bind (wpAny_dictEntries ed fd ?_)))
 rw [if_neg (by simp)]
 refine wpAny_bind (wpAny_pure (wpAny_bind (wpAny_dictEpoch ed fd ?_)))
 rw [if_neg (by simp)]
 refine wpAny_pure ?_
 simp only [show ¬ ((es.size:Int) < 0) from by omega,if_false,Int.toNat_natCast,Array.getElem?_eq_none (Nat.le_refl es.size)]
 refine wpAny_bind ?_
 first | refine wpAny_bind (wpAny_typeNameOfWhole_keyiter it.typeIs (wpAny_pure ?_)) | refine wpAny_bind (wpAny_typeNameOf_keyiter it.typeIs (wpAny_pure ?_))
 show wpAny _ _ (setField (.ref I) 0 .none >>= _) _ _ s
 refine wpAny_bind (wpAny_setField ei di (by simp) ?_)
 refine NwS.stop_ok hh fun h' hk=>hQ h' fun b o' hb e=>hk b o' ?_
 exact (Heap.get?_update_other _ _ (Ne.symm hb)).trans e
theorem iZ (hh:A.handled=none) {I d:Addr} (hne:d≠I) (es:Array DictEntry) (ep:Nat) :
  Walks prog w A I [I,d] [I] es.size (fun i v=>(es[i]?).map (·.key)=some v) (fun i h=>h.IsKeyIter I d i es.size ep∧Raw h d es ep) where
 sub:=fun b hb=>by simp at hb; simp [hb]
 frame:=fun _ _ _ st hk=>⟨st.1.at fun o e=>hk I (by simp) o e,st.2.at fun o e=>hk d (by simp) o e⟩
 item:=fun i s Q E hi st hQ=>j6 hi st.1 st.2 fun h' it' hs=>hQ _ h' s.toks (by rw [Array.getElem?_eq_getElem hi]; rfl) ⟨it',st.2.at fun o e=>(hs.2 d hne).trans e⟩ fun b o hb e=>(hs.2 b (fun z=>hb (by simp [z]))).trans e
 done:=fun s Q E st hQ=>lr hh st.1 st.2 fun h' hk=>hQ h' s.toks fun b o hb e=>hk b o (fun z=>hb (by simp [z])) e
 self:=fun _ _ _ _ st hQ=>wpAny_pyIter_keyiter st.1 hQ
theorem kb {d:Addr} {es:Array DictEntry} {ep:Nat} {Q:Value→Shared→Prop} (hd:(d == sysModules)=false) (dd:Raw s.heap d es ep)
  (hQ:Q (.ref s.heap.objs.size) { s with heap:=s.heap.push { cls := .type "dict_keyiterator",data := .fields #[.ref d,.int 0 0,.int es.size 0,.int ep 0] } }):wpAny (model prog w) A (pyIter (.ref d)) Q E s:=by
 have hT:=dd.typeIs
 obtain ⟨od,ed,cd,fd⟩:=dd
 refine wpAny_pyIter_slot hT F.slot_dict_iter (wpAny_call_entry F.slot_dict_iter hT F.entry_dict_iter ?_ (F.args_dict_iter_1 _))
 unfold Builtin.«dict.__iter__» Builtin.Dict.dictSlotNone
 refine wpAny_bind (wpAny_bind (wpAny_notOrdered_dict hT ?_))
 refine wpAny_pure ?_
 show wpAny _ _ (Builtin.Dict.showsAll d >>= _) _ _ s
 unfold Builtin.Dict.showsAll
 rw [if_neg (by rw [hd]; simp)]
 refine wpAny_bind (wpAny_pure (wpAny_bind (wpAny_dictEntries ed fd (wpAny_bind (wpAny_dictEpoch ed fd ?_)))))
 refine wpAny_bind (wpAny_newObj_type (wpAny_pure ⟨_,rfl, "dict_keyiterator",_,⟨_,Heap.get?_push_size _ rfl,rfl⟩,F.slot_dict_keyiterator_next.lookup,?_⟩))
 simpa [rawInt] using hQ
theorem jn {es:Array DictEntry} {acc:Array Value} (h:ItemsOf (fun i v=>(es[i]?).map (·.key)=some v) acc es.size):acc.toList=es.toList.map (·.key):=by
 apply List.ext_getElem?
 intro i
 rw [List.getElem?_map,Array.getElem?_toList,Array.getElem?_toList]
 by_cases hi:i < acc.size
 ·have:=h.2 i acc[i] (Array.getElem?_eq_getElem hi)
  rw [Array.getElem?_eq_getElem hi]; exact this.symm
 ·rw [Array.getElem?_eq_none (by omega),Array.getElem?_eq_none (by have:=h.1; omega)]; rfl
theorem collect_raw {a:Addr} {es:Array DictEntry} {ep:Nat} (hh:A.handled=none) (hd:(a == sysModules)=false) (D:Raw s.heap a es ep) (hn:es.size≤sizeLine) {Q:List Value→Shared→Prop}
  (hQ : ∀ h' tk,(∀ b o,s.heap.get? b=some o→h'.get? b=some o)→Q (es.toList.map (·.key)) { s with heap:=h',toks:=tk }) :
  wpAny (model prog w) A (collect (.ref a)) Q E s:=by
 have hlt:a < s.heap.objs.size:=let ⟨_,e,_⟩:=D; Heap.lt_size e
 have hSa:s.heap.objs.size≠a:=Nat.ne_of_gt hlt
 unfold collect
 refine wpAny_bind (wpAny_runValue (codeAny_builtin F.entry_proto_collect ?_))
 rw [Around.under_plainId F.plain_proto_collect _]
 show wpAny _ A.in1 (newList [] >>= fun l=>again (.builtin "list.__iadd__" ⟨[l,.ref a],[]⟩)) _ _ s
 refine wpAny_bind (wpAny_newObj_type ?_)
 refine wpAny_pure ⟨plainId_quiet F.plain_list_iadd _,codeAny_builtin F.entry_list_iadd ?_⟩
 rw [Around.under_plainId F.plain_list_iadd _]
 have D1:Raw (s.heap.push { cls := .type "list",data := .seq ([]:List Value).toArray }) a es ep:=D.at fun o e=>Heap.get?_push_of_some _ e
 have hT1:Shared.TypeIs { s with heap:=s.heap.push { cls := .type "list",data := .seq ([]:List Value).toArray } } (.ref a) "dict":=D1.typeIs (s:={ s with heap:=s.heap.push { cls := .type "list",data := .seq ([]:List Value).toArray } })
 show wpAny _ A.in1 (Builtin.List.listExtendWith (.ref s.heap.objs.size) (.ref a) (.ref s.heap.objs.size)) _ _ _
 unfold Builtin.List.listExtendWith
 refine wpAny_bind (wpAny_typeOf hT1 ?_)
 have h1:Builtin.List.listSameRef (.ref s.heap.objs.size) (.ref a)=false:=by simp [Builtin.List.listSameRef,hSa]
 have h2:(Value.type "dict" == Value.type "list")=false:=by decide
 have h3:(Value.type "dict" == Value.type "tuple")=false:=by decide
 simp only [h1,h2,h3,Bool.or_false,Bool.false_eq_true,if_false]
 refine wpAny_bind (kb (s:={ s with heap:=s.heap.push { cls := .type "list",data := .seq ([]:List Value).toArray } }) hd D1 ?_)
 have hz0:(s.heap.push { cls := .type "list",data := .seq ([]:List Value).toArray }).objs.size=s.heap.objs.size+1:=Heap.size_push _ _
 generalize hI0:(s.heap.push { cls := .type "list",data := .seq ([]:List Value).toArray }).objs.size=I at hz0
 have hk : ∀ b o,s.heap.get? b=some o→((s.heap.push { cls := .type "list",data := .seq ([]:List Value).toArray }).push { cls := .type "dict_keyiterator",data := .fields #[.ref a,.int 0 0,.int es.size 0,.int ep 0] }).get? b=some o:=fun b o e=>Heap.get?_push_of_some _ (Heap.get?_push_of_some _ e)
 have D2:Raw ((s.heap.push { cls := .type "list",data := .seq ([]:List Value).toArray }).push { cls := .type "dict_keyiterator",data := .fields #[.ref a,.int 0 0,.int es.size 0,.int ep 0] }) a es ep:=D1.at fun o e=>Heap.get?_push_of_some _ e
 have hS₁:((s.heap.push { cls := .type "list",data := .seq ([]:List Value).toArray }).push { cls := .type "dict_keyiterator",data := .fields #[.ref a,.int 0 0,.int es.size 0,.int ep 0] }).get? s.heap.objs.size=some { cls := .type "list",data := .seq ([]:List Value).toArray }:=Heap.get?_push_of_some _ (Heap.get?_push_size _ rfl)
 have it0:((s.heap.push { cls := .type "list",data := .seq ([]:List Value).toArray }).push { cls := .type "dict_keyiterator",data := .fields #[.ref a,.int 0 0,.int es.size 0,.int ep 0] }).IsKeyIter I a 0 es.size ep:=by
  rw [← hI0]; exact ⟨_,Heap.get?_push_size _ rfl,rfl,rfl⟩
 show wpAny (model prog w) A.in1 _ _ _ ({ s with heap:=(s.heap.push { cls := .type "list",data := .seq ([]:List Value).toArray }).push { cls := .type "dict_keyiterator",data := .fields #[.ref a,.int 0 0,.int es.size 0,.int ep 0] } }:Shared)
 generalize ((s.heap.push { cls := .type "list",data := .seq ([]:List Value).toArray }).push { cls := .type "dict_keyiterator",data := .fields #[.ref a,.int 0 0,.int es.size 0,.int ep 0] })=h' at hk D2 hS₁ it0 ⊢
 have hT2:Shared.TypeIs { s with heap:=h' } (.ref a) "dict":=D2.typeIs (s:={ s with heap:=h' })
 have hne:a≠I:=Nat.ne_of_lt (Nat.lt_of_lt_of_eq (Nat.lt_succ_of_lt hlt) hz0.symm)
 refine wpAny_bind (wpAny_holding ?_)
 unfold Builtin.List.listLengthHint
 refine wpAny_bind (wpAny_specialOf hT2 F.slot_dict_len.lookup ?_)
 (generalize hid:("dict.__len__":String)=id0; (fail_if_success (clear hid id0)); dsimp only; rw [show splitId id0=some ("dict", "__len__") from by subst hid; decide +kernel]; subst hid)
 refine wpAny_bind (wpAny_isInstance (b:=true) hT2 (by rw [isSubtype_type]; kernel_rfl) ?_)
 refine wpAny_bind (wpAny_typeOf hT2 ?_)
 refine wpAny_pure ?_
 show wpAny _ A.in1 (rule "list.extend.makes-room" >>= fun _=>Builtin.List.listTouch (.ref s.heap.objs.size) >>= fun _ =>
  again (.builtin "list.extend.loop" ⟨[.ref s.heap.objs.size,.ref I,.ref s.heap.objs.size],[]⟩)) _ _ _
 refine wpAny_bind (wpAny_rule ?_)
 have hSf:s.heap.objs.size∉[I,a]:=fun hm=>by
  rcases List.mem_cons.mp hm with e | e
  ·omega
  ·exact hSa (List.mem_singleton.mp e)
 refine wpAny_bind ?_
 show wpAny _ A.in1 (updateSeq s.heap.objs.size (·.push .none) >>= fun _=>updateSeq s.heap.objs.size (·.pop)) _ _ _
 refine wpAny_bind (wpAny_updateSeq hS₁ rfl ?_)
 have hS₂:=Heap.get?_update_self (Obj.mapSeq (·.push Value.none)) hS₁ rfl
 refine wpAny_updateSeq hS₂ rfl ?_
 have hS₃:=Heap.get?_update_self (Obj.mapSeq (·.pop)) hS₂ rfl
 have oth : ∀ b o,b≠s.heap.objs.size→h'.get? b=some o →
   ((h'.update s.heap.objs.size (Obj.mapSeq (·.push Value.none))).update s.heap.objs.size (Obj.mapSeq (·.pop))).get? b=some o :=
  fun b o hb e=>(Heap.get?_update_other _ _ (Ne.symm hb)).trans ((Heap.get?_update_other _ _ (Ne.symm hb)).trans e)
 have W : ∀ A':Around,A'.handled=none→Walks prog w A' I [I,a] [I] es.size (fun i v=>(es[i]?).map (·.key)=some v) (fun i h=>h.IsKeyIter I a i es.size ep∧Raw h a es ep):=fun A' q=>iZ q hne es ep
 have WS:=(W A.in1.in1 hh).toS
 refine wpAny_pure ⟨plainId_quiet F.plain_extend_loop _,codeAny_extend_loopS (A:=A) (W A.in1 hh).toS hn _ hSf _ es.size 0 _ _ _ rfl (Nat.zero_le _)
  (WS.frame 0 ({ s with heap:=h' }:Shared) _ s.toks ⟨it0,D2⟩ (Nat.le_refl _) fun b hb o e=>oth b o (fun h=>hSf (h ▸ hb)) e) hS₃ (ItemsOf.nil _) fun s' acc' c' hm hS' hacc => ?_⟩
 obtain ⟨h4,g4,d4,tk4,os4⟩:=s'
 have eg:g4=s.gens:=hm.gens
 have ed:d4=s.drawn:=hm.drawn
 have eo:os4=s.os:=hm.os
 subst eg; subst ed; subst eo
 show wpAny _ A (load s.heap.objs.size >>= _) _ _ _
 refine wpAny_bind (wpAny_load hS' ?_)
 refine wpAny_pure ?_
 have hfin:=hQ h4 tk4 fun b o e=>by
  have hlb:b < s.heap.objs.size:=Heap.lt_size e
  refine hm.heap b o (fun hm' => ?_) (oth b o (Nat.ne_of_lt hlb) (hk b o e))
  rcases List.mem_cons.mp hm' with z | z
  ·exact absurd z (Nat.ne_of_lt hlb)
  ·have z:=List.mem_singleton.mp z
   exact absurd z (Nat.ne_of_lt (Nat.lt_of_lt_of_eq (Nat.lt_succ_of_lt hlb) hz0.symm))
 rw [← jn hacc] at hfin
 exact hfin
end
end DictR
set_option autoImplicit false
namespace L2
open PySem PySem.Spec PyProof.Rows Nest SortN Ord' Tab
section
variable {X:Cx}
def gN (P:Program) (w:World) (a:Addr) (bs:List (List (List Int)×Addr)):HO:=HO.ext fun h=>(a == sysModules)=false ∧ ∃ o es ep,h.get? a=some o∧o.ExactDict∧o.data = .dict es ep∧es.toList=bs.map fun p=>entryOfKey (bg (intKind P w)) (p.1,p.2,Value.bool true)
def dn (P:Program) (w:World) (H:Hp) (a:Addr) (bs:List (List (List Int)×Addr)):Prop:=H a=some (gN P w a bs)∨(H a=some (.dK [])∧bs=[])
def cY (bs:List (List (List Int)×Addr)) (k:List (List Int)) (b:Addr):List (List (List Int)×Addr):=if k∈bs.map (·.1) then bs else bs++[(k,b)]
section
variable {pins:List (Addr×Obj)} {σ:St} {H:Hp} {s:Shared}
theorem kw (I:Inv X pins σ H s) {a:Addr} {bs:List (List (List Int)×Addr)} (h:dn X.prog X.w H a bs):(a == sysModules)=false ∧ ∃ o es ep,s.heap.get? a=some o∧o.ExactDict∧o.data = .dict es ep∧es.toList=bs.map fun p=>entryOfKey (bg (intKind X.prog X.w)) (p.1,p.2,Value.bool true):=by
 rcases h with h | ⟨h,rfl⟩
 ·exact (I.hok a _ h).1
 ·obtain ⟨_,hd,vs,rel,o,es,ep,ho,hc,hdat,_,hp,_⟩:=I.hok a _ h
  refine ⟨hd,o,es,ep,ho,hc,hdat,?_⟩
  have:vs=[]:=by
   have:=Paired.length rel
   exact List.eq_nil_of_length_eq_zero this.symm
  subst this
  have:=hp.length
  exact List.eq_nil_of_length_eq_zero this
theorem nE (I:Inv X pins σ H s) {a:Addr} {bs:List (List (List Int)×Addr)} (h:dn X.prog X.w H a bs) (hn:(bs.map (·.1)).Nodup) (hb : ∀ q∈bs,Is X.K H (dP q.1) (.ref q.2)) :
  (a == sysModules)=false∧s.heap.DictOfH (bg (intKind X.prog X.w)) a (bs.map fun p=>(p.1,p.2,Value.bool true)):=by
 obtain ⟨hd,o,es,ep,ho,hc,hdat,he⟩:=kw I h
 refine ⟨hd,o,es,ep,ho,hc,hdat,by rw [he,List.map_map]; rfl,fun x hx => ?_,?_⟩
 ·obtain ⟨q,hq,rfl⟩:=List.mem_map.mp hx
  exact a6 I (hb q hq)
 ·rw [List.map_map]; exact hn
theorem i8 {bs:List (List (List Int)×Addr)} {k:List (List Int)} {b:Addr}:storedH (bs.map fun p=>(p.1,p.2,Value.bool true)) k b (.bool true)=(cY bs k b).map fun p=>(p.1,p.2,Value.bool true):=by
 unfold cY
 by_cases q:k∈bs.map (·.1)
 ·rw [if_pos q]
  obtain ⟨p,hp,rfl⟩:=List.mem_map.mp q
  have hs:(atKey (bs.map fun p=>(p.1,p.2,Value.bool true)) p.1).isSome=true:=by
   unfold atKey
   rw [Option.isSome_map,List.find?_isSome]
   exact ⟨_,List.mem_map.mpr ⟨p,hp,rfl⟩,by simp⟩
  unfold storedH
  rw [if_pos hs,List.map_map]
  refine List.map_congr_left fun x _ => ?_
  show putAt p.1 (.bool true) (x.1,x.2,Value.bool true)=_
  unfold putAt
  split <;> rfl
 ·rw [if_neg q]
  have hs:atKey (bs.map fun p=>(p.1,p.2,Value.bool true)) k=none:=by
   unfold atKey
   rw [Option.map_eq_none_iff,List.find?_eq_none]
   intro x hx
   obtain ⟨p,hp,rfl⟩:=List.mem_map.mp hx
   simp only [decide_eq_true_eq]
   exact fun z=>q (z ▸ List.mem_map.mpr ⟨p,hp,rfl⟩)
  rw [storedH_new hs,List.map_append]; rfl
end
theorem m7 (hu:X.A.units+12 < cLine):mK X (fun o i v H Q => ∃ (a b:Addr) (k:List (List Int)) (bs:List (List (List Int)×Addr)),o = .ref a∧i = .ref b∧v = .bl true∧dn X.prog X.w H a bs∧(bs.map (·.1)).Nodup∧bs.length≤4000∧(∀ q∈bs,Is X.K H (dP q.1) (.ref q.2))∧Is X.K H (dP k) (.ref b)∧Q (upd H a (gN X.prog X.w a (cY bs k b)))):=by
 intro pins s σ H o i v ov iv u Q I ro ri rv h
 obtain ⟨a,b,k,bs,rfl,rfl,rfl,hd,hn,hz,hb,hk,q⟩:=h
 cases ro; cases ri; cases rv
 obtain ⟨hsm,dd⟩:=nE I hd hn hb
 refine wpAny_setItem_heap (hsz:=by rw [List.length_map,sizeLine_eq]; omega) (knd:=bg (intKind X.prog X.w)) (show X.A.units+1+8 < cLine by omega) (a6 I hk) dd fun h' dd' hs => ?_
 obtain ⟨o,es,ep,ho,hc,hdat,he,_,_⟩:=dd'
 have mu:Mut (H a):=by
  rcases hd with e | ⟨e,_⟩
  ·rw [e]; exact True.intro
  ·rw [e]; exact True.intro
 refine ⟨_,I.write (x:=a) (e:=a) mu (.inl rfl) (fun c z hb' e=>(hs.2 c hb').trans e) ⟨o,ho⟩ (show ObjOk X.prog X.w _ _ _ (gN X.prog X.w a (cY bs k b)) from ?_),q⟩
 refine ⟨⟨hsm,o,es,ep,ho,hc,hdat,?_⟩,⟨o,ho⟩,fun h1 h2 p z => ?_⟩
 ·rw [he,i8,List.map_map]; rfl
 ·obtain ⟨p0,o,es,ep,p1,p2⟩:=p
  exact ⟨p0,o,es,ep,z _ p1,p2⟩
theorem eE (hc:X.calm=true) (hu:X.A.units+4 < cLine):bY X (.builtin "sorted") (fun xs H Q => ∃ (p:Addr) (bs:List (List (List Int)×Addr)),xs=[.ref p]∧dn X.prog X.w H p bs∧(bs.map (·.1)).Nodup∧bs.length < 4000∧(∀ q∈bs,q.1≠[]∧Is X.K H (dP q.1) (.ref q.2)) ∧
  ∀ (l:Addr) (out:List V) (ks':List (List (List Int))),H l=none→Iss X.K H (ks'.map dP) out→ks'.Perm (bs.map (·.1))→ks'.Pairwise (fun a b=>ltP a b=true)→Q (.ref l) (upd H l (.lst out))):=by
 intro pins s σ H xs us Q I r h
 obtain ⟨p,bs,rfl,hx,hn,hz,hb,q⟩:=h
 obtain ⟨u,rfl,ru⟩:=dD r
 cases ru
 obtain ⟨hsm,o,es,ep,ho,hcl,hdat,hes⟩:=kw I hx
 have hlen:es.size=bs.length:=by rw [← Array.length_toList,hes,List.length_map]
 have hes2:es.toList.map (·.key)=bs.map fun p=>Value.ref p.2:=by rw [hes,List.map_map]; rfl
 have mem : ∀ v∈es.toList.map (·.key),∃ a k,v = .ref a∧k≠[]∧Is X.K H (dP k) (.ref a):=fun v hv=>by
  rw [hes2] at hv
  obtain ⟨q,hq,rfl⟩:=List.mem_map.mp hv
  exact ⟨q.2,q.1,rfl,hb q hq⟩
 have keys : ∀ h1:Heap,(∀ b o,s.heap.get? b=some o→h1.get? b=some o)→(es.toList.map (·.key)).map (au X.prog X.w h1)=bs.map (·.1):=fun h1 hk=>by
  rw [hes2,List.map_map]
  exact List.map_congr_left fun q hq=>aQ (Tab.nest_grow (a6 I (hb q hq).2) fun c o y m e _ _=>hk c o e)
 refine bL (C:=fun vs ks' h1=>vs=es.toList.map (·.key)) hu (DictR.collect_raw (show X.A.in1.handled=none from I.ok.hd hc) hsm ⟨o,ho,hcl,hdat⟩ (by rw [hlen,sizeLine_eq]; omega) fun h1 tk hk=>⟨h1,tk,bs.map (·.1),rfl,hk,?_,hn,?_,rfl⟩) fun h1 h' tk n vs out ks1 ks' hC p1 p2 p3 p4 hx1 hl hk hk' => ?_
 ·rw [← keys h1 hk]
  refine ir fun v hv => ?_
  obtain ⟨a,k,rfl,hne,hi⟩:=mem v hv
  match k,hne,hi with
  | r::k2,_,hi=>exact ⟨a,r,k2,rfl,Tab.nest_grow (a6 I hi) fun c o y m e _ _=>hk c o e⟩
  | [],z,_=>exact absurd rfl z
 ·rw [List.length_map,Array.length_toList]; omega
 subst hC
 obtain ⟨xs,x1,x2⟩:=cP I hk (P:=fun a k=>Is X.K H (dP k) (.ref a)) (fun a k z=>z) (out:=out) fun v hv=>by
  obtain ⟨a,k,e,_,hi⟩:=mem v (p1.mem_iff.mp hv)
  exact ⟨a,k,e,hi⟩
 rw [p2] at x2
 have hks:ks1=bs.map (·.1):=by rw [← hx1.keys]; exact keys h1 hk
 have I1:Inv X pins σ H { s with heap:=h1,toks:=tk }:=I.kept hk
 have hlo:out.length=bs.length:=by rw [p1.length_eq,List.length_map,Array.length_toList,hlen]
 have I2:Inv X pins σ (upd H h1.objs.size (.lst xs)) { s with heap:=h',toks:=tk } :=
  I1.laid (t':=tk) hk' (Nat.le_refl _) (show ObjOk X.prog X.w _ _ _ (.lst xs) from ⟨by rw [x1.length,hlo,sizeLine_eq]; omega,out,n,x1,hl⟩)
 exact ⟨.ref h1.objs.size,_,I2,rfl,q _ _ _ (I1.hok.fresh (Nat.le_refl _)) x2 (by rw [← hks]; exact p3) p4⟩
end
end L2
set_option autoImplicit false
namespace Nest
open PySem
section
variable {prog:Program} {w:World} {K:Type} [DecidableEq K] {knd:HeapKind prog w K} {A:Around} {E:Value→Shared→Prop} {s:Shared}
theorem dk {d a:Addr} {xs:List (K×Addr×Value)} {k:K} {dflt:Value} {Q:Value→Shared→Prop} (hu:knd.room A) (hkey:knd.is s.heap k a) (hm:s.heap.DictOfH knd d xs) (hz:xs.length≤4000)
  (h1 : ∀ p,atKey xs k=some p→Q p.2 { s with toks:=s.toks+knd.draws k })
  (h2:atKey xs k=none → ∀ h',h'.DictOfH knd d (xs++[(k,a,dflt)])→Heap.SameBut d s.heap h'→Q dflt { s with heap:=h',toks:=s.toks+knd.draws k }) :
  wpAny (model prog w) A (dictSetDefault d (.ref a) dflt) Q E s:=by
 obtain ⟨o,es,ep,ho,hc,hd,he,his,hn⟩:=hm
 unfold dictSetDefault
 refine wpAny_holding ?_
 refine wpAny_bind (knd.pyHash hu hkey (wpAny_bind (wpAny_dictFind_heap (s:={ s with toks:=s.toks+knd.draws k }) hu hkey ho hd he his hn ?_ ?_)))
 ·intro hno
  refine wpAny_bind (wpAny_rule (wpAny_bind (wpAny_updateDictKeys (hz:=by have e:=size_of_entries he; rw [sizeLine_eq]; omega) (s:={ s with toks:=s.toks+knd.draws k }) ho hd (wpAny_pure ?_))))
  refine h2 (atKey_none_of_get hno) _ ⟨_,_,ep+1,Heap.get?_update_self _ ho (Obj.isFreed_of_dict (Obj.data_mapDictKeys hd _)),hc.mapDictKeys _,Obj.data_mapDictKeys hd _,?_,fun x hx => ?_,?_⟩ (Heap.SameBut.update ..)
  ·simp [he,entryOfKey]
  ·rcases List.mem_append.mp hx with hx | hx
   ·exact knd.keeps (his x hx) ho hd (Heap.SameBut.update ..)
   ·rw [List.mem_singleton.mp hx]
    exact knd.keeps hkey ho hd (Heap.SameBut.update ..)
  ·rw [List.map_append,List.nodup_append]
   refine ⟨hn,by simp,fun x hx y hy => ?_⟩
   have hy':y=k:=by simpa using hy
   rw [hy']
   intro e
   subst e
   obtain ⟨z,hz1,hz2⟩:=List.mem_map.mp hx
   obtain ⟨j,hj⟩:=List.getElem?_of_mem hz1
   exact hno j z.2 (by rw [hj,← hz2])
 ·intro j p hj
  refine wpAny_bind (wpAny_dictEntries (s:={ s with toks:=s.toks+knd.draws k }) ho hd ?_)
  rw [entry_at he j,hj]
  exact wpAny_bind (wpAny_rule (wpAny_pure (h1 p (atKey_of_get hn hj))))
theorem cM {d a:Addr} (hd:(d == sysModules)=false) (dflt:Value) :
  MeetsIn prog w (Builtin.«dict.setdefault» ⟨[.ref d,.ref a,dflt],[]⟩) (fun A R s=>knd.room A.in1 ∧ ∃ k xs,knd.is s.heap k a∧s.heap.DictOfH knd d xs∧xs.length≤4000 ∧
   (∀ p,atKey xs k=some p→R (.ok (.ret p.2)) { s with toks:=s.toks+knd.draws k }) ∧
   (atKey xs k=none → ∀ h',h'.DictOfH knd d (xs++[(k,a,dflt)])→Heap.SameBut d s.heap h'→R (.ok (.ret dflt)) { s with heap:=h',toks:=s.toks+knd.draws k })) :=
 .of_wp fun A R s ⟨hu,k,xs,hkey,hm,hz,h1,h2⟩=>by
  unfold Builtin.«dict.setdefault» Builtin.Dict.keyAndDefault
  refine wpAny_bind (wpAny_bind (wpAny_notOrdered_dict hm.typeIs ?_))
  show wpAny _ _ (pure (d,Value.ref a,some dflt)) _ _ s
  refine wpAny_pure ?_
  show wpAny _ _ (if (d == sysModules)=true then _ else (dictSetDefault d (.ref a) dflt >>= _)) _ _ s
  rw [if_neg (by rw [hd]; simp)]
  exact wpAny_bind (dk hu hkey hm hz (fun p hp=>wpAny_pure ⟨_,rfl,h1 p hp⟩) fun hn h' hm' hs=>wpAny_pure ⟨_,rfl,h2 hn h' hm' hs⟩)
end
end Nest
namespace L2
open PySem PySem.Spec PyProof.Rows Nest SortN Ord' Tab
section
variable {X:Cx}
def dj (P:Program) (w:World) (a:Addr) (bs:List (List Int×Addr×Addr)):HO:=HO.ext fun h=>(a == sysModules)=false ∧ ∃ o es ep,h.get? a=some o∧o.ExactDict∧o.data = .dict es ep∧es.toList=bs.map fun p=>entryOfKey (tupleKind (intKind P w)) (p.1,p.2.1,Value.ref p.2.2)
def en (P:Program) (w:World) (H:Hp) (a:Addr) (bs:List (List Int×Addr×Addr)):Prop:=H a=some (dj P w a bs)∨(H a=some (.dK [])∧bs=[])
def atL (bs:List (List Int×Addr×Addr)) (r:List Int):Option Addr:=(bs.find? fun p=>decide (p.1=r)).map (·.2.2)
section
variable {pins:List (Addr×Obj)} {σ:St} {H:Hp} {s:Shared}
theorem lT (I:Inv X pins σ H s) {a:Addr} {bs:List (List Int×Addr×Addr)} (h:en X.prog X.w H a bs) (hn:(bs.map (·.1)).Nodup) (hb : ∀ q∈bs,Is X.K H (dR q.1) (.ref q.2.1)) :
  (a == sysModules)=false∧s.heap.DictOfH (tupleKind (intKind X.prog X.w)) a (bs.map fun p=>(p.1,p.2.1,Value.ref p.2.2)):=by
 have raw:(a == sysModules)=false ∧ ∃ o es ep,s.heap.get? a=some o∧o.ExactDict∧o.data = .dict es ep∧es.toList=bs.map fun p=>entryOfKey (tupleKind (intKind X.prog X.w)) (p.1,p.2.1,Value.ref p.2.2):=by
  rcases h with h | ⟨h,rfl⟩
  ·exact (I.hok a _ h).1
  ·obtain ⟨_,hd,vs,rel,o,es,ep,ho,hc,hdat,_,hp,_⟩:=I.hok a _ h
   refine ⟨hd,o,es,ep,ho,hc,hdat,?_⟩
   have:vs=[]:=List.eq_nil_of_length_eq_zero (Paired.length rel).symm
   subst this
   exact List.eq_nil_of_length_eq_zero hp.length
 obtain ⟨hd,o,es,ep,ho,hc,hdat,he⟩:=raw
 refine ⟨hd,o,es,ep,ho,hc,hdat,by rw [he,List.map_map]; rfl,fun x hx => ?_,?_⟩
 ·obtain ⟨q,hq,rfl⟩:=List.mem_map.mp hx
  exact fH I (hb q hq)
 ·rw [List.map_map]; exact hn
theorem iu (bs:List (List Int×Addr×Addr)) (r:List Int):(atKey (bs.map fun p=>(p.1,p.2.1,Value.ref p.2.2)) r).map (·.2)=(atL bs r).map Value.ref:=by
 unfold atKey atL
 rw [List.find?_map]
 show ((bs.find? fun p=>decide (p.1=r)).map _ |>.map _).map _=_
 cases bs.find? fun p=>decide (p.1=r) <;> rfl
end
def mQ (X:Cx) (td ty tx:TE):TE:=fun σ H Q=>td σ H fun x H1 => ∃ a bs0,x = .ref a∧en X.prog X.w H1 a bs0∧ty σ H1 fun y H2=>tx σ H2 fun z H3 => ∃ (b l:Addr) (r:List Int) (bs:List (List Int×Addr×Addr)),y = .ref b∧z = .ref l∧en X.prog X.w H3 a bs∧(bs.map (·.1)).Nodup∧bs.length≤4000∧(∀ q∈bs,Is X.K H3 (dR q.1) (.ref q.2.1))∧Is X.K H3 (dR r) (.ref b) ∧
 (∀ l',atL bs r=some l'→Q (.ref l') H3)∧(atL bs r=none→Q (.ref l) (upd H3 a (dj X.prog X.w a (bs++[(r,b,l)]))))
def mV (X:Cx) (td ty tx:TE):TE:=fun σ H Q=>td σ H fun x H1 => ∃ a bs0,x = .ref a∧en X.prog X.w H1 a bs0∧ty σ H1 fun y H2=>tx σ H2 fun z H3 => ∃ (b l:Addr) (r:List Int) (bs:List (List Int×Addr×Addr)),y = .ref b∧z = .ref l∧en X.prog X.w H3 a bs∧(bs.map (·.1)).Nodup∧(∀ q∈bs,Is X.K H3 (dR q.1) (.ref q.2.1))∧Is X.K H3 (dR r) (.ref b) ∧
 Q (.ref ((atL bs r).getD l)) H3
theorem iP {pins:List (Addr×Obj)} {σ:St} {H:Hp} {s:Shared} {a:Addr} {bs:List (List Int×Addr×Addr)} (I:Inv X pins σ H s) (d:en X.prog X.w H a bs) :
  s.TypeIs (.ref a) "dict"∧(∀ b,Value.ref a = .ref b → ∃ ob,s.heap.get? b=some ob∧ob.dict=none)∧(a == sysModules)=false:=by
 rcases d with h | ⟨h,rfl⟩
 ·obtain ⟨hd,o,es,ep,ho,hc,_⟩:=(I.hok a _ h).1
  exact ⟨⟨o,ho,hc.1⟩,fun b q=>by cases q; exact ⟨o,ho,hc.2.1⟩,hd⟩
 ·exact mw I (.inl ⟨_,.inl h⟩)
section
variable {o e f:Expr} {apos cpos:Pos} {td ty tx:TE}
theorem jR (hu:X.A.units+4 < cLine) (ho:PE X o td) (he:PE X e ty) (hf:PE X f tx) (m:M2 X o "setdefault" apos e f cpos):PE X (.Call (.Attribute o "setdefault" apos) [e,f] [] cpos) (mQ X td ty tx):=by
 intro pins s σ H Q I h
 refine wpAny_Call_method m.base m.few m.line PySem.F.plainAttrs_dict PySem.F.slot_dict_setdefault PySem.F.type_dict_setdefault (thn (ho pins s σ H _ I h) fun u s1 ⟨x,H1,I1,rx,a,bs0,ex,d,q1⟩ => ?_)
 subst ex
 obtain rfl:u=Value.ref a:=rx
 obtain ⟨t1,t2,_⟩:=iP I1 d
 refine ⟨t1,t2,?_⟩
 rw [m.trees]
 refine Calls.callWith_builtin rfl (Calls.evalArgs_plain (Calls.spliced_cons (thn (he pins s1 σ H1 _ I1 q1) fun iv s2 ⟨y,H2,I2,ry,q2⟩ =>
  Calls.spliced_cons (thn (hf pins s2 σ H2 _ I2 q2) fun fv s3 ⟨z,H3,I3,rz,b,l,r,bs,ey,ez,g,gn,gz,gb,gk,k1,k2⟩=>Calls.spliced_nil ?_))))
 subst ey ez
 cases ry; cases rz
 obtain ⟨hsm,dd⟩:=lT I3 g gn gb
 refine call_meetsIn PySem.F.slot_dict_setdefault dd.typeIs PySem.F.entry_dict_setdefault (PySem.F.args_dict_setdefault_3 _ _ _) (cM (knd:=tupleKind (intKind X.prog X.w)) hsm (.ref l)) ⟨show X.A.units+1 < cLine by omega,r,_,fH I3 gk,dd,by rw [List.length_map]; exact gz,fun p hp => ?_,fun hno h' dd' hs => ?_⟩
 ·have e1:=iu bs r
  rw [hp] at e1
  cases hl:atL bs r with
  | none=>rw [hl] at e1; cases e1
  | some l' =>
   rw [hl] at e1
   have e2:p.2=Value.ref l':=Option.some.inj e1
   rw [e2]
   exact ⟨.ref l',H3,I3.tok _,rfl,k1 l' hl⟩
 ·have e1:=iu bs r
  rw [hno] at e1
  have hl:atL bs r=none:=by
   cases hl:atL bs r with
   | none=>rfl
   | some l'=>rw [hl] at e1; cases e1
  obtain ⟨o',es,ep,ho',hc',hdat',he',_,_⟩:=dd'
  have mu:Mut (H3 a):=by
   rcases g with e | ⟨e,_⟩
   ·rw [e]; exact True.intro
   ·rw [e]; exact True.intro
  refine ⟨.ref l,_,I3.write (x:=a) (e:=a) mu (.inl rfl) (fun c z hb' e=>(hs.2 c hb').trans e) ⟨o',ho'⟩ (show ObjOk X.prog X.w _ _ _ (dj X.prog X.w a (bs++[(r,b,l)])) from ?_),rfl,k2 hl⟩
  refine ⟨⟨hsm,o',es,ep,ho',hc',hdat',?_⟩,⟨o',ho'⟩,fun h1 h2 p z => ?_⟩
  ·rw [he',List.map_append,List.map_append,List.map_map]; rfl
  ·obtain ⟨p0,o,es,ep,p1,p2⟩:=p
   exact ⟨p0,o,es,ep,z _ p1,p2⟩
theorem kQ (hu:X.A.units+4 < cLine) (ho:PE X o td) (he:PE X e ty) (hf:PE X f tx) (m:M2 X o "get" apos e f cpos):PE X (.Call (.Attribute o "get" apos) [e,f] [] cpos) (mV X td ty tx):=by
 intro pins s σ H Q I h
 refine wpAny_Call_method m.base m.few m.line PySem.F.plainAttrs_dict PySem.F.slot_dict_get PySem.F.type_dict_get (thn (ho pins s σ H _ I h) fun u s1 ⟨x,H1,I1,rx,a,bs0,ex,d,q1⟩ => ?_)
 subst ex
 obtain rfl:u=Value.ref a:=rx
 obtain ⟨t1,t2,_⟩:=iP I1 d
 refine ⟨t1,t2,?_⟩
 rw [m.trees]
 refine Calls.callWith_builtin rfl (Calls.evalArgs_plain (Calls.spliced_cons (thn (he pins s1 σ H1 _ I1 q1) fun iv s2 ⟨y,H2,I2,ry,q2⟩ =>
  Calls.spliced_cons (thn (hf pins s2 σ H2 _ I2 q2) fun fv s3 ⟨z,H3,I3,rz,b,l,r,bs,ey,ez,g,gn,gb,gk,k1⟩=>Calls.spliced_nil ?_))))
 subst ey ez
 cases ry; cases rz
 obtain ⟨hsm,dd⟩:=lT I3 g gn gb
 refine call_meetsIn PySem.F.slot_dict_get dd.typeIs PySem.F.entry_dict_get (PySem.F.args_dict_get_3 _ _ _) (meetsH_dict_get_default (tupleKind (intKind X.prog X.w)) a b hsm (.ref l)) ⟨show X.A.units+1 < cLine by omega,r,_,fH I3 gk,dd,?_⟩
 rw [iu]
 have e:((atL bs r).map Value.ref).getD (.ref l) = .ref ((atL bs r).getD l):=by cases atL bs r <;> rfl
 rw [e]
 exact ⟨.ref ((atL bs r).getD l),H3,I3.tok _,rfl,k1⟩
end
end
end L2
namespace Nw
open PySem L2
def top (i:Nat):Stmt:=PySem.Challenge.pw_nearerwork_k61_pairs_joined.main.body.getD i (.Pass ⟨0,0,0,0⟩)
abbrev sAt:Stmt:=top 4
abbrev bO:Stmt:=top 5
abbrev cD:Stmt:=top 6
abbrev dH:Stmt:=top 1
abbrev bM:Stmt:=top 3
abbrev cC:Stmt:=top 7
abbrev bN:Stmt:=top 8
abbrev cB:Stmt:=top 9
abbrev dG:Stmt:=top 10
structure Bl (mg:Str→Option Value):Prop where
 len:mg "len"=none
 range:mg "range"=none
 isinstance:mg "isinstance"=none
 tuple:mg "tuple"=none
 list:mg "list"=none
 int:mg "int"=none
 bool:mg "bool"=none
 sorted:mg "sorted"=none
 set:mg "set"=none
theorem kn {A:Around} {k:Nat} (hr:Room k A):A.units+60 < cLine:=by have:=hr.un; omega
theorem ab {H:Hp} {p:Addr} (h:H p=none) (o:HO):Same H (upd H p o):=fun b u q=>by rw [ae (al q h)]; exact q
theorem eV : ∀ ns:List Int,cg (ns.map Dt.int)=0
 | []=>by simp [cg]
 | n::ns=>by simp [cg,dep,eV ns]
section
variable {P:Program} {w:World} {K:PySem.W.Frag} {mg:Str→Option Value} {base:Heap}
def l5 (K:PySem.W.Frag):Sp:=fun vs H Q _ => ∃ (a:Addr) (ns:List Int) (k:Int),vs=[.ref a,.int k]∧SqL K H a (ns.map V.int)∧ns.length≤63∧0≤k∧k≤1000 ∧ ∀ (r:Int) (H':Hp),Same H H'→Q (.int r) H'
theorem nX:aR ["_law_script", "_law_k"] ["_law_script", "_law_k"] (aj sAt):=⟨rfl,rfl,rfl,by decide +kernel,rfl,by decide +kernel,by decide +kernel⟩
theorem lM {f:Addr} {fd:FuncData} (B:Bl mg) (F:Fun K "_law_at" "_law_at" sAt f fd):a9 P w K mg base CX0 1 f fd ["_law_script", "_law_k"] (l5 K):=by
 refine F.ok nX (fun vs H Q E h => ?_) (fun cdv A outer s H vs Q E hr h => ?_)
 ·obtain ⟨a,ns,k,rfl,_⟩:=h
  rfl
 obtain ⟨a,ns,k,rfl,hS,hl,k0,k1,q⟩:=h
 refine ⟨_,(@ai _ _ _ _ _ (@dh _ _ _ _ _ _ _ _ (@bn _ _ _ _ _ _ _ _ nj (pv 1) (aP fQ (by rfl) B.len PySem.boot_len (@aa _ _ _ _ _ (pv 0) ag (by rfl))) (cw _)) (@aq _ _ _ (@aM _ _ _ _ (@a8 _ _ _ _ _ _ (cf K) aE (pv 0) (pv 1) (fun _ _=>rfl)))) bo) (@aq _ _ _ (@aM _ _ _ _ (@ap _ _ _ _ _ _ _ _ ay (@ap _ _ _ _ _ _ _ _ c9 (@ap _ _ _ _ _ _ _ _ bf (@ap _ _ _ _ _ _ _ _ ay (@a8 _ _ _ _ _ _ (cf K) aE (@ap _ _ _ _ _ _ _ _ kT (pv 0) (@aN _ _ _ _ (@aa _ _ _ _ _ af ag (by rfl)))) af (fun _ _=>rfl)) af) af) (@ap _ _ _ _ _ _ _ _ bf (@ap _ _ _ _ _ _ _ _ c9 (pv 1) (pv 1)) af)) af)))),?_⟩
 refine ⟨_,rfl,_,rfl,a,_,rfl,.inl hS,_,_,rfl,rfl,_,rfl,?_⟩
 refine mt (fun c => ?_) (fun c => ?_)
 ·have c':k < (((ns.map V.int).length:Nat):Int):=of_decide_eq_true c
  rw [List.length_map] at c'
  obtain ⟨j,rfl⟩ : ∃ j:Nat,k=j:=⟨k.toNat,by omega⟩
  have hj:j < ns.length:=by omega
  exact ⟨_,rfl,_,rfl,a,_,_,_,rfl,rfl,hS,aK (by rw [List.getElem?_map,List.getElem?_eq_getElem hj]; rfl),q _ H (Same.refl H)⟩
 ·refine ⟨_,rfl,by decide,fun p hp=>⟨a,p,_,_,rfl,rfl,(ab hp _).seq hS,SqL.of ac,?_,fun z hz => ?_⟩⟩
  ·rw [List.length_map]
   exact Nat.le_of_lt (az (by show ns.length+1≤1000; omega))
  have hat : ∃ x:Int,atI (ns.map V.int++[V.int 0]) 0=some (.int x):=by
   cases ns with
   | nil=>exact ⟨0,aK (j:=0) rfl⟩
   | cons n r=>exact ⟨n,aK (j:=0) rfl⟩
  obtain ⟨x,hx⟩:=hat
  have b1:=Int.emod_nonneg x (b:=1000003) (by decide)
  have b2:=Int.emod_lt_of_pos x (b:=1000003) (by decide)
  refine ⟨z,_,_,_,rfl,rfl,SqL.of ac,hx,_,_,rfl,rfl,(by show (0:Int) < 1000003; decide),_,_,rfl,rfl,_,rfl,_,rfl,_,_,rfl,rfl,.inl ⟨by omega,by omega⟩,_,_,rfl,rfl,_,_,rfl,rfl,.inl ⟨?_,?_⟩,_,_,rfl,rfl,(by show (0:Int) < 2147483647; decide),?_⟩
  ·show -(2 ^ 64) < x % 1000003+29; omega
  ·show x % 1000003+29 < 2 ^ 64; omega
  exact q _ _ ((ab hp _).trans (ab hz _))
def iI:Sp:=fun vs H Q _ => ∃ c:Int,vs=[.int c] ∧ ∀ p,H p=none→Q (.ref p) (upd H p (.lst [.int (c / 2),.int (c % 2)]))
theorem kM:aR ["_law_cell"] ["_law_cell"] (aj bO):=⟨rfl,rfl,rfl,by decide +kernel,rfl,by decide +kernel,by decide +kernel⟩
theorem j4 {f:Addr} {fd:FuncData} (F:Fun K "_law_begin" "_law_begin" bO f fd):a9 P w K mg base CX0 1 f fd ["_law_cell"] iI:=by
 refine F.ok kM (fun vs H Q E h => ?_) (fun cdv A outer s H vs Q E hr h => ?_)
 ·obtain ⟨c,rfl,_⟩:=h
  rfl
 obtain ⟨c,rfl,q⟩:=h
 refine ⟨_,(@aq _ _ _ (@aM _ _ _ _ (@aN _ _ _ _ (@aa _ _ _ _ _ (@ap _ _ _ _ _ _ _ _ bp (pv 0) af) (@aa _ _ _ _ _ (@ap _ _ _ _ _ _ _ _ ay (pv 0) af) ag (by rfl)) (by rfl))))),?_⟩
 exact ⟨_,rfl,_,_,rfl,rfl,⟨by decide,by decide⟩,_,rfl,_,_,rfl,rfl,(by show (0:Int) < 2; decide),(by show 2≤sizeLine; decide),fun p hp=>q p hp⟩
def jH:Sp:=fun vs H Q _ => ∃ (a:Addr) (s0 s1 m:Int),vs=[.ref a,.int m]∧H a=some (.lst [.int s0,.int s1])∧0 < m∧m < 100000000 ∧ ∀ r s0':Int,0≤r→r < m→Q (.int r) (upd H a (.lst [.int s0',.int s1]))
theorem gT:aR ["_law_state", "_law_many", "_law_found", "_law_number"] ["_law_state", "_law_many"] (aj cD):=⟨rfl,rfl,rfl,by decide +kernel,rfl,by decide +kernel,by decide +kernel⟩
theorem kY {f:Addr} {fd:FuncData} (F:Fun K "_law_draw" "_law_draw" cD f fd):a9 P w K mg base CX0 1 f fd ["_law_state", "_law_many"] jH:=by
 refine F.ok gT (fun vs H Q E h => ?_) (fun cdv A outer s H vs Q E hr h => ?_)
 ·obtain ⟨a,s0,s1,m,rfl,_⟩:=h
  rfl
 obtain ⟨a,s0,s1,m,rfl,hH,m0,m1,q⟩:=h
 refine ⟨_,(@ai _ _ _ _ _ (@dh _ _ _ _ _ _ _ _ (@bn _ _ _ _ _ _ _ _ nk (@a8 _ _ _ _ _ _ (cf K) aE (pv 0) af (fun _ _=>rfl)) af (cw _)) (@ai _ _ _ _ _ (@aD _ _ 2 _ _ _ _ gT.nd rfl (Or.inl rfl) (@ap _ _ _ _ _ _ _ _ ay (@a8 _ _ _ _ _ _ (cf K) aE (pv 0) af (fun _ _=>rfl)) (pv 1)) rfl (Or.inl rfl)) (@ai _ _ _ _ _ (gY (@ap _ _ _ _ _ _ _ _ bp (@a8 _ _ _ _ _ _ (cf K) aE (pv 0) af (fun _ _=>rfl)) (pv 1)) (gZ (pv 0) af fZ)) (@aq _ _ _ (@aM _ _ _ _ (pv 2))))) bo) (@ai _ _ _ _ _ (@aD _ _ 3 _ _ _ _ gT.nd rfl (Or.inl rfl) (@ap _ _ _ _ _ _ _ _ ay (@ap _ _ _ _ _ _ _ _ bf (@ap _ _ _ _ _ _ _ _ c9 (@ap _ _ _ _ _ _ _ _ ay (@a8 _ _ _ _ _ _ (cf K) aE (pv 0) af (fun _ _=>rfl)) af) af) af) af) rfl (Or.inl rfl)) (@ai _ _ _ _ _ (gY (@ap _ _ _ _ _ _ _ _ ay (@ap _ _ _ _ _ _ _ _ bf (@ap _ _ _ _ _ _ _ _ bf (@ap _ _ _ _ _ _ _ _ c9 (pv 3) af) (@ap _ _ _ _ _ _ _ _ ay (@ap _ _ _ _ _ _ _ _ jW (@a8 _ _ _ _ _ _ (cf K) aE (pv 0) af (fun _ _=>rfl)) af) af)) af) af) (gZ (pv 0) af fZ)) (@aq _ _ _ (@aM _ _ _ _ (@ap _ _ _ _ _ _ _ _ ay (@ap _ _ _ _ _ _ _ _ bp (@ap _ _ _ _ _ _ _ _ ay (@ap _ _ _ _ _ _ _ _ bf (@ap _ _ _ _ _ _ _ _ c9 (@a8 _ _ _ _ _ _ (cf K) aE (pv 0) af (fun _ _=>rfl)) af) af) af) af) (pv 1))))))),?_⟩
 have a0 : ∀ x y:Int,atI [V.int x,V.int y] 0=some (.int x):=fun x y=>aK (j:=0) rfl
 have a1:atI [V.int s0,V.int s1] 1=some (.int s1):=aK (j:=1) rfl
 have i0 : ∀ x y:Int,ixN [V.int x,V.int y].length 0=some 0:=fun _ _=>by show ixN 2 0=some 0; decide
 refine ⟨_,rfl,a,_,_,_,rfl,rfl,SqL.of hH,a1,rfl,_,rfl,mt (fun _ => ?_) (fun _ => ?_)⟩
 ·refine ⟨_,rfl,a,_,_,_,rfl,rfl,SqL.of hH,a0 _ _,_,rfl,_,_,rfl,rfl,m0,?_⟩
  refine ⟨_,rfl,a,_,_,_,rfl,rfl,SqL.of hH,a0 _ _,_,rfl,_,_,rfl,rfl,⟨m0,by omega⟩,_,rfl,a,_,_,0,rfl,rfl,hH,i0 _ _,?_⟩
  exact ⟨_,rfl,q _ _ (Int.emod_nonneg _ (by omega)) (Int.emod_lt_of_pos _ m0)⟩
 ·have b1:=Int.emod_nonneg s0 (b:=2147483647) (by decide)
  have b2:=Int.emod_lt_of_pos s0 (b:=2147483647) (by decide)
  have f1 : ∀ x:Int,0≤x % 2147483629∧x % 2147483629 < 2147483629:=fun x=>⟨Int.emod_nonneg _ (by decide),Int.emod_lt_of_pos _ (by decide)⟩
  have f2 : ∀ x:Int,0≤x % 2147483587∧x % 2147483587 < 2147483587:=fun x=>⟨Int.emod_nonneg _ (by decide),Int.emod_lt_of_pos _ (by decide)⟩
  refine ⟨_,rfl,a,_,_,_,rfl,rfl,SqL.of hH,a0 _ _,_,_,rfl,rfl,(by show (0:Int) < 2147483647; decide),_,_,rfl,rfl,.inl ⟨?_,?_⟩,_,_,rfl,rfl,_,_,rfl,rfl,(by show (0:Int) < 2147483629; decide),?_⟩
  ·show -(2 ^ 64) < s0 % 2147483647; omega
  ·show s0 % 2147483647 < 2 ^ 64; omega
  refine ⟨_,rfl,_,_,rfl,rfl,.inl ⟨Int.lt_of_lt_of_le (by decide) (f1 _).1,Int.lt_trans (f1 _).2 (by decide)⟩,_,rfl,a,_,_,_,rfl,rfl,SqL.of hH,a0 _ _,_,_,rfl,rfl,⟨by decide,by decide⟩,_,_,rfl,rfl,(by show (0:Int) < 1000003; decide),_,_,rfl,rfl,_,_,rfl,rfl,_,_,rfl,rfl,(by show (0:Int) < 2147483587; decide),_,rfl,a,_,_,0,rfl,rfl,hH,i0 _ _,?_⟩
  refine ⟨_,rfl,a,_,_,_,rfl,rfl,SqL.of ac,a0 _ _,_,_,rfl,rfl,.inl ⟨Int.lt_of_lt_of_le (by decide) (f2 _).1,Int.lt_trans (f2 _).2 (by decide)⟩,_,_,rfl,rfl,_,_,rfl,rfl,(by show (0:Int) < 2147483579; decide),_,_,rfl,rfl,⟨by decide,by decide⟩,_,rfl,_,_,rfl,rfl,m0,?_⟩
  exact q _ _ (Int.emod_nonneg _ (by omega)) (Int.emod_lt_of_pos _ m0)
end
end Nw
namespace Nw
open PySem L2
section
variable {P:Program} {w:World} {K:PySem.W.Frag} {mg:Str→Option Value} {base:Heap}
def iC:Sp:=fun vs H Q _ => ∃ i:Int,vs=[.int i]∧Q (.bl true) H
theorem kK:aR ["_law_found"] ["_law_found"] (aj bM):=⟨rfl,rfl,rfl,by decide +kernel,rfl,by decide +kernel,by decide +kernel⟩
theorem jY {f:Addr} {fd:FuncData} (B:Bl mg) (F:Fun K "_law_whole" "_law_whole" bM f fd):a9 P w K mg base CX0 1 f fd ["_law_found"] iC:=by
 refine F.ok kK (fun vs H Q E h => ?_) (fun cdv A outer s H vs Q E hr h => ?_)
 ·obtain ⟨i,rfl,_⟩:=h
  rfl
 obtain ⟨i,rfl,k⟩:=h
 refine ⟨_,(@aq _ _ _ (@aM _ _ _ _ (@jU _ _ _ _ _ _ _ (aP bX (by rfl) B.isinstance PyProof.Rows.boot_isinstance (@aa _ _ _ _ _ (pv 0) (@aa _ _ _ _ _ (cH (v:=V.ty "int") (by rfl) B.int PyProof.Rows.boot_int (by rfl)) ag (by rfl)) (by rfl))) (@jS _ _ _ _ _ (@mf _ _ _ _ (aP bX (by rfl) B.isinstance PyProof.Rows.boot_isinstance (@aa _ _ _ _ _ (pv 0) (@aa _ _ _ _ _ (cH (v:=V.ty "bool") (by rfl) B.bool PyProof.Rows.boot_bool (by rfl)) ag (by rfl)) (by rfl)))))))),?_⟩
 refine ⟨_,rfl,_,_,_,_,rfl,cj.int i,rfl,_,rfl,?_⟩
 rw [if_pos rfl]
 exact ⟨_,rfl,_,_,_,false,rfl,cj.int i,rfl,_,rfl,k⟩
def Sx (a:Addr) (H H':Hp):Prop := ∀ b o,b≠a→H b=some o→H' b=some o
def jF:Sp:=fun vs H Q _ => ∃ (a:Addr) (s0 s1:Int) (n:Nat) (salt:Int),vs=[.ref a,.int n,.int salt]∧H a=some (.lst [.int s0,.int s1])∧n≤3∧0≤salt∧salt≤34 ∧
 ∀ (p:Addr) (r:List Int) (s0':Int) (H':Hp),r.length=n→Sx a H H'→H' a=some (.lst [.int s0',.int s1])→H p=none→H' p=some (.tup (r.map V.int))→Q (.ref p) H'
theorem l6:aR ["_law_state", "_law_size", "_law_salt"] ["_law_state", "_law_size", "_law_salt"] (aj cC):=⟨rfl,rfl,rfl,by decide +kernel,rfl,by decide +kernel,by decide +kernel⟩
theorem hJ:(["_law_state", "_law_size", "_law_salt", "_law_k"]:List Str).Nodup:=by decide +kernel
theorem kW {f fD:Addr} {fd fdD:FuncData} (B:Bl mg) (F:Fun K "_law_some_room" "_law_some_room" cC f fd) (FD:Fun K "_law_draw" "_law_draw" cD fD fdD) (bD:Binds K fdD ["_law_state", "_law_many"] []) (mD:mg "_law_draw"=some (.ref fD)):a9 P w K mg base CX0 2 f fd ["_law_state", "_law_size", "_law_salt"] jF:=by
 have GD:a9 P w K mg base CX0 1 fD fdD ["_law_state", "_law_many"] jH:=kY FD
 refine F.ok l6 (fun vs H Q E h => ?_) (fun cdv A outer s H vs Q E hr h => ?_)
 ·obtain ⟨a,s0,s1,n,salt,rfl,_⟩:=h
  rfl
 obtain ⟨a,s0,s1,n,salt,rfl,hH,hn,l0,l1,q⟩:=h
 have hu:=kn hr
 have m3:0≤salt % 3∧salt % 3 < 3:=⟨Int.emod_nonneg _ (by decide),Int.emod_lt_of_pos _ (by decide)⟩
 refine ⟨_,(@aq _ _ _ (@aM _ _ _ _ (bv eD (by rfl) B.tuple PyProof.Rows.boot_tuple (@aa _ _ _ _ _ (cG (NX:=["_law_state", "_law_size", "_law_salt"]) (N:=["_law_state", "_law_size", "_law_salt", "_law_k"]) (ms:=[true,true,true,false]) (ks:=[3]) (out:=aj cC) (by exact ⟨rfl,by decide +kernel,by decide +kernel,by decide +kernel,by decide +kernel,by decide +kernel⟩) rfl rfl rfl (c7 rfl B.range (@aa _ _ _ _ _ (pv 1) ag (by rfl))) (@aU 3) (by decide) (fun C ex s H=>(aw (i:=3) hJ rfl (Or.inl rfl))) (fun C ex s H=>fu) (fun C ex s H=>(@ap _ _ _ _ _ _ _ _ ay (@ap _ _ _ _ _ _ _ _ bf (@ap _ _ _ _ _ _ _ _ bf (pv 2) (@ap _ _ _ _ _ _ _ _ c9 (pv 3) af)) (ar GD hr (by rfl) mD FD.kp bD .nil aV (@aa _ _ _ _ _ (pv 0) (@aa _ _ _ _ _ (@ap _ _ _ _ _ _ _ _ bf af (@ap _ _ _ _ _ _ _ _ ay (pv 2) af)) ag (by rfl)) (by rfl)))) af))) ag (by rfl))))),?_⟩
 refine ⟨_,rfl,(n:Int),rfl,by omega,by omega,d8 (n:=(n:Int).toNat) (fun i ys H' => ∃ (r:List Int) (u0:Int),ys=r.map V.int∧r.length=i∧H'=upd H a (.lst [.int u0,.int s1])) ⟨[],s0,rfl,rfl,?_⟩ (fun i ys H' hi ⟨r,_,e1,e2,_⟩=>by rw [e1,List.length_map]; exact az (by omega)) ?_ ?_⟩
 ·funext b
  unfold upd
  split
  ·rename_i e; rw [e]; exact hH
  ·rfl
 ·rintro i ys H' hi ⟨r,u0,rfl,e2,rfl⟩
  refine ⟨_,rfl,_,rfl,_,_,rfl,rfl,.inl ⟨by omega,by omega⟩,_,_,rfl,rfl,_,rfl,_,rfl,_,_,rfl,rfl,(by show (0:Int) < 3; decide),_,_,rfl,rfl,a,_,_,_,rfl,ac,by omega,by omega,fun x u1 x0 x1=>⟨_,_,rfl,rfl,_,_,rfl,rfl,(by show (0:Int) < 100; decide),r++[(salt+(0+(i:Int)) * 31+x) % 100],u1,?_,?_,iB⟩⟩
  ·rw [List.map_append]; rfl
  ·rw [List.length_append,e2]; rfl
 ·rintro ys H' ⟨r,u0,rfl,e2,rfl⟩ D hD
  have na:D≠a:=fun z=>by rw [z,ac] at hD; cases hD
  have nD:H D=none:=by rwa [ae na] at hD
  refine ⟨D,_,rfl,.inl ⟨SqL.of ac,fun tb htb => ?_⟩⟩
  have nb:tb≠D:=fun z=>by rw [z,ac] at htb; cases htb
  rw [ae nb] at htb
  have nta:tb≠a:=fun z=>by rw [z,ac] at htb; cases htb
  have nT:H tb=none:=by rwa [ae nta] at htb
  refine q tb r u0 _ (by omega) (fun b o hb e => ?_) ?_ nT ac
  ·rw [ae (al e nT),ae (al e nD),ae hb]; exact e
  ·rw [ae (fun z=>nta z.symm),ae (fun z=>na z.symm),ac]
end
end Nw
namespace Nw
open PySem L2 Ord'
def Tk (H H':Hp):Prop := ∀ b xs,Rd H b (.tup xs)→Rd H' b (.tup xs)
theorem Tk.trans {H H1 H2:Hp} (a:Tk H H1) (b:Tk H1 H2):Tk H H2:=fun c x h=>b c x (a c x h)
theorem ad {H H':Hp} (s:Same H H'):Tk H H':=fun b xs h=>h.elim (fun e => .inl (s _ _ e)) fun ⟨o,e⟩ => .inr ⟨o,s _ _ e⟩
theorem gS {H H':Hp} {a:Addr} {ys:List V} (h : ∀ b o,b≠a→H b=some o→H' b=some o) (ha:H a=some (.lst ys)):Tk H H':=fun b xs r=>by
 have hb:b≠a:=fun z=>by
  subst z
  rcases r with e | ⟨o,e⟩
  ·rw [ha] at e; cases e
  ·rw [ha] at e; cases e
 exact r.elim (fun e => .inl (h _ _ hb e)) fun ⟨o,e⟩ => .inr ⟨o,h _ _ hb e⟩
theorem gR {H:Hp} {a:Addr} {ys:List V} (ha:H a=some (.lst ys)) (o:HO):Tk H (upd H a o):=gS (fun b u hb e=>by rw [ae hb]; exact e) ha
section
variable {K:PySem.W.Frag} {H H':Hp}
theorem dF (t:Tk H H') {a:Addr} {xs:List V} (h:SqT K H a xs):SqT K H' a xs:=h.elim (fun r => .inl (t _ _ r)) .inr
theorem aA (t:Tk H H') {r:List Int} {v:V} (h:Is K H (dR r) v):Is K H' (dR r) v:=by
 unfold dR at *
 rw [Is] at *
 obtain ⟨a,xs,rfl,h1,h2⟩:=h
 refine ⟨a,xs,rfl,dF t h1,?_⟩
 clear h1
 induction r generalizing xs with
 | nil=>rw [List.map_nil,Iss] at *; exact h2
 | cons n r ih =>
  rw [List.map_cons,Iss] at *
  obtain ⟨x,ys,rfl,g1,g2⟩:=h2
  rw [Is] at g1
  exact ⟨x,ys,rfl,by rw [Is]; exact g1,ih _ g2⟩
theorem bH (t:Tk H H') : ∀ {k:List (List Int)} {xs:List V},Iss K H (k.map dR) xs→Iss K H' (k.map dR) xs
 | [],xs,h=>by rw [List.map_nil,Iss] at *; exact h
 | r::k,xs,h=>by
  rw [List.map_cons,Iss] at *
  obtain ⟨x,ys,rfl,g1,g2⟩:=h
  exact ⟨x,ys,rfl,aA t g1,bH t g2⟩
theorem bI (t:Tk H H') {k:List (List Int)} {v:V} (h:Is K H (dP k) v):Is K H' (dP k) v:=by
 unfold dP at *
 rw [Is] at *
 obtain ⟨a,xs,rfl,h1,h2⟩:=h
 exact ⟨a,xs,rfl,dF t h1,bH t h2⟩
theorem am (t:Tk H H') : ∀ {ks:List (List (List Int))} {xs:List V},Iss K H (ks.map dP) xs→Iss K H' (ks.map dP) xs
 | [],xs,h=>by rw [List.map_nil,Iss] at *; exact h
 | r::k,xs,h=>by
  rw [List.map_cons,Iss] at *
  obtain ⟨x,ys,rfl,g1,g2⟩:=h
  exact ⟨x,ys,rfl,bI t g1,am t g2⟩
theorem iN {r:List Int} {a:Addr} (h:H a=some (.tup (r.map V.int))):Is K H (dR r) (.ref a):=by
 unfold dR
 rw [Is]
 exact ⟨a,_,rfl,SqT.of h,Iss.ints r⟩
theorem cQ {r1 r2:List Int} {a:Addr} {v1 v2:V} (h:SqT K H a [v1,v2]) (h1:Is K H (dR r1) v1) (h2:Is K H (dR r2) v2):Is K H (dP [r1,r2]) (.ref a):=by
 unfold dP
 rw [Is]
 exact ⟨a,_,rfl,h,Iss.cons h1 (Iss.cons h2 Iss.nil)⟩
theorem dc {r1 r2:List Int} {v:V} (h:Is K H (dP [r1,r2]) v) : ∃ a v1 v2,v = .ref a∧SqT K H a [v1,v2]∧Is K H (dR r1) v1∧Is K H (dR r2) v2:=by
 unfold dP at h
 rw [Is] at h
 obtain ⟨a,xs,rfl,h1,h2⟩:=h
 rw [List.map_cons,List.map_cons,List.map_nil,Iss] at h2
 obtain ⟨v1,ys,rfl,g1,h2⟩:=h2
 rw [Iss] at h2
 obtain ⟨v2,ys,rfl,g2,h2⟩:=h2
 rw [Iss] at h2
 subst h2
 exact ⟨a,v1,v2,rfl,h1,g1,g2⟩
theorem iT : ∀ r q:List Int,aW (r.map Dt.int) (q.map Dt.int)=decide (r=q)
 | [],[]=>by simp [aW]
 | [],_::_=>by simp [aW]
 | _::_,[]=>by simp [aW]
 | a::r,b::q=>by
  rw [List.map_cons,List.map_cons,aW,dEq,iT r q]
  by_cases h1:a=b <;> by_cases h2:r=q <;> simp [h1,h2]
theorem nz (r q:List Int):dEq (dR r) (dR q)=decide (r=q):=by unfold dR; rw [dEq,iT]
theorem lR : ∀ k j:List (List Int),aW (k.map dR) (j.map dR)=decide (k=j)
 | [],[]=>by simp [aW]
 | [],_::_=>by simp [aW]
 | _::_,[]=>by simp [aW]
 | a::r,b::q=>by
  rw [List.map_cons,List.map_cons,aW,nz,lR r q]
  by_cases h1:a=b <;> by_cases h2:r=q <;> simp [h1,h2]
theorem ox (k j:List (List Int)):dEq (dP k) (dP j)=decide (k=j):=by unfold dP; rw [dEq,lR]
theorem lU (r:List Int):dep (dR r)≤1:=by unfold dR; rw [dep,eV]; omega
theorem iV : ∀ k:List (List Int),cg (k.map dR)≤1
 | []=>by simp [cg]
 | r::k=>by
  rw [List.map_cons,cg]
  have:=lU r
  have:=iV k
  omega
theorem lV (k:List (List Int)):dep (dP k)≤2:=by unfold dP; rw [dep]; have:=iV k; omega
theorem dA : ∀ k:List (List (List Int)),cg (k.map dP)≤2
 | []=>by simp [cg]
 | r::k=>by
  rw [List.map_cons,cg]
  have:=lV r
  have:=dA k
  omega
theorem nK (ks:List (List (List Int))) (k:List (List Int)):(ks.map dP).any (fun e=>dEq e (dP k))=decide (k∈ks):=by
 induction ks with
 | nil=>simp
 | cons j ks ih =>
  rw [List.map_cons,List.any_cons,ih,ox]
  by_cases h1:j=k <;> by_cases h2:k∈ks <;> simp [h1,h2]
  exact fun z=>h1 z.symm
end
def Two (k:List (List Int)):Prop := ∃ r1 r2,k=[r1,r2]∧r1.length≤3∧r2.length≤3
structure Prs (ks:List (List (List Int))):Prop where
 two : ∀ k∈ks,Two k
 nd:ks.Nodup
 up:ks.Pairwise fun a b=>ltP a b=true
theorem fk {k:List (List Int)} (h:Two k):k≠[]:=by obtain ⟨_,_,rfl,_⟩:=h; simp
section
variable {P:Program} {w:World} {K:PySem.W.Frag} {mg:Str→Option Value} {base:Heap}
def iD (K:PySem.W.Frag):Sp:=fun vs H Q _ => ∃ (a z l:Addr) (ns:List Int) (st:Int) (n0 n1:Nat) (l0 l1:Int),vs=[.ref a,.int st,.ref z,.ref l]∧SqL K H a (ns.map V.int)∧ns.length≤63∧0≤st∧st≤100∧H z=some (.lst [.int n0,.int n1])∧H l=some (.lst [.int l0,.int l1]) ∧
 n0≤3∧n1≤3∧0≤l0∧l0≤34∧0≤l1∧l1≤34 ∧ ∀ (p:Addr) (out:List V) (ks:List (List (List Int))) (H':Hp),Same H H'→H p=none→H' p=some (.lst out)→Iss K H' (ks.map dP) out→Prs ks→ks.length≤30→Q (.ref p) H'
theorem b5:aR ["_law_script", "_law_start", "_law_sizes", "_law_salts", "_law_pairs_here", "_law_states", "_law_k", "_law_one", "_law_pair"] ["_law_script", "_law_start", "_law_sizes", "_law_salts"] (aj bN):=⟨rfl,rfl,rfl,by decide +kernel,rfl,by decide +kernel,by decide +kernel⟩
theorem ge:(["_law_script", "_law_start", "_law_sizes", "_law_salts", "_law_pairs_here", "_law_states", "_law_k", "_law_one", "_law_pair"]:List Str).Nodup:=by decide +kernel
def Sts (H H2:Hp) (as:List Addr):Prop := ∀ a∈as,H a=none ∧ ∃ x y:Int,H2 a=some (.lst [.int x,.int y])
theorem jZ {f fA fB fD fR:Addr} {fd fdA fdB fdD fdR:FuncData} (B:Bl mg) (F:Fun K "_law_pairs" "_law_pairs" bN f fd) (FA:Fun K "_law_at" "_law_at" sAt fA fdA) (bA:Binds K fdA ["_law_script", "_law_k"] []) (mA:mg "_law_at"=some (.ref fA))
  (FB:Fun K "_law_begin" "_law_begin" bO fB fdB) (bB:Binds K fdB ["_law_cell"] []) (mB:mg "_law_begin"=some (.ref fB)) (FD:Fun K "_law_draw" "_law_draw" cD fD fdD) (bD:Binds K fdD ["_law_state", "_law_many"] []) (mD:mg "_law_draw"=some (.ref fD))
  (FR:Fun K "_law_some_room" "_law_some_room" cC fR fdR) (bR:Binds K fdR ["_law_state", "_law_size", "_law_salt"] []) (mR:mg "_law_some_room"=some (.ref fR)):a9 P w K mg base CX0 3 f fd ["_law_script", "_law_start", "_law_sizes", "_law_salts"] (iD K):=by
 have GA:a9 P w K mg base CX0 1 fA fdA ["_law_script", "_law_k"] (l5 K):=lM B FA
 have GB:a9 P w K mg base CX0 1 fB fdB ["_law_cell"] iI:=j4 FB
 have GR:a9 P w K mg base CX0 2 fR fdR ["_law_state", "_law_size", "_law_salt"] jF:=kW B FR FD bD mD
 refine F.ok b5 (fun vs H Q E h => ?_) (fun cdv A outer s H vs Q E hr h => ?_)
 ·obtain ⟨a,z,l,ns,st,n0,n1,l0,l1,rfl,_⟩:=h
  rfl
 obtain ⟨a,z,l,ns,st,n0,n1,l0,l1,rfl,hS,hl,st0,st1,hz,hL,b0,b1,c0,c1,d0,d1,q⟩:=h
 have hu:=kn hr
 have hu4:=Nat.lt_of_le_of_lt (Nat.add_le_add_left (show 4≤60 by decide) _) hu
 have hr1:=hr.mono (show 1≤2 by decide)
 refine ⟨_,(@ai _ _ _ _ _ (@aD _ _ 4 _ _ _ _ b5.nd rfl (Or.inl rfl) (@aN _ _ _ _ ag) rfl (Or.inl rfl)) (@ai _ _ _ _ _ (kP (NX:=["_law_script", "_law_start", "_law_sizes", "_law_salts", "_law_pairs_here", "_law_states", "_law_k", "_law_one", "_law_pair"]) (N:=["_law_script", "_law_start", "_law_sizes", "_law_salts", "_law_pairs_here", "_law_states", "_law_k", "_law_one", "_law_pair"]) (ms:=[true,true,true,true,true,true,false,true,true]) (ks:=[6]) (out:=aj bN) (by exact ⟨rfl,by decide +kernel,by decide +kernel,by decide +kernel,by decide +kernel,by decide +kernel⟩) rfl rfl rfl (i:=5) b5.nd rfl (Or.inl rfl) (c7 rfl B.range (@aa _ _ _ _ _ af ag (by rfl))) (@aU 6) (by decide) (fun C ex s H=>(aw (i:=6) ge rfl (Or.inl rfl))) (fun C ex s H=>fu) (fun C ex s H=>(ar GB hr1 (by rfl) mB FB.kp bB .nil aV (@aa _ _ _ _ _ (ar GA hr1 (by rfl) mA FA.kp bA .nil aV (@aa _ _ _ _ _ (pv 0) (@aa _ _ _ _ _ (@ap _ _ _ _ _ _ _ _ bf (@ap _ _ _ _ _ _ _ _ bf (pv 1) af) (pv 6)) ag (by rfl)) (by rfl))) ag (by rfl)))) (by with_unfolding_all rfl)) (@ai _ _ _ _ _ (@cZ _ _ _ _ _ _ _ _ PassesOwn.never rfl (c7 rfl B.range (@aa _ _ _ _ _ (@ap _ _ _ _ _ _ _ _ ay (ar GA hr1 (by rfl) mA FA.kp bA .nil aV (@aa _ _ _ _ _ (pv 0) (@aa _ _ _ _ _ (pv 1) ag (by rfl)) (by rfl))) af) ag (by rfl))) (aw (i:=6) b5.nd rfl (Or.inl rfl)) (@ai _ _ _ _ _ (@aD _ _ 7 _ _ _ _ b5.nd rfl (Or.inl rfl) (ar GR hr (by rfl) mR FR.kp bR .nil aV (@aa _ _ _ _ _ (@a8 _ _ _ _ _ _ (cf K) aE (pv 5) (@ap _ _ _ _ _ _ _ _ ay (pv 6) af) (fun _ _=>rfl)) (@aa _ _ _ _ _ (@a8 _ _ _ _ _ _ (cf K) aE (pv 2) af (fun _ _=>rfl)) (@aa _ _ _ _ _ (@a8 _ _ _ _ _ _ (cf K) aE (pv 3) af (fun _ _=>rfl)) ag (by rfl)) (by rfl)) (by rfl))) rfl (Or.inl rfl)) (@ai _ _ _ _ _ (@aD _ _ 8 _ _ _ _ b5.nd rfl (Or.inl rfl) (@cu _ _ _ _ _ (@aa _ _ _ _ _ (pv 7) (@aa _ _ _ _ _ (ar GR hr (by rfl) mR FR.kp bR .nil aV (@aa _ _ _ _ _ (@a8 _ _ _ _ _ _ (cf K) aE (pv 5) (@ap _ _ _ _ _ _ _ _ ay (pv 6) af) (fun _ _=>rfl)) (@aa _ _ _ _ _ (@a8 _ _ _ _ _ _ (cf K) aE (pv 2) af (fun _ _=>rfl)) (@aa _ _ _ _ _ (@a8 _ _ _ _ _ _ (cf K) aE (pv 3) af (fun _ _=>rfl)) ag (by rfl)) (by rfl)) (by rfl))) ag (by rfl)) (by rfl))) rfl (Or.inl rfl)) (@aq _ _ _ (@dh _ _ _ _ _ _ _ _ (@bn _ _ _ _ _ _ _ _ (@jf _ hu) (pv 8) (pv 4) (by with_unfolding_all rfl)) (@aq _ _ _ (@fw _ _ _ _ (jT PySem.F.plainAttrs_list PySem.F.slot_list_append PySem.F.type_list_append b7 (pv 4) (@aa _ _ _ _ _ (pv 8) ag (by rfl))) (by rfl))) bo)))) (by intro _; rfl)) (@aq _ _ _ (@aM _ _ _ _ (aP (fO hu4) (by rfl) B.sorted rfl (@aa _ _ _ _ _ (pv 4) ag (by rfl)))))))),?_⟩
 refine ⟨by decide,fun L hL0 => ?_⟩
 have s1:=ab hL0 (.lst [])
 refine ⟨14,rfl,by decide,by decide,d8 (n:=(14:Int).toNat) (fun i ys H' => ∃ as:List Addr,ys=as.map V.ref∧as.length=i∧Same (upd H L (.lst [])) H'∧Sts (upd H L (.lst [])) H' as) ⟨[],rfl,rfl,Same.refl _,fun _ h=>by simp at h⟩ (fun i ys H' hi ⟨as,e1,e2,_⟩=>by rw [e1,List.length_map]; have:i < 14:=hi; exact az (by omega)) ?_ ?_⟩
 ·rintro i ys H' hi ⟨as,rfl,e2,e3,e4⟩
  have hi':i < 14:=hi
  refine ⟨_,rfl,_,rfl,_,_,rfl,rfl,_,rfl,_,_,rfl,rfl,a,ns,_,rfl,(s1.trans e3).seq hS,hl,by omega,by omega,fun c H2 e5=>⟨c,rfl,fun p hp=>⟨as++[p],by rw [List.map_append]; rfl,by rw [List.length_append,e2]; rfl,(e3.trans e5).trans (ab hp _),fun b hb => ?_⟩⟩⟩
  rcases List.mem_append.mp hb with hb | hb
  ·obtain ⟨g1,x,y,g2⟩:=e4 b hb
   exact ⟨g1,x,y,(e5.trans (ab hp _)) _ _ g2⟩
  ·rw [List.mem_singleton.mp hb]
   exact ⟨(e3.trans e5).free hp,_,_,ac⟩
 rintro ys H1 ⟨as,rfl,e2,e3,e4⟩ S hS0
 have e2':as.length=14:=e2
 have s2:=ab hS0 (.lst (as.map V.ref))
 have sH:Same H (upd H1 S (.lst (as.map V.ref))):=(s1.trans e3).trans s2
 have nLS:L≠S:=fun z=>by subst z; rw [e3 _ _ ac] at hS0; cases hS0
 have nLa : ∀ b∈as,b≠L:=fun b hb z=>by
  have:=(e4 b hb).1
  rw [z,ac] at this; cases this
 have nSa : ∀ b∈as,b≠S:=fun b hb z=>by
  obtain ⟨_,x,y,g⟩:=e4 b hb
  rw [z,hS0] at g; cases g
 have nS:H S=none:=(s1.trans e3).free hS0
 have nA : ∀ b∈as,H b=none:=fun b hb=>s1.free (e4 b hb).1
 refine ⟨_,rfl,_,rfl,a,ns,_,rfl,sH.seq hS,hl,by omega,by omega,fun c H2 e5=>⟨_,_,rfl,rfl,(by show (0:Int) < 31; decide),_,rfl,?_,?_,?_⟩⟩
 ·have:=Int.emod_nonneg c (b:=31) (by decide); show -(2 ^ 62)≤c % 31; omega
 ·have:=Int.emod_lt_of_pos c (b:=31) (by decide); show c % 31 < 2 ^ 62; omega
 have c31:(c % 31).toNat≤30:=by
  have:=Int.emod_nonneg c (b:=31) (by decide)
  have:=Int.emod_lt_of_pos c (b:=31) (by decide)
  omega
 refine ju (n:=(c % 31).toNat) (fun i σ H2 => ∃ (v6 v7 v8:Option V) (ys:List V) (ks:List (List (List Int))),σ=[some (.ref a),some (.int st),some (.ref z),some (.ref l),some (.ref L),some (.ref S),v6,v7,v8]∧Same H H2∧H2 L=some (.lst ys)∧Iss K H2 (ks.map dP) ys∧ks.Nodup∧(∀ k∈ks,Two k)∧ks.length≤i∧H2 S=some (.lst (as.map V.ref))∧Sts H H2 as) ?init ?step ?done
 case init =>
  refine ⟨none,none,none,[],[],rfl,sH.trans e5,e5 _ _ (s2 _ _ (e3 _ _ ac)),Iss.nil,.nil,fun k hk=>by simp at hk,Nat.le_refl _,e5 _ _ ac,fun b hb=>⟨nA b hb,?_⟩⟩
  obtain ⟨_,x,y,g⟩:=e4 b hb
  exact ⟨x,y,e5 _ _ (s2 _ _ g)⟩
 case step =>
  rintro i σ H2 hi ⟨v6,v7,v8,ys,ks,rfl,g1,g2,g3,g4,g5,g6,g7,g8⟩
  have hj:i % 14 < as.length:=by omega
  have hat:atI (as.map V.ref) ((0+(i:Int)) % 14)=some (.ref as[i % 14]):=by
   rw [show (0+(i:Int)) % 14=((i % 14:Nat):Int) by omega]
   exact aK (by rw [List.getElem?_map,List.getElem?_eq_getElem hj]; rfl)
  have hk:=List.getElem_mem hj
  generalize as[i % 14]=ak at hat hk
  obtain ⟨k1,x0,x1,k2⟩:=g8 ak hk
  have hz2:=g1 _ _ hz
  have hl2:=g1 _ _ hL
  refine ⟨_,rfl,_,rfl,_,_,rfl,rfl,(by show (0:Int) < 14; decide),S,_,_,_,rfl,rfl,SqL.of g7,hat,_,rfl,z,_,_,_,rfl,rfl,SqL.of hz2,aK (j:=0) rfl,_,rfl,l,_,_,_,rfl,rfl,SqL.of hl2,aK (j:=0) rfl,ak,x0,x1,n0,l0,rfl,k2,b0,c0,c1,fun p r1 y0 H3 m1 m2 m3 m4 m5 => ?_⟩
  have nSk:S≠ak:=fun z=>nSa ak hk z.symm
  have nLk:L≠ak:=fun z=>nLa ak hk z.symm
  have keep : ∀ {b:Addr} {o:HO},H b=some o→b≠ak:=fun {b o} e z=>by rw [z,k1] at e; cases e
  have hz3:=m2 _ _ (keep hz) hz2
  have hl3:=m2 _ _ (keep hL) hl2
  refine ⟨_,rfl,_,rfl,_,rfl,_,_,rfl,rfl,(by show (0:Int) < 14; decide),S,_,_,_,rfl,rfl,SqL.of (m2 _ _ nSk g7),hat,_,rfl,z,_,_,_,rfl,rfl,SqL.of hz3,aK (j:=1) rfl,_,rfl,l,_,_,_,rfl,rfl,SqL.of hl3,aK (j:=1) rfl,ak,y0,x1,n1,l1,rfl,m3,b1,d0,d1,fun p2 r2 y1 H4 o1 o2 o3 o4 o5=>⟨(by show 2≤sizeLine; decide),fun n hn => ?_⟩⟩
  have t5:=ab hn (.tup [V.ref p,V.ref p2])
  have tk1:Tk H2 H3:=gS m2 k2
  have tk2:Tk H3 H4:=gS o2 m3
  have npk:p≠ak:=fun z=>by rw [z,k2] at m4; cases m4
  have hp4:H4 p=some (.tup (r1.map V.int)):=o2 _ _ npk m5
  generalize hH5:upd H4 n (.tup [V.ref p,V.ref p2])=H5 at t5 ⊢
  have hn5:H5 n=some (.tup [V.ref p,V.ref p2]):=by rw [← hH5]; exact ac
  have f1:Same H H5:=fun b o e=>t5 _ _ (o2 _ _ (keep e) (m2 _ _ (keep e) (g1 _ _ e)))
  have f2:H5 L=some (.lst ys):=t5 _ _ (o2 _ _ nLk (m2 _ _ nLk g2))
  have f3:Iss K H5 (ks.map dP) ys:=am ((tk1.trans tk2).trans (ad t5)) g3
  have f7:H5 S=some (.lst (as.map V.ref)):=t5 _ _ (o2 _ _ nSk (m2 _ _ nSk g7))
  have f8:Sts H H5 as:=fun b hb=>by
   refine ⟨nA b hb,?_⟩
   by_cases e:b=ak
   ·rw [e]; exact ⟨y1,x1,t5 _ _ o3⟩
   ·obtain ⟨_,x,y,g⟩:=g8 b hb
    exact ⟨x,y,t5 _ _ (o2 _ _ e (m2 _ _ e g))⟩
  have fP:Is K H5 (dP [r1,r2]) (.ref n):=cQ (SqT.of hn5) (iN (t5 _ _ hp4)) (iN (t5 _ _ o5))
  refine ⟨_,rfl,_,rfl,dP [r1,r2],L,ys,ks.map dP,fP,rfl,.inl (SqL.of f2),f3,fun e he => ?_,_,rfl,?_⟩
  ·obtain ⟨k,_,rfl⟩:=List.mem_map.mp he
   have:=lV k
   omega
  rw [nK]
  by_cases hin:[r1,r2]∈ks
  ·rw [decide_eq_true hin]
   exact dl ⟨_,_,_,ys,ks,rfl,f1,f2,f3,g4,g5,by omega,f7,f8⟩
  ·rw [decide_eq_false hin]
   refine ot ?_
   have hlen:ys.length=ks.length:=by rw [f3.length,List.length_map]
   refine ⟨_,rfl,.inl ⟨rfl,_,SqL.of f2⟩,_,rfl,L,_,_,rfl,rfl,f2,?_,?_⟩
   ·rw [hlen]; exact az (by omega)
   have tk6:Tk H5 (upd H5 L (.lst (ys++[V.ref n]))):=gR f2 _
   refine ⟨_,_,_,ys++[V.ref n],ks++[[r1,r2]],rfl,fun b o e => ?_,ac,?_,?_,fun k hk => ?_,?_,?_,fun b hb=>⟨nA b hb,?_⟩⟩
   ·rw [ae (al e hL0)]; exact f1 _ _ e
   ·rw [List.map_append]
    exact Iss.append (am tk6 f3) (Iss.cons (bI tk6 fP) Iss.nil)
   ·refine List.nodup_append.mpr ⟨g4,by simp,fun x hx y hy => ?_⟩
    rw [List.mem_singleton.mp hy]
    exact fun e=>hin (e ▸ hx)
   ·rcases List.mem_append.mp hk with hk | hk
    ·exact g5 k hk
    ·rw [List.mem_singleton.mp hk]; exact ⟨r1,r2,rfl,by omega,by omega⟩
   ·rw [List.length_append,List.length_singleton]; omega
   ·rw [ae (fun e=>nLS e.symm)]; exact f7
   ·obtain ⟨_,x,y,g⟩:=f8 b hb
    exact ⟨x,y,by rw [ae (nLa b hb)]; exact g⟩
 case done =>
  rintro σ H2 ⟨v6,v7,v8,ys,ks,rfl,g1,g2,g3,g4,g5,g6,g7,g8⟩
  refine ⟨_,rfl,L,ys,ks,rfl,SqL.of g2,g3,g4,fun k hk=>fk (g5 k hk),by omega,fun p out ks' hp hi hpe hup => ?_⟩
  have s5:=ab hp (.lst out)
  exact q p out ks' _ (g1.trans s5) (g1.free hp) ac (am (ad s5) hi) ⟨fun k hk=>g5 k (hpe.mem_iff.mp hk),hpe.nodup_iff.mpr g4,hup⟩ (by rw [hpe.length_eq]; omega)
end
end Nw
namespace Nw
open PySem L2 Ord'
def av (ks:List (List (List Int))) (m:List Int):List (List Int):=ks.filterMap fun k=>match k with
 | [a,b]=>if a=m then some b else none
 | _=>none
theorem aB (ks:List (List (List Int))) (a b m:List Int):av (ks++[[a,b]]) m=if a=m then av ks m++[b] else av ks m:=by
 unfold av
 rw [List.filterMap_append]
 by_cases h:a=m
 ·rw [if_pos h]; simp [h]
 ·rw [if_neg h]; simp [h]
theorem bi {ks:List (List (List Int))} {m y:List Int}:y∈av ks m↔[m,y]∈ks:=by
 unfold av
 rw [List.mem_filterMap]
 constructor
 ·rintro ⟨k,hk,e⟩
  match k,e with
  | [a,b],e =>
   by_cases h:a=m
   ·simp [h] at e; subst e; subst h; exact hk
   ·simp [h] at e
 ·intro h
  exact ⟨_,h,by simp⟩
theorem bK (ks:List (List (List Int))) (m:List Int):(av ks m).length≤ks.length:=List.length_filterMap_le _ _
theorem bh {K:PySem.W.Frag} {H:Hp} : ∀ {ks:List (List (List Int))} {xs:List V} {i:Nat} {x:V},Iss K H (ks.map dP) xs→xs[i]?=some x → ∃ k,ks[i]?=some k∧Is K H (dP k) x
 | [],xs,i,x,h,e=>by rw [List.map_nil,Iss] at h; subst h; simp at e
 | k::ks,xs,i,x,h,e=>by
  rw [List.map_cons,Iss] at h
  obtain ⟨v,ys,rfl,h1,h2⟩:=h
  cases i with
  | zero=>simp at e; subst e; exact ⟨k,rfl,h1⟩
  | succ i=>simpa using bh h2 (by simpa using e)
theorem gp {K:PySem.W.Frag} {H:Hp} : ∀ {ks:List (List Int)} {xs:List V} {i:Nat} {x:V},Iss K H (ks.map dR) xs→xs[i]?=some x → ∃ k,ks[i]?=some k∧Is K H (dR k) x
 | [],xs,i,x,h,e=>by rw [List.map_nil,Iss] at h; subst h; simp at e
 | k::ks,xs,i,x,h,e=>by
  rw [List.map_cons,Iss] at h
  obtain ⟨v,ys,rfl,h1,h2⟩:=h
  cases i with
  | zero=>simp at e; subst e; exact ⟨k,rfl,h1⟩
  | succ i=>simpa using gp h2 (by simpa using e)
section
variable {P:Program} {w:World} {K:PySem.W.Frag} {mg:Str→Option Value} {base:Heap}
structure Bes (P:Program) (w:World) (K:PySem.W.Frag) (H H2:Hp) (D:Addr) (bs:List (List Int×Addr×Addr)) (ks:List (List (List Int))):Prop where
 dict:en P w H2 D bs
 nd:(bs.map (·.1)).Nodup
 is : ∀ q∈bs,Is K H2 (dR q.1) (.ref q.2.1)
 some_ : ∀ q∈bs,q.2.2≠D∧H q.2.2=none ∧ ∃ vs,H2 q.2.2=some (.lst vs)∧Iss K H2 ((av ks q.1).map dR) vs
 inj:(bs.map (·.2.2)).Nodup
 none_ : ∀ m,atL bs m=none→av ks m=[]
theorem fJ {H2 H3:Hp} {D:Addr} {bs:List (List Int×Addr×Addr)} (e:H3 D=H2 D) (h:en P w H2 D bs):en P w H3 D bs:=by unfold en at *; rw [e]; exact h
theorem gI {bs:List (List Int×Addr×Addr)} {m:List Int} {l:Addr} (h:atL bs m=some l) : ∃ q∈bs,q.1=m∧q.2.2=l:=by
 unfold atL at h
 cases e:bs.find? fun p=>decide (p.1=m) with
 | none=>rw [e] at h; cases h
 | some q =>
  rw [e] at h
  exact ⟨q,List.mem_of_find?_eq_some e,by simpa using List.find?_some e,Option.some.inj h⟩
theorem cV {bs:List (List Int×Addr×Addr)} {m:List Int} (h:atL bs m=none) : ∀ q∈bs,q.1≠m:=by
 unfold atL at h
 rw [Option.map_eq_none_iff,List.find?_eq_none] at h
 intro q hq
 simpa using h q hq
theorem gJ {bs:List (List Int×Addr×Addr)} {m:List Int} (h : ∀ q∈bs,q.1≠m):atL bs m=none:=by
 unfold atL
 rw [Option.map_eq_none_iff,List.find?_eq_none]
 intro q hq
 simpa using h q hq
theorem eM {α β:Type} {f:α→β} {l:List α} (h:(l.map f).Nodup) {x y:α} (hx:x∈l) (hy:y∈l) (e:f x=f y):x=y:=by
 obtain ⟨i,hi,rfl⟩:=List.getElem_of_mem hx
 obtain ⟨j,hj,rfl⟩:=List.getElem_of_mem hy
 have h':=List.pairwise_iff_getElem.mp h
 rcases Nat.lt_trichotomy i j with q | q | q
 ·exact absurd (by rw [List.getElem_map,List.getElem_map]; exact e) (h' i j (by simpa using hi) (by simpa using hj) q)
 ·subst q; rfl
 ·exact absurd (by rw [List.getElem_map,List.getElem_map]; exact e.symm) (h' j i (by simpa using hj) (by simpa using hi) q)
theorem Bes.old {H H2:Hp} {D:Addr} {bs:List (List Int×Addr×Addr)} {ks:List (List (List Int))} (B:Bes P w K H H2 D bs ks) {m y:List Int} {l ln:Addr} {v2:V} (hat:atL bs m=some l) (hln:H2 ln=none) (hD:ln≠D) (hy:Is K H2 (dR y) v2) :
  l≠ln∧H l=none ∧ ∃ vs,H2 l=some (.lst vs)∧vs.length≤ks.length∧Bes P w K H (upd (upd H2 ln (.lst [])) l (.lst (vs++[v2]))) D bs (ks++[[m,y]]):=by
 obtain ⟨q,hq,rfl,rfl⟩:=gI hat
 obtain ⟨nD,nH,vs,hvs,hi⟩:=B.some_ q hq
 have nl:q.2.2≠ln:=al hvs hln
 have t1:Tk H2 (upd H2 ln (.lst [])):=ad (ab hln _)
 have hv3:upd H2 ln (.lst []) q.2.2=some (.lst vs):=by rw [ae nl]; exact hvs
 have t2:=t1.trans (gR hv3 (.lst (vs++[v2])))
 refine ⟨nl,nH,vs,hvs,?_,fJ (by rw [ae (fun e=>nD e.symm),ae (fun e=>hD e.symm)]) B.dict,B.nd,fun r hr=>aA t2 (B.is r hr),fun r hr => ?_,B.inj,fun m' hm' => ?_⟩
 ·have:=hi.length
  rw [List.length_map] at this
  have:=bK ks q.1
  omega
 ·obtain ⟨rD,rH,us,hus,hj⟩:=B.some_ r hr
  refine ⟨rD,rH,?_⟩
  by_cases e:r.2.2=q.2.2
  ·have:r=q:=eM B.inj hr hq e
   subst this
   refine ⟨vs++[v2],ac,?_⟩
   rw [aB,if_pos rfl,List.map_append]
   exact Iss.append (bH t2 hi) (Iss.cons (aA t2 hy) Iss.nil)
  ·refine ⟨us,?_,?_⟩
   ·rw [ae e,ae (al hus hln)]; exact hus
   ·rw [aB,if_neg]
    ·exact bH t2 hj
    ·intro z
     have:r=q:=eM B.nd hr hq z.symm
     exact e (by rw [this])
 ·rw [aB,if_neg]
  ·exact B.none_ m' hm'
  ·intro z
   exact cV hm' q hq z
theorem Bes.new {H H2:Hp} {D:Addr} {bs:List (List Int×Addr×Addr)} {ks:List (List (List Int))} (B:Bes P w K H H2 D bs ks) {m y:List Int} {ln b1:Addr} {v2:V} (hat:atL bs m=none) (hln:H2 ln=none) (hH:H ln=none) (hD:ln≠D) (hm:Is K H2 (dR m) (.ref b1)) (hy:Is K H2 (dR y) v2) :
  Bes P w K H (upd (upd (upd H2 ln (.lst [])) D (dj P w D (bs++[(m,b1,ln)]))) ln (.lst [v2])) D (bs++[(m,b1,ln)]) (ks++[[m,y]]):=by
 have t1:Tk H2 (upd H2 ln (.lst [])):=ad (ab hln _)
 have hno:=cV hat
 have hDd : ∀ ys,H2 D≠some (.tup ys) ∧ ∀ o,H2 D≠some (.frz o (.tup ys)):=fun ys=>by
  rcases B.dict with e | ⟨e,_⟩
  ·rw [e]
   unfold dj
   exact ⟨(fun z=>by cases z),(fun o z=>by cases z)⟩
  ·rw [e]
   exact ⟨(fun z=>by cases z),(fun o z=>by cases z)⟩
 have t2:Tk (upd H2 ln (.lst [])) (upd (upd H2 ln (.lst [])) D (dj P w D (bs++[(m,b1,ln)]))):=fun c xs r=>by
  have hc:c≠D:=fun z=>by
   subst z
   rcases r with e | ⟨o,e⟩
   ·rw [ae (fun e=>hD e.symm)] at e; exact (hDd xs).1 e
   ·rw [ae (fun e=>hD e.symm)] at e; exact (hDd xs).2 o e
  exact r.elim (fun e => .inl (by rw [ae hc]; exact e)) fun ⟨o,e⟩ => .inr ⟨o,by rw [ae hc]; exact e⟩
 have hl3:upd (upd H2 ln (.lst [])) D (dj P w D (bs++[(m,b1,ln)])) ln=some (.lst []):=by rw [ae hD,ac]
 have t3:=(t1.trans t2).trans (gR hl3 (.lst [v2]))
 refine ⟨.inl (by rw [ae (fun e=>hD e.symm),ac]),?_,fun r hr => ?_,fun r hr => ?_,?_,fun m' hm' => ?_⟩
 ·rw [List.map_append]
  refine List.nodup_append.mpr ⟨B.nd,by simp,fun x hx z hz => ?_⟩
  have:z=m:=by simpa using hz
  rw [this]
  obtain ⟨q,hq,rfl⟩:=List.mem_map.mp hx
  exact hno q hq
 ·rcases List.mem_append.mp hr with hr | hr
  ·exact aA t3 (B.is r hr)
  ·rw [List.mem_singleton.mp hr]; exact aA t3 hm
 ·rcases List.mem_append.mp hr with hr | hr
  ·obtain ⟨rD,rH,us,hus,hj⟩:=B.some_ r hr
   refine ⟨rD,rH,us,?_,?_⟩
   ·rw [ae (al hus hln),ae rD,ae (al hus hln)]; exact hus
   ·rw [aB,if_neg (fun z=>hno r hr z.symm)]
    exact bH t3 hj
  ·rw [List.mem_singleton.mp hr]
   refine ⟨hD,hH,[v2],ac,?_⟩
   rw [aB,if_pos rfl,B.none_ m hat]
   exact Iss.cons (aA t3 hy) Iss.nil
 ·rw [List.map_append]
  refine List.nodup_append.mpr ⟨B.inj,by simp,fun x hx z hz => ?_⟩
  have:z=ln:=by simpa using hz
  rw [this]
  obtain ⟨q,hq,rfl⟩:=List.mem_map.mp hx
  obtain ⟨_,_,us,hus,_⟩:=B.some_ q hq
  exact al hus hln
 ·have h1 : ∀ q∈bs,q.1≠m':=fun q hq=>cV hm' q (List.mem_append_left _ hq)
  have h2:m≠m':=cV hm' (m,b1,ln) (by simp)
  rw [aB,if_neg h2]
  exact B.none_ m' (gJ h1)
theorem mN {H:Hp} {a:Addr} (o:HO) (hn : ∀ ys, ¬ Rd H a (.tup ys)):Tk H (upd H a o):=fun c xs r=>by
 have hc:c≠a:=fun z=>by subst z; exact hn xs r
 exact r.elim (fun e => .inl (by rw [ae hc]; exact e)) fun ⟨o,e⟩ => .inr ⟨o,by rw [ae hc]; exact e⟩
theorem mz {H:Hp} {J:Addr} {cs:List (List (List Int)×Addr)} (h:dn P w H J cs) : ∀ ys, ¬ Rd H J (.tup ys):=fun ys r=>by
 rcases h with e | ⟨e,_⟩
 ·unfold gN at e
  rcases r with z | ⟨o,z⟩ <;> rw [e] at z <;> cases z
 ·rcases r with z | ⟨o,z⟩ <;> rw [e] at z <;> cases z
theorem iO {H2 H3:Hp} {D:Addr} {bs:List (List (List Int)×Addr)} (e:H3 D=H2 D) (h:dn P w H2 D bs):dn P w H3 D bs:=by unfold dn at *; rw [e]; exact h
theorem lS {H:Hp} {J:Addr} {cs:List (List (List Int)×Addr)} (h:dn P w H J cs) {c:Addr} (hc:H c=none):c≠J:=fun z=>by
 rcases h with e | ⟨e,_⟩ <;> rw [← z,hc] at e <;> cases e
theorem jO {cs:List (List (List Int)×Addr)} {k x:List (List Int)} {n:Addr}:x∈(cY cs k n).map (·.1)↔x∈cs.map (·.1)∨x=k:=by
 unfold cY
 split
 ·rename_i h
  exact ⟨.inl,fun z=>z.elim id fun e=>e ▸ h⟩
 ·rw [List.map_append,List.mem_append]
  simp
theorem gX {cs:List (List (List Int)×Addr)} {k:List (List Int)} {n:Addr} (h:(cs.map (·.1)).Nodup):((cY cs k n).map (·.1)).Nodup:=by
 unfold cY
 split
 ·exact h
 ·rename_i hk
  rw [List.map_append]
  refine List.nodup_append.mpr ⟨h,by simp,fun x hx y hy => ?_⟩
  have:y=k:=by simpa using hy
  rw [this]
  exact fun e=>hk (e ▸ hx)
theorem jP (cs:List (List (List Int)×Addr)) (k:List (List Int)) (n:Addr):(cY cs k n).length≤cs.length+1:=by
 unfold cY
 split
 ·omega
 ·rw [List.length_append,List.length_singleton]; omega
def jG (K:PySem.W.Frag):Sp:=fun vs H Q _ => ∃ (a b:Addr) (ps1 ps2:List V) (ks1 ks2:List (List (List Int))),vs=[.ref a,.ref b]∧SqL K H a ps1∧Iss K H (ks1.map dP) ps1∧SqL K H b ps2∧Iss K H (ks2.map dP) ps2∧(∀ k∈ks1,Two k)∧(∀ k∈ks2,Two k)∧ks1.length≤30∧ks2.length≤30 ∧
 ∀ (p:Addr) (out:List V) (ks:List (List (List Int))) (H':Hp),Same H H'→H p=none→H' p=some (.lst out)→Iss K H' (ks.map dP) out→Prs ks→(∀ x y,[x,y]∈ks ↔ ∃ m,[x,m]∈ks1∧[m,y]∈ks2)→ks.length≤900→Q (.ref p) H'
theorem bz:aR ["one", "other", "rooms_beside", "middle_room", "room", "rooms", "joined", "far_room"] ["one", "other"] (aj dH):=⟨rfl,rfl,rfl,by decide +kernel,rfl,by decide +kernel,by decide +kernel⟩
theorem kX {f:Addr} {fd:FuncData} (B:Bl mg) (F:Fun K "joined_pairs" "joined_pairs" dH f fd):a9 P w K mg base CX0 1 f fd ["one", "other"] (jG K):=by
 refine F.ok bz (fun vs H Q E h => ?_) (fun cdv A outer s H vs Q E hr h => ?_)
 ·obtain ⟨a,b,ps1,ps2,ks1,ks2,rfl,_⟩:=h
  rfl
 obtain ⟨a,b,ps1,ps2,ks1,ks2,rfl,hA,hi1,hB,hi2,tw1,tw2,len1,len2,q⟩:=h
 have hu:=kn hr
 have hu4:=Nat.lt_of_le_of_lt (Nat.add_le_add_left (show 4≤60 by decide) _) hu
 have hu12:=Nat.lt_of_le_of_lt (Nat.add_le_add_left (show 12≤60 by decide) _) hu
 refine ⟨_,(@ai _ _ _ _ _ (@aD _ _ 2 _ _ _ _ bz.nd rfl (Or.inl rfl) ga rfl (Or.inl rfl)) (@ai _ _ _ _ _ (@cZ _ _ _ _ _ _ _ _ PassesOwn.never rfl (@bC _ _ _ _ (pv 1)) (dM (n:=2) rfl (aO (aw (i:=3) bz.nd rfl (Or.inl rfl)) (aO (aw (i:=4) bz.nd rfl (Or.inl rfl)) cE))) (@ai _ _ _ _ _ (@aD _ _ 5 _ _ _ _ bz.nd rfl (Or.inl rfl) (jR hu4 (pv 2) (pv 3) (@aN _ _ _ _ ag) ⟨rfl,rfl,rfl,rfl⟩) rfl (Or.inl rfl)) (@aq _ _ _ (@fw _ _ _ _ (jT PySem.F.plainAttrs_list PySem.F.slot_list_append PySem.F.type_list_append b7 (pv 5) (@aa _ _ _ _ _ (pv 4) ag (by rfl))) (by rfl)))) (by intro _; rfl)) (@ai _ _ _ _ _ (@aD _ _ 6 _ _ _ _ bz.nd rfl (Or.inl rfl) ga rfl (Or.inl rfl)) (@ai _ _ _ _ _ (@cZ _ _ _ _ _ _ _ _ PassesOwn.never rfl (@bC _ _ _ _ (pv 0)) (dM (n:=2) rfl (aO (aw (i:=7) bz.nd rfl (Or.inl rfl)) (aO (aw (i:=3) bz.nd rfl (Or.inl rfl)) cE))) (@aq _ _ _ (@cZ _ _ _ _ _ _ _ _ PassesOwn.never rfl (@bC _ _ _ _ (kQ hu4 (pv 2) (pv 3) (@aN _ _ _ _ ag) ⟨rfl,rfl,rfl,rfl⟩)) (aw (i:=4) bz.nd rfl (Or.inl rfl)) (@aq _ _ _ (gY dN (gZ (pv 6) (@cu _ _ _ _ _ (@aa _ _ _ _ _ (pv 7) (@aa _ _ _ _ _ (pv 4) ag (by rfl)) (by rfl))) (m7 hu12)))) (by intro _; rfl))) (by intro _; rfl)) (@aq _ _ _ (@aM _ _ _ _ (aP (eE rfl hu4) (by rfl) B.sorted rfl (@aa _ _ _ _ _ (pv 6) ag (by rfl))))))))),?_⟩
 intro D hD0
 have s1:=ab hD0 (.dK [])
 refine ⟨_,rfl,b,rfl,⟨_,s1.seq hB⟩,bS (xs:=ps2) (fun i σ H2 => ∃ (v3 v4 v5:Option V) (bs:List (List Int×Addr×Addr)),σ=[some (.ref a),some (.ref b),some (.ref D),v3,v4,v5,none,none]∧Same H H2∧Bes P w K H H2 D bs (ks2.take i)∧bs.length≤i) ?init ?seq ?step ?done⟩
 case init=>exact ⟨none,none,none,[],rfl,s1,⟨.inr ⟨ac,rfl⟩,.nil,fun q hq=>by simp at hq,fun q hq=>by simp at hq,.nil,fun m _=>by simp [av]⟩,Nat.le_refl _⟩
 case seq=>rintro i σ H2 _ ⟨v3,v4,v5,bs,_,g1,_⟩; exact g1.seq hB
 case step =>
  rintro i x σ H2 hx ⟨v3,v4,v5,bs,rfl,g1,g2,g3⟩
  obtain ⟨k,hk,hkx⟩:=bh (am (ad g1) hi2) hx
  obtain ⟨m,y,rfl,_,_⟩:=tw2 k (List.mem_of_getElem? hk)
  obtain ⟨n,v1,v2,rfl,hsq,im,iy⟩:=dc hkx
  have im':=im
  unfold dR at im'
  rw [Is] at im'
  obtain ⟨b1,_,rfl,_,_⟩:=im'
  have htake:ks2.take (i+1)=ks2.take i++[[m,y]]:=by rw [List.take_add_one,hk]; rfl
  have hlt:i < ks2.length:=(List.getElem?_eq_some_iff.mp hk).1
  refine ⟨_,_,rfl,hsq,rfl,_,_,rfl,_,_,rfl,rfl,?_⟩
  refine ⟨_,rfl,D,bs,rfl,g2.dict,_,rfl,by decide,fun ln hln => ?_⟩
  have hnD:ln≠D:=fun z=>by
   rcases g2.dict with e | ⟨e,_⟩ <;> rw [z,e] at hln <;> cases hln
  have nln:H ln=none:=g1.free hln
  have t1:=ab hln (.lst [])
  refine ⟨b1,ln,m,bs,rfl,rfl,fJ (by rw [ae (fun e=>hnD e.symm)]) g2.dict,g2.nd,by omega,fun q hq=>aA (ad t1) (g2.is q hq),aA (ad t1) im,fun l' hl' => ?_,fun hno => ?_⟩
  ·obtain ⟨e1,e2,vs,e3,e4,e5⟩:=g2.old (m:=m) (y:=y) hl' hln hnD iy
   have e3':upd H2 ln (.lst []) l'=some (.lst vs):=by rw [ae e1]; exact e3
   have l4:vs.length≤30:=by rw [List.length_take] at e4; omega
   refine ⟨_,rfl,.inl ⟨rfl,_,SqL.of e3'⟩,_,rfl,l',_,_,rfl,rfl,e3',az (by omega),?_⟩
   refine ⟨_,_,_,bs,rfl,fun c o e => ?_,by rw [htake]; exact e5,by omega⟩
   rw [ae (al e e2),ae (al e nln)]; exact g1 _ _ e
  ·have e5:=g2.new (m:=m) (y:=y) (b1:=b1) hno hln nln hnD im iy
   have e3':upd (upd H2 ln (.lst [])) D (dj P w D (bs++[(m,b1,ln)])) ln=some (.lst []):=by rw [ae hnD,ac]
   refine ⟨_,rfl,.inl ⟨rfl,_,SqL.of e3'⟩,_,rfl,ln,_,_,rfl,rfl,e3',az (by decide),?_⟩
   refine ⟨_,_,_,bs++[(m,b1,ln)],rfl,fun c o e => ?_,by rw [htake]; exact e5,by rw [List.length_append,List.length_singleton]; omega⟩
   rw [ae (al e nln),ae (al e hD0),ae (al e nln)]; exact g1 _ _ e
 case done =>
  rintro σ H1 ⟨v3,v4,v5,bs,rfl,g1,g2,g3⟩
  have hl2:ps2.length=ks2.length:=by rw [hi2.length,List.length_map]
  rw [hl2,List.take_of_length_le (Nat.le_refl _)] at g2
  intro J hJ0
  have sJ:=ab hJ0 (.dK [])
  refine ⟨_,rfl,a,rfl,⟨_,(g1.trans sJ).seq hA⟩,bS (xs:=ps1) (fun i σ H2 => ∃ (v3 v4 v5 v7:Option V) (cs:List (List (List Int)×Addr)),σ=[some (.ref a),some (.ref b),some (.ref D),v3,v4,v5,some (.ref J),v7]∧Same H1 H2∧dn P w H2 J cs∧(cs.map (·.1)).Nodup∧(∀ q∈cs,Two q.1∧Is K H2 (dP q.1) (.ref q.2))∧(∀ x y,[x,y]∈cs.map (·.1) ↔ ∃ m,[x,m]∈ks1.take i∧y∈av ks2 m)∧cs.length≤i * 30) ?init2 ?seq2 ?step2 ?done2⟩
  case init2=>exact ⟨_,_,_,none,[],rfl,sJ,.inr ⟨ac,rfl⟩,.nil,fun q hq=>by simp at hq,fun x y=>by simp,by simp⟩
  case seq2=>rintro i σ H2 _ ⟨_,_,_,_,_,_,k1,_⟩; exact (g1.trans k1).seq hA
  case step2 =>
   rintro i x σ H2 hx ⟨v3,v4,v5,v7,cs,rfl,k1,k2,k3,k4,k5,k6⟩
   obtain ⟨k,hk,hkx⟩:=bh (am (ad (g1.trans k1)) hi1) hx
   obtain ⟨x0,m,rfl,lx0,_⟩:=tw1 k (List.mem_of_getElem? hk)
   obtain ⟨n,v1,v2,rfl,hsq,ix,im⟩:=dc hkx
   have im':=im
   unfold dR at im'
   rw [Is] at im'
   obtain ⟨b1,_,rfl,_,_⟩:=im'
   have htake:ks1.take (i+1)=ks1.take i++[[x0,m]]:=by rw [List.take_add_one,hk]; rfl
   have hlt:i < ks1.length:=(List.getElem?_eq_some_iff.mp hk).1
   have dL:en P w H2 D bs:=by
    rcases g2.dict with e | ⟨e,e'⟩
    ·exact .inl (k1 _ _ e)
    ·exact .inr ⟨k1 _ _ e,e'⟩
   refine ⟨_,_,rfl,hsq,rfl,_,_,rfl,_,_,rfl,rfl,?_⟩
   refine ⟨_,rfl,D,bs,rfl,dL,_,rfl,by decide,fun ln hln => ?_⟩
   have t1:=ab hln (.lst [])
   have kk:=k1.trans t1
   have hnD:ln≠D:=fun z=>by
    rcases dL with e | ⟨e,_⟩ <;> rw [z,e] at hln <;> cases hln
   have hnJ:ln≠J:=lS k2 hln
   obtain ⟨ll,vs,el,eN,ev,ei⟩ : ∃ ll vs,(atL bs m).getD ln=ll∧ll≠J∧upd H2 ln (.lst []) ll=some (.lst vs)∧Iss K (upd H2 ln (.lst [])) ((av ks2 m).map dR) vs:=by
    cases hat:atL bs m with
    | none =>
     refine ⟨ln,[],rfl,hnJ,ac,?_⟩
     rw [g2.none_ m hat]; exact Iss.nil
    | some l =>
     obtain ⟨q,hq,rfl,rfl⟩:=gI hat
     obtain ⟨_,_,vs,hvs,hi⟩:=g2.some_ q hq
     exact ⟨_,vs,rfl,al hvs hJ0,kk _ _ hvs,bH (ad kk) hi⟩
   refine ⟨b1,ln,m,bs,rfl,rfl,fJ (by rw [ae (fun e=>hnD e.symm)]) dL,g2.nd,fun q hq=>aA (ad kk) (g2.is q hq),aA (ad t1) im,ll,by rw [el],⟨_,SqL.of ev⟩,?_⟩
   have hvl:vs.length=(av ks2 m).length:=by rw [ei.length,List.length_map]
   have hbl:=bK ks2 m
   refine bS (xs:=vs) (fun j σ H4 => ∃ (v4:Option V) (cs':List (List (List Int)×Addr)),σ=[some (.ref a),some (.ref b),some (.ref D),some (.ref b1),v4,v5,some (.ref J),some v1]∧Same H1 H4∧H4 ll=some (.lst vs)∧Iss K H4 ((av ks2 m).map dR) vs∧dn P w H4 J cs'∧(cs'.map (·.1)).Nodup∧(∀ q∈cs',Two q.1∧Is K H4 (dP q.1) (.ref q.2)) ∧
    (∀ x y,[x,y]∈cs'.map (·.1)↔(∃ m,[x,m]∈ks1.take i∧y∈av ks2 m)∨(x=x0∧y∈(av ks2 m).take j))∧cs'.length≤i * 30+j∧Is K H4 (dR x0) v1) ?init3 ?seq3 ?step3 ?done3
   case init3=>exact ⟨_,cs,rfl,kk,ev,ei,iO (by rw [ae (fun e=>hnJ e.symm)]) k2,k3,fun q hq=>⟨(k4 q hq).1,bI (ad t1) (k4 q hq).2⟩,fun x y=>by rw [k5 x y]; simp,by omega,aA (ad t1) ix⟩
   case seq3=>rintro j σ H4 _ ⟨_,_,_,_,e,_⟩; exact SqL.of e
   case step3 =>
    rintro j u σ H4 hu' ⟨v4,cs',rfl,e1,e2,e3,e4,e5,e6,e7,e8,ix4⟩
    obtain ⟨y,hy,iy⟩:=gp e3 hu'
    have hjl:j < (av ks2 m).length:=(List.getElem?_eq_some_iff.mp hy).1
    refine ⟨_,rfl,_,rfl,_,rfl,(by show 2≤sizeLine; decide),fun n' hn' => ?_⟩
    have t5:=ab hn' (.tup [v1,u])
    have nJ:n'≠J:=lS e4 hn'
    have fP:Is K (upd H4 n' (.tup [v1,u])) (dP [x0,y]) (.ref n'):=cQ (SqT.of ac) (aA (ad t5) ix4) (aA (ad t5) iy)
    have d5:dn P w (upd H4 n' (.tup [v1,u])) J cs':=iO (by rw [ae (fun e=>nJ e.symm)]) e4
    refine ⟨J,n',[x0,y],cs',rfl,rfl,rfl,d5,e5,by omega,fun q hq=>bI (ad t5) (e6 q hq).2,fP,?_⟩
    have t6:Tk (upd H4 n' (.tup [v1,u])) (upd (upd H4 n' (.tup [v1,u])) J (gN P w J (cY cs' [x0,y] n'))):=mN _ (mz d5)
    refine ⟨_,cY cs' [x0,y] n',rfl,fun c o e => ?_,?_,bH ((ad t5).trans t6) e3,.inl ac,gX e5,fun q hq => ?_,fun x' y' => ?_,?_,aA ((ad t5).trans t6) ix4⟩
    ·rw [ae (al e hJ0)]; exact t5 _ _ (e1 _ _ e)
    ·rw [ae eN]; exact t5 _ _ e2
    ·unfold cY at hq
     split at hq
     ·exact ⟨(e6 q hq).1,bI ((ad t5).trans t6) (e6 q hq).2⟩
     ·rcases List.mem_append.mp hq with hq | hq
      ·exact ⟨(e6 q hq).1,bI ((ad t5).trans t6) (e6 q hq).2⟩
      ·rw [List.mem_singleton.mp hq]
       refine ⟨⟨x0,y,rfl,lx0,?_⟩,bI t6 fP⟩
       obtain ⟨_,_,e,_,ly⟩:=tw2 _ (bi.mp (List.mem_of_getElem? hy))
       simp at e
       rw [e.2]; exact ly
    ·rw [jO,e7,List.take_add_one,hy]
     constructor
     ·rintro ((z | ⟨z1,z2⟩) | z)
      ·exact .inl z
      ·exact .inr ⟨z1,List.mem_append_left _ z2⟩
      ·simp at z
       exact .inr ⟨z.1,by rw [z.2]; simp⟩
     ·rintro (z | ⟨z1,z2⟩)
      ·exact .inl (.inl z)
      ·rcases List.mem_append.mp z2 with z2 | z2
       ·exact .inl (.inr ⟨z1,z2⟩)
       ·have:y'=y:=by simpa using z2
        exact .inr (by rw [z1,this])
    ·have:=jP cs' [x0,y] n'
     omega
   case done3 =>
    rintro σ H4 ⟨v4,cs',rfl,e1,e2,e3,e4,e5,e6,e7,e8,_⟩
    have et:(av ks2 m).take vs.length=av ks2 m:=List.take_of_length_le (by omega)
    refine ⟨_,_,_,_,cs',rfl,e1,e4,e5,e6,fun x y => ?_,by omega⟩
    rw [e7,htake,et]
    constructor
    ·rintro (⟨m',z1,z2⟩ | ⟨z1,z2⟩)
     ·exact ⟨m',List.mem_append_left _ z1,z2⟩
     ·exact ⟨m,by rw [z1]; simp,z2⟩
    ·rintro ⟨m',z1,z2⟩
     rcases List.mem_append.mp z1 with z1 | z1
     ·exact .inl ⟨m',z1,z2⟩
     ·have z3:x=x0∧m'=m:=by simpa using z1
      rw [z3.2] at z2
      exact .inr ⟨z3.1,z2⟩
  case done2 =>
   rintro σ H2 ⟨v3,v4,v5,v7,cs,rfl,k1,k2,k3,k4,k5,k6⟩
   have hl1:ps1.length=ks1.length:=by rw [hi1.length,List.length_map]
   rw [hl1] at k5 k6
   rw [List.take_of_length_le (Nat.le_refl _)] at k5
   refine ⟨_,rfl,J,cs,rfl,k2,k3,by omega,fun q hq=>⟨fk (k4 q hq).1,(k4 q hq).2⟩,fun p out ks' hp hi hpe hup => ?_⟩
   have s5:=ab hp (.lst out)
   refine q p out ks' _ ((g1.trans k1).trans s5) ((g1.trans k1).free hp) ac (am (ad s5) hi) ⟨fun k hk => ?_,hpe.nodup_iff.mpr k3,hup⟩ (fun x y => ?_) ?_
   ·obtain ⟨r,hr,rfl⟩:=List.mem_map.mp (hpe.mem_iff.mp hk)
    exact (k4 r hr).1
   ·rw [hpe.mem_iff,k5]
    simp only [bi]
   ·rw [hpe.length_eq,List.length_map]; omega
end
end Nw
namespace L2
open PySem PySem.Spec PyProof.Rows
def n4 (K:PySem.W.Frag):List V→Hp→VK→Prop:=fun xs H Q => ∃ a ys n b,xs=[.ref a,.ty n]∧SqT K H a ys∧PySem.W.kitOne K (.type "tuple") (.type n)=some b∧Q (.bl b) H
theorem cU {X:Cx} {K:PySem.W.Frag} (hK:X.K=K):bY X (.builtin "isinstance") (n4 K):=by
 subst hK
 intro pins s σ H xs us Q I r h
 obtain ⟨a,ys,n,b,rfl,ty,e,q⟩:=h
 obtain ⟨u,w',rfl,ru,rw'⟩:=lI r
 cases (show w'=Value.type n from rw')
 cases (show u=Value.ref a from ru)
 obtain ⟨its,_,⟨o,h1,h2,_⟩,_⟩:=I.tuple ty
 exact PySem.W.kia_one PySem.W.kitx_tuple I.kIn ⟨o,h1,h2⟩ e (fun z=>nomatch z) fun tk=>⟨.bl b,H,I.tok tk,rfl,q⟩
end L2
namespace Nw
open PySem L2 Ord'
section
variable {P:Program} {w:World} {K:PySem.W.Frag} {mg:Str→Option Value} {base:Heap}
def jE (K:PySem.W.Frag):Sp:=fun vs H Q _ => ∃ (a b:Addr) (ps1 ps2:List V) (ks:List (List (List Int))),vs=[.ref a,.ref b]∧H a=some (.lst ps1)∧Iss K H (ks.map dP) ps1∧SqL K H b ps2∧Iss K H (ks.map dP) ps2∧(∀ k∈ks,Two k)∧ks.length≤900 ∧ ∀ H',Same H H'→Q (.bl true) H'
theorem jI:aR ["_law_found", "_law_due", "_law_pair"] ["_law_found", "_law_due"] (aj cB):=⟨rfl,rfl,rfl,by decide +kernel,rfl,by decide +kernel,by decide +kernel⟩
theorem hG:(["_law_found", "_law_due", "_law_pair", "_law_room"]:List Str).Nodup:=by decide +kernel
theorem hE:(["_law_found", "_law_due", "_law_pair", "_law_value"]:List Str).Nodup:=by decide +kernel
theorem kU {f fW:Addr} {fd fdW:FuncData} (B:Bl mg) (F:Fun K "_law_same" "_law_same" cB f fd) (FW:Fun K "_law_whole" "_law_whole" bM fW fdW) (bW:Binds K fdW ["_law_found"] []) (mW:mg "_law_whole"=some (.ref fW)):a9 P w K mg base CX0 2 f fd ["_law_found", "_law_due"] (jE K):=by
 have GW:a9 P w K mg base CX0 1 fW fdW ["_law_found"] iC:=jY B FW
 refine F.ok jI (fun vs H Q E h => ?_) (fun cdv A outer s H vs Q E hr h => ?_)
 ·obtain ⟨a,b,ps1,ps2,ks,rfl,_⟩:=h
  rfl
 obtain ⟨a,b,ps1,ps2,ks,rfl,ha,hi1,hb,hi2,tw,hl,q⟩:=h
 have hu:=kn hr
 refine ⟨_,(@ai _ _ _ _ _ (@dh _ _ _ _ _ _ _ _ (PW.pt (@iJ _ _ _ _ _ _ _ (@cr _ _ _ _ (cq (aP bX (by rfl) B.isinstance PyProof.Rows.boot_isinstance (@aa _ _ _ _ _ (pv 0) (@aa _ _ _ _ _ (cH (v:=V.ty "list") (by rfl) B.list PyProof.Rows.boot_list (by rfl)) ag (by rfl)) (by rfl))))) (fq (@bn _ _ _ _ _ _ _ _ (@fz _ hu) (pv 0) (pv 1) (cw _))))) (@aq _ _ _ (@aM _ _ _ _ dN)) bo) (@ai _ _ _ _ _ (@cZ _ _ _ _ _ _ _ _ PassesOwn.never rfl (@bC _ _ _ _ (pv 0)) (aw (i:=2) jI.nd rfl (Or.inl rfl)) (@ai _ _ _ _ _ (@dh _ _ _ _ _ _ _ _ (PW.pt (@iJ _ _ _ _ _ _ _ (@cr _ _ _ _ (cq (aP (cU (K:=K) rfl) (by rfl) B.isinstance PyProof.Rows.boot_isinstance (@aa _ _ _ _ _ (pv 2) (@aa _ _ _ _ _ (cH (v:=V.ty "tuple") (by rfl) B.tuple PyProof.Rows.boot_tuple (by rfl)) ag (by rfl)) (by rfl))))) (fq (@bn _ _ _ _ _ _ _ _ (@fz _ hu) (cG (NX:=["_law_found", "_law_due", "_law_pair"]) (N:=["_law_found", "_law_due", "_law_pair", "_law_room"]) (ms:=[true,true,true,false]) (ks:=[3]) (out:=aj cB) (by exact ⟨rfl,by decide +kernel,by decide +kernel,by decide +kernel,by decide +kernel,by decide +kernel⟩) rfl rfl rfl (@jQ _ _ _ _ (pv 2)) (@aU 3) (by decide) (fun C ex s H=>(aw (i:=3) hG rfl (Or.inl rfl))) (fun C ex s H=>(@ft _ _ _ (@cr _ _ _ _ (cq (aP (cU (K:=K) rfl) (by rfl) B.isinstance PyProof.Rows.boot_isinstance (@aa _ _ _ _ _ (pv 3) (@aa _ _ _ _ _ (cH (v:=V.ty "tuple") (by rfl) B.tuple PyProof.Rows.boot_tuple (by rfl)) ag (by rfl)) (by rfl))))))) (fun C ex s H=>(pv 3))) (@aN _ _ _ _ ag) (cw _))))) (@aq _ _ _ (@aM _ _ _ _ dN)) bo) (@aq _ _ _ (@dh _ _ _ _ _ _ _ _ (@bn _ _ _ _ _ _ _ _ (@fz _ hu) (cG (NX:=["_law_found", "_law_due", "_law_pair"]) (N:=["_law_found", "_law_due", "_law_pair", "_law_value"]) (ms:=[true,true,true,false]) (ks:=[3]) (out:=aj cB) (by exact ⟨rfl,by decide +kernel,by decide +kernel,by decide +kernel,by decide +kernel,by decide +kernel⟩) rfl rfl rfl (@jQ _ _ _ _ (@ap _ _ _ _ _ _ _ _ jX (@a8 _ _ _ _ _ _ (md K) ka (pv 2) af (fun _ _=>rfl)) (@a8 _ _ _ _ _ _ (md K) ka (pv 2) af (fun _ _=>rfl)))) (@aU 3) (by decide) (fun C ex s H=>(aw (i:=3) hE rfl (Or.inl rfl))) (fun C ex s H=>(@ft _ _ _ (@cr _ _ _ _ (cq (ar GW hr (by rfl) mW FW.kp bW .nil aV (@aa _ _ _ _ _ (pv 3) ag (by rfl))))))) (fun C ex s H=>(pv 3))) (@aN _ _ _ _ ag) (cw _)) (@aq _ _ _ (@aM _ _ _ _ dN)) bo))) (by intro _; rfl)) (@aq _ _ _ (@aM _ _ _ _ dN)))),?_⟩
 refine ⟨_,rfl,_,_,_,_,rfl,cj.lst ha,rfl,_,rfl,?_⟩
 have isL : ∀ {H:Hp} {a:Addr} {ps:List V},SqL K H a ps→Iss K H (ks.map dP) ps→Is K H (.lst (ks.map dP)) (.ref a):=fun {H a ps} h1 h2=>by rw [Is]; exact ⟨a,ps,rfl,h1,h2⟩
 refine dl ⟨_,rfl,_,rfl,.lst (ks.map dP),.lst (ks.map dP),isL (SqL.of ha) hi1,isL hb hi2,rfl,rfl,?_,_,rfl,?_⟩
 ·rw [dep]; have:=dA ks; omega
 rw [bU]
 refine dl ⟨_,rfl,a,rfl,⟨_,SqL.of ha⟩,bS (xs:=ps1) (fun i σ H2 => ∃ v2:Option V,σ=[some (.ref a),some (.ref b),v2]∧Same H H2) ⟨none,rfl,Same.refl H⟩ (fun i σ H2 _ ⟨_,_,g⟩=>SqL.of (g _ _ ha)) ?step ?done⟩
 case done =>
  rintro σ H2 ⟨v2,rfl,g⟩
  exact q H2 g
 case step =>
  rintro i x σ H2 hx ⟨v2,rfl,g⟩
  obtain ⟨k,hk,hkx⟩:=bh (am (ad g) hi1) hx
  have hkm:=List.mem_of_getElem? hk
  obtain ⟨r1,r2,rfl,hr1,hr2⟩:=tw k hkm
  obtain ⟨n,w1,w2,rfl,hsq,i1,i2⟩:=dc hkx
  have rm : ∀ {H:Hp} {r:List Int} {v:V},Is K H (dR r) v → ∃ c,v = .ref c∧SqT K H c (r.map V.int):=fun {H r v} h=>by
   unfold dR at h
   rw [Is] at h
   obtain ⟨c,xs,rfl,h1,h2⟩:=h
   have e:xs=r.map V.int:=by
    clear h1
    induction r generalizing xs with
    | nil=>rw [List.map_nil,Iss] at h2; exact h2
    | cons z r ih =>
     rw [List.map_cons,Iss] at h2
     obtain ⟨y,ys,rfl,e1,e2⟩:=h2
     rw [Is] at e1
     rw [e1,ih _ e2]; rfl
   exact ⟨c,rfl,e ▸ h1⟩
  obtain ⟨c1,rfl,q1⟩:=rm i1
  obtain ⟨c2,rfl,q2⟩:=rm i2
  refine ⟨_,rfl,n,_,_,_,rfl,hsq,rfl,_,rfl,?_⟩
  refine dl ⟨_,rfl,n,rfl,⟨_,hsq⟩,gD (xs:=[V.ref c1,V.ref c2]) (fun i ys H'=>ys=[]∧H'=H2) ⟨rfl,rfl⟩ (fun i ys H' _ ⟨_,e⟩=>by rw [e]; exact hsq) (fun i ys H' hi ⟨e1,_⟩=>by rw [e1]; exact az (by decide)) ?_ ?_⟩
  ·rintro j u ys H' hu' ⟨rfl,rfl⟩
   have : ∃ c xs,u = .ref c∧SqT K H' c xs:=by
    rcases j with _ | _ | j
    ·simp at hu'; exact ⟨c1,_,hu'.symm,q1⟩
    ·simp at hu'; exact ⟨c2,_,hu'.symm,q2⟩
    ·simp at hu'
   obtain ⟨c,xs,rfl,hc⟩:=this
   exact ⟨_,rfl,c,_,_,_,rfl,hc,rfl,_,rfl,dl ⟨rfl,rfl⟩⟩
  rintro ys H' ⟨rfl,rfl⟩ D hD
  refine ⟨Nat.zero_le _,fun z hz=>⟨.lst [],.lst [],?_,?_,rfl,rfl,by decide,_,rfl,?_⟩⟩
  ·rw [Is]
   exact ⟨D,_,rfl,SqL.of ((ab hz _) _ _ ac),.nil⟩
  ·rw [Is]
   exact ⟨z,_,rfl,SqL.of ac,.nil⟩
  rw [bU]
  have s3:=(ab hD (.lst [])).trans (ab hz (.lst []))
  generalize upd (upd H' D (.lst [])) z (.lst [])=H3 at s3
  have hsq3:=dF (ad s3) hsq
  refine dl ?_
  refine ⟨_,rfl,n,_,_,_,rfl,rfl,hsq3,aK (j:=0) rfl,_,rfl,n,_,_,_,rfl,rfl,hsq3,aK (j:=1) rfl,c1,c2,_,_,rfl,rfl,dF (ad s3) q1,dF (ad s3) q2,?_,fun p H4 s4 hp => ?_⟩
  ·rw [List.length_map,List.length_map]
   exact Nat.le_trans (Nat.add_le_add hr1 hr2) (by decide)
  refine ⟨p,rfl,⟨_,hp⟩,gD (xs:=r1.map V.int++r2.map V.int) (fun i ys H'=>ys=[]∧H'=H4) ⟨rfl,rfl⟩ (fun i ys H' _ ⟨_,e⟩=>by rw [e]; exact hp) (fun i ys H' hi ⟨e1,_⟩=>by rw [e1]; exact az (by decide)) ?_ ?_⟩
  ·rintro j u ys H' hu' ⟨rfl,rfl⟩
   obtain ⟨y,rfl⟩ : ∃ y:Int,u = .int y:=by
    have:=List.mem_of_getElem? hu'
    rw [← List.map_append] at this
    obtain ⟨y,_,e⟩:=List.mem_map.mp this
    exact ⟨y,e.symm⟩
   exact ⟨_,rfl,y,rfl,_,rfl,dl ⟨rfl,rfl⟩⟩
  rintro ys H5 ⟨rfl,rfl⟩ D2 hD2
  refine ⟨Nat.zero_le _,fun z2 hz2=>⟨.lst [],.lst [],?_,?_,rfl,rfl,by decide,_,rfl,?_⟩⟩
  ·rw [Is]
   exact ⟨D2,_,rfl,SqL.of ((ab hz2 _) _ _ ac),.nil⟩
  ·rw [Is]
   exact ⟨z2,_,rfl,SqL.of ac,.nil⟩
  rw [bU]
  exact dl ⟨_,rfl,((g.trans s3).trans s4).trans ((ab hD2 _).trans (ab hz2 _))⟩
end
end Nw
namespace Nw
open PySem L2 Ord'
section
variable {P:Program} {w:World} {K:PySem.W.Frag} {mg:Str→Option Value} {base:Heap}
def iE (K:PySem.W.Frag):Sp:=fun vs H Q _ => ∃ (a:Addr) (ns:List Int),vs=[.ref a]∧SqL K H a (ns.map V.int)∧ns.length≤63 ∧ ∀ H',Q (.bl true) H'
theorem bm:aR ["_law_script", "_law_head", "_law_sizes", "_law_salts", "_law_one", "_law_other", "_law_there", "_law_far", "_law_middle", "_law_due", "_law_held", "_law_found", "_law_own"] ["_law_script"] (aj dG):=⟨rfl,rfl,rfl,by decide +kernel,rfl,by decide +kernel,by decide +kernel⟩
theorem eP:(["_law_script", "_law_head", "_law_sizes", "_law_salts", "_law_one", "_law_other", "_law_there", "_law_far", "_law_middle", "_law_due", "_law_held", "_law_found", "_law_own", "_law_here", "_law_near"]:List Str).Nodup:=by decide +kernel
theorem eO:(["_law_script", "_law_head", "_law_sizes", "_law_salts", "_law_one", "_law_other", "_law_there", "_law_far", "_law_middle", "_law_due", "_law_held", "_law_found", "_law_own"]:List Str).Nodup:=by decide +kernel
structure Txt (K:PySem.W.Frag) (mg:Str→Option Value) (fJo fWh fAt fBe fDr fRo fPa fSa:Addr) (dJo dWh dAt dBe dDr dRo dPa dSa:FuncData):Prop where
 bl:Bl mg
 gJo:mg "joined_pairs"=some (.ref fJo)
 gWh:mg "_law_whole"=some (.ref fWh)
 gAt:mg "_law_at"=some (.ref fAt)
 gBe:mg "_law_begin"=some (.ref fBe)
 gDr:mg "_law_draw"=some (.ref fDr)
 gRo:mg "_law_some_room"=some (.ref fRo)
 gPa:mg "_law_pairs"=some (.ref fPa)
 gSa:mg "_law_same"=some (.ref fSa)
 FJo:Fun K "joined_pairs" "joined_pairs" dH fJo dJo
 FWh:Fun K "_law_whole" "_law_whole" bM fWh dWh
 FAt:Fun K "_law_at" "_law_at" sAt fAt dAt
 FBe:Fun K "_law_begin" "_law_begin" bO fBe dBe
 FDr:Fun K "_law_draw" "_law_draw" cD fDr dDr
 FRo:Fun K "_law_some_room" "_law_some_room" cC fRo dRo
 FPa:Fun K "_law_pairs" "_law_pairs" bN fPa dPa
 FSa:Fun K "_law_same" "_law_same" cB fSa dSa
 bJo:Binds K dJo ["one", "other"] []
 bWh:Binds K dWh ["_law_found"] []
 bAt:Binds K dAt ["_law_script", "_law_k"] []
 bBe:Binds K dBe ["_law_cell"] []
 bDr:Binds K dDr ["_law_state", "_law_many"] []
 bRo:Binds K dRo ["_law_state", "_law_size", "_law_salt"] []
 bPa:Binds K dPa ["_law_script", "_law_start", "_law_sizes", "_law_salts"] []
 bSa:Binds K dSa ["_law_found", "_law_due"] []
def dup (k:List (List Int)):List (List Int):=match k with
 | [_,m]=>[m,m]
 | _=>[]
theorem mj {fJo fWh fAt fBe fDr fRo fPa fSa f:Addr} {dJo dWh dAt dBe dDr dRo dPa dSa fd:FuncData} (T:Txt K mg fJo fWh fAt fBe fDr fRo fPa fSa dJo dWh dAt dBe dDr dRo dPa dSa) (F:Fun K "law" "law" dG f fd):a9 P w K mg base CX0 4 f fd ["_law_script"] (iE K):=by
 have B:=T.bl
 have GAt:a9 P w K mg base CX0 1 fAt dAt ["_law_script", "_law_k"] (l5 K):=lM B T.FAt
 have GPa:a9 P w K mg base CX0 3 fPa dPa ["_law_script", "_law_start", "_law_sizes", "_law_salts"] (iD K):=jZ B T.FPa T.FAt T.bAt T.gAt T.FBe T.bBe T.gBe T.FDr T.bDr T.gDr T.FRo T.bRo T.gRo
 have GJo:a9 P w K mg base CX0 1 fJo dJo ["one", "other"] (jG K):=kX B T.FJo
 have GSa:a9 P w K mg base CX0 2 fSa dSa ["_law_found", "_law_due"] (jE K):=kU B T.FSa T.FWh T.bWh T.gWh
 refine F.ok bm (fun vs H Q E h => ?_) (fun cdv A outer s H vs Q E hr h => ?_)
 ·obtain ⟨a,ns,rfl,_⟩:=h
  rfl
 obtain ⟨a,ns,rfl,hS,hl,k⟩:=h
 have hu:=kn hr
 have hu4:=Nat.lt_of_le_of_lt (Nat.add_le_add_left (show 4≤60 by decide) _) hu
 have hu40:=Nat.lt_of_le_of_lt (Nat.add_le_add_left (show 40≤60 by decide) _) hu
 have hr1:Room 1 _:=hr.mono (by decide)
 have hr2:Room 2 _:=hr.mono (by decide)
 refine ⟨_,(@ai _ _ _ _ _ (@aD _ _ 1 _ _ _ _ bm.nd rfl (Or.inl rfl) (ar GAt hr1 (by rfl) T.gAt T.FAt.kp T.bAt .nil aV (@aa _ _ _ _ _ (pv 0) (@aa _ _ _ _ _ af ag (by rfl)) (by rfl))) rfl (Or.inl rfl)) (@ai _ _ _ _ _ (@aD _ _ 2 _ _ _ _ bm.nd rfl (Or.inl rfl) (@aN _ _ _ _ (@aa _ _ _ _ _ (@ap _ _ _ _ _ _ _ _ ay (pv 1) af) (@aa _ _ _ _ _ (@ap _ _ _ _ _ _ _ _ ay (@ap _ _ _ _ _ _ _ _ bp (pv 1) af) af) (@aa _ _ _ _ _ (@ap _ _ _ _ _ _ _ _ ay (@ap _ _ _ _ _ _ _ _ bp (pv 1) af) af) ag (by rfl)) (by rfl)) (by rfl))) rfl (Or.inl rfl)) (@ai _ _ _ _ _ (@aD _ _ 3 _ _ _ _ bm.nd rfl (Or.inl rfl) (@aN _ _ _ _ (@aa _ _ _ _ _ (@ap _ _ _ _ _ _ _ _ ay (@ap _ _ _ _ _ _ _ _ bp (pv 1) af) af) (@aa _ _ _ _ _ (@ap _ _ _ _ _ _ _ _ ay (@ap _ _ _ _ _ _ _ _ bp (pv 1) af) af) (@aa _ _ _ _ _ (@ap _ _ _ _ _ _ _ _ ay (@ap _ _ _ _ _ _ _ _ bp (pv 1) af) af) ag (by rfl)) (by rfl)) (by rfl))) rfl (Or.inl rfl)) (@ai _ _ _ _ _ (@aD _ _ 4 _ _ _ _ bm.nd rfl (Or.inl rfl) (ar GPa hr (by rfl) T.gPa T.FPa.kp T.bPa .nil aV (@aa _ _ _ _ _ (pv 0) (@aa _ _ _ _ _ af (@aa _ _ _ _ _ (@cF _ _ _ _ _ _ _ _ _ _ dq (pv 2) du (@dt _ _ _ af)) (@aa _ _ _ _ _ (@cF _ _ _ _ _ _ _ _ _ _ dq (pv 3) du (@dt _ _ _ af)) ag (by rfl)) (by rfl)) (by rfl)) (by rfl))) rfl (Or.inl rfl)) (@ai _ _ _ _ _ (@aD _ _ 5 _ _ _ _ bm.nd rfl (Or.inl rfl) (ar GPa hr (by rfl) T.gPa T.FPa.kp T.bPa .nil aV (@aa _ _ _ _ _ (pv 0) (@aa _ _ _ _ _ af (@aa _ _ _ _ _ (@cF _ _ _ _ _ _ _ _ _ _ dq (pv 2) (@dt _ _ _ af) du) (@aa _ _ _ _ _ (@cF _ _ _ _ _ _ _ _ _ _ dq (pv 3) (@dt _ _ _ af) du) ag (by rfl)) (by rfl)) (by rfl)) (by rfl))) rfl (Or.inl rfl)) (@ai _ _ _ _ _ (@aD _ _ 6 _ _ _ _ bm.nd rfl (Or.inl rfl) (@aN _ _ _ _ ag) rfl (Or.inl rfl)) (@ai _ _ _ _ _ (@cZ _ _ _ _ _ _ _ _ PassesOwn.never rfl (@bC _ _ _ _ (pv 4)) (dM (n:=2) rfl (aO (aw (i:=7) bm.nd rfl (Or.inr rfl)) (aO (aw (i:=8) bm.nd rfl (Or.inr rfl)) cE))) (@aq _ _ _ (@aD _ _ 6 _ _ _ _ bm.nd rfl (Or.inl rfl) (@ap _ _ _ _ _ _ _ _ mi (pv 6) (cG (NX:=["_law_script", "_law_head", "_law_sizes", "_law_salts", "_law_one", "_law_other", "_law_there", "_law_far", "_law_middle", "_law_due", "_law_held", "_law_found", "_law_own"]) (N:=["_law_script", "_law_head", "_law_sizes", "_law_salts", "_law_one", "_law_other", "_law_there", "_law_far", "_law_middle", "_law_due", "_law_held", "_law_found", "_law_own", "_law_here", "_law_near"]) (ms:=[true,true,true,true,true,true,true,true,true,true,true,true,true,false,false]) (ks:=[13,14]) (out:=aj dG) (by exact ⟨rfl,by decide +kernel,by decide +kernel,by decide +kernel,by decide +kernel,by decide +kernel⟩) rfl rfl rfl (@bC _ _ _ _ (pv 5)) (@fX _ _ _ _ (@bZ _ _ _ _ (@aU 13) (@bZ _ _ _ _ (@aU 14) fY))) (by decide) (fun C ex s H=>(dM (n:=2) rfl (aO (aw (i:=13) eP rfl (Or.inl rfl)) (aO (aw (i:=14) eP rfl (Or.inl rfl)) cE)))) (fun C ex s H=>(@ft _ _ _ (@bn _ _ _ _ _ _ _ (nc K) (@mh _ hu) (pv 13) (pv 8) (cw _)))) (fun C ex s H=>(@cu _ _ _ _ _ (@aa _ _ _ _ _ (pv 7) (@aa _ _ _ _ _ (pv 14) ag (by rfl)) (by rfl)))))) rfl (Or.inl rfl))) (by intro _; rfl)) (@ai _ _ _ _ _ (@aD _ _ 9 _ _ _ _ bm.nd rfl (Or.inl rfl) (aP (cp rfl hu4) (by rfl) B.sorted rfl (@aa _ _ _ _ _ (bv (fc rfl hu40) (by rfl) B.set rfl (@aa _ _ _ _ _ (pv 6) ag (by rfl))) ag (by rfl))) rfl (Or.inl rfl)) (@ai _ _ _ _ _ (@aD _ _ 10 _ _ _ _ bm.nd rfl (Or.inl rfl) (@aN _ _ _ _ (@aa _ _ _ _ _ (bv cT (by rfl) B.list PyProof.Rows.boot_list (@aa _ _ _ _ _ (pv 4) ag (by rfl))) (@aa _ _ _ _ _ (bv cT (by rfl) B.list PyProof.Rows.boot_list (@aa _ _ _ _ _ (pv 5) ag (by rfl))) ag (by rfl)) (by rfl))) rfl (Or.inl rfl)) (@ai _ _ _ _ _ (@aD _ _ 11 _ _ _ _ bm.nd rfl (Or.inl rfl) (ar GJo hr1 (by rfl) T.gJo T.FJo.kp T.bJo .nil aV (@aa _ _ _ _ _ (pv 4) (@aa _ _ _ _ _ (pv 5) ag (by rfl)) (by rfl))) rfl (Or.inl rfl)) (@ai _ _ _ _ _ (@dh _ _ _ _ _ _ _ _ (PW.pt (@iJ _ _ _ _ _ _ _ (@cr _ _ _ _ (cq (ar GSa hr2 (by rfl) T.gSa T.FSa.kp T.bSa .nil aV (@aa _ _ _ _ _ (pv 11) (@aa _ _ _ _ _ (pv 9) ag (by rfl)) (by rfl))))) (fq (@bn _ _ _ _ _ _ _ _ (@fz _ hu) (@aN _ _ _ _ (@aa _ _ _ _ _ (pv 4) (@aa _ _ _ _ _ (pv 5) ag (by rfl)) (by rfl))) (pv 10) (cw _))))) (@aq _ _ _ (@aM _ _ _ _ dN)) bo) (@ai _ _ _ _ _ (@fw _ _ _ _ (jT PySem.F.plainAttrs_list PySem.F.slot_list_append PySem.F.type_list_append b7 (pv 11) (@aa _ _ _ _ _ (@cu _ _ _ _ _ (@aa _ _ _ _ _ (@cu _ _ _ _ _ ag) (@aa _ _ _ _ _ (@cu _ _ _ _ _ ag) ag (by rfl)) (by rfl))) ag (by rfl))) (by rfl)) (@ai _ _ _ _ _ (@aD _ _ 12 _ _ _ _ bm.nd rfl (Or.inl rfl) (aP (cp rfl hu4) (by rfl) B.sorted rfl (@aa _ _ _ _ _ (bv (fc rfl hu40) (by rfl) B.set rfl (@aa _ _ _ _ _ (cG (NX:=["_law_script", "_law_head", "_law_sizes", "_law_salts", "_law_one", "_law_other", "_law_there", "_law_far", "_law_middle", "_law_due", "_law_held", "_law_found", "_law_own"]) (N:=["_law_script", "_law_head", "_law_sizes", "_law_salts", "_law_one", "_law_other", "_law_there", "_law_far", "_law_middle", "_law_due", "_law_held", "_law_found", "_law_own"]) (ms:=[true,true,true,true,true,true,true,false,false,true,true,true,true]) (ks:=[7,8]) (out:=aj dG) (by exact ⟨rfl,by decide +kernel,by decide +kernel,by decide +kernel,by decide +kernel,by decide +kernel⟩) rfl rfl rfl (@bC _ _ _ _ (pv 4)) (@fX _ _ _ _ (@bZ _ _ _ _ (@aU 7) (@bZ _ _ _ _ (@aU 8) fY))) (by decide) (fun C ex s H=>(dM (n:=2) rfl (aO (aw (i:=7) eO rfl (Or.inl rfl)) (aO (aw (i:=8) eO rfl (Or.inl rfl)) cE)))) (fun C ex s H=>fu) (fun C ex s H=>(@cu _ _ _ _ _ (@aa _ _ _ _ _ (pv 8) (@aa _ _ _ _ _ (pv 8) ag (by rfl)) (by rfl))))) ag (by rfl))) ag (by rfl))) rfl (Or.inl rfl)) (@ai _ _ _ _ _ (@dh _ _ _ _ _ _ _ _ (PW.pt (@iJ _ _ _ _ _ _ _ (@cr _ _ _ _ (cq (ar GSa hr2 (by rfl) T.gSa T.FSa.kp T.bSa .nil aV (@aa _ _ _ _ _ (ar GJo hr1 (by rfl) T.gJo T.FJo.kp T.bJo .nil aV (@aa _ _ _ _ _ (pv 4) (@aa _ _ _ _ _ (pv 5) ag (by rfl)) (by rfl))) (@aa _ _ _ _ _ (pv 9) ag (by rfl)) (by rfl))))) (fq (@cr _ _ _ _ (cq (ar GSa hr2 (by rfl) T.gSa T.FSa.kp T.bSa .nil aV (@aa _ _ _ _ _ (ar GJo hr1 (by rfl) T.gJo T.FJo.kp T.bJo .nil aV (@aa _ _ _ _ _ (pv 4) (@aa _ _ _ _ _ (pv 12) ag (by rfl)) (by rfl))) (@aa _ _ _ _ _ (@a8 _ _ _ _ _ _ (cf K) aE (pv 10) af (fun _ _=>rfl)) ag (by rfl)) (by rfl)))))))) (@aq _ _ _ (@aM _ _ _ _ dN)) bo) (@aq _ _ _ (@aM _ _ _ _ (@jU _ _ _ _ _ _ _ (ar GSa hr2 (by rfl) T.gSa T.FSa.kp T.bSa .nil aV (@aa _ _ _ _ _ (ar GJo hr1 (by rfl) T.gJo T.FJo.kp T.bJo .nil aV (@aa _ _ _ _ _ (@aN _ _ _ _ ag) (@aa _ _ _ _ _ (pv 5) ag (by rfl)) (by rfl))) (@aa _ _ _ _ _ (@aN _ _ _ _ ag) ag (by rfl)) (by rfl))) (@jS _ _ _ _ _ (ar GSa hr2 (by rfl) T.gSa T.FSa.kp T.bSa .nil aV (@aa _ _ _ _ _ (ar GJo hr1 (by rfl) T.gJo T.FJo.kp T.bJo .nil aV (@aa _ _ _ _ _ (pv 4) (@aa _ _ _ _ _ (@aN _ _ _ _ ag) ag (by rfl)) (by rfl))) (@aa _ _ _ _ _ (@aN _ _ _ _ ag) ag (by rfl)) (by rfl))))))))))))))))))))),?_⟩
 refine ⟨_,rfl,a,ns,0,rfl,hS,hl,by decide,by decide,fun hd H1 s1 => ?_⟩
 have m4 : ∀ x:Int,∃ n:Nat,x % 4=n∧n≤3:=fun x=>⟨(x % 4).toNat,by have:=Int.emod_nonneg x (b:=4) (by decide); omega,by have:=Int.emod_lt_of_pos x (b:=4) (by decide); omega⟩
 have m35 : ∀ x:Int,0≤x % 35∧x % 35≤34:=fun x=>⟨Int.emod_nonneg _ (by decide),by have:=Int.emod_lt_of_pos x (b:=35) (by decide); omega⟩
 obtain ⟨n0,f0,b0⟩:=m4 hd
 obtain ⟨n1,f1,b1⟩:=m4 (hd / 4)
 obtain ⟨n2,f2,b2⟩:=m4 (hd / 16)
 have c0:=m35 (hd / 64)
 have c1:=m35 (hd / 6208)
 have c2:=m35 (hd / 602176)
 refine ⟨_,rfl,_,_,rfl,rfl,(by show (0:Int) < 4; decide),_,rfl,_,_,rfl,rfl,⟨by decide,by decide⟩,_,_,rfl,rfl,(by show (0:Int) < 4; decide),_,rfl,_,_,rfl,rfl,⟨by decide,by decide⟩,_,_,rfl,rfl,(by show (0:Int) < 4; decide),(by show 3≤sizeLine; decide),fun zs hzs => ?_⟩
 dsimp only
 rw [f0,f1,f2]
 have hz1:upd H1 zs (.lst [V.int n0,V.int n1,V.int n2]) zs=some (.lst [V.int n0,V.int n1,V.int n2]):=ac
 have s2:=s1.trans (ab hzs (.lst [V.int n0,V.int n1,V.int n2]))
 generalize upd H1 zs (.lst [V.int n0,V.int n1,V.int n2])=H2 at hz1 s2 ⊢
 refine ⟨_,rfl,_,_,rfl,rfl,⟨by decide,by decide⟩,_,_,rfl,rfl,(by show (0:Int) < 35; decide),_,rfl,_,_,rfl,rfl,⟨by decide,by decide⟩,_,_,rfl,rfl,(by show (0:Int) < 35; decide),_,rfl,_,_,rfl,rfl,⟨by decide,by decide⟩,_,_,rfl,rfl,(by show (0:Int) < 35; decide),(by show 3≤sizeLine; decide),fun ls hls => ?_⟩
 dsimp only
 generalize hd / 64 % 35=l0 at c0 ⊢
 generalize hd / 6208 % 35=l1 at c1 ⊢
 generalize hd / 602176 % 35=l2 at c2 ⊢
 have hl3:upd H2 ls (.lst [V.int l0,V.int l1,V.int l2]) ls=some (.lst [V.int l0,V.int l1,V.int l2]):=ac
 have hz3:upd H2 ls (.lst [V.int l0,V.int l1,V.int l2]) zs=some (.lst [V.int n0,V.int n1,V.int n2]):=(ab hls _) _ _ hz1
 have s3:=s2.trans (ab hls (.lst [V.int l0,V.int l1,V.int l2]))
 generalize upd H2 ls (.lst [V.int l0,V.int l1,V.int l2])=H3 at hl3 hz3 s3 ⊢
 have cutA : ∀ x y z:V,eC [x,y,z] none (some 2)=[x,y]:=fun _ _ _=>rfl
 have cutB : ∀ x y z:V,eC [x,y,z] (some 1) none=[y,z]:=fun _ _ _=>rfl
 refine ⟨_,rfl,_,rfl,2,rfl,zs,_,rfl,SqL.of hz3,fun p1 hp1=>⟨_,rfl,2,rfl,ls,_,rfl,SqL.of ((ab hp1 _) _ _ hl3),fun p2 hp2 => ?_⟩⟩
 have t1:=(ab hp1 (.lst (eC [V.int n0,V.int n1,V.int n2] none (some 2)))).trans (ab hp2 (.lst (eC [V.int l0,V.int l1,V.int l2] none (some 2))))
 refine ⟨a,p1,p2,ns,1,n0,n1,l0,l1,rfl,(s3.trans t1).seq hS,hl,by decide,by decide,(ab hp2 _) _ _ (by rw [ac,cutA]),by rw [ac,cutA],b0,b1,c0.1,c0.2,c1.1,c1.2,fun po ps1 ks1 H4 s4 np1 h4 i4 pr1 ln1 => ?_⟩
 have s34:=t1.trans s4
 have sa4:=s3.trans s34
 refine ⟨_,rfl,_,rfl,1,rfl,zs,_,rfl,SqL.of (s34 _ _ hz3),fun p3 hp3=>⟨_,rfl,1,rfl,ls,_,rfl,SqL.of ((ab hp3 _) _ _ (s34 _ _ hl3)),fun p4 hp4 => ?_⟩⟩
 have t2:=(ab hp3 (.lst (eC [V.int n0,V.int n1,V.int n2] (some 1) none))).trans (ab hp4 (.lst (eC [V.int l0,V.int l1,V.int l2] (some 1) none)))
 refine ⟨a,p3,p4,ns,16,n1,n2,l1,l2,rfl,(sa4.trans t2).seq hS,hl,by decide,by decide,(ab hp4 _) _ _ (by rw [ac,cutB]),by rw [ac,cutB],b1,b2,c1.1,c1.2,c2.1,c2.2,fun pt ps2 ks2 H5 s5 np2 h5 i5 pr2 ln2 => ?_⟩
 have s45:=t2.trans s5
 have sa5:=sa4.trans s45
 have ho5:=s45 _ _ h4
 have io5:=am (ad s45) i4
 have tw1:=pr1.two
 have tw2:=pr2.two
 refine ⟨by decide,fun t0 ht0 => ?_⟩
 have s6:=ab ht0 (.lst [])
 refine ⟨_,rfl,po,rfl,⟨_,SqL.of (s6 _ _ ho5)⟩,bS (xs:=ps1) (fun i σ H' => ∃ (v7 v8:Option V) (tt:Addr) (ys:List V) (ks:List (List (List Int))),σ=[some (.ref a),some (.int hd),some (.ref zs),some (.ref ls),some (.ref po),some (.ref pt),some (.ref tt),v7,v8,none,none,none,none]∧Same H5 H'∧H' tt=some (.lst ys)∧Iss K H' (ks.map dP) ys∧(∀ x y,[x,y]∈ks ↔ ∃ m,[x,m]∈ks1.take i∧[m,y]∈ks2)∧(∀ k∈ks,Two k)∧ks.length≤i * 30) ?init ?seq ?step ?done⟩
 case init=>exact ⟨none,none,t0,[],[],rfl,s6,ac,Iss.nil,fun x y=>by simp,fun k hk=>by simp at hk,by simp⟩
 case seq=>rintro i σ H' _ ⟨_,_,_,_,_,_,g,_⟩; exact SqL.of (g _ _ ho5)
 case step =>
  rintro i x σ H' hx ⟨v7,v8,tt,ys,ks,rfl,g1,g2,g3,g4,g5,g6⟩
  obtain ⟨k,hk,hkx⟩:=bh (am (ad g1) io5) hx
  obtain ⟨x0,m,rfl,lx0,lm⟩:=tw1 k (List.mem_of_getElem? hk)
  obtain ⟨n,w1,w2,rfl,hsq,ix,im⟩:=dc hkx
  have htake:ks1.take (i+1)=ks1.take i++[[x0,m]]:=by rw [List.take_add_one,hk]; rfl
  have hlt:i < ks1.length:=(List.getElem?_eq_some_iff.mp hk).1
  refine ⟨_,_,rfl,hsq,rfl,_,_,rfl,_,_,rfl,rfl,?_⟩
  refine ⟨_,rfl,_,rfl,pt,rfl,⟨_,SqL.of (g1 _ _ h5)⟩,eZ (xs:=ps2) (fun j zs' H2=>Same H' H2∧Iss K H2 (((av (ks2.take j) m).map fun y=>[x0,y]).map dP) zs') ⟨Same.refl _,Iss.nil⟩ (fun j zs' H2 _ ⟨e,_⟩=>SqL.of (e _ _ (g1 _ _ h5))) (fun j zs' H2 hj ⟨_,e⟩ => ?_) ?_ ?_⟩
  ·have e1:=e.length
   rw [List.length_map,List.length_map] at e1
   have:=bK (ks2.take j) m
   rw [List.length_take] at this
   exact az (by omega)
  ·rintro j u zs' H2 hu' ⟨e1,e2⟩
   obtain ⟨k2,hk2,hkx2⟩:=bh (am (ad (g1.trans e1)) i5) hu'
   obtain ⟨h,y,rfl,lh,ly⟩:=tw2 k2 (List.mem_of_getElem? hk2)
   obtain ⟨n2',u1,u2,rfl,hsq2,ih,iy⟩:=dc hkx2
   have htake2:ks2.take (j+1)=ks2.take j++[[h,y]]:=by rw [List.take_add_one,hk2]; rfl
   refine ⟨_,_,rfl,hsq2,rfl,_,_,rfl,_,_,rfl,rfl,_,rfl,_,rfl,dR h,dR m,ih,aA (ad e1) im,rfl,rfl,?_,_,rfl,?_⟩
   ·have:=lU h; omega
   rw [nz]
   refine mt (fun c => ?_) (fun c => ?_)
   ·have hm:h=m:=of_decide_eq_true c
    refine ⟨_,rfl,_,rfl,(by show 2≤sizeLine; decide),fun n3 hn3=>⟨e1.trans (ab hn3 _),?_⟩⟩
    have t:=ad (ab hn3 (.tup [w1,u2]))
    rw [htake2,aB,if_pos hm,List.map_append,List.map_append]
    exact Iss.append (am t e2) (Iss.cons (cQ (SqT.of ac) (aA t (aA (ad e1) ix)) (aA t iy)) Iss.nil)
   ·have hm:h≠m:=fun z=>c (by rw [decide_eq_true z])
    rw [htake2,aB,if_neg hm]
    exact ⟨e1,e2⟩
  ·rintro zs' H2 ⟨e1,e2⟩ D hD
   have lp2:ps2.length=ks2.length:=by rw [i5.length,List.length_map]
   rw [lp2,List.take_of_length_le (Nat.le_refl _)] at e2
   have lz:zs'.length=(av ks2 m).length:=by rw [e2.length,List.length_map,List.length_map]
   have lys:ys.length=ks.length:=by rw [g3.length,List.length_map]
   have hbl:=bK ks2 m
   refine ⟨tt,D,ys,zs',rfl,rfl,(ab hD _) _ _ (e1 _ _ g2),ac,?_,fun p hp => ?_⟩
   ·rw [lys,lz]
    exact Nat.le_trans (show _≤2000 by omega) (by decide)
   have s7:=(e1.trans (ab hD (.lst zs'))).trans (ab hp (.lst (ys++zs')))
   have s8:=(ab hD (.lst zs')).trans (ab hp (.lst (ys++zs')))
   refine ⟨_,_,p,ys++zs',ks++(av ks2 m).map (fun y=>[x0,y]),rfl,g1.trans s7,ac,?_,fun x y => ?_,fun k hk => ?_,?_⟩
   ·rw [List.map_append]
    exact Iss.append (am (ad s7) g3) (am (ad s8) e2)
   ·rw [List.mem_append,g4,htake]
    constructor
    ·rintro (⟨m',z1,z2⟩ | z)
     ·exact ⟨m',List.mem_append_left _ z1,z2⟩
     ·obtain ⟨y',hy',e⟩:=List.mem_map.mp z
      simp at e
      exact ⟨m,by rw [← e.1]; simp,by rw [← e.2]; exact bi.mp hy'⟩
    ·rintro ⟨m',z1,z2⟩
     rcases List.mem_append.mp z1 with z1 | z1
     ·exact .inl ⟨m',z1,z2⟩
     ·have z3:x=x0∧m'=m:=by simpa using z1
      rw [z3.2] at z2
      exact .inr (List.mem_map.mpr ⟨y,bi.mpr z2,by rw [z3.1]⟩)
   ·rcases List.mem_append.mp hk with hk | hk
    ·exact g5 k hk
    ·obtain ⟨y,hy,rfl⟩:=List.mem_map.mp hk
     obtain ⟨_,_,e,_,ly⟩:=tw2 _ (bi.mp hy)
     simp at e
     exact ⟨x0,y,rfl,lx0,by rw [e.2]; exact ly⟩
   ·rw [List.length_append,List.length_map]; omega
 case done =>
  rintro σ H6 ⟨v7,v8,tt,ys,ks,rfl,g1,g2,g3,g4,g5,g6⟩
  have lp1:ps1.length=ks1.length:=by rw [i4.length,List.length_map]
  rw [lp1] at g4 g6
  rw [List.take_of_length_le (Nat.le_refl _)] at g4
  refine ⟨_,rfl,tt,ys,ks,rfl,SqL.of g2,g3,by omega,fun l1' bs hl1 nd lb mem is1 => ?_⟩
  have s7:=ab hl1 (cy P w l1' bs)
  have two1 : ∀ q∈bs,Two q.1:=fun q hq=>g5 _ ((mem q.1).mp (List.mem_map.mpr ⟨q,hq,rfl⟩))
  refine ⟨l1',bs,rfl,ac,nd,by omega,fun q hq=>⟨fk (two1 q hq),bI (ad s7) (is1 q hq)⟩,fun ld od kd hld id7 pd ud => ?_⟩
  have hld':upd H6 l1' (cy P w l1' bs) ld=none:=hld
  have id7':Iss K (upd H6 l1' (cy P w l1' bs)) (kd.map dP) od:=id7
  have s67:=s7.trans (ab hld' (.lst od))
  have id8:=am (ad (ab hld' (.lst od))) id7'
  have hd7:upd (upd H6 l1' (cy P w l1' bs)) ld (.lst od) ld=some (.lst od):=ac
  have prD:Prs kd:=⟨fun k hk=>by
   obtain ⟨q,hq,rfl⟩:=List.mem_map.mp (pd.mem_iff.mp hk)
   exact two1 q hq,pd.nodup_iff.mpr nd,ud⟩
  have memD : ∀ x y,[x,y]∈kd ↔ ∃ m,[x,m]∈ks1∧[m,y]∈ks2:=fun x y=>by rw [pd.mem_iff,mem,g4]
  have lD:kd.length≤900:=by rw [pd.length_eq,List.length_map]; omega
  show lY _ _ _ _ (upd (upd H6 l1' (cy P w l1' bs)) ld (.lst od))
  generalize upd (upd H6 l1' (cy P w l1' bs)) ld (.lst od)=H7 at s67 id8 hd7 ⊢
  have s57:=g1.trans s67
  refine ⟨_,rfl,po,ps1,rfl,.inl (SqL.of (s57 _ _ ho5)),fun c1' hc1=>⟨_,rfl,pt,ps2,rfl,.inl (SqL.of ((ab hc1 _) _ _ (s57 _ _ h5))),fun c2' hc2=>⟨(by show 2≤sizeLine; decide),fun hh hhh => ?_⟩⟩⟩
  have s78:=((ab hc1 (.lst ps1)).trans (ab hc2 (.lst ps2))).trans (ab hhh (.lst [V.ref c1',V.ref c2']))
  have h8a:upd (upd (upd H7 c1' (.lst ps1)) c2' (.lst ps2)) hh (.lst [V.ref c1',V.ref c2']) c1'=some (.lst ps1):=((ab hc2 _).trans (ab hhh _)) _ _ ac
  have h8b:upd (upd (upd H7 c1' (.lst ps1)) c2' (.lst ps2)) hh (.lst [V.ref c1',V.ref c2']) c2'=some (.lst ps2):=(ab hhh _) _ _ ac
  have h8c:upd (upd (upd H7 c1' (.lst ps1)) c2' (.lst ps2)) hh (.lst [V.ref c1',V.ref c2']) hh=some (.lst [V.ref c1',V.ref c2']):=ac
  generalize upd (upd (upd H7 c1' (.lst ps1)) c2' (.lst ps2)) hh (.lst [V.ref c1',V.ref c2'])=H8 at s78 h8a h8b h8c ⊢
  have s58:=s57.trans s78
  have pq : ∀ {a b:List (List (List Int))},Prs a→Prs b→(∀ x y,[x,y]∈a↔[x,y]∈b)→a=b:=fun {a b} p q e=>df cN p.up q.up fun x=>⟨fun hx=>by
   obtain ⟨r1,r2,rfl,_⟩:=p.two x hx
   exact (e r1 r2).mp hx,fun hx=>by
   obtain ⟨r1,r2,rfl,_⟩:=q.two x hx
   exact (e r1 r2).mpr hx⟩
  refine ⟨_,rfl,_,rfl,po,pt,ps1,ps2,ks1,ks2,rfl,SqL.of (s58 _ _ ho5),am (ad s58) io5,SqL.of (s58 _ _ h5),am (ad s58) i5,tw1,tw2,ln1,ln2,fun pf outf kf H9 s9 nf hf iF pF mF lF => ?_⟩
  have ekf:kf=kd:=pq pF prD fun x y=>by rw [mF,memD]
  subst ekf
  have s79:=s78.trans s9
  refine ⟨_,rfl,_,rfl,pf,ld,outf,od,kf,rfl,hf,iF,SqL.of (s79 _ _ hd7),am (ad s79) id8,pF.two,lF,fun H10 s10=>⟨_,rfl,?_⟩⟩
  have s8t:=s9.trans s10
  have isP2 : ∀ {H:Hp} {q1 q2 z:Addr},H q1=some (.lst ps1)→H q2=some (.lst ps2)→H z=some (.lst [V.ref q1,V.ref q2])→Iss K H (ks1.map dP) ps1→Iss K H (ks2.map dP) ps2→Is K H (.lst [.lst (ks1.map dP),.lst (ks2.map dP)]) (.ref z):=fun {H q1 q2 z} a1 a2 a3 a4 a5=>by
   rw [Is]
   refine ⟨z,_,rfl,SqL.of a3,Iss.cons ?_ (Iss.cons ?_ Iss.nil)⟩
   ·rw [Is]; exact ⟨q1,_,rfl,SqL.of a1,a4⟩
   ·rw [Is]; exact ⟨q2,_,rfl,SqL.of a2,a5⟩
  refine dl ⟨_,rfl,_,rfl,(by show 2≤sizeLine; decide),fun z hz=>⟨_,rfl,.lst [.lst (ks1.map dP),.lst (ks2.map dP)],.lst [.lst (ks1.map dP),.lst (ks2.map dP)],?_,?_,rfl,rfl,?_,_,rfl,?_⟩⟩
  ·have u:=(s58.trans s8t).trans (ab hz (.lst [V.ref po,V.ref pt]))
   exact isP2 (u _ _ ho5) (u _ _ h5) ac (am (ad u) io5) (am (ad u) i5)
  ·have u:=s8t.trans (ab hz (.lst [V.ref po,V.ref pt]))
   have v:=s58.trans u
   exact isP2 (u _ _ h8a) (u _ _ h8b) (u _ _ h8c) (am (ad v) io5) (am (ad v) i5)
  ·have d1:=dA ks1
   have d2:=dA ks2
   simp only [dep,cg]
   omega
  rw [bU]
  refine dl ?_
  have s10':=s10.trans (ab hz (.lst [V.ref po,V.ref pt]))
  generalize upd H10 z (.lst [V.ref po,V.ref pt])=H11 at s10' ⊢
  have hf11:=s10' _ _ hf
  refine ⟨_,rfl,.inl ⟨rfl,_,SqL.of hf11⟩,by decide,fun e1 he1=>⟨by decide,fun e2 he2=>⟨(by show 2≤sizeLine; decide),fun e3 he3 => ?_⟩⟩⟩
  have t14:=((ab he1 (.tup [])).trans (ab he2 (.tup []))).trans (ab he3 (.tup [V.ref e1,V.ref e2]))
  have lof:outf.length=kf.length:=by rw [iF.length,List.length_map]
  refine ⟨pf,_,_,rfl,rfl,t14 _ _ hf11,?_,?_⟩
  ·rw [lof]; exact az (by omega)
  have s815:Same H8 (upd (upd (upd (upd H11 e1 (.tup [])) e2 (.tup [])) e3 (.tup [V.ref e1,V.ref e2])) pf (.lst (outf++[V.ref e3]))):=fun b o e=>by
   rw [ae (al e nf)]
   exact t14 _ _ (s10' _ _ (s9 _ _ e))
  generalize upd (upd (upd (upd H11 e1 (.tup [])) e2 (.tup [])) e3 (.tup [V.ref e1,V.ref e2])) pf (.lst (outf++[V.ref e3]))=H15 at s815 ⊢
  have s515:=s58.trans s815
  have ho15:=s515 _ _ ho5
  have io15:=am (ad s515) io5
  refine ⟨_,rfl,po,rfl,⟨_,SqL.of ho15⟩,eZ (xs:=ps1) (fun j zs' H2=>Same H15 H2∧Iss K H2 (((ks1.take j).map dup).map dP) zs') ⟨Same.refl _,Iss.nil⟩ (fun j zs' H2 _ ⟨e,_⟩=>SqL.of (e _ _ ho15)) (fun j zs' H2 hj ⟨_,e⟩ => ?_) ?_ ?_⟩
  ·have e1:=e.length
   rw [List.length_map,List.length_map,List.length_take] at e1
   exact az (by omega)
  ·rintro j u zs' H2 hu' ⟨q1,q2⟩
   obtain ⟨k2,hk2,hkx2⟩:=bh (am (ad q1) io15) hu'
   obtain ⟨h,y,rfl,lh,ly⟩:=tw1 k2 (List.mem_of_getElem? hk2)
   obtain ⟨n2',u1,u2,rfl,hsq2,ih,iy⟩:=dc hkx2
   have htake2:ks1.take (j+1)=ks1.take j++[[h,y]]:=by rw [List.take_add_one,hk2]; rfl
   refine ⟨_,_,rfl,hsq2,rfl,_,_,rfl,_,_,rfl,rfl,_,rfl,_,rfl,(by show 2≤sizeLine; decide),fun n3 hn3=>⟨q1.trans (ab hn3 _),?_⟩⟩
   have t:=ad (ab hn3 (.tup [u2,u2]))
   rw [htake2,List.map_append,List.map_append]
   exact Iss.append (am t q2) (Iss.cons (cQ (SqT.of ac) (aA t iy) (aA t iy)) Iss.nil)
  rintro zs' H16 ⟨q1,q2⟩ D hD
  rw [lp1,List.take_of_length_le (Nat.le_refl _)] at q2
  have sD:=ab hD (.lst zs')
  have twd : ∀ k∈ks1.map dup,Two k:=fun k hk=>by
   obtain ⟨k0,hk0,rfl⟩:=List.mem_map.mp hk
   obtain ⟨h,y,rfl,lh,ly⟩:=tw1 k0 hk0
   exact ⟨y,y,rfl,ly,ly⟩
  refine ⟨D,zs',ks1.map dup,rfl,SqL.of ac,am (ad sD) q2,by rw [List.length_map]; omega,fun l2' bs2 hl2' nd2 lb2 mem2 is2 => ?_⟩
  rw [List.length_map] at lb2
  have s17:=ab hl2' (cy P w l2' bs2)
  have two2 : ∀ q∈bs2,Two q.1:=fun q hq=>twd _ ((mem2 q.1).mp (List.mem_map.mpr ⟨q,hq,rfl⟩))
  refine ⟨l2',bs2,rfl,ac,nd2,by omega,fun q hq=>⟨fk (two2 q hq),bI (ad s17) (is2 q hq)⟩,fun lo oo ko hlo io17 po2 uo => ?_⟩
  have hlo':upd (upd H16 D (.lst zs')) l2' (cy P w l2' bs2) lo=none:=hlo
  have io17':Iss K (upd (upd H16 D (.lst zs')) l2' (cy P w l2' bs2)) (ko.map dP) oo:=io17
  have s18:=((q1.trans sD).trans s17).trans (ab hlo' (.lst oo))
  have io18:=am (ad (ab hlo' (.lst oo))) io17'
  have ho18:upd (upd (upd H16 D (.lst zs')) l2' (cy P w l2' bs2)) lo (.lst oo) lo=some (.lst oo):=ac
  have prO:Prs ko:=⟨fun k hk=>by
   obtain ⟨q,hq,rfl⟩:=List.mem_map.mp (po2.mem_iff.mp hk)
   exact two2 q hq,po2.nodup_iff.mpr nd2,uo⟩
  have memO : ∀ x y,[x,y]∈ko↔x=y ∧ ∃ h,[h,x]∈ks1:=fun x y=>by
   rw [po2.mem_iff,mem2,List.mem_map]
   constructor
   ·rintro ⟨k0,hk0,e⟩
    obtain ⟨h,m,rfl,_,_⟩:=tw1 k0 hk0
    simp [dup] at e
    obtain ⟨rfl,rfl⟩:=e
    exact ⟨rfl,h,hk0⟩
   ·rintro ⟨rfl,h,hk0⟩
    exact ⟨[h,x],hk0,rfl⟩
  have lO:ko.length≤30:=by rw [po2.length_eq,List.length_map]; omega
  show lY _ _ _ _ (upd (upd (upd H16 D (.lst zs')) l2' (cy P w l2' bs2)) lo (.lst oo))
  generalize upd (upd (upd H16 D (.lst zs')) l2' (cy P w l2' bs2)) lo (.lst oo)=H18 at s18 io18 ho18 ⊢
  have s818:=s815.trans s18
  have s518:=s58.trans s818
  refine ⟨_,rfl,_,rfl,po,pt,ps1,ps2,ks1,ks2,rfl,SqL.of (s518 _ _ ho5),am (ad s518) io5,SqL.of (s518 _ _ h5),am (ad s518) i5,tw1,tw2,ln1,ln2,fun pg og kg H19 s19 ng hg iG pG mG lG => ?_⟩
  have ekg:kg=kf:=pq pG prD fun x y=>by rw [mG,memD]
  subst ekg
  have s719:=(s78.trans s818).trans s19
  refine ⟨_,rfl,pg,ld,og,od,kg,rfl,hg,iG,SqL.of (s719 _ _ hd7),am (ad s719) id8,pG.two,lG,fun H20 s20=>⟨_,rfl,?_⟩⟩
  have s1820:=s19.trans s20
  have s520:=s518.trans s1820
  refine dl ⟨_,rfl,_,rfl,po,lo,ps1,oo,ks1,ko,rfl,SqL.of (s520 _ _ ho5),am (ad s520) io5,SqL.of (s1820 _ _ ho18),am (ad s1820) io18,tw1,prO.two,ln1,lO,fun ph oh kh H21 s21 nh hh21 iH pH mH lH => ?_⟩
  have ekh:kh=ks1:=pq pH pr1 fun x y=>by
   rw [mH]
   constructor
   ·rintro ⟨m,z1,z2⟩
    have:=(memO m y).mp z2
    rw [← this.1]; exact z1
   ·intro z
    exact ⟨y,z,(memO y y).mpr ⟨rfl,x,z⟩⟩
  subst ekh
  have s821:=(s818.trans s1820).trans s21
  have s521:=s58.trans s821
  refine ⟨_,rfl,hh,_,_,_,rfl,rfl,SqL.of (s821 _ _ h8c),aK (j:=0) rfl,ph,c1',oh,ps1,kh,rfl,hh21,iH,SqL.of (s821 _ _ h8a),am (ad s521) io5,pH.two,by omega,fun H22 s22=>⟨_,rfl,dl ?_⟩⟩
  have s522:=s521.trans s22
  have nil_of : ∀ {ks:List (List (List Int))},Prs ks→(∀ x y,[x,y]∉ks)→ks=[]:=fun {ks} p e=>List.eq_nil_iff_forall_not_mem.mpr fun k hk=>by
   obtain ⟨x,y,rfl,_⟩:=p.two k hk
   exact e x y hk
  refine ⟨by decide,fun z1 hz1 => ?_⟩
  have u1:=s522.trans (ab hz1 (.lst []))
  refine ⟨_,rfl,z1,pt,[],ps2,[],ks2,rfl,SqL.of ac,Iss.nil,SqL.of (u1 _ _ h5),am (ad u1) i5,fun k hk=>by simp at hk,tw2,by decide,ln2,fun p5 o5 k5 H23 s23 n5 h23 i23 p23 m23 l23=>⟨by decide,fun z2 hz2 => ?_⟩⟩
  have ek5:k5=[]:=nil_of p23 fun x y z=>by
   obtain ⟨m,z1,_⟩:=(m23 x y).mp z
   simp at z1
  subst ek5
  have v1:=ab hz2 (.lst [])
  refine ⟨p5,z2,o5,[],[],rfl,v1 _ _ h23,am (ad v1) i23,SqL.of ac,Iss.nil,fun k hk=>by simp at hk,by decide,fun H24 s24 => ?_⟩
  have u2:=((u1.trans s23).trans v1).trans s24
  refine ⟨_,rfl,?_⟩
  rw [if_pos rfl]
  refine ⟨_,rfl,by decide,fun z3 hz3 => ?_⟩
  have u3:=u2.trans (ab hz3 (.lst []))
  refine ⟨po,z3,ps1,[],kh,[],rfl,SqL.of (u3 _ _ ho5),am (ad u3) io5,SqL.of ac,Iss.nil,tw1,fun k hk=>by simp at hk,ln1,by decide,fun p6 o6 k6 H25 s25 n6 h25 i25 p25 m25 l25=>⟨by decide,fun z4 hz4 => ?_⟩⟩
  have ek6:k6=[]:=nil_of p25 fun x y z=>by
   obtain ⟨m,_,z1⟩:=(m25 x y).mp z
   simp at z1
  subst ek6
  have v2:=ab hz4 (.lst [])
  exact ⟨p6,z4,o6,[],[],rfl,v2 _ _ h25,am (ad v2) i25,SqL.of ac,Iss.nil,fun k hk=>by simp at hk,by decide,fun H26 _=>k H26⟩
end
end Nw
namespace Nw
open PySem L2
theorem oy {l:PySem.W.OpenLaw} {w:World} {K:PySem.W.Frag} {h:Heap} {mg:Str→Option Value} {fa  fJo fWh fAt fBe fDr fRo fPa fSa fL:Addr} {odJo anJo odWh anWh odAt anAt odBe anBe odDr anDr odRo anRo odPa anPa odSa anSa odL anL:Option Addr} {slJo slWh slAt slBe slDr slRo slPa slSa slL:Array (Option Value)} {ocJo kVJo dcJo pmJo cdJo ctJo ocWh kVWh dcWh pmWh cdWh ctWh ocAt kVAt dcAt pmAt cdAt ctAt ocBe kVBe dcBe pmBe cdBe ctBe ocDr kVDr dcDr pmDr cdDr ctDr ocRo kVRo dcRo pmRo cdRo ctRo ocPa kVPa dcPa pmPa cdPa ctPa ocSa kVSa dcSa pmSa cdSa ctSa ocL kVL dcL pmL cdL ctL:Value}  (X:K.In h) (G:h.Ns mainGlobals mg) (hfa:mg "law"=some (.ref fa))
  (aJo:PySem.W.nsIn K mainGlobals "joined_pairs"=some (some (.ref fJo)))
  (lJo:K.lookup fJo=some ⟨ocJo,odJo,.func (PySem.W.fnOf "joined_pairs" "joined_pairs" (aI dH) (aF dH) (aj dH) .none kVJo dcJo pmJo anJo cdJo ctJo),slJo⟩)
  (cJo:PySem.W.codeIn K cdJo "joined_pairs"=true)
  (kJo:PySem.W.keepIn K (.ref fJo)=true)
  (aWh:PySem.W.nsIn K mainGlobals "_law_whole"=some (some (.ref fWh)))
  (lWh:K.lookup fWh=some ⟨ocWh,odWh,.func (PySem.W.fnOf "_law_whole" "_law_whole" (aI bM) (aF bM) (aj bM) .none kVWh dcWh pmWh anWh cdWh ctWh),slWh⟩)
  (cWh:PySem.W.codeIn K cdWh "_law_whole"=true)
  (kWh:PySem.W.keepIn K (.ref fWh)=true)
  (aAt:PySem.W.nsIn K mainGlobals "_law_at"=some (some (.ref fAt)))
  (lAt:K.lookup fAt=some ⟨ocAt,odAt,.func (PySem.W.fnOf "_law_at" "_law_at" (aI sAt) (aF sAt) (aj sAt) .none kVAt dcAt pmAt anAt cdAt ctAt),slAt⟩)
  (cAt:PySem.W.codeIn K cdAt "_law_at"=true)
  (kAt:PySem.W.keepIn K (.ref fAt)=true)
  (aBe:PySem.W.nsIn K mainGlobals "_law_begin"=some (some (.ref fBe)))
  (lBe:K.lookup fBe=some ⟨ocBe,odBe,.func (PySem.W.fnOf "_law_begin" "_law_begin" (aI bO) (aF bO) (aj bO) .none kVBe dcBe pmBe anBe cdBe ctBe),slBe⟩)
  (cBe:PySem.W.codeIn K cdBe "_law_begin"=true)
  (kBe:PySem.W.keepIn K (.ref fBe)=true)
  (aDr:PySem.W.nsIn K mainGlobals "_law_draw"=some (some (.ref fDr)))
  (lDr:K.lookup fDr=some ⟨ocDr,odDr,.func (PySem.W.fnOf "_law_draw" "_law_draw" (aI cD) (aF cD) (aj cD) .none kVDr dcDr pmDr anDr cdDr ctDr),slDr⟩)
  (cDr:PySem.W.codeIn K cdDr "_law_draw"=true)
  (kDr:PySem.W.keepIn K (.ref fDr)=true)
  (aRo:PySem.W.nsIn K mainGlobals "_law_some_room"=some (some (.ref fRo)))
  (lRo:K.lookup fRo=some ⟨ocRo,odRo,.func (PySem.W.fnOf "_law_some_room" "_law_some_room" (aI cC) (aF cC) (aj cC) .none kVRo dcRo pmRo anRo cdRo ctRo),slRo⟩)
  (cRo:PySem.W.codeIn K cdRo "_law_some_room"=true)
  (kRo:PySem.W.keepIn K (.ref fRo)=true)
  (aPa:PySem.W.nsIn K mainGlobals "_law_pairs"=some (some (.ref fPa)))
  (lPa:K.lookup fPa=some ⟨ocPa,odPa,.func (PySem.W.fnOf "_law_pairs" "_law_pairs" (aI bN) (aF bN) (aj bN) .none kVPa dcPa pmPa anPa cdPa ctPa),slPa⟩)
  (cPa:PySem.W.codeIn K cdPa "_law_pairs"=true)
  (kPa:PySem.W.keepIn K (.ref fPa)=true)
  (aSa:PySem.W.nsIn K mainGlobals "_law_same"=some (some (.ref fSa)))
  (lSa:K.lookup fSa=some ⟨ocSa,odSa,.func (PySem.W.fnOf "_law_same" "_law_same" (aI cB) (aF cB) (aj cB) .none kVSa dcSa pmSa anSa cdSa ctSa),slSa⟩)
  (cSa:PySem.W.codeIn K cdSa "_law_same"=true)
  (kSa:PySem.W.keepIn K (.ref fSa)=true)
  (aL:PySem.W.nsIn K mainGlobals "law"=some (some (.ref fL)))
  (lL:K.lookup fL=some ⟨ocL,odL,.func (PySem.W.fnOf "law" "law" (aI dG) (aF dG) (aj dG) .none kVL dcL pmL anL cdL ctL),slL⟩)
  (cL:PySem.W.codeIn K cdL "law"=true)
  (kL:PySem.W.keepIn K (.ref fL)=true)
  (z_len:PySem.W.nsIn K mainGlobals "len"=some none)
  (z_range:PySem.W.nsIn K mainGlobals "range"=some none)
  (z_isinstance:PySem.W.nsIn K mainGlobals "isinstance"=some none)
  (z_tuple:PySem.W.nsIn K mainGlobals "tuple"=some none)
  (z_list:PySem.W.nsIn K mainGlobals "list"=some none)
  (z_int:PySem.W.nsIn K mainGlobals "int"=some none)
  (z_bool:PySem.W.nsIn K mainGlobals "bool"=some none)
  (z_sorted:PySem.W.nsIn K mainGlobals "sorted"=some none)
  (z_set:PySem.W.nsIn K mainGlobals "set"=some none)
  : ∃ fd:FuncData,(∀ (s:Shared) (v:Value),BindsTo s fd ⟨[v],[]⟩ [("_law_script",v)]) ∧ ∀ base:Heap,K.In base→base.Ns mainGlobals mg→a9 l.prog w K mg base CX0 4 fa fd ["_law_script"] (iE K):=by
 have e:=hfa.symm.trans (PySem.W.mg_of X G aL)
 cases e
 have FJo:=bJ (st:=dH) lJo cJo kJo
 have bJo:=FJo.binds (ps:=["one", "other"]) fun _ _ _ _ _ _ us hl=>match us,hl with | [_,_],_=>rfl
 have FWh:=bJ (st:=bM) lWh cWh kWh
 have bWh:=FWh.binds (ps:=["_law_found"]) fun _ _ _ _ _ _ us hl=>match us,hl with | [_],_=>rfl
 have FAt:=bJ (st:=sAt) lAt cAt kAt
 have bAt:=FAt.binds (ps:=["_law_script", "_law_k"]) fun _ _ _ _ _ _ us hl=>match us,hl with | [_,_],_=>rfl
 have FBe:=bJ (st:=bO) lBe cBe kBe
 have bBe:=FBe.binds (ps:=["_law_cell"]) fun _ _ _ _ _ _ us hl=>match us,hl with | [_],_=>rfl
 have FDr:=bJ (st:=cD) lDr cDr kDr
 have bDr:=FDr.binds (ps:=["_law_state", "_law_many"]) fun _ _ _ _ _ _ us hl=>match us,hl with | [_,_],_=>rfl
 have FRo:=bJ (st:=cC) lRo cRo kRo
 have bRo:=FRo.binds (ps:=["_law_state", "_law_size", "_law_salt"]) fun _ _ _ _ _ _ us hl=>match us,hl with | [_,_,_],_=>rfl
 have FPa:=bJ (st:=bN) lPa cPa kPa
 have bPa:=FPa.binds (ps:=["_law_script", "_law_start", "_law_sizes", "_law_salts"]) fun _ _ _ _ _ _ us hl=>match us,hl with | [_,_,_,_],_=>rfl
 have FSa:=bJ (st:=cB) lSa cSa kSa
 have bSa:=FSa.binds (ps:=["_law_found", "_law_due"]) fun _ _ _ _ _ _ us hl=>match us,hl with | [_,_],_=>rfl
 have FL:=bJ (st:=dG) lL cL kL
 have T:Txt K mg fJo fWh fAt fBe fDr fRo fPa fSa _ _ _ _ _ _ _ _ :=
  {bl:=⟨PySem.W.mg_none_of X G z_len,PySem.W.mg_none_of X G z_range,PySem.W.mg_none_of X G z_isinstance,PySem.W.mg_none_of X G z_tuple,PySem.W.mg_none_of X G z_list,PySem.W.mg_none_of X G z_int,PySem.W.mg_none_of X G z_bool,PySem.W.mg_none_of X G z_sorted,PySem.W.mg_none_of X G z_set⟩
   gJo:=PySem.W.mg_of X G aJo,gWh:=PySem.W.mg_of X G aWh,gAt:=PySem.W.mg_of X G aAt,gBe:=PySem.W.mg_of X G aBe,gDr:=PySem.W.mg_of X G aDr,gRo:=PySem.W.mg_of X G aRo,gPa:=PySem.W.mg_of X G aPa,gSa:=PySem.W.mg_of X G aSa
   FJo:=FJo,bJo:=bJo,FWh:=FWh,bWh:=bWh,FAt:=FAt,bAt:=bAt,FBe:=FBe,bBe:=bBe,FDr:=FDr,bDr:=bDr,FRo:=FRo,bRo:=bRo,FPa:=FPa,bPa:=bPa,FSa:=FSa,bSa:=bSa }
 exact ⟨PySem.W.fnOf "law" "law" (aI dG) (aF dG) (aj dG) .none kVL dcL pmL anL cdL ctL,fun s v => .of_eq rfl,fun base _ _=>mj T FL⟩
theorem oC {l:PySem.W.OpenLaw} {q:Program} {loose:List Str} {XP:(Str→Option Value)→Heap→Prop} {YP:World→Heap→Prop} {d:DefRec} {K:Params→PySem.W.Frag} (hn:l.most=some 63) (hdf:d.params.defaults=[])
  (hY : ∀ (w:World) (h:Heap),YP w h→(K w.params).In h)
  (F : ∀ (w:World) (mg:Str→Option Value) (fa:Addr) (h:Heap),(K w.params).In h→h.Ns mainGlobals mg→mg d.name=some (.ref fa) →
   ∃ fd:FuncData,(∀ (s:Shared) (u:Value),BindsTo s fd ⟨[u],[]⟩ [("_law_script",u)]) ∧ ∀ base:Heap,(K w.params).In base→base.Ns mainGlobals mg→a9 l.prog w (K w.params) mg base CX0 4 fa fd ["_law_script"] (iE (K w.params))) :
  PySem.W.WalkO q loose XP YP l.row.toRowW d [] (fun f vs=>PySem.call f vs) :=
 L2.nL (n:=63) (k:=4) (x:="_law_script") (CX:=fun _=>CX0) (sp:=fun w=>iE (K w.params)) hn (by decide) hdf ⟨rfl,by decide,by decide⟩ hY F (fun _ _ a ns hl _ hS=>⟨a,ns,rfl,hS,hl,fun _=>rfl⟩) fun _ _ _ _ _ z=>z
end Nw
open PySem PySem.W PyProof.Rows
namespace PySem.W.Fast
def tw17665623123231892850:=0
def tw2780574349023930688:=0
def tw15126968946538018340:=0
def tw5304398648821265825:=0
def tw11082120871598587489:=0
def tw1531534559875560435:=0
def tw4972525214994668572:=0
def tw12534220917596114200:=0
def tw5185318747924475901:=0
def tw18047059066661050818:=0
def tw2530508739319612775:=0
def tw8227049980880195075:=0
def tw13367889801535653654:=0
def tw8209074088748725508:=0
def tw8231787486377896868:=0
def tw8586305391836910885:=0
def tw5514528279420781862:=0
def tw9303936944296263847:=0
def tw16963726107999635962:=0
def tw15903263632717701671:=0
def tw4666734159568838375:=0
def tw12845126177453463793:=0
def tw11786635624303657831:=0
def tw9437445342254400423:=0
def tw6608642246990713831:=0
def tw2074939868857826522:=0
def tw7888207224125911528:=0
def tw13646394614512034472:=0
def tw8551491659554382057:=0
def tw8859529057374140681:=0
def tw6671610758869929321:=0
def tw18278188396581912009:=0
def tw3958820119683271447:=0
def tw10667679315417677226:=0
def tw7024442279205254989:=0
def tw15024464827540491416:=0
def tw781566594140137428:=0
def tw12620560739840281676:=0
def tw16368729701764727948:=0
def tw2484207864587842828:=0
def tw18323788495678067084:=0
def tw14900221874608072503:=0
def tw5958725188851208972:=0
def tw7868180379699702829:=0
def tw3950597057696808270:=0
def tw8901625550598020349:=0
def tw9918515654509211160:=0
def tw7260108524331698414:=0
def tw8823982056016415054:=0
def tw17376009321269694578:=0
def tw191088171490976848:=0
def tw17275690320290364432:=0
def tw2001552346102771088:=0
def tw11145826533965376048:=0
def tw9337964991278669048:=0
def tw5917367617287399248:=0
def tw8697018236033299793:=0
def tw111792120514271953:=0
def tw17435322134690006649:=0
def tw9692010602700325397:=0
def tw8671934979517851346:=0
def tw4994602307145156595:=0
def tw2138710726035187349:=0
def tw16486060366528233343:=0
def tw9436644923035745592:=0
def tw5326184746088979581:=0
def tw18314567683461507897:=0
def tw4024706179960180410:=0
def tw2973082706470770142:=0
def tw6353528498331403039:=0
def tw12825991683613680272:=0
end PySem.W.Fast
set_option maxRecDepth 100000 in
set_option maxHeartbeats 0 in
theorem PySem.Challenge.cw_nearerwork_k61_pairs_joined_holds : PySem.Challenge.rw_nearerwork_k61_pairs_joined.Holds := by
 w_on; o_law; k_head; (case hw=>w_witness2)
 k_fill
 refine Nw.oC (l:=PySem.Challenge.rw_nearerwork_k61_pairs_joined) rfl rfl (fun w h Y=>PySem.W.kIn_of Y) ?F
 case F =>
  intro w mg fa h KX G hmg
  refine' Nw.oy KX G hmg ?aJo ?lJo ?cJo ?kJo ?aWh ?lWh ?cWh ?kWh ?aAt ?lAt ?cAt ?kAt ?aBe ?lBe ?cBe ?kBe ?aDr ?lDr ?cDr ?kDr ?aRo ?lRo ?cRo ?kRo ?aPa ?lPa ?cPa ?kPa ?aSa ?lSa ?cSa ?kSa ?aL ?lL ?cL ?kL ?z_len ?z_range ?z_isinstance ?z_tuple ?z_list ?z_int ?z_bool ?z_sorted ?z_set
  (case aJo | lJo | cJo | kJo | aWh | lWh | cWh | kWh | aAt | lAt | cAt | kAt | aBe | lBe | cBe | kBe | aDr | lDr | cDr | kDr | aRo | lRo | cRo | kRo | aPa | lPa | cPa | kPa | aSa | lSa | cSa | kSa | aL | lL | cL | kL | z_len | z_range | z_isinstance | z_tuple | z_list | z_int | z_bool | z_sorted | z_set=>k_is)
