import PyProof.Rows.All
import KE.KLam
import KE.KNestM
import PyProof.OldK
import Wide.All
import OpenK.AllK
import Wide.FinOn
import Lean
import PyProof.EqAt
import PyProof.EqKinds
import PyProof.TupleCall
import KE.KRevIter
import PyProof.Rows.SeqMore
import PyProof.Rows.ListMulArg
import PyProof.ZipIter
import PyProof.Rows.ZipGen
import PyProof.EnumMake
import PyProof.StrWalks
import PyProof.SliceStr2
import PyProof.StrBlockH
import PyProof.FString5
import PyProof.Rows.StrJoin2
import PyProof.Rows.Range3
import KE.KDictLaws
import PyProof.ConsumeWalk
import PyProof.SumWalkG
import PyProof.Rows.SeqCalls
import PyProof.Rows.SeqGen
import PyProof.Rows.MinMaxN
import PyProof.Rows.CallKwBuiltin
import PyProof.Rows.SortStr
import PyProof.StrOps2
import PyProof.Rows.StrMul
import PyProof.IsRules
import PyProof.Rows.SetFrom
import PyProof.CollectStr
import PyProof.Rows.SortRuns
import PyProof.Rows.SortKey
import KE.KSortTup
import PyProof.StrOps
import PyProof.RulesTry
import PyProof.StrLawsIn
import PyProof.StrLawsNeg
import PySem.Challenge.RW_nailhang_k52_pieces_needed
set_option Elab.async false
set_option linter.all false
set_option maxRecDepth 100000
set_option maxHeartbeats 4000000
local macro_rules | `(tactic| omega) => `(tactic| lia)
noncomputable section
namespace L2
open PySem PySem.Spec PyProof.Rows
abbrev fX:=Sum Int Str
def Ae:fX→Value→Bool
  | .inl k,v=>Value.isInt k v
  | .inr x,v=>Value.isStrOf x v
def DP (w:World):fX→Int
  | .inl k=>hashInt k
  | .inr x=>hashStr w x
theorem cU:∀{k:fX} {v:Value},Ae k v=true→(∃i t,k=Sum.inl i∧v=Value.int i t)∨(∃x t,k=Sum.inr x∧v=Value.str x t)
  | .inl i,v,h=>by
    obtain ⟨t,e⟩:=Value.isInt_shape (k:=i) (v:=v) h
    exact .inl ⟨i,t,rfl,e⟩
  | .inr x,v,h=>by
    obtain ⟨t,e⟩:=Value.isStrOf_shape (x:=x) (v:=v) h
    exact .inr ⟨x,t,rfl,e⟩
theorem AG (a b:Int):decide ((Sum.inl a:fX)=Sum.inl b)=(a == b):=by
  by_cases e:a=b
  · subst e;simp
  · have h:¬(Sum.inl a:fX)=Sum.inl b:=fun q=>e (Sum.inl.inj q)
    rw [decide_eq_false h]
    exact (beq_eq_false_iff_ne.mpr e).symm
theorem AH (a b:Str):decide ((Sum.inr a:fX)=Sum.inr b)=decide (a=b):=by
  by_cases e:a=b
  · subst e;simp
  · have h:¬(Sum.inr a:fX)=Sum.inr b:=fun q=>e (Sum.inr.inj q)
    rw [decide_eq_false h,decide_eq_false e]
theorem AI (a:Int) (b:Str):decide ((Sum.inl a:fX)=Sum.inr b)=false:=decide_eq_false (fun q=>nomatch q)
theorem AJ (a:Str) (b:Int):decide ((Sum.inr a:fX)=Sum.inl b)=false:=decide_eq_false (fun q=>nomatch q)
def mB (prog:Program) (w:World):PySem.KeyKind prog w fX where
  is:=Ae
  hash:=DP w
  inj:=fun v a b ha hb=>by
    rcases cU ha with ⟨i,t,rfl,rfl⟩ | ⟨x,t,rfl,rfl⟩
    · rcases cU hb with ⟨j,u,rfl,e⟩ | ⟨y,u,rfl,e⟩
      · injection e with e1 _;rw [e1]
      · exact nomatch e
    · rcases cU hb with ⟨j,u,rfl,e⟩ | ⟨y,u,rfl,e⟩
      · exact nomatch e
      · injection e with e1 _;rw [e1]
  byValue:=fun k v h=>by
    rcases cU h with ⟨i,t,rfl,rfl⟩ | ⟨x,t,rfl,rfl⟩ <;> rfl
  pyHash:=fun hv h=>by
    rcases cU hv with ⟨i,t,rfl,rfl⟩ | ⟨x,t,rfl,rfl⟩
    · exact wpAny_pyHash_int h
    · exact wpAny_pyHash_str h
  eqBool:=fun hu hv h=>by
    rcases cU hu with ⟨i,t,rfl,rfl⟩ | ⟨x,t,rfl,rfl⟩
    · rcases cU hv with ⟨j,u,rfl,rfl⟩ | ⟨y,u,rfl,rfl⟩
      · rw [AG] at h;exact wpAny_eqBool_int h
      · rw [AI] at h;exact SeqAt.EqAt.int_str i t y u _ _ _ _ h
    · rcases cU hv with ⟨j,u,rfl,rfl⟩ | ⟨y,u,rfl,rfl⟩
      · rw [AJ] at h;exact SeqAt.EqAt.str_int x t j u _ _ _ _ h
      · rw [AH] at h;exact wpAny_eqBool_str h
  «strs»:=fun k x t v h=>by
    rcases cU h with ⟨i,u,rfl,e⟩ | ⟨y,u,rfl,e⟩
    · exact nomatch e
    · injection e with e1 _
      subst e1
      cases v <;> rfl
end L2
namespace L2
open PySem PySem.Spec PyProof.Rows
inductive V where
  | non | bl (b:Bool) | int (i:Int) | str (x:Str) | byt (b:Array UInt8) | flt (b:UInt64) | ref (a:Addr) | ty (n:String)
  deriving DecidableEq
def RelV:V→Value→Prop
  | .non,u=>u=Value.none
  | .bl b,u=>u=Value.bool b
  | .int i,u=>∃t,u=Value.int i t
  | .str x,u=>∃t,u=Value.str x t
  | .byt b,u=>∃t,u=Value.bytes b t
  | .flt b,u=>∃t,u=Value.float b t
  | .ref a,u=>u=Value.ref a
  | .ty n,u=>u=Value.type n
abbrev Vals:List V→List Value→Prop:=Paired RelV
theorem Vals.length {xs:List V} {us:List Value} (r:Vals xs us):xs.length=us.length:=Paired.length r
theorem Vals.get:∀{xs:List V} {us:List Value} {i:Nat} {x:V},Vals xs us→xs[i]? =some x→∃u,us[i]? =some u∧RelV x u
  | _,_,_,_, .nil,e=>by simp at e
  | _,_,0,_, .cons r _,e=>by simp at e;subst e;exact ⟨_,rfl,r⟩
  | _,_,i+1,x, .cons _ t,e=>by
    obtain ⟨u,h1,h2⟩:=Vals.get (i:=i) (x:=x) t (by simpa using e)
    exact ⟨u,by simpa using h1,h2⟩
theorem Vals.set {x:V} {u:Value} (r:RelV x u):∀{xs:List V} {us:List Value} (i:Nat),Vals xs us→Vals (xs.set i x) (us.set i u)
  | _,_,_, .nil=> .nil
  | _,_,0, .cons _ t=> .cons r t
  | _,_,i+1, .cons q t=> .cons q (Vals.set r i t)
theorem Vals.append:∀{xs ys:List V} {us ws:List Value},Vals xs us→Vals ys ws→Vals (xs++ys) (us++ws)
  | _,_,_,_, .nil,s=>s
  | _,_,_,_, .cons r t,s=> .cons r (Vals.append t s)
theorem Vals.take:∀{xs:List V} {us:List Value} (n:Nat),Vals xs us→Vals (xs.take n) (us.take n)
  | _,_,0,_=> .nil
  | _,_,_+1, .nil=> .nil
  | _,_,n+1, .cons r t=> .cons r (Vals.take n t)
theorem Vals.drop:∀{xs:List V} {us:List Value} (n:Nat),Vals xs us→Vals (xs.drop n) (us.drop n)
  | _,_,0,r=>r
  | _,_,_+1, .nil=> .nil
  | _,_,n+1, .cons _ t=>Vals.drop n t
def RelO:Option V→Option Value→Prop
  | some v,some u=>RelV v u
  | none,none=>True
  | _,_=>False
def KV {κ:Type}:List (κ×V)→List (κ×Value)→Prop:=Paired fun (p:κ×V) (q:κ×Value)=>p.1=q.1∧RelV p.2 q.2
def kV:fX→V
  | .inl i=> .int i
  | .inr x=> .str x
inductive HO where
  /-- a list -/
  | lst (xs:List V)
  /-- a tuple (never changes) -/
  | tup (xs:List V)
  /-- a dict whose keys are ints and tD;one whose keys are tuples of ints and tD (the empty one is both) -/
  | dK (kvs:List (fX×V)) | dT (kvs:List (List fX×V))
  /-- a set of ints:its members,its size -/
  | set (S:Int→Bool) (n:Nat)
  /-- an instance of the class at C,its dict at dx,its attributes -/
  | ins (C dx:Addr) (fs:List (Str×V))
  /-- the dict of the instance at x -/
  | own (x:Addr)
  /-- the dict of an exception -/
  | xd (fs:List (Str×V))
  /-- a bound method,f of x -/
  | met (f x:Addr)
  /-- a range object lo,lo+1, .. below hi -/
  | rng (lo hi:Int)
  /-- a thing that is known to the object (the script;a dict while a loop walks it):read,never written while it is so -/
  | frz (o:Obj) (u:HO)
  /-- a code object's table -/
  | tbl (q:Str)
  /-- any other thing,by what is true of its one object (a def of one's own:SetO a S n:=HO.ext fun h=> ..) -/
  | ext (φ:Heap→Prop)
abbrev Hp:=Addr→Option HO
def upd (H:Hp) (a:Addr) (o:HO):Hp:=fun b=>if b=a then some o else H b
theorem cy {H:Hp} {a:Addr} {o:HO}:upd H a o a=some o:=by unfold upd;rw [if_pos rfl]
theorem aS {H:Hp} {a b:Addr} {o:HO} (h:b≠a):upd H a o b=H b:=by unfold upd;rw [if_neg h]
theorem Af {H:Hp} {a b:Addr} {o u:HO} (h:H a=some o) (h':H b=some u) (d:o≠u):a≠b:=by
  intro e;subst e;rw [h] at h';exact d (Option.some.inj h')
theorem bL {H:Hp} {a b:Addr} {o:HO} (h:H a=some o) (h':H b=none):a≠b:=by
  intro e;subst e;rw [h] at h';cases h'
section
variable (P:Program) (w:World)
def ObjOk (H:Hp) (h:Heap) (a:Addr):HO→Prop
  | .lst xs=>xs.length≤sizeLine∧∃(its:List Value) (n:Nat),Vals xs its∧h.get? a=some {cls:= .type "list",data:= .seq its.toArray n}
  | .tup xs=>xs.length≤sizeLine∧∃its:List Value,Vals xs its∧IsTup h a its.toArray
  | .dK kvs=>kvs.length≤sizeLine∧(a == sysModules)=false∧∃vs,KV kvs vs∧h.DictOf (mB P w) a vs
  | .dT kvs=>kvs.length≤sizeLine∧(a == sysModules)=false∧∃xs:List (List fX×Addr×Value),
      Paired (fun (p:List fX×V) (q:List fX×Addr×Value)=>p.1=q.1∧H q.2.1=some (.tup (p.1.map kV))∧RelV p.2 q.2.2) kvs xs∧
      ∃o es ep,h.get? a=some o∧o.ExactDict∧o.data= .dict es ep∧es.toList=xs.map (entryOfKey (tupleKind (mB P w)))∧(xs.map (·.1)).Nodup
  | .set S n=>h.SetOf (intKind P w) a S n
  | .ins C dx fs=>H dx=some (.own a)∧fs.length≤1000∧dx≠a∧h.get? a=some (PySem.W.instObj C dx)∧
      ∃mA,h.Ns1 dx mA∧(∀f,RelO (fs.lookup f) (mA f))∧PySem.Within mA (fs.map (·.1))
  | .own _=>∃o,h.get? a=some o
  | .xd fs=>∃mA,h.Ns1 a mA∧∀f,RelO (fs.lookup f) (mA f)
  | .rng lo hi=>∃t u v,h.get? a=some {cls:= .type "range",data:= .fields #[.int lo t, .int hi u, .int 1 v]}
  | .frz o u=>h.get? a=some o∧ObjOk H h a u
  | .tbl q=>∃ps:Array Value,h.get? a=some (PySem.W.tabObj ps)∧TriplesOk ps.toList∧∀pos cv,codeAmong pos ps.toList=some cv→∃c,cv=Value.ref c∧H c=some (.own a)∧h.CodeRec cv q
  | .met f x=>h.get? a=some (PySem.W.methodObj (.ref f) (.ref x))
  | .ext φ=>φ h∧(∃o,h.get? a=some o)∧∀h1 h2:Heap,φ h1→(∀o,h1.get? a=some o→h2.get? a=some o)→φ h2
def HOk (H:Hp) (h:Heap):Prop:=∀a o,H a=some o→ObjOk P w H h a o
end
section
variable {P:Program} {w:World} {H H':Hp} {h h':Heap} {a:Addr} {o:HO}
theorem ObjOk.lt (x:ObjOk P w H h a o):a < h.objs.size:=by
  cases o with
  | lst xs=>obtain ⟨_,_,_,_,e⟩:=x;exact Heap.lt_size e
  | tup xs=>obtain ⟨_,_,_,p⟩:=x;exact p.lt
  | dK kvs=>obtain ⟨_,_,_,_,o,_,_,e,_⟩:=x;exact Heap.lt_size e
  | dT kvs=>obtain ⟨_,_,_,_,o,_,_,e,_⟩:=x;exact Heap.lt_size e
  | set S n=>obtain ⟨o,_,_,_,e,_⟩:=x;exact Heap.lt_size e
  | ins C dx fs=>obtain ⟨_,_,_,e,_⟩:=x;exact Heap.lt_size e
  | own y=>obtain ⟨_,e⟩:=x;exact Heap.lt_size e
  | xd fs=>obtain ⟨_,⟨_,_,_,e,_⟩,_⟩:=x;exact Heap.lt_size e
  | rng lo hi=>obtain ⟨_,_,_,e⟩:=x;exact Heap.lt_size e
  | frz ob u=>obtain ⟨e,_⟩:=x;exact Heap.lt_size e
  | tbl q=>obtain ⟨_,e,_⟩:=x;exact Heap.lt_size e
  | met f y=>exact Heap.lt_size (show h.get? a=some _ from x)
  | ext φ=>obtain ⟨_,⟨_,e⟩,_⟩:=x;exact Heap.lt_size e
theorem Paired.mapP {α β:Type} {F G:α→β→Prop} {l₁:List α} {l₂:List β} (h:Paired F l₁ l₂) (f:∀a b,F a b→G a b):Paired G l₁ l₂:=by
  induction h with
  | nil=>exact .nil
  | cons r _ t=>exact .cons (f _ _ r) t
theorem ObjOk.stay (x:ObjOk P w H h a o) (k:∀b u,(b=a∨H b=some (.own a))→h.get? b=some u→h'.get? b=some u)
    (ho:∀b,H b=some (.own a)→H' b=some (.own a)) (ht:∀b xs,H b=some (.tup xs)→H' b=some (.tup xs)):ObjOk P w H' h' a o:=by
  induction o with
  | lst xs=>obtain ⟨z,its,n,r,e⟩:=x;exact ⟨z,its,n,r,k _ _ (.inl rfl) e⟩
  | tup xs=>obtain ⟨z,its,r,ob,e,c⟩:=x;exact ⟨z,its,r,ob,k _ _ (.inl rfl) e,c⟩
  | dK kvs=>obtain ⟨z,y,vs,r,ob,es,ep,e,c⟩:=x;exact ⟨z,y,vs,r,ob,es,ep,k _ _ (.inl rfl) e,c⟩
  | dT kvs=>
    obtain ⟨z,y,xs,r,ob,es,ep,e,c⟩:=x
    exact ⟨z,y,xs,Paired.mapP r fun p q z=>⟨z.1,ht _ _ z.2.1,z.2.2⟩,ob,es,ep,k _ _ (.inl rfl) e,c⟩
  | set S n=>obtain ⟨ob,es,ep,t,e,c⟩:=x;exact ⟨ob,es,ep,t,k _ _ (.inl rfl) e,c⟩
  | ins C dx fs=>
    obtain ⟨d,z,ne,e,mA,⟨od,es,ep,e2,c⟩,r⟩:=x
    exact ⟨ho _ d,z,ne,k _ _ (.inl rfl) e,mA,⟨od,es,ep,k _ _ (.inr d) e2,c⟩,r⟩
  | own y=>obtain ⟨ob,e⟩:=x;exact ⟨ob,k _ _ (.inl rfl) e⟩
  | xd fs=>obtain ⟨mA,⟨od,es,ep,e,c⟩,r⟩:=x;exact ⟨mA,⟨od,es,ep,k _ _ (.inl rfl) e,c⟩,r⟩
  | rng lo hi=>obtain ⟨t,u,v,e⟩:=x;exact ⟨t,u,v,k _ _ (.inl rfl) e⟩
  | frz ob u ih=>obtain ⟨e,q⟩:=x;exact ⟨k _ _ (.inl rfl) e,ih q⟩
  | tbl q=>
    obtain ⟨ps,e,t,r⟩:=x
    refine ⟨ps,k _ _ (.inl rfl) e,t,fun pos cv z=>?_⟩
    obtain ⟨c,ec,ho',c2,oc,vs,tq,hc,hoc,hd⟩:=r pos cv z
    subst ec
    cases hc
    exact ⟨c,rfl,ho _ ho',c,oc,vs,tq,rfl,k _ _ (.inr ho') hoc,hd⟩
  | met f y=>
    have e:h.get? a=some (PySem.W.methodObj (.ref f) (.ref y)):=x
    show h'.get? a=some (PySem.W.methodObj (.ref f) (.ref y))
    exact k a _ (.inl rfl) e
  | ext φ=>obtain ⟨p,⟨o,e⟩,st⟩:=x;exact ⟨st _ _ p fun o q=>k _ _ (.inl rfl) q,⟨o,k _ _ (.inl rfl) e⟩,st⟩
theorem HOk.lt (x:HOk P w H h) (e:H a=some o):a < h.objs.size:=(x a o e).lt
theorem HOk.fresh (x:HOk P w H h) (e:h.objs.size≤a):H a=none:=by
  cases q:H a with
  | none=>rfl
  | some u=>exact absurd (Nat.lt_of_lt_of_le (x.lt q) e) (Nat.lt_irrefl _)
theorem HOk.kept (x:HOk P w H h) (k:∀b u,h.get? b=some u→h'.get? b=some u):HOk P w H h':=fun a o e=>
  (x a o e).stay (fun b u _ q=>k b u q) (fun _ q=>q) fun _ _ q=>q
theorem HOk.laid (x:HOk P w H h) (k:∀b u,h.get? b=some u→h'.get? b=some u) (hp:h.objs.size≤a) (new:ObjOk P w (upd H a o) h' a o):HOk P w (upd H a o) h':=fun b u e=>by
  have hn:=x.fresh hp
  by_cases hb:b=a
  · subst hb;rw [cy] at e;cases e;exact new
  · rw [aS hb] at e
    exact (x b u e).stay (fun c v _ q=>k c v q) (fun c q=>by rw [aS (bL q hn)];exact q) fun c xs q=>by rw [aS (bL q hn)];exact q
end
def Rd (H:Hp) (a:Addr) (u:HO):Prop:=H a=some u∨∃o,H a=some (.frz o u)
theorem Rd.of {H:Hp} {a:Addr} {u:HO} (h:H a=some u):Rd H a u:= .inl h
theorem Rd.ok {P:Program} {w:World} {H:Hp} {h:Heap} {a:Addr} {u:HO} (r:Rd H a u) (x:HOk P w H h):ObjOk P w H h a u:=by
  rcases r with r | ⟨o,r⟩
  · exact x a u r
  · obtain ⟨_,q⟩:=x a _ r
    exact q
def DH:Option HO→Prop
  | some (.lst _)=>True
  | some (.dK _)=>True
  | some (.dT _)=>True
  | some (.set _ _)=>True
  | some (.ins _ _ _)=>True
  | some (.ext _)=>True
  | _=>False
section
variable {P:Program} {w:World} {H:Hp} {h h':Heap} {x e:Addr} {o':HO}
theorem HOk.write (ok:HOk P w H h) (mu:DH (H x)) (he:e=x∨H e=some (.own x)) (k:∀b u,b≠e→h.get? b=some u→h'.get? b=some u) (heo:∃u,h'.get? e=some u)
    (new:ObjOk P w (upd H x o') h' x o'):HOk P w (upd H x o') h':=fun b u q=>by
  have nown:∀c y,H c=some (.own y)→c≠x:=fun c y r z=>by subst z;rw [r] at mu;exact mu
  have ntup:∀c xs,H c=some (.tup xs)→c≠x:=fun c xs r z=>by subst z;rw [r] at mu;exact mu
  by_cases hb:b=x
  · subst hb;rw [cy] at q;cases q;exact new
  · rw [aS hb] at q
    by_cases hbe:b=e
    · have q':H b=some (.own x):=by
        rcases he with z | z
        · exact absurd (hbe.trans z) hb
        · rw [hbe];exact z
      rw [q] at q';cases q'
      obtain ⟨v,hv⟩:=heo
      exact ⟨v,by rw [hbe];exact hv⟩
    · refine (ok b u q).stay (fun c v hc r=>k c v ?_ r) (fun c r=>by rw [aS (nown c b r)];exact r) fun c xs r=>by rw [aS (ntup c xs r)];exact r
      rcases hc with rfl | hc
      · exact hbe
      · rintro rfl
        rcases he with z | z
        · exact nown c b hc z
        · rw [hc] at z;cases z;exact hb rfl
end
structure Un (fs ex:List Addr) (H H':Hp) (h h':Heap):Prop where
  keep:∀b o,h.get? b=some o→H b=none→b∉fs→b∉ex→h'.get? b=some o
  slot:∀b o,h.get? b=some o→H b=none→b∈fs→b∉ex→∃sl,h'.get? b=some {o with slots:=sl}
  free:∀b o,h.get? b=some o→H b=none→b∉ex→H' b=none
  there:∀b o,h.get? b=some o→b∉ex→∃o',h'.get? b=some o'
  tups:∀b xs,H b=some (.tup xs)→H' b=some (.tup xs)
  frzs:∀b o u,H b=some (.frz o u)→H' b=some (.frz o u)
  tbls:∀b ps,H b=some (.tbl ps)→H' b=some (.tbl ps)
section
variable {fs fs' ex ex':List Addr} {H H1 H2:Hp} {h h1 h2 h':Heap} {a x e:Addr} {o:HO}
theorem Un.any (u:Un fs ex H H1 h h1) {b:Addr} {ob:Obj} (q:h.get? b=some ob) (n:H b=none) (hx:b∉ex):∃sl,h1.get? b=some {ob with slots:=sl}:=by
  by_cases hb:b∈fs
  · exact u.slot b ob q n hb hx
  · exact ⟨ob.slots,u.keep b ob q n hb hx⟩
theorem Un.trans (a:Un fs ex H H1 h h1) (b:Un fs ex H1 H2 h1 h2):Un fs ex H H2 h h2 where
  keep:=fun c ob q n hc hx=>b.keep c ob (a.keep c ob q n hc hx) (a.free c ob q n hx) hc hx
  slot:=fun c ob q n hc hx=>by
    obtain ⟨sl,e1⟩:=a.slot c ob q n hc hx
    obtain ⟨sl',e2⟩:=b.slot c _ e1 (a.free c ob q n hx) hc hx
    exact ⟨sl',e2⟩
  free:=fun c ob q n hx=>by
    obtain ⟨o',e1⟩:=a.there c ob q hx
    exact b.free c o' e1 (a.free c ob q n hx) hx
  there:=fun c ob q hx=>by
    obtain ⟨o',e1⟩:=a.there c ob q hx
    exact b.there c o' e1 hx
  tups:=fun c xs q=>b.tups c xs (a.tups c xs q)
  frzs:=fun c ob xs q=>b.frzs c ob xs (a.frzs c ob xs q)
  tbls:=fun c ps q=>b.tbls c ps (a.tbls c ps q)
theorem Un.kept (k:∀b u,h.get? b=some u→h'.get? b=some u):Un fs ex H H h h':=
  ⟨fun b ob q _ _ _=>k b ob q,fun b ob q _ _ _=>⟨ob.slots,k b ob q⟩,fun _ _ _ n _=>n,fun b ob q _=>⟨ob,k b ob q⟩,fun _ _ q=>q,fun _ _ _ q=>q,fun _ _ q=>q⟩
theorem Un.refl:Un fs ex H H h h:=Un.kept fun _ _ q=>q
theorem Un.laid (k:∀b u,h.get? b=some u→h'.get? b=some u) (hp:h.objs.size≤a) (hn:H a=none):Un fs ex H (upd H a o) h h' where
  keep:=fun b u q _ _ _=>k b u q
  slot:=fun b u q _ _ _=>⟨u.slots,k b u q⟩
  free:=fun b u q n _=>by rw [aS (Nat.ne_of_lt (Nat.lt_of_lt_of_le (Heap.lt_size q) hp))];exact n
  there:=fun b u q _=>⟨u,k b u q⟩
  tups:=fun b xs q=>by rw [aS (bL q hn)];exact q
  frzs:=fun b u xs q=>by rw [aS (bL q hn)];exact q
  tbls:=fun b ps q=>by rw [aS (bL q hn)];exact q
theorem Un.write (mu:DH (H x)) (he:e=x∨H e=some (.own x)) (k:∀b u,b≠e→h.get? b=some u→h'.get? b=some u) (heo:∃u,h'.get? e=some u):Un fs ex H (upd H x o) h h':=by
  have hx:∀b,H b=none→b≠x:=fun b n z=>by subst z;rw [n] at mu;exact mu
  have hb:∀b,H b=none→b≠e:=fun b n z=>by
    subst z
    rcases he with r | r
    · exact hx b n r
    · rw [n] at r;cases r
  have hm:∀b u,H b=some u→¬DH (some u)→b≠x:=fun b u q nm z=>by subst z;rw [q] at mu;exact nm mu
  refine ⟨fun b u q n _ _=>k b u (hb b n) q,fun b u q n _ _=>⟨u.slots,k b u (hb b n) q⟩,fun b u q n _=>by rw [aS (hx b n)];exact n,fun b u q _=>?_,
    fun b xs q=>by rw [aS (hm b _ q fun z=>z)];exact q,fun b u xs q=>by rw [aS (hm b _ q fun z=>z)];exact q,fun b ps q=>by rw [aS (hm b _ q fun z=>z)];exact q⟩
  by_cases hbe:b=e
  · subst hbe;exact heo
  · exact ⟨u,k b u hbe q⟩
theorem Un.mono (u:Un fs ex H H1 h h1) (hs:∀b∈fs,b∈fs') (hx:∀b∈ex,b∈ex'):Un fs' ex' H H1 h h1:=
  ⟨fun b ob q n hb he=>u.keep b ob q n (fun z=>hb (hs b z)) fun z=>he (hx b z),fun _ _ q n _ he=>u.any q n fun z=>he (hx _ z),fun b ob q n he=>u.free b ob q n fun z=>he (hx b z),fun b ob q he=>u.there b ob q fun z=>he (hx b z),u.tups,u.frzs,u.tbls⟩
end
def DI (h:Heap) (H:Hp):List Addr:=(List.range h.objs.size).filter fun a=>(H a).isSome
def qw (h:Heap) (H:Hp):Heap:=PySem.W.hideAll h (DI h H)
theorem uN (h:Heap) (H:Hp):(qw h H).objs.size=h.objs.size:=PySem.W.hideAll_size _ _
theorem mJ {h:Heap} {H:Hp} {b:Addr} {o:Obj} (e:h.get? b=some o) (n:H b=none):(qw h H).get? b=some o:=
  PySem.W.hideAll_get _ e fun hm=>by
    have q:(H b).isSome=true:=(List.mem_filter.mp hm).2
    rw [n] at q;simp at q
theorem yt {h:Heap} {H:Hp} {b:Addr} {o:Obj} (e:(qw h H).get? b=some o):h.get? b=some o∧H b=none:=by
  have e':h.get? b=some o:=PySem.W.of_hideAll (DI h H) e
  refine ⟨e',?_⟩
  cases q:H b with
  | none=>rfl
  | some x=>
    have hm:b∈DI h H:=List.mem_filter.mpr ⟨List.mem_range.mpr (Heap.lt_size e'),by simp [q]⟩
    have z:(qw h H).get? b=none:=PySem.W.hideAll_none (DI h H) hm
    rw [z] at e;cases e
def yu (g h:Heap) (L:Addr):List (Addr×Obj):=(List.range h.objs.size).filterMap fun a=>if a=L∨(g.get? a).isSome=true then none else (h.get? a).map fun o=>(a,o)
def gr (g h:Heap) (L d:Addr):List (Addr×Obj):=(yu g h L).filter fun p=>decide (p.1≠d)
end L2
namespace L2
open PySem PySem.Spec PyProof.Rows
def v8 (K:PySem.W.Frag):Option Addr:=match PySem.W.nsIn K mainGlobals "in_told_order" with
  | some (some (.ref f))=>match K.lookup f with
    | some ⟨_,_, .func fd,_⟩=>match fd.code with
      | .ref c=>match K.lookup c with
        | some ⟨_,_, .fields vs,_⟩=>match (vs[11]? :Option Value) with
          | some (.ref P)=>some P
          | _=>none
        | _=>none
      | _=>none
    | _=>none
  | _=>none
def mi (K:PySem.W.Frag) (b:Addr):Option Str:=if v8 K=some b then some (Str.ofString "in_told_order.<locals>.<lambda>") else none
structure Mod (K:PySem.W.Frag) (mg:Str→Option Value) (base:Heap):Prop where
  kin:K.In base
  glob:base.Ns mainGlobals mg
  blt:∃mb,base.Ns builtinsNs mb∧∀x:Str,x≠"__name__"→mb x=bootBuiltins x
  nolimit:base.NoLimit
  bmain:∃bm ob,mg "__builtins__"=some (.ref bm)∧bm≠builtinsNs∧base.get? bm=some ob∧ob.cls= .type "module"∧ob.dict=some builtinsNs∧ob.data= .plain
structure Cx where
  prog:Program
  w:World
  K:PySem.W.Frag
  mg:Str→Option Value
  base:Heap
  A:Around
  N:List Str
  s₀:Shared
  H₀:Hp
  env:Env
  outer:List Env
  stack:List Env
  ex:List Addr
  fn:Str→Bool
  calm:Bool
  pn:List (Addr×Obj)
  xe:Value→Shared→Prop
def v6 (l:List Env):List Addr:=l.filterMap (·.frame)
abbrev Cx.fs (X:Cx):List Addr:=v6 X.outer
def DJ (sc:Scope) (x:Str):Prop:=sc.names.lookup x=some .local∨sc.names.lookup x=some .cell∨sc.names.lookup x=some .free
def AK (sc:Scope) (x:Str):Prop:=sc.names.lookup x=some .local∨sc.names.lookup x=some .cell
def DQ (env:Env) (h:Heap) (m:Str→Option Value) (x:Str) (u:Value):Prop:=
  (env.kindOf x=some .local∧m x=some u)∨((env.kindOf x=some .cell∨env.kindOf x=some .free)∧∃c,env.cells.lookup x=some c∧h.IsCell c (some u))
structure Cx.Ok (X:Cx):Prop where
  mod:Mod X.K X.mg X.base
  kind:X.env.scope.kind= .function
  glob:X.env.globals=mainGlobals
  blt:X.env.builtins=builtinsNs
  above:X.s₀.heap.objs.size≤X.env.locals
  inj:∀x y c,X.env.cells.lookup x=some c→X.env.cells.lookup y=some c→x=y
  has:∀x,(X.env.kindOf x=some .cell∨X.env.kindOf x=some .free)→∃c,X.env.cells.lookup x=some c
  cab:∀x c,X.fn x=true→X.env.cells.lookup x=some c→X.s₀.heap.objs.size≤c
  hd:X.calm=true→X.A.handled=none
  frames:X.A.frames=some X.stack
  stk:X.stack=X.outer∨(X.stack=X.env::X.outer∧X.env.frame=some X.env.locals)
  exf:∀b∈X.ex,b≠X.env.locals∧∀x c,X.env.cells.lookup x=some c→c≠b
  bs:∀b o,X.base.get? b=some o→X.s₀.heap.get? b=some o∧X.H₀ b=none
  bsz:X.base.objs.size≤X.s₀.heap.objs.size
  noex:∀b o,X.base.get? b=some o→b∉X.ex
  exfs:∀b∈X.ex,b∉X.fs
  funs:X.s₀.heap.FunFrames X.base X.outer
  frf:∀b∈X.fs,X.H₀ b=none
  tab:∀b q,mi X.K b=some q→X.H₀ b=some (.tbl q)
structure Inv (X:Cx) (pins:List (Addr×Obj)) (σ:List (Option V)) (H:Hp) (s:Shared):Prop where
  ok:X.Ok
  os:s.os=X.s₀.os
  bare:AllBare s.gens
  base:Un X.fs X.ex X.H₀ H X.s₀.heap s.heap
  loc:∃m,s.heap.Ns X.env.locals m∧∀(i:Nat) (x:Str) (v:V),X.N[i]? =some x→σ[i]? =some (some v)→DJ X.env.scope x→∃u,RelV v u∧DQ X.env s.heap m x u
  cell:∀x c,X.env.cells.lookup x=some c→∃v,s.heap.IsCell c v
  free:H X.env.locals=none
  freeC:∀x c,X.env.cells.lookup x=some c→H c=none
  pin:∀p∈X.pn++pins,s.heap.get? p.1=some p.2∧H p.1=none∧p.1≠X.env.locals∧p.1∉X.fs∧∀v,p.2.data≠ .cell v
  hok:HOk X.prog X.w H s.heap
  len:σ.length=X.N.length
section
variable {X:Cx} {pins:List (Addr×Obj)} {σ:List (Option V)} {H H':Hp} {s:Shared} {h':Heap}
theorem Cx.Ok.nofr (ok:X.Ok) {b:Addr} {o:Obj} (e:X.base.get? b=some o):b∉X.fs:=fun hb=>by
  have:=(ok.funs.mem hb).1
  rw [e] at this;cases this
theorem Inv.bs (I:Inv X pins σ H s):∀b o,X.base.get? b=some o→s.heap.get? b=some o∧H b=none:=fun b o e=>
  ⟨I.base.keep b o (I.ok.bs b o e).1 (I.ok.bs b o e).2 (I.ok.nofr e) (I.ok.noex b o e),I.base.free b o (I.ok.bs b o e).1 (I.ok.bs b o e).2 (I.ok.noex b o e)⟩
theorem Inv.bk (I:Inv X pins σ H s):∀b o,X.base.get? b=some o→s.heap.get? b=some o:=fun b o e=>(I.bs b o e).1
theorem Inv.mod (I:Inv X pins σ H s):Mod X.K X.mg X.base:=I.ok.mod
theorem Inv.tab (I:Inv X pins σ H s):∀b q,mi X.K b=some q→H b=some (.tbl q):=fun b q e=>I.base.tbls b q (I.ok.tab b q e)
theorem Inv.kIn (I:Inv X pins σ H s):X.K.In s.heap:=I.ok.mod.kin.keeps I.bk
theorem Inv.nolimit (I:Inv X pins σ H s):s.heap.NoLimit:=I.ok.mod.nolimit.keeps I.bk
theorem Inv.fr (I:Inv X pins σ H s):∃m,Fr X.base X.env.locals s.heap m:=
  let ⟨m,hn,_⟩:=I.loc
  ⟨m,hn,I.bk,Nat.le_trans I.ok.bsz I.ok.above⟩
theorem Inv.lt (I:Inv X pins σ H s):X.env.locals < s.heap.objs.size:=let ⟨_,hn,_⟩:=I.loc;hn.lt
theorem Inv.sz (I:Inv X pins σ H s):X.s₀.heap.objs.size≤s.heap.objs.size:=Nat.le_trans I.ok.above (Nat.le_of_lt I.lt)
theorem Inv.nofs (I:Inv X pins σ H s) {a:Addr} (h:s.heap.objs.size≤a):a∉X.fs:=fun hb=>by
  obtain ⟨_,o,ho,_⟩:=I.ok.funs.mem hb
  exact absurd (Nat.lt_of_lt_of_le (Heap.lt_size ho) (Nat.le_trans I.sz h)) (Nat.lt_irrefl _)
theorem Inv.cne (I:Inv X pins σ H s):∀x c,X.env.cells.lookup x=some c→c≠X.env.locals:=fun x c e z=>by
  obtain ⟨v,o,ho,hd⟩:=I.cell x c e
  obtain ⟨m,⟨o',es,ep,ho',hd',_⟩,_⟩:=I.loc
  rw [z,ho'] at ho;cases ho;rw [hd'] at hd;cases hd
theorem Inv.funs (I:Inv X pins σ H s):s.heap.FunFrames X.base X.outer:=by
  have all:∀(l:List Env),(∀b∈v6 l,b∈X.fs)→X.s₀.heap.FunFrames X.base l→s.heap.FunFrames X.base l:=by
    intro l
    induction l with
    | nil=>intro _ _;trivial
    | cons env r ih=>
      intro hs hl
      obtain ⟨hk,⟨L,o,hf,hn,ho,hd⟩,hr⟩:=hl
      have hL:L∈X.fs:=hs L (by unfold v6;rw [List.filterMap_cons,hf];exact List.mem_cons_self)
      obtain ⟨sl,e⟩:=I.base.slot L o ho (I.ok.frf L hL) hL fun z=>I.ok.exfs L z hL
      exact ⟨hk,⟨L,_,hf,hn,e,hd⟩,ih (fun b hb=>hs b (by unfold v6;rw [List.filterMap_cons,hf];exact List.mem_cons_of_mem _ hb)) hr⟩
  exact all X.outer (fun _ hb=>hb) I.ok.funs
theorem Inv.stack (I:Inv X pins σ H s):s.heap.FunFrames X.base X.stack:=by
  rcases I.ok.stk with e | ⟨e,hf⟩
  · rw [e];exact I.funs
  · rw [e]
    obtain ⟨m,hn,_⟩:=I.loc
    refine .cons (by rw [I.ok.kind];decide) hf hn ?_ I.funs
    exact Heap.get?_none_of_le (Nat.le_trans I.ok.bsz I.ok.above)
theorem Inv.stkSub (I:Inv X pins σ H s):∀b∈v6 X.stack,b∈X.env.locals::X.fs:=fun b hb=>by
  rcases I.ok.stk with e | ⟨e,hf⟩
  · rw [e] at hb;exact List.mem_cons_of_mem _ hb
  · rw [e] at hb
    unfold v6 at hb
    rw [List.filterMap_cons,hf] at hb
    exact hb
theorem Inv.stkFree (I:Inv X pins σ H s):∀b∈v6 X.stack,H b=none:=fun b hb=>by
  rcases List.mem_cons.mp (I.stkSub b hb) with e | hb
  · rw [e];exact I.free
  · obtain ⟨_,o,ho,_⟩:=I.ok.funs.mem hb
    exact I.base.free b o ho (I.ok.frf b hb) fun z=>I.ok.exfs b z hb
theorem Inv.step {g':Array GenState} {t':Nat} {d':Drawn} {ch:List Addr} (I:Inv X pins σ H s)
    (hch:∀b∈ch,(b∈X.ex∨X.s₀.heap.objs.size≤b)∧b≠X.env.locals∧(∀x c,X.env.cells.lookup x=some c→c≠b)∧∀p∈X.pn++pins,p.1≠b)
    (keep:∀b o,b≠X.env.locals→b∉X.fs→b∉ch→s.heap.get? b=some o→H b=none→h'.get? b=some o)
    (slot:∀b o,b≠X.env.locals→b∈X.fs→b∉ch→s.heap.get? b=some o→H b=none→∃sl,h'.get? b=some {o with slots:=sl}) (free:∀b o,b∉ch→s.heap.get? b=some o→H b=none→H' b=none)
    (there:∀b o,b∉ch→s.heap.get? b=some o→∃o',h'.get? b=some o')
    (tups:∀b xs,H b=some (.tup xs)→H' b=some (.tup xs)) (frzs:∀b o u,H b=some (.frz o u)→H' b=some (.frz o u)) (tbls:∀b ps,H b=some (.tbl ps)→H' b=some (.tbl ps))
    (ns:∀m,s.heap.Ns X.env.locals m→h'.Ns X.env.locals m) (hok:HOk X.prog X.w H' h') (hg:AllBare g'):
    Inv X pins σ H' {s with heap:=h',gens:=g',drawn:=d',toks:=t'}:=by
  have neL:∀b o,X.s₀.heap.get? b=some o→b≠X.env.locals:=fun b o e=>Nat.ne_of_lt (Nat.lt_of_lt_of_le (Heap.lt_size e) I.ok.above)
  have neC:∀b o,X.s₀.heap.get? b=some o→b∉X.ex→b∉ch:=fun b o e hx hb=>by
    rcases (hch b hb).1 with z | z
    · exact hx z
    · exact absurd (Nat.lt_of_lt_of_le (Heap.lt_size e) z) (Nat.lt_irrefl _)
  have cellK:∀x c,X.env.cells.lookup x=some c→∀v,s.heap.IsCell c v→h'.IsCell c v:=fun x c e v ⟨o,ho,hd⟩=>by
    have nch:c∉ch:=fun z=>(hch c z).2.2.1 x c e rfl
    by_cases hc:c∈X.fs
    · obtain ⟨sl,q⟩:=slot c o (I.cne x c e) hc nch ho (I.freeC x c e)
      exact ⟨_,q,hd⟩
    · exact ⟨o,keep c o (I.cne x c e) hc nch ho (I.freeC x c e),hd⟩
  refine ⟨I.ok,I.os,hg,⟨fun b o e n hb hx=>?_,fun b o e n hb hx=>?_,fun b o e n hx=>?_,fun b o e hx=>?_,fun b xs e=>tups b xs (I.base.tups b xs e),fun b o xs e=>frzs b o xs (I.base.frzs b o xs e),fun b ps e=>?_⟩,?_,fun x c e=>?_,?_,fun x c e=>?_,fun p hp=>?_,hok,I.len⟩
  · exact keep b o (neL b o e) hb (neC b o e hx) (I.base.keep b o e n hb hx) (I.base.free b o e n hx)
  · obtain ⟨sl,e1⟩:=I.base.slot b o e n hb hx
    obtain ⟨sl',e2⟩:=slot b _ (neL b o e) hb (neC b o e hx) e1 (I.base.free b o e n hx)
    exact ⟨sl',e2⟩
  · obtain ⟨o',e1⟩:=I.base.there b o e hx
    exact free b o' (neC b o e hx) e1 (I.base.free b o e n hx)
  · obtain ⟨o',e1⟩:=I.base.there b o e hx
    exact there b o' (neC b o e hx) e1
  · exact tbls b _ (I.base.tbls b ps e)
  · obtain ⟨m,hn,hl⟩:=I.loc
    refine ⟨m,ns m hn,fun i x v e1 e2 e3=>?_⟩
    obtain ⟨u,r,l⟩:=hl i x v e1 e2 e3
    refine ⟨u,r,?_⟩
    rcases l with l | ⟨k,c,e,z⟩
    · exact .inl l
    · exact .inr ⟨k,c,e,cellK x c e _ z⟩
  · obtain ⟨v,z⟩:=I.cell x c e
    exact ⟨v,cellK x c e v z⟩
  · obtain ⟨m,⟨o,_,_,ho,_⟩,_⟩:=I.loc
    exact free _ o (fun z=>(hch _ z).2.1 rfl) ho I.free
  · obtain ⟨v,o,ho,hd⟩:=I.cell x c e
    exact free c o (fun z=>(hch c z).2.2.1 x c e rfl) ho (I.freeC x c e)
  · obtain ⟨e,n,ne,nf,d⟩:=I.pin p hp
    have nch:p.1∉ch:=fun z=>(hch p.1 z).2.2.2 p hp rfl
    exact ⟨keep p.1 p.2 ne nf nch e n,free p.1 p.2 nch e n,ne,nf,d⟩
theorem Inv.un {t':Nat} (I:Inv X pins σ H s) (u:Un X.fs [] H H' s.heap h') (hok:HOk X.prog X.w H' h'):Inv X pins σ H' {s with heap:=h',toks:=t'}:=by
  obtain ⟨m,⟨o,es,ep,ho,r⟩,_⟩:=id I.loc
  obtain ⟨sl,hL⟩:=u.any ho I.free (by simp)
  exact I.step (g':=s.gens) (d':=s.drawn) (ch:=[]) (fun _ z=>nomatch z) (fun b o _ hb _ e n=>u.keep b o e n hb (by simp)) (fun b o _ hb _ e n=>u.slot b o e n hb (by simp)) (fun b o _ e n=>u.free b o e n (by simp)) (fun b o _ e=>u.there b o e (by simp)) u.tups u.frzs u.tbls (fun m' hm=>by
    obtain ⟨o',es',ep',ho',r'⟩:=hm
    rw [ho] at ho';cases ho'
    exact ⟨_,es',ep',hL,r'⟩) hok I.bare
theorem Inv.call {g':Array GenState} {t':Nat} {d':Drawn} {ch:List Addr} (I:Inv X pins σ H s) (u:Un (v6 X.stack) ch H H' s.heap h') (hok:HOk X.prog X.w H' h') (hg:AllBare g')
    (hch:∀b∈ch,(b∈X.ex∨X.s₀.heap.objs.size≤b)∧b≠X.env.locals∧(∀x c,X.env.cells.lookup x=some c→c≠b)∧∀p∈X.pn++pins,p.1≠b):
    Inv X pins σ H' {s with heap:=h',gens:=g',drawn:=d',toks:=t'}:=by
  obtain ⟨m,⟨o,es,ep,ho,r⟩,_⟩:=id I.loc
  obtain ⟨sl,hL⟩:=u.any ho I.free fun z=>(hch _ z).2.1 rfl
  exact I.step (ch:=ch) hch (fun b o hL hb hc e n=>u.keep b o e n (fun z=>(List.mem_cons.mp (I.stkSub b z)).elim hL hb) hc) (fun b o _ _ hc e n=>u.any e n hc) (fun b o hc e n=>u.free b o e n hc) (fun b o hc e=>u.there b o e hc) u.tups u.frzs u.tbls (fun m' hm=>by
    obtain ⟨o',es',ep',ho',r'⟩:=hm
    rw [ho] at ho';cases ho'
    exact ⟨_,es',ep',hL,r'⟩) hok hg
theorem Inv.turned {t':Nat} {it:Addr} (I:Inv X pins σ H s) (k:∀b o,b≠it→s.heap.get? b=some o→h'.get? b=some o) (hn:H it=none) (hL:it≠X.env.locals)
    (h1:it∈X.ex∨X.s₀.heap.objs.size≤it) (h2:∀x c,X.env.cells.lookup x=some c→c≠it) (h3:∀p∈X.pn++pins,p.1≠it):Inv X pins σ H {s with heap:=h',toks:=t'}:=by
  have nit:∀b u,H b=some u→b≠it:=fun b u e z=>by rw [z,hn] at e;cases e
  refine I.step (g':=s.gens) (d':=s.drawn) (ch:=[it]) (fun b hb=>?_) (fun b o _ _ hc e _=>k b o (fun z=>hc (by simp [z])) e) (fun b o _ _ hc e _=>⟨o.slots,k b o (fun z=>hc (by simp [z])) e⟩) (fun _ _ _ _ n=>n)
    (fun b o hc e=>⟨o,k b o (fun z=>hc (by simp [z])) e⟩) (fun _ _ e=>e) (fun _ _ _ e=>e) (fun _ _ e=>e) (fun m hm=>?_) (fun b u e=>?_) I.bare
  · have e:b=it:=by simpa using hb
    subst e
    exact ⟨h1,hL,h2,h3⟩
  · obtain ⟨o,es,ep,ho,r⟩:=hm
    exact ⟨o,es,ep,k _ o (Ne.symm hL) ho,r⟩
  · refine (I.hok b u e).stay (fun c v hc q=>k c v ?_ q) (fun _ q=>q) fun _ _ q=>q
    rcases hc with z | z
    · rw [z];exact nit b u e
    · exact nit c _ z
theorem Inv.tok (I:Inv X pins σ H s) (t:Nat):Inv X pins σ H {s with toks:=t}:=I.un (h':=s.heap) (t':=t) Un.refl I.hok
theorem Inv.kept {t':Nat} (I:Inv X pins σ H s) (k:∀b u,s.heap.get? b=some u→h'.get? b=some u):Inv X pins σ H {s with heap:=h',toks:=t'}:=I.un (Un.kept k) (I.hok.kept k)
theorem Inv.laid {a:Addr} {o:HO} {t':Nat} (I:Inv X pins σ H s) (k:∀b u,s.heap.get? b=some u→h'.get? b=some u) (hp:s.heap.objs.size≤a) (new:ObjOk X.prog X.w (upd H a o) h' a o):
    Inv X pins σ (upd H a o) {s with heap:=h',toks:=t'}:=I.un (Un.laid k hp (I.hok.fresh hp)) (I.hok.laid k hp new)
theorem Inv.write {x e:Addr} {o:HO} {t':Nat} (I:Inv X pins σ H s) (mu:DH (H x)) (he:e=x∨H e=some (.own x)) (k:∀b u,b≠e→s.heap.get? b=some u→h'.get? b=some u) (heo:∃u,h'.get? e=some u)
    (new:ObjOk X.prog X.w (upd H x o) h' x o):Inv X pins σ (upd H x o) {s with heap:=h',toks:=t'}:=I.un (Un.write mu he k heo) (I.hok.write mu he k heo new)
theorem Inv.pins_of {pins':List (Addr×Obj)} (I:Inv X pins σ H s) (h:∀p∈pins',s.heap.get? p.1=some p.2∧H p.1=none∧p.1≠X.env.locals∧p.1∉X.fs∧∀v,p.2.data≠ .cell v):Inv X pins' σ H s:=
  ⟨I.ok,I.os,I.bare,I.base,I.loc,I.cell,I.free,I.freeC,fun p hp=>(List.mem_append.mp hp).elim (fun z=>I.pin p (List.mem_append_left _ z)) (h p),I.hok,I.len⟩
theorem qx {N:List Str} (hN:N.Nodup) {i j:Nat} {x:Str} (a:N[i]? =some x) (b:N[j]? =some x):i=j:=by
  obtain ⟨h1,e1⟩:=List.getElem?_eq_some_iff.mp a
  obtain ⟨h2,e2⟩:=List.getElem?_eq_some_iff.mp b
  exact (List.getElem_inj hN).mp (e1.trans e2.symm)
theorem uO {M:Model} {A:Around} {E:Value→Shared→Prop} {i:Nat} {x:Str} {v:V} {u:Value} {Q:Unit→Shared→Prop} (I:Inv X pins σ H s) (hN:X.N.Nodup) (hi:X.N[i]? =some x) (hx:AK X.env.scope x) (r:RelV v u)
    (h:∀s',Inv X pins (σ.set i (some v)) H s'→(∃a,Heap.SameBut a s.heap s'.heap∧(a=X.env.locals∨X.env.cells.lookup x=some a))→Q () s') (hf:X.fn x=true∨X.env.scope.names.lookup x=some .local:=by first | exact .inl rfl | exact .inr rfl | assumption):wpAny M A (storeName X.env x u) Q E s:=by
  obtain ⟨m,hn,hl⟩:=id I.loc
  have hcls:(X.env.scope.kind == .class||(X.env.scope.kind == .module&&X.env.locals != X.env.globals))=false:=by rw [I.ok.kind];rfl
  have hiσ:i < σ.length:=by rw [I.len];exact (List.getElem?_eq_some_iff.mp hi).1
  have cne:=I.cne
  have tracked:∀{a:Addr} {h':Heap},(∃o,s.heap.get? a=some o∧H a=none)→Heap.SameBut a s.heap h'→HOk X.prog X.w H h':=fun {a h'} ha hs b ob e=>by
    obtain ⟨_,_,hfree⟩:=ha
    refine (I.hok b ob e).stay (fun c w' hc q=>(hs.2 c ?_).trans q) (fun _ q=>q) fun _ _ q=>q
    rintro rfl
    rcases hc with rfl | hc
    · rw [hfree] at e;cases e
    · rw [hfree] at hc;cases hc
  rcases hx with hk | hk
  · refine wpAny_storeName_local hk hn (fun h' hn' hs=>?_) hcls
    obtain ⟨oL,_,_,hoL,_⟩:=id hn
    refine h _ ⟨I.ok,I.os,I.bare,⟨fun b o e n hb hx=>?_,fun b o e n hb hx=>?_,I.base.free,fun b o e hx=>?_,I.base.tups,I.base.frzs,I.base.tbls⟩,⟨_,hn',fun j y v' e1 e2 e3=>?_⟩,fun y c e=>?_,I.free,I.freeC,fun p hp=>?_,tracked ⟨oL,hoL,I.free⟩ hs,by simpa using I.len⟩ ⟨_,hs, .inl rfl⟩
    · exact (hs.2 b (Nat.ne_of_lt (Nat.lt_of_lt_of_le (Heap.lt_size e) I.ok.above))).trans (I.base.keep b o e n hb hx)
    · obtain ⟨sl,e1⟩:=I.base.slot b o e n hb hx
      exact ⟨sl,(hs.2 b (Nat.ne_of_lt (Nat.lt_of_lt_of_le (Heap.lt_size e) I.ok.above))).trans e1⟩
    · obtain ⟨o',e1⟩:=I.base.there b o e hx
      exact ⟨o',(hs.2 b (Nat.ne_of_lt (Nat.lt_of_lt_of_le (Heap.lt_size e) I.ok.above))).trans e1⟩
    · by_cases hj:j=i
      · subst hj
        rw [hi] at e1;cases e1
        rw [List.getElem?_set_self hiσ] at e2
        cases e2
        exact ⟨u,r, .inl ⟨hk,by simp⟩⟩
      · rw [List.getElem?_set_ne (Ne.symm hj)] at e2
        obtain ⟨u',r',q⟩:=hl j y v' e1 e2 e3
        refine ⟨u',r',?_⟩
        rcases q with ⟨k,e⟩ | ⟨k,c,e,z⟩
        · refine .inl ⟨k,?_⟩
          have:y≠x:=fun e=>hj (qx hN e1 (e▸hi))
          simp [this,e]
        · exact .inr ⟨k,c,e,z.sameBut hs (cne y c e)⟩
    · obtain ⟨w',z⟩:=I.cell y c e
      exact ⟨w',z.sameBut hs (cne y c e)⟩
    · obtain ⟨e,n,ne,nf,d⟩:=I.pin p hp
      exact ⟨(hs.2 p.1 ne).trans e,n,ne,nf,d⟩
  · have hfn:X.fn x=true:=by
      rcases hf with z | z
      · exact z
      · rw [z] at hk;cases hk
    obtain ⟨c,hc⟩:=I.ok.has x (.inl hk)
    obtain ⟨w',z⟩:=I.cell x c hc
    refine wpAny_storeName_cell I.ok.kind hk hc z (fun h' hc' hs=>?_)
    obtain ⟨oc,hoc,hocd⟩:=id z
    refine h {s with heap:=h'} ⟨I.ok,I.os,I.bare,⟨fun b o e n hb hx=>?_,fun b o e n hb hx=>?_,I.base.free,fun b o e hx=>?_,I.base.tups,I.base.frzs,I.base.tbls⟩,⟨m,hn.sameBut hs (Ne.symm (cne x c hc)),fun j y v' e1 e2 e3=>?_⟩,fun y c' e=>?_,I.free,I.freeC,fun p hp=>?_,tracked ⟨oc,hoc,I.freeC x c hc⟩ hs,by simpa using I.len⟩ ⟨c,hs, .inr hc⟩
    · exact (hs.2 b (Nat.ne_of_lt (Nat.lt_of_lt_of_le (Heap.lt_size e) (I.ok.cab x c hfn hc)))).trans (I.base.keep b o e n hb hx)
    · obtain ⟨sl,e1⟩:=I.base.slot b o e n hb hx
      exact ⟨sl,(hs.2 b (Nat.ne_of_lt (Nat.lt_of_lt_of_le (Heap.lt_size e) (I.ok.cab x c hfn hc)))).trans e1⟩
    · obtain ⟨o',e1⟩:=I.base.there b o e hx
      exact ⟨o',(hs.2 b (Nat.ne_of_lt (Nat.lt_of_lt_of_le (Heap.lt_size e) (I.ok.cab x c hfn hc)))).trans e1⟩
    · by_cases hj:j=i
      · subst hj
        rw [hi] at e1;cases e1
        rw [List.getElem?_set_self hiσ] at e2
        cases e2
        exact ⟨u,r, .inr ⟨.inl hk,c,hc,hc'⟩⟩
      · rw [List.getElem?_set_ne (Ne.symm hj)] at e2
        obtain ⟨u',r',q⟩:=hl j y v' e1 e2 e3
        refine ⟨u',r',?_⟩
        rcases q with q | ⟨k,c',e,z'⟩
        · exact .inl q
        · refine .inr ⟨k,c',e,z'.sameBut hs ?_⟩
          rintro rfl
          exact hj (qx hN e1 (I.ok.inj _ _ _ e hc▸hi))
    · by_cases hcc:c'=c
      · subst hcc;exact ⟨_,hc'⟩
      · obtain ⟨w2,z2⟩:=I.cell y c' e
        exact ⟨w2,z2.sameBut hs hcc⟩
    · obtain ⟨e,n,ne,nf,d⟩:=I.pin p hp
      refine ⟨(hs.2 p.1 ?_).trans e,n,ne,nf,d⟩
      intro q
      rw [q,hoc] at e
      have q':oc=p.2:=Option.some.inj e
      exact d w' (by rw [←q'];exact hocd)
theorem qy {M:Model} {A:Around} {E:Value→Shared→Prop} {i:Nat} {x:Str} {v:V} {u:Value} {Q:Unit→Shared→Prop} (I:Inv X pins σ H s) (hN:X.N.Nodup) (hi:X.N[i]? =some x) (hx:AK X.env.scope x) (r:RelV v u)
    (h:∀s',Inv X pins (σ.set i (some v)) H s'→Q () s') (hf:X.fn x=true∨X.env.scope.names.lookup x=some .local:=by first | exact .inl rfl | exact .inr rfl | assumption):wpAny M A (storeName X.env x u) Q E s:=
  uO I hN hi hx r (fun s' I' _=>h s' I') hf
theorem Inv.call' {s':Shared} {ch:List Addr} (I:Inv X pins σ H s) (ho:s'.os=s.os) (u:Un (v6 X.stack) ch H H' s.heap s'.heap) (hok:HOk X.prog X.w H' s'.heap) (hg:AllBare s'.gens)
    (hch:∀b∈ch,(b∈X.ex∨X.s₀.heap.objs.size≤b)∧b≠X.env.locals∧(∀x c,X.env.cells.lookup x=some c→c≠b)∧∀p∈X.pn++pins,p.1≠b):Inv X pins σ H' s':=by
  obtain ⟨h',g',d',t',o'⟩:=s'
  have e:o'=s.os:=ho
  subst e
  exact I.call (g':=g') (t':=t') (d':=d') u hok hg hch
end
abbrev XK:=Value→Option Addr→Hp→Prop
abbrev St:=List (Option V)
abbrev VK:=V→Hp→Prop
abbrev TE:=St→Hp→VK→Prop
abbrev TT:=St→Hp→(Bool→Hp→Prop)→Prop
abbrev TA:=St→Hp→(List V→Hp→Prop)→Prop
structure Ends where
  nx:St→Hp→Prop
  rt:VK
  bk:St→Hp→Prop:=fun _ _=>False
  ct:St→Hp→Prop:=fun _ _=>False
abbrev TS:=Ends→St→Hp→Prop
def EP (X:Cx) (pins:List (Addr×Obj)) (σ:St) (Q:VK) (u:Value) (s':Shared):Prop:=∃v H',Inv X pins σ H' s'∧RelV v u∧Q v H'
def TP (X:Cx) (pins:List (Addr×Obj)) (σ:St) (Q:Bool→Hp→Prop) (b:Bool) (s':Shared):Prop:=∃H',Inv X pins σ H' s'∧Q b H'
def AP (X:Cx) (pins:List (Addr×Obj)) (σ:St) (Q:List V→Hp→Prop) (us:List Value) (s':Shared):Prop:=∃vs H',Inv X pins σ H' s'∧Vals vs us∧Q vs H'
def SP (X:Cx) (pins:List (Addr×Obj)) (D:Ends) (f:Flow) (s':Shared):Prop:=
  match f with
  | .next=>∃σ' H',Inv X pins σ' H' s'∧D.nx σ' H'
  | .brk=>∃σ' H',Inv X pins σ' H' s'∧D.bk σ' H'
  | .cont=>∃σ' H',Inv X pins σ' H' s'∧D.ct σ' H'
  | .ret u=>∃v σ' H',Inv X pins σ' H' s'∧RelV v u∧D.rt v H'
def PE (X:Cx) (e:Expr) (t:TE):Prop:=
  ∀(pins:List (Addr×Obj)) (s:Shared) (σ:St) (H:Hp) (Q:VK),Inv X pins σ H s→t σ H Q→wpAny (model X.prog X.w) X.A (eval e X.env) (EP X pins σ Q) X.xe s
def PT (X:Cx) (e:Expr) (t:TT):Prop:=
  ∀(pins:List (Addr×Obj)) (s:Shared) (σ:St) (H:Hp) (Q:Bool→Hp→Prop),Inv X pins σ H s→t σ H Q→wpAny (model X.prog X.w) X.A (isTrue e X.env (eval e X.env)) (TP X pins σ Q) X.xe s
def PW (X:Cx) (e:Expr) (t:TT):Prop:=
  ∀(whole:Sem Value) (pins:List (Addr×Obj)) (s:Shared) (σ:St) (H:Hp) (Q:Bool→Hp→Prop),Inv X pins σ H s→t σ H Q→wpAny (model X.prog X.w) X.A (isTrue e X.env whole) (TP X pins σ Q) X.xe s
theorem PW.pt {X:Cx} {e:Expr} {t:TT} (h:PW X e t):PT X e t:=h _
def PA (X:Cx) (es:List Expr) (t:TA):Prop:=
  ∀(pos:Pos) (pins:List (Addr×Obj)) (s:Shared) (σ:St) (H:Hp) (Q:List V→Hp→Prop),Inv X pins σ H s→t σ H Q→wpAny (model X.prog X.w) X.A (spliced (backTo pos (starEach es X.env))) (AP X pins σ Q) X.xe s
def PS (X:Cx) (st:Stmt) (t:TS):Prop:=
  ∀(pins:List (Addr×Obj)) (s:Shared) (σ:St) (H:Hp) (D:Ends),Inv X pins σ H s→t D σ H→wpAny (model X.prog X.w) X.A (exec st X.env) (SP X pins D) X.xe s
def PSs (X:Cx) (st:List Stmt) (t:TS):Prop:=
  ∀(pins:List (Addr×Obj)) (s:Shared) (σ:St) (H:Hp) (D:Ends),Inv X pins σ H s→t D σ H→wpAny (model X.prog X.w) X.A (execs st X.env) (SP X pins D) X.xe s
theorem fU {α:Type} {t:Sem α} {Q Q':α→Shared→Prop} {M:Model} {A:Around} {E:Value→Shared→Prop} {s:Shared} (h:wpAny M A t Q E s) (hQ:∀a s,Q a s→Q' a s):wpAny M A t Q' E s:=wpAny_mono h hQ fun _ _ x=>x
end L2
namespace L2
open PySem PySem.Spec PyProof.Rows
section
variable {X:Cx}
def DR (i:Nat):TE:=fun σ H Q=>∃v,σ[i]? =some (some v)∧Q v H
def tC (v:V):TE:=fun _ H Q=>Q v H
theorem v9 {i:Nat} {x:Str} {pos:Pos} (hN:X.N[i]? =some x) (hv:DJ X.env.scope x) (hd:(x == ("__debug__":Str))=false:=by decide) (hcd:(x == ("__classdict__":Str))=false:=by decide):PE X (.Name x pos) (DR i):=by
  intro pins s σ H Q I h
  obtain ⟨v,e,h⟩:=h
  obtain ⟨m,hn,hl⟩:=I.loc
  obtain ⟨u,r,l⟩:=hl i x v hN e hv
  have fin:EP X pins σ Q u s:=⟨v,H,I,r,h⟩
  rcases l with ⟨hk,hm⟩ | ⟨hk,c,hc,hcell⟩
  · exact wpAny_Name (wpAny_loadName_local I.ok.kind hk hn hm fin) hd
  · rcases hk with hk | hk
    · exact wpAny_Name (wpAny_loadName_cell I.ok.kind hk hc hcell fin) hd
    · exact wpAny_Name (wpAny_loadName_free I.ok.kind hk hc hcell fin hcd) hd
theorem AL {i j pos}:PE X (.Constant (.int i) j pos) (tC (.int i)):=fun _ _ _ H _ I h=>wpAny_Constant_int ⟨.int i,H,I.tok _,⟨_,rfl⟩,h⟩
theorem Cp {b j pos}:PE X (.Constant (.bool b) j pos) (tC (.bl b)):=fun _ _ _ H _ I h=>Constant_bool ⟨.bl b,H,I,rfl,h⟩
theorem v_ {x j pos}:PE X (.Constant (.str x) j pos) (tC (.str x)):=fun _ _ _ H _ I h=>Calls.Constant_str ⟨.str x,H,I.tok _,⟨_,rfl⟩,h⟩
def Gl (X:Cx) (x:Str):Prop:=X.env.kindOf x=some .globalImplicit
theorem tE {E:Value→Shared→Prop} {pins:List (Addr×Obj)} {s:Shared} {σ:St} {H:Hp} {x:Str} {u:Value} {pos:Pos} {Q:Value→Shared→Prop} (I:Inv X pins σ H s) (hg:Gl X x) (hm:X.mg x=some u) (h:Q u s)
    (hd:(x == ("__debug__":Str))=false:=by decide):wpAny (model X.prog X.w) X.A (eval (.Name x pos) X.env) Q E s:=
  Calls.Name_function_global I.ok.kind hg (Calls.loadGlobal_global (by rw [I.ok.glob];exact I.mod.glob.keeps I.bk) hm h) hd
theorem jW {E:Value→Shared→Prop} {pins:List (Addr×Obj)} {s:Shared} {σ:St} {H:Hp} {x:Str} {u:Value} {pos:Pos} {Q:Value→Shared→Prop} (I:Inv X pins σ H s) (hg:Gl X x) (hm:X.mg x=none) (hv:bootBuiltins x=some u) (h:Q u s)
    (hn:x≠"__name__":=by decide) (hd:(x == ("__debug__":Str))=false:=by decide):wpAny (model X.prog X.w) X.A (eval (.Name x pos) X.env) Q E s:=by
  obtain ⟨mb,h1,h2⟩:=I.mod.blt
  exact Calls.Name_function_global I.ok.kind hg (Calls.loadGlobal_builtin (by rw [I.ok.glob];exact I.mod.glob.keeps I.bk) hm (by rw [I.ok.blt];exact h1.keeps I.bk) ((h2 x hn).trans hv) h) hd
theorem tF {x:Str} {v:V} {u:Value} {pos:Pos} (hg:Gl X x) (hm:X.mg x=some u) (r:RelV v u) (hd:(x == ("__debug__":Str))=false:=by decide):PE X (.Name x pos) (tC v):=
  fun _ _ _ H _ I h=>tE I hg hm ⟨v,H,I,r,h⟩ hd
theorem yx {x:Str} {v:V} {u:Value} {pos:Pos} (hg:Gl X x) (hm:X.mg x=none) (hv:bootBuiltins x=some u) (r:RelV v u) (hn:x≠"__name__":=by decide) (hd:(x == ("__debug__":Str))=false:=by decide):PE X (.Name x pos) (tC v):=
  fun _ _ _ H _ I h=>jW I hg hm hv ⟨v,H,I,r,h⟩ hn hd
variable {a b:Expr} {ta tb:TE} {pos:Pos}
variable {tA tB':TT} {gr:List Expr}
def EG (t u:TT):TT:=fun σ H Q=>t σ H fun c H1=>if c=true then Q true H1 else u σ H1 Q
def DS (t:TT):TT:=fun σ H Q=>t σ H fun c H1=>Q (!c) H1
theorem AM (ha:PT X a tA):PW X (.BoolOp .Or [a] pos) tA:=by
  intro wh pins s σ H Q I h
  refine isTrue_or (fU (ha pins s σ H Q I h) fun c s1 e=>?_)
  cases c with
  | false=>exact isTrue_or_nil e
  | true=>exact e
theorem Cq (ha:PT X a tA) (hb:PW X (.BoolOp .Or (b::gr) pos) tB'):PW X (.BoolOp .Or (a::b::gr) pos) (EG tA tB'):=by
  intro wh pins s σ H Q I h
  refine isTrue_or (fU (ha pins s σ H _ I h) fun c s1 ⟨H1,I1,q1⟩=>?_)
  cases c with
  | true=>exact ⟨H1,I1,q1⟩
  | false=>exact hb wh pins s1 σ H1 Q I1 q1
theorem AN (ha:PT X a tA):PT X (.UnaryOp .Not a pos) (DS tA):=by
  intro pins s σ H Q I h
  exact isTrue_not (ha pins s σ H (fun c H1=>Q (!c) H1) I h)
def Cr (ta tb:TE):TE:=fun σ H Q=>ta σ H fun x H1=>∃c,x= .bl c∧if c=true then tb σ H1 Q else Q (.bl false) H1
theorem AO {op} {t:TE} (h:PE X a t):PE X (.BoolOp op [a] pos) t:=fun pins s σ H Q I hw=>BoolOp_one (h pins s σ H Q I hw)
theorem AQ (ha:PE X a ta) (hb:PE X (.BoolOp .And (b::gr) pos) tb):PE X (.BoolOp .And (a::b::gr) pos) (Cr ta tb):=by
  intro pins s σ H Q I h
  refine BoolOp_and (fU (ha pins s σ H _ I h) fun v s1 ⟨x,H1,I1,r1,q1⟩=>?_)
  obtain ⟨c,rfl,q1⟩:=q1
  cases r1
  refine wpAny_truthy_bool ?_
  cases c with
  | true=>exact hb pins s1 σ H1 Q I1 q1
  | false=>exact ⟨.bl false,H1,I1,rfl,q1⟩
end
end L2
namespace L2
open PySem PySem.Spec PyProof.Rows
def SqL (K:PySem.W.Frag) (H:Hp) (a:Addr) (xs:List V):Prop:=
  Rd H a (.lst xs)∨
    ∃(o:Obj) (its:Array Value) (n:Nat),K.lookup a=some o∧o.cls= .type "list"∧o.dict=none∧o.data= .seq its n∧its.size≤sizeLine∧Vals xs its.toList
def SqT (K:PySem.W.Frag) (H:Hp) (a:Addr) (xs:List V):Prop:=
  Rd H a (.tup xs)∨
    ∃(o:Obj) (its:Array Value) (n:Nat),K.lookup a=some o∧o.cls= .type "tuple"∧o.data= .seq its n∧its.size≤sizeLine∧Vals xs its.toList
def DT:Value→Option V
  | .none=>some .non
  | .bool b=>some (.bl b)
  | .int i _=>some (.int i)
  | .str x _=>some (.str x)
  | .bytes b _=>some (.byt b)
  | .float b _=>some (.flt b)
  | .ref a=>some (.ref a)
  | .type n=>some (.ty n)
  | _=>none
theorem RelV.abs {x:V} {u:Value} (r:RelV x u):DT u=some x:=by
  cases x with
  | non=>cases r;rfl
  | bl _=>cases r;rfl
  | int _=>obtain ⟨t,rfl⟩:=r;rfl
  | str _=>obtain ⟨t,rfl⟩:=r;rfl
  | byt _=>obtain ⟨t,rfl⟩:=r;rfl
  | flt _=>obtain ⟨t,rfl⟩:=r;rfl
  | ref _=>cases r;rfl
  | ty _=>cases r;rfl
theorem RelV.inj {x y:V} {u:Value} (r:RelV x u) (q:RelV y u):x=y:=Option.some.inj (r.abs.symm.trans q.abs)
theorem Vals.inj {xs ys:List V} {us:List Value} (h:Vals xs us) (k:Vals ys us):xs=ys:=by
  induction h generalizing ys with
  | nil=>cases k;rfl
  | cons r _ ih=>cases k with | cons r' t'=>rw [r.inj r',ih t']
section
variable {X:Cx} {pins:List (Addr×Obj)} {σ:St} {H:Hp} {s:Shared} {a:Addr} {xs ys:List V}
theorem SqL.of {K:PySem.W.Frag} (h:H a=some (.lst xs)):SqL K H a xs:= .inl (.inl h)
theorem SqT.of {K:PySem.W.Frag} (h:H a=some (.tup xs)):SqT K H a xs:= .inl (.inl h)
theorem Inv.list (I:Inv X pins σ H s) (h:SqL X.K H a xs):∃its:List Value,Vals xs its∧PlainL s.heap a its.toArray∧xs.length≤sizeLine:=by
  rcases h with h | ⟨o,its,n,hk,hc,hd,hs,hz,r⟩
  · obtain ⟨z,its,n,r,e⟩:=h.ok I.hok
    exact ⟨its,r,⟨_,n,e,rfl,rfl,rfl⟩,z⟩
  · refine ⟨its.toList,r,⟨o,n,I.kIn a o hk,hc,hd,by simpa using hs⟩,?_⟩
    have e:=r.length
    simp only [Array.length_toList] at e
    omega
theorem Inv.tuple (I:Inv X pins σ H s) (h:SqT X.K H a xs):∃its:List Value,Vals xs its∧IsTup s.heap a its.toArray∧xs.length≤sizeLine:=by
  rcases h with h | ⟨o,its,n,hk,hc,hs,hz,r⟩
  · obtain ⟨z,its,r,p⟩:=h.ok I.hok
    exact ⟨its,r,p,z⟩
  · refine ⟨its.toList,r,⟨o,I.kIn a o hk,hc,n,by simpa using hs⟩,?_⟩
    have e:=r.length
    simp only [Array.length_toList] at e
    omega
theorem Inv.list_inj (I:Inv X pins σ H s) (h:SqL X.K H a xs) (h':SqL X.K H a ys):xs=ys:=by
  obtain ⟨its,r,⟨o,n,e,_,_,d⟩,_⟩:=I.list h
  obtain ⟨its',r',⟨o',n',e',_,_,d'⟩,_⟩:=I.list h'
  rw [e] at e';cases e'
  rw [d] at d'
  injection d' with d1 _
  have:its=its':=by simpa using congrArg Array.toList d1
  subst this
  exact r.inj r'
theorem Inv.tuple_inj (I:Inv X pins σ H s) (h:SqT X.K H a xs) (h':SqT X.K H a ys):xs=ys:=by
  obtain ⟨its,r,⟨o,e,_,n,d⟩,_⟩:=I.tuple h
  obtain ⟨its',r',⟨o',e',_,n',d'⟩,_⟩:=I.tuple h'
  rw [e] at e';cases e'
  rw [d] at d'
  injection d' with d1 _
  have:its=its':=by simpa using congrArg Array.toList d1
  subst this
  exact r.inj r'
end
abbrev Cx.wish (X:Cx) (E:Value→Shared→Prop):Cx:={X with xe:=E}
abbrev Cx.nox (X:Cx):Cx:=X.wish fun _ _=>False
theorem Cx.Ok.wish {X:Cx} (ok:X.Ok) (E:Value→Shared→Prop):(X.wish E).Ok:=
  ⟨ok.mod,ok.kind,ok.glob,ok.blt,ok.above,ok.inj,ok.has,ok.cab,ok.hd,ok.frames,ok.stk,ok.exf,ok.bs,ok.bsz,ok.noex,ok.exfs,ok.funs,ok.frf,ok.tab⟩
theorem Cx.Ok.unwish {X:Cx} {E:Value→Shared→Prop} (ok:(X.wish E).Ok):X.Ok:=
  ⟨ok.mod,ok.kind,ok.glob,ok.blt,ok.above,ok.inj,ok.has,ok.cab,ok.hd,ok.frames,ok.stk,ok.exf,ok.bs,ok.bsz,ok.noex,ok.exfs,ok.funs,ok.frf,ok.tab⟩
section
variable {X:Cx} {pins:List (Addr×Obj)} {σ:St} {H:Hp} {s:Shared} {E:Value→Shared→Prop}
theorem Inv.wish (I:Inv X pins σ H s) (E:Value→Shared→Prop):Inv (X.wish E) pins σ H s:=⟨I.ok.wish E,I.os,I.bare,I.base,I.loc,I.cell,I.free,I.freeC,I.pin,I.hok,I.len⟩
theorem Inv.unwish (I:Inv (X.wish E) pins σ H s):Inv X pins σ H s:=⟨I.ok.unwish,I.os,I.bare,I.base,I.loc,I.cell,I.free,I.freeC,I.pin,I.hok,I.len⟩
theorem SP.unwish {D:Ends} {f:Flow} {s':Shared} (h:SP (X.wish E) pins D f s'):SP X pins D f s':=by
  cases f with
  | next=>obtain ⟨σ',H',I,q⟩:=h;exact ⟨σ',H',I.unwish,q⟩
  | brk=>obtain ⟨σ',H',I,q⟩:=h;exact ⟨σ',H',I.unwish,q⟩
  | cont=>obtain ⟨σ',H',I,q⟩:=h;exact ⟨σ',H',I.unwish,q⟩
  | ret u=>obtain ⟨v,σ',H',I,r,q⟩:=h;exact ⟨v,σ',H',I.unwish,r,q⟩
theorem PE.nox {e:Expr} {t:TE} (h:PE X.nox e t):PE X e t:=fun pins s σ H Q I hw=>
  wpAny_mono (h pins s σ H Q (I.wish _) hw) (fun _ _ ⟨v,H',I',r,q⟩=>⟨v,H',I'.unwish,r,q⟩) fun _ _ z=>False.elim z
theorem PT.nox {e:Expr} {t:TT} (h:PT X.nox e t):PT X e t:=fun pins s σ H Q I hw=>
  wpAny_mono (h pins s σ H Q (I.wish _) hw) (fun _ _ ⟨H',I',q⟩=>⟨H',I'.unwish,q⟩) fun _ _ z=>False.elim z
theorem PSs.nox {st:List Stmt} {t:TS} (h:PSs X.nox st t):PSs X st t:=fun pins s σ H D I hw=>
  wpAny_mono (h pins s σ H D (I.wish _) hw) (fun _ _ q=>q.unwish) fun _ _ z=>False.elim z
end
section
variable {X:Cx} {st:Stmt} {gr:List Stmt} {t u:TS} {e:Expr} {te:TE} {pos:Pos}
def Cs:TS:=fun D σ H=>D.nx σ H
def DU (t u:TS):TS:=fun D σ H=>t {D with nx:=u D} σ H
theorem yy:PSs X [] Cs:=fun _ _ σ H _ I h=>wpAny_execs_nil ⟨σ,H,I,h⟩
theorem wa (h1:PS X st t) (h2:PSs X gr u):PSs X (st::gr) (DU t u):=by
  intro pins s σ H D I h
  refine wpAny_execs_cons (fU (h1 pins s σ H {D with nx:=u D} I h) fun f s1 q=>?_)
  cases f with
  | next=>
    obtain ⟨σ',H',I',q⟩:=q
    exact h2 pins s1 σ' H' D I' q
  | ret v=>exact q
  | brk=>exact q
  | cont=>exact q
theorem yz (h1:PS X st t):PSs X [st] t:=by
  intro pins s σ H D I h
  refine wpAny_execs_cons (fU (h1 pins s σ H D I h) fun f s1 q=>?_)
  cases f with
  | next=>exact wpAny_execs_nil q
  | ret v=>exact q
  | brk=>exact q
  | cont=>exact q
theorem Inv.quiet {pins:List (Addr×Obj)} {σ:St} {H:Hp} {s:Shared} (I:Inv X pins σ H s):interactive X.env=false:=by simp [interactive,I.ok.kind]
def Ct (te:TE):TS:=fun D σ H=>te σ H fun _ H1=>D.nx σ H1
theorem yA (he:PE X e te) (hs:swapsWith e none pos.line X.env=pure false:=by rfl):PS X (.Expr e pos) (Ct te):=by
  intro pins s σ H D I h
  exact wpAny_Expr_any (fU (he pins s σ H _ I h) fun v s1 ⟨x,H1,I1,r1,q1⟩=>⟨σ,H1,I1,q1⟩) I.quiet hs
def DV (te:TE):TS:=fun D σ H=>te σ H D.rt
theorem AR (he:PE X e te):PS X (.Return (some e) pos) (DV te):=by
  intro pins s σ H D I h
  exact wpAny_Return_some (fU (he pins s σ H _ I h) fun v s1 ⟨x,H1,I1,r1,q1⟩=>⟨x,σ,H1,I1,r1,q1⟩)
def DW (c:TT) (t u:TS):TS:=fun D σ H=>c σ H fun b H1=>if b=true then t D σ H1 else u D σ H1
theorem Cu {c:Expr} {a b:List Stmt} {tc:TT} (hc:PT X c tc) (ha:PSs X a t) (hb:PSs X b u):PS X (.If c a b pos) (DW tc t u):=by
  intro pins s σ H D I h
  refine wpAny_If (fU (hc pins s σ H _ I h) fun d s1 ⟨H1,I1,q1⟩=>?_)
  cases d with
  | true=>exact ha pins s1 σ H1 D I1 q1
  | false=>exact hb pins s1 σ H1 D I1 q1
def AS:TS:=fun _ _ _=>False
theorem wb:PS X st AS:=fun _ _ _ _ _ _ h=>h.elim
end
abbrev TG:=V→St→Hp→(St→Hp→Prop)→Prop
abbrev yC:=List V→St→Hp→(St→Hp→Prop)→Prop
def PG (X:Cx) (target:Expr) (t:TG):Prop:=
  ∀(pins:List (Addr×Obj)) (s:Shared) (σ:St) (H:Hp) (v:V) (u:Value) (Q:St→Hp→Prop),Inv X pins σ H s→RelV v u→t v σ H Q→
    wpAny (model X.prog X.w) X.A (assign target X.env u) (fun _ s'=>∃σ' H',Inv X pins σ' H' s'∧Q σ' H') X.xe s
def AT (X:Cx) (ts:List Expr) (t:yC):Prop:=
  ∀(pins:List (Addr×Obj)) (s:Shared) (σ:St) (H:Hp) (vs:List V) (us:List Value) (Q:St→Hp→Prop),Inv X pins σ H s→Vals vs us→t vs σ H Q→
    wpAny (model X.prog X.w) X.A (assignInOrder ((assignEach ts X.env).map (·.2)) us) (fun _ s'=>∃σ' H',Inv X pins σ' H' s'∧Q σ' H') X.xe s
section
variable {X:Cx} {pos:Pos}
def wc (i:Nat):TG:=fun v σ H Q=>Q (σ.set i (some v)) H
theorem tH {i:Nat} {x:Str} (hN:X.N.Nodup) (hi:X.N[i]? =some x) (hx:AK X.env.scope x) (hf:X.fn x=true∨X.env.scope.names.lookup x=some .local:=by first | exact .inl rfl | exact .inr rfl | assumption):PG X (.Name x pos) (wc i):=by
  intro pins s σ H v u Q I r h
  exact wpAny_assign_Name (qy I hN hi hx r (fun s' I'=>⟨_,H,I',h⟩) hf)
def DY:yC:=fun vs σ H Q=>vs=[]∧Q σ H
def Cv (t:TG) (u:yC):yC:=fun vs σ H Q=>∃v r,vs=v::r∧t v σ H fun σ' H'=>u r σ' H' Q
theorem yD:AT X [] DY:=by
  intro pins s σ H vs us Q I r h
  obtain ⟨e,h⟩:=h
  subst e
  cases r
  exact assignInOrder_nil ⟨σ,H,I,h⟩
theorem wd {e:Expr} {es:List Expr} {t:TG} {u:yC} (h1:PG X e t) (h2:AT X es u)
    (hs:(assignEach (e::es) X.env).map (·.2)=assign e X.env::(assignEach es X.env).map (·.2):=by rfl):AT X (e::es) (Cv t u):=by
  intro pins s σ H vs us Q I r h
  obtain ⟨v,vr,e1,h⟩:=h
  subst e1
  cases r with
  | cons r rr=>
    rw [hs]
    refine assignInOrder_cons (fU (h1 pins s σ H _ _ _ I r h) fun _ s1 ⟨σ1,H1,I1,q1⟩=>?_)
    exact h2 pins s1 σ1 H1 _ _ Q I1 rr q1
def DZ (K:PySem.W.Frag) (n:Nat) (t:yC):TG:=fun v σ H Q=>∃a xs,v= .ref a∧SqT K H a xs∧xs.length=n∧t xs σ H Q
theorem AU {es:List Expr} {k:Nat} {t:yC} {n:Nat} (hc:X.calm=true) (h:AT X es t)
    (hn:(assignEach es X.env).length=n:=by rfl) (hst:(assignEach es X.env).findIdx? (·.1)=none:=by rfl):PG X (.Tuple es k pos) (DZ X.K n t):=by
  intro pins s σ H v u Q I r hw
  obtain ⟨a,xs,e1,hq,hl,hw⟩:=hw
  subst e1
  cases r
  obtain ⟨its,rv,ht,hz⟩:=I.tuple hq
  refine assign_Tuple_tuple (I.ok.hd hc) ht (by simp [hn,←hl,rv.length]) hst fun h' hx=>?_
  have I1:Inv X pins σ H {s with heap:=h'}:=I.kept (t':=s.toks) fun b o e=>hx b o (Nat.ne_of_lt (Heap.lt_size e)) e
  exact h pins _ σ H xs _ Q I1 (by simpa using rv) hw
def Cw (te:TE) (g:TG):TS:=fun D σ H=>te σ H fun x H1=>g x σ H1 D.nx
theorem AV {i:Nat} {x:Str} {e:Expr} {te:TE} {pos':Pos} (hN:X.N.Nodup) (hi:X.N[i]? =some x) (hx:AK X.env.scope x) (he:PE X e te) (hs:swapsWith e (some (.Name x pos')) pos.line X.env=pure false:=by rfl) (hf:X.fn x=true∨X.env.scope.names.lookup x=some .local:=by first | exact .inl rfl | exact .inr rfl | assumption):
    PS X (.Assign [.Name x pos'] e pos) (Cw te (wc i)):=by
  intro pins s σ H D I h
  refine wpAny_Assign_Name (fU (he pins s σ H _ I h) fun v s1 ⟨y,H1,I1,r1,q1⟩=>?_) hs
  exact qy I1 hN hi hx r1 (fun s2 I2=>⟨_,H1,I2,q1⟩) hf
end
structure It where
  go:Nat→Hp→Prop
  yld:Nat→Hp→V→Hp→Prop
  stop:Nat→Hp→Prop
def qz (X:Cx) (pins:List (Addr×Obj)) (H:Hp) (b:Addr):Prop:=
  H b=none∧b≠X.env.locals∧b∉X.fs∧(b∈X.ex∨X.s₀.heap.objs.size≤b)∧(∀x c,X.env.cells.lookup x=some c→c≠b)∧∀p∈X.pn++pins,p.1≠b
theorem Inv.fpOk {X:Cx} {pins:List (Addr×Obj)} {σ:St} {H H':Hp} {s:Shared} {b:Addr} (I:Inv X pins σ H s) (hb:s.heap.objs.size≤b) (hn:H' b=none):qz X pins H' b:=by
  refine ⟨hn,Nat.ne_of_gt (Nat.lt_of_lt_of_le I.lt hb),I.nofs hb, .inr (Nat.le_trans I.sz hb),fun x c e z=>?_,fun p hp z=>?_⟩
  · obtain ⟨v,q⟩:=I.cell x c e
    exact absurd (Nat.lt_of_lt_of_le q.lt (by rw [z];exact hb)) (Nat.lt_irrefl _)
  · exact absurd (Nat.lt_of_lt_of_le (Heap.lt_size (I.pin p hp).1) (by rw [z];exact hb)) (Nat.lt_irrefl _)
structure Turn (P:Program) (w:World) (K:PySem.W.Frag) (tg:Expr) (J:It) (fp:List Addr) (it:Addr) (tn:Nat→Heap→Prop):Prop where
  mem:it∈fp
  obj:∀i h,tn i h→∀b∈fp,∃o,h.get? b=some o∧∀v,o.data≠ .cell v
  keep:∀i h h',tn i h→(∀b∈fp,∀o,h.get? b=some o→h'.get? b=some o)→tn i h'
  item:∀(X:Cx),X.prog=P→X.w=w→X.K=K→X.calm=true→∀(i:Nat) (pins:List (Addr×Obj)) (s:Shared) (σ:St) (H:Hp) (E:Value→Shared→Prop),Inv X pins σ H s→(∀b∈fp,qz X pins H b)→tn i s.heap→J.go i H→
    wpAny (model P w) X.A (pyNext (.ref it)) (fun r s1=>∃u,r=some u∧
      wpAny (model P w) X.A (letOwnedTupleGo tg (.ref it) u) (fun _ s2=>∃x H',Inv X pins σ H' s2∧RelV x u∧J.yld i H x H'∧tn (i+1) s2.heap∧∀b∈fp,H' b=none) E s1) E s
  done:∀(X:Cx),X.prog=P→X.w=w→X.K=K→X.calm=true→∀(i:Nat) (pins:List (Addr×Obj)) (s:Shared) (σ:St) (H:Hp) (E:Value→Shared→Prop),Inv X pins σ H s→(∀b∈fp,qz X pins H b)→tn i s.heap→J.stop i H→
    wpAny (model P w) X.A (pyNext (.ref it)) (fun r s1=>r=none∧Inv X pins σ H s1) E s
  self:∀(A:Around) (i:Nat) (s:Shared) (Q:Value→Shared→Prop) (E:Value→Shared→Prop),tn i s.heap→Q (.ref it) s→wpAny (model P w) A (pyIter (.ref it)) Q E s
abbrev TI:=St→Hp→(It→Hp→Prop)→Prop
def Ey (X:Cx) (pins:List (Addr×Obj)) (σ:St) (tg:Expr) (R:It→Hp→Prop) (itv:Value) (s2:Shared):Prop:=
  ∃(it:Addr) (fp:List Addr) (tn:Nat→Heap→Prop) (J:It) (H':Hp),itv= .ref it∧Inv X pins σ H' s2∧Turn X.prog X.w X.K tg J fp it tn∧tn 0 s2.heap∧(∀b∈fp,qz X pins H' b)∧R J H'
def PI (X:Cx) (tg iter:Expr) (wi:TI):Prop:=
  ∀(pins:List (Addr×Obj)) (s:Shared) (σ:St) (H:Hp) (R:It→Hp→Prop),Inv X pins σ H s→wi σ H R→
    wpAny (model X.prog X.w) X.A (eval iter X.env) (fun v s1=>wpAny (model X.prog X.w) X.A (pyIter v) (Ey X pins σ tg R) X.xe s1) X.xe s
theorem qA {M:Model} {A:Around} {E:Value→Shared→Prop} {s:Shared} {tg:Expr} {it:Addr} {u:Value} {o:Obj} {n:String} {vs:Array Value} {Q:Unit→Shared→Prop} (ho:s.heap.get? it=some o) (hc:o.cls= .type n) (hd:o.data= .fields vs)
    (hn:["enumerate","zip","dict_itemiterator","dict_reverseitemiterator","odict_iterator","itertools.zip_longest","itertools.pairwise"].contains n=false) (hQ:Q () s):wpAny M A (letOwnedTupleGo tg (.ref it) u) Q E s:=by
  unfold letOwnedTupleGo
  cases tg <;> first
    | exact wpAny_pure hQ
    | (cases u <;> first
        | exact wpAny_pure hQ
        | (refine wpAny_bind (wpAny_load ho ?_)
           rw [hc,hd]
           show wpAny M A (if (["enumerate","zip","dict_itemiterator","dict_reverseitemiterator","odict_iterator","itertools.zip_longest","itertools.pairwise"].contains n&&vs[0]? == some (rawInt _))=true then _ else _) Q E s
           rw [if_neg (by intro h;rw [hn,Bool.false_and] at h;cases h)]
           exact wpAny_pure hQ))
def D0 (K:PySem.W.Frag) (a:Addr):It:=
  ⟨fun i H=>∃xs x,SqL K H a xs∧xs[i]? =some x,fun i H x H'=>H'=H∧∀xs,SqL K H a xs→xs[i]? =some x,fun i H=>∃xs,SqL K H a xs∧xs.length≤i⟩
def D1 (K:PySem.W.Frag) (a:Addr):It:=
  ⟨fun i H=>∃xs x,SqT K H a xs∧xs[i]? =some x,fun i H x H'=>H'=H∧∀xs,SqT K H a xs→xs[i]? =some x,fun i H=>∃xs,SqT K H a xs∧xs.length≤i⟩
def Cy (lo:Int) (n:Nat):It:=⟨fun i _=>i < n,fun i H x H'=>H'=H∧x= .int (lo+i),fun i _=>n≤i⟩
theorem uP {P:Program} {w:World} {K:PySem.W.Frag} {tg:Expr} (a it:Addr):Turn P w K tg (D0 K a) [it] it (fun i h=>h.IsListIter it a i) where
  mem:=by simp
  obj:=fun i h st b hb=>by
    have e:b=it:=by simpa using hb
    subst e
    obtain ⟨o,e,c,d⟩:=st
    exact ⟨o,e,fun v z=>by rw [d] at z;cases z⟩
  keep:=fun i h h' st k=>st.at fun o e=>k it (by simp) o e
  item:=by
    intro X hP hw hK hc i pins s σ H E I hf st hg
    subst hP hw hK
    obtain ⟨xs,x,hq,hx⟩:=hg
    obtain ⟨its,rv,p,hz⟩:=I.list hq
    obtain ⟨u,hu,ru⟩:=rv.get hx
    obtain ⟨f0,f1,f2,f3,f4,f5⟩:=hf it (by simp)
    refine wpAny_pyNext_list_item st p.isList (x:=u) (by simpa using hu) fun h' st' sb=>?_
    have I1:Inv X pins σ H {s with heap:=h'}:=I.turned (t':=s.toks) (fun b o hb e=>(sb.2 b hb).trans e) f0 f1 f3 f4 f5
    obtain ⟨o,e,c,d⟩:=id st'
    exact ⟨u,rfl,qA (s:={s with heap:=h'}) e c d (by decide) ⟨x,H,I1,ru,⟨rfl,fun ys hy=>by rw [I.list_inj hy hq];exact hx⟩,st',fun b hb=>(hf b hb).1⟩⟩
  done:=by
    intro X hP hw hK hc i pins s σ H E I hf st hg
    subst hP hw hK
    obtain ⟨xs,hq,hx⟩:=hg
    obtain ⟨its,rv,p,hz⟩:=I.list hq
    obtain ⟨f0,f1,f2,f3,f4,f5⟩:=hf it (by simp)
    have hl:=rv.length
    exact wpAny_pyNext_list_end (I.ok.hd hc) st p.isList (by simp;omega) fun h' eb=>⟨rfl,I.turned (t':=s.toks) (fun b o hb e=>eb b o hb e) f0 f1 f3 f4 f5⟩
  self:=fun _ _ _ _ _ st h=>wpAny_pyIter_listiter st h
theorem r8 {P:Program} {w:World} {K:PySem.W.Frag} {tg:Expr} (a it:Addr):Turn P w K tg (D1 K a) [it] it (fun i h=>h.IsTupleIter it a i) where
  mem:=by simp
  obj:=fun i h st b hb=>by
    have e:b=it:=by simpa using hb
    subst e
    obtain ⟨o,e,c,d⟩:=st
    exact ⟨o,e,fun v z=>by rw [d] at z;cases z⟩
  keep:=fun i h h' st k=>st.at fun o e=>k it (by simp) o e
  item:=by
    intro X hP hw hK hc i pins s σ H E I hf st hg
    subst hP hw hK
    obtain ⟨xs,x,hq,hx⟩:=hg
    obtain ⟨its,rv,p,hz⟩:=I.tuple hq
    obtain ⟨u,hu,ru⟩:=rv.get hx
    obtain ⟨f0,f1,f2,f3,f4,f5⟩:=hf it (by simp)
    refine wpAny_pyNext_tuple_item st (show s.heap.IsTuple a its.toArray from p) (x:=u) (by simpa using hu) fun h' st' sb=>?_
    have I1:Inv X pins σ H {s with heap:=h'}:=I.turned (t':=s.toks) (fun b o hb e=>(sb.2 b hb).trans e) f0 f1 f3 f4 f5
    obtain ⟨o,e,c,d⟩:=id st'
    exact ⟨u,rfl,qA (s:={s with heap:=h'}) e c d (by decide) ⟨x,H,I1,ru,⟨rfl,fun ys hy=>by rw [I.tuple_inj hy hq];exact hx⟩,st',fun b hb=>(hf b hb).1⟩⟩
  done:=by
    intro X hP hw hK hc i pins s σ H E I hf st hg
    subst hP hw hK
    obtain ⟨xs,hq,hx⟩:=hg
    obtain ⟨its,rv,p,hz⟩:=I.tuple hq
    obtain ⟨f0,f1,f2,f3,f4,f5⟩:=hf it (by simp)
    have hl:=rv.length
    exact wpAny_pyNext_tuple_end (I.ok.hd hc) st (show s.heap.IsTuple a its.toArray from p) (by simp;omega) fun h' eb=>⟨rfl,I.turned (t':=s.toks) (fun b o hb e=>eb b o hb e) f0 f1 f3 f4 f5⟩
  self:=fun _ _ _ _ _ st h=>wpAny_pyIter_tupleiter st h
theorem r_ {P:Program} {w:World} {K:PySem.W.Frag} {tg:Expr} (it:Addr) (lo:Int) (n:Nat):Turn P w K tg (Cy lo n) [it] it (fun i h=>IsRangeIter h it (lo+(i:Nat)*1) ((n:Int) - (i:Nat)) 1) where
  mem:=by simp
  obj:=fun i h st b hb=>by
    have e:b=it:=by simpa using hb
    subst e
    exact ⟨_,st,fun v z=>by
      have z':Data.fields _=Data.cell v:=z
      cases z'⟩
  keep:=fun i h h' st k=>k it (by simp) _ st
  item:=by
    intro X hP hw hK hc i pins s σ H E I hf st hg
    subst hP hw hK
    obtain ⟨f0,f1,f2,f3,f4,f5⟩:=hf it (by simp)
    have W:=Walks.range (prog:=X.prog) (w:=X.w) (I.ok.hd hc) it lo 1 n
    refine W.item i s _ _ hg st fun v h' tk hv st' kk=>?_
    obtain ⟨t,rfl⟩:=hv
    have I1:Inv X pins σ H {s with heap:=h',toks:=tk}:=I.turned (fun b o hb e=>kk b o (by simpa using hb) e) f0 f1 f3 f4 f5
    refine ⟨_,rfl,qA (s:={s with heap:=h',toks:=tk}) (n:="range_iterator") st' rfl rfl (by decide) ⟨.int (lo+i),H,I1,⟨t,?_⟩,⟨rfl,rfl⟩,st',fun b hb=>(hf b hb).1⟩⟩
    rw [Int.mul_one]
  done:=by
    intro X hP hw hK hc i pins s σ H E I hf st hg
    subst hP hw hK
    obtain ⟨f0,f1,f2,f3,f4,f5⟩:=hf it (by simp)
    exact wpAny_pyNext_range_end (I.ok.hd hc) st (by have:n≤i:=hg;omega) fun h' eb=>⟨rfl,I.turned (t':=s.toks) (fun b o hb e=>eb b o hb e) f0 f1 f3 f4 f5⟩
  self:=fun _ _ _ _ _ st h=>wpAny_pyIter_rangeiter st h
end L2
namespace L2
open PySem PySem.Spec PyProof.Rows
section
variable {X:Cx} {tg:Expr}
def Cz (K:PySem.W.Frag) (tl:TE):TI:=fun σ H R=>tl σ H fun x H1=>∃a,x= .ref a∧(∃xs,SqL K H1 a xs)∧R (D0 K a) H1
def D2 (K:PySem.W.Frag) (tl:TE):TI:=fun σ H R=>tl σ H fun x H1=>∃a,x= .ref a∧(∃xs,SqT K H1 a xs)∧R (D1 K a) H1
theorem yE {l:Expr} {tl:TE} (hl:PE X l tl):PI X tg l (Cz X.K tl):=by
  intro pins s σ H R I h
  refine fU (hl pins s σ H _ I h) fun v s1 ⟨x,H1,I1,r1,q1⟩=>?_
  obtain ⟨a,e,⟨xs,hq⟩,q⟩:=q1
  subst e
  cases r1
  obtain ⟨its,rv,p,hz⟩:=I1.list hq
  refine wpAny_pyIter_list p.isList ?_
  refine ⟨s1.heap.objs.size,[s1.heap.objs.size],_,_,H1,rfl,I1.kept (t':=s1.toks) fun b o e=>Heap.get?_push_of_some _ e,uP a _,⟨_,Heap.get?_push_size _ rfl,rfl,rfl⟩,fun b hb=>?_,q⟩
  have e:b=s1.heap.objs.size:=by simpa using hb
  subst e
  exact I1.fpOk (Nat.le_refl _) (I1.hok.fresh (Nat.le_refl _))
theorem AW {l:Expr} {tl:TE} (hl:PE X l tl):PI X tg l (D2 X.K tl):=by
  intro pins s σ H R I h
  refine fU (hl pins s σ H _ I h) fun v s1 ⟨x,H1,I1,r1,q1⟩=>?_
  obtain ⟨a,e,⟨xs,hq⟩,q⟩:=q1
  subst e
  cases r1
  obtain ⟨its,rv,p,hz⟩:=I1.tuple hq
  refine wpAny_pyIter_tuple (show s1.heap.IsTuple a its.toArray from p) ?_
  refine ⟨s1.heap.objs.size,[s1.heap.objs.size],_,_,H1,rfl,I1.kept (t':=s1.toks) fun b o e=>Heap.get?_push_of_some _ e,r8 a _,⟨_,Heap.get?_push_size _ rfl,rfl,rfl⟩,fun b hb=>?_,q⟩
  have e:b=s1.heap.objs.size:=by simpa using hb
  subst e
  exact I1.fpOk (Nat.le_refl _) (I1.hok.fresh (Nat.le_refl _))
theorem qB {pins:List (Addr×Obj)} {σ:St} {H:Hp} {s:Shared} {R:It→Hp→Prop} {E:Value→Shared→Prop} {lo hi:Int} {t u v:Tok} {tk:Nat} (I:Inv X pins σ H s) (h1: -(2 ^ 62)≤lo) (h2:lo < 2 ^ 62) (h3: -(2 ^ 62)≤hi) (h4:hi < 2 ^ 62)
    (q:R (Cy lo (hi - lo).toNat) H):wpAny (model X.prog X.w) X.A (pyIter (.ref s.heap.objs.size)) (Ey X pins σ tg R) E {s with heap:=s.heap.push {cls:= .type "range",data:= .fields #[.int lo t, .int hi u, .int 1 v]},toks:=tk}:=by
  refine wpAny_pyIter_range (IsRange.new ..) (small_one h1 h2 h3 h4) ?_
  have I1:Inv X pins σ H {s with heap:=s.heap.push {cls:= .type "range",data:= .fields #[.int lo t, .int hi u, .int 1 v]},toks:=tk}:=I.kept fun b o e=>Heap.get?_push_of_some _ e
  refine ⟨(s.heap.push {cls:= .type "range",data:= .fields #[.int lo t, .int hi u, .int 1 v]}).objs.size,[(s.heap.push {cls:= .type "range",data:= .fields #[.int lo t, .int hi u, .int 1 v]}).objs.size],_,_,H,rfl,
    I1.kept (t':=tk) fun b o e=>Heap.get?_push_of_some _ e,r_ _ lo (hi - lo).toNat,?_,fun b hb=>?_,q⟩
  · have e1:lo+((0:Nat):Int)*1=lo:=by simp
    have e2:(((hi - lo).toNat:Nat):Int) - ((0:Nat):Int)=Builtin.Range.rangeSize lo hi 1:=by rw [rangeSize_one];split <;> omega
    show IsRangeIter _ _ (lo+((0:Nat):Int)*1) ((((hi - lo).toNat:Nat):Int) - ((0:Nat):Int)) 1
    rw [e1,e2]
    exact Heap.get?_push_size _ rfl
  · have e:b=(s.heap.push {cls:= .type "range",data:= .fields #[.int lo t, .int hi u, .int 1 v]}).objs.size:=by simpa using hb
    subst e
    exact I1.fpOk (Nat.le_refl _) (I1.hok.fresh (Nat.le_refl _))
def CA (ta:TA):TI:=fun σ H R=>ta σ H fun vs H1=>∃j:Int,vs=[.int j]∧ -(2 ^ 62)≤j∧j < 2 ^ 62∧R (Cy 0 j.toNat) H1
def CB (ta:TA):TI:=fun σ H R=>ta σ H fun vs H1=>∃i j:Int,vs=[.int i, .int j]∧(-(2 ^ 62)≤i∧i < 2 ^ 62∧ -(2 ^ 62)≤j∧j < 2 ^ 62)∧R (Cy i (j - i).toNat) H1
theorem uQ {a:Expr} {ta:TA} {p pos:Pos} (hg:Gl X "range") (hm:X.mg "range"=none) (ha:PA X [a] ta) (hs:starEach [a] X.env=[(false,eval a X.env)]:=by rfl):PI X tg (.Call (.Name "range" p) [a] [] pos) (CA ta):=by
  intro pins s σ H R I h
  refine Call_ (jW I hg hm boot_range (PyProof.Rows.callWith_type1 (fU (ha pos pins s σ H _ I h) fun us s1 ⟨vs,H1,I1,r1,q1⟩=>?_) hs rfl))
  obtain ⟨j,e,q1,q2,q⟩:=q1
  subst e
  cases r1 with
  | cons r rr=>
    cases rr
    obtain ⟨t,rfl⟩:=r
    exact call_range_1 (qB I1 (by omega) (by omega) q1 q2 (by simpa using q))
theorem uR {a b:Expr} {ta:TA} {p pos:Pos} (hg:Gl X "range") (hm:X.mg "range"=none) (ha:PA X [a,b] ta) (hs:starEach [a,b] X.env=[(false,eval a X.env),(false,eval b X.env)]:=by rfl) (hs2:starEach [b] X.env=[(false,eval b X.env)]:=by rfl):
    PI X tg (.Call (.Name "range" p) [a,b] [] pos) (CB ta):=by
  intro pins s σ H R I h
  refine Call_ (jW I hg hm boot_range (PyProof.Rows.callWith_type1 (fU (ha pos pins s σ H _ I h) fun us s1 ⟨vs,H1,I1,r1,q1⟩=>?_) (by rw [hs,hs2]) (by rw [hs2];rfl)))
  obtain ⟨i,j,e,⟨q1,q2,q3,q4⟩,q⟩:=q1
  subst e
  cases r1 with
  | cons r rr=>
    cases rr with
    | cons r' rr=>
      cases rr
      obtain ⟨t,rfl⟩:=r
      obtain ⟨t',rfl⟩:=r'
      exact call_range_2 (qB I1 q1 q2 q3 q4 q)
def D3 (wi:TI) (g:TG) (tb:TS):TS:=fun D σ H=>wi σ H fun J H1=>∃W:Nat→Nat→St→Hp→Prop,(∃m,W 0 m σ H1)∧∀i m σ H,W i m σ H→
  (J.stop i H∧D.nx σ H)∨(J.go i H∧∃N:St→Hp→Prop,(∀σ' H',N σ' H'→∃m',m' < m∧W (i+1) m' σ' H')∧∀x H',J.yld i H x H'→g x σ H' fun σ2 H2=>tb {D with nx:=N,ct:=N,bk:=D.nx} σ2 H2)
def mK (fp:List Addr) (h:Heap):List (Addr×Obj):=fp.filterMap fun b=>(h.get? b).map fun o=>(b,o)
theorem iN {fp:List Addr} {h:Heap} {b:Addr} {o:Obj} (hb:b∈fp) (e:h.get? b=some o):(b,o)∈mK fp h:=List.mem_filterMap.mpr ⟨b,hb,by rw [e];rfl⟩
theorem uS {fp:List Addr} {h:Heap} {p:Addr×Obj} (hp:p∈mK fp h):p.1∈fp∧h.get? p.1=some p.2:=by
  obtain ⟨b,hb,e⟩:=List.mem_filterMap.mp hp
  cases q:h.get? b with
  | none=>rw [q] at e;cases e
  | some o=>
    rw [q] at e
    have e':(b,o)=p:=Option.some.inj e
    subst e'
    exact ⟨hb,q⟩
theorem Inv.pinned {pins:List (Addr×Obj)} {σ:St} {H:Hp} {s:Shared} {fp:List Addr} (I:Inv X pins σ H s) (hf:∀b∈fp,qz X pins H b) (ho:∀b∈fp,∃o,s.heap.get? b=some o∧∀v,o.data≠ .cell v):Inv X (pins++mK fp s.heap) σ H s:=
  I.pins_of fun p hp=>(List.mem_append.mp hp).elim (fun z=>I.pin p (List.mem_append_right _ z)) fun z=>by
    obtain ⟨hb,e⟩:=uS z
    obtain ⟨f0,f1,f2,_⟩:=hf p.1 hb
    obtain ⟨o,e',d⟩:=ho p.1 hb
    rw [e] at e';cases e'
    exact ⟨e,f0,f1,f2,d⟩
theorem Inv.unpinned {pins pl:List (Addr×Obj)} {σ:St} {H:Hp} {s:Shared} (I:Inv X (pins++pl) σ H s):Inv X pins σ H s:=I.pins_of fun p hp=>I.pin p (List.mem_append_right _ (List.mem_append_left _ hp))
theorem AY {iter:Expr} {body:List Stmt} {wi:TI} {g:TG} {tb:TS} {pos:Pos} (hp:PassesOwn (model X.prog X.w) X.A X.env X.xe) (hc:X.calm=true) (hi:PI X tg iter wi) (hg:PG X tg g) (hb:PSs X body tb)
    (hs:∀x,foldedSetIterable iter X.env x=pure x:=by intro _;rfl):PS X (.For tg iter body [] pos) (D3 wi g tb):=by
  intro pins s σ H D I h
  refine wpAny_For (fU (hi pins s σ H _ I h) fun v s1 h1=>fU h1 fun itv s2 h2=>?_) hs
  obtain ⟨it,fp,tn,J,H2,e,I2,T,st2,f2,W,⟨m0,w0⟩,turn⟩:=h2
  subst e
  -- what stays true of the iterator's objects through the loop
  have stat:∀{H':Hp},(∀b∈fp,H' b=none)→∀b∈fp,qz X pins H' b:=fun hn b hb=>⟨hn b hb,(f2 b hb).2⟩
  refine codeAny_forLoop_any (fun n s'=>∃i σ' H',Inv X pins σ' H' s'∧tn i s'.heap∧(∀b∈fp,H' b=none)∧W i n σ' H') ?_ m0 ⟨0,σ,H2,I2,st2,fun b hb=>(f2 b hb).1,w0⟩
  rintro n s3 ⟨i,σ3,H3,I3,st3,fr3,w3⟩
  rcases turn i n σ3 H3 w3 with ⟨stop,qn⟩ | ⟨go,N,hN,step⟩
  · refine wpAny_passesOwn hp (fU (T.done X rfl rfl rfl hc i pins s3 σ3 H3 X.xe I3 (stat fr3) st3 stop) fun r s4 ⟨hr,I4⟩=>?_)
    subst hr
    exact wpAny_execs_nil ⟨σ3,H3,I4,qn⟩
  · refine wpAny_passesOwn hp (fU (T.item X rfl rfl rfl hc i pins s3 σ3 H3 X.xe I3 (stat fr3) st3 go) fun r s4 ⟨u,hr,h4⟩=>?_)
    subst hr
    refine wpAny_passesOwn hp (fU h4 fun _ s5 ⟨x,H5,I5,r5,y5,st5,fr5⟩=>?_)
    have I5':=I5.pinned (stat fr5) (T.obj _ _ st5)
    refine wpAny_passesOwn hp (fU (hg _ s5 σ3 H5 x u _ I5' r5 (step x H5 y5)) fun _ s6 ⟨σ6,H6,I6,q6⟩=>?_)
    refine wpAny_passesOwn hp (fU (hb _ s6 σ6 H6 _ I6 q6) fun f s7 q7=>?_)
    have again:∀{σ7:St} {H7:Hp},Inv X (pins++mK fp s5.heap) σ7 H7 s7→N σ7 H7→∃m,m < n∧∃i σ' H',Inv X pins σ' H' s7∧tn i s7.heap∧(∀b∈fp,H' b=none)∧W i m σ' H':=fun {σ7 H7} I7 n7=>by
      obtain ⟨m',hm,w7⟩:=hN σ7 H7 n7
      refine ⟨m',hm,i+1,σ7,H7,I7.unpinned,T.keep _ _ _ st5 fun b hb o e=>(I7.pin (b,o) (List.mem_append_right _ (List.mem_append_right _ (iN hb e)))).1,fun b hb=>?_,w7⟩
      obtain ⟨o,e,d⟩:=T.obj _ _ st5 b hb
      exact (I7.pin (b,o) (List.mem_append_right _ (List.mem_append_right _ (iN hb e)))).2.1
    cases f with
    | next=>obtain ⟨σ7,H7,I7,n7⟩:=q7;exact again I7 n7
    | cont=>obtain ⟨σ7,H7,I7,n7⟩:=q7;exact again I7 n7
    | brk=>obtain ⟨σ7,H7,I7,q7⟩:=q7;exact ⟨σ7,H7,I7.unpinned,q7⟩
    | ret v=>obtain ⟨x7,σ7,H7,I7,r7,q7⟩:=q7;exact ⟨x7,σ7,H7,I7.unpinned,r7,q7⟩
end
end L2
namespace L2
open PySem PySem.Spec PyProof.Rows
abbrev R2:=V→V→Hp→VK→Prop
def OpR (X:Cx) (f:Value→Value→Sem Value) (r:R2):Prop:=
  ∀(pins:List (Addr×Obj)) (s:Shared) (σ:St) (H:Hp) (x y:V) (v u:Value) (Q:VK),Inv X pins σ H s→RelV x v→RelV y u→r x y H Q→
    wpAny (model X.prog X.w) X.A (f v u) (EP X pins σ Q) X.xe s
def D4 (X:Cx) (f:Value→Sem Value) (r:V→Hp→VK→Prop):Prop:=
  ∀(pins:List (Addr×Obj)) (s:Shared) (σ:St) (H:Hp) (x:V) (v:Value) (Q:VK),Inv X pins σ H s→RelV x v→r x H Q→
    wpAny (model X.prog X.w) X.A (f v) (EP X pins σ Q) X.xe s
def CallR (X:Cx) (f:Value) (r:List V→Hp→VK→Prop):Prop:=
  ∀(pins:List (Addr×Obj)) (s:Shared) (σ:St) (H:Hp) (xs:List V) (us:List Value) (Q:VK),Inv X pins σ H s→Vals xs us→r xs H Q→
    wpAny (model X.prog X.w) X.A (call f us) (EP X pins σ Q) X.xe s
def D5 (X:Cx) (r:V→Hp→(Bool→Hp→Prop)→Prop):Prop:=
  ∀(pins:List (Addr×Obj)) (s:Shared) (σ:St) (H:Hp) (x:V) (v:Value) (Q:Bool→Hp→Prop),Inv X pins σ H s→RelV x v→r x H Q→
    wpAny (model X.prog X.w) X.A (truthy v) (TP X pins σ Q) X.xe s
def CC (r:R2) (ta tb:TE):TE:=fun σ H Q=>ta σ H fun x H1=>tb σ H1 fun y H2=>r x y H2 Q
def EH (r:V→Hp→VK→Prop) (ta:TE):TE:=fun σ H Q=>ta σ H fun x H1=>r x H1 Q
def rI (C:Int→Int→Prop) (g:Int→Int→V):R2:=fun x y H Q=>∃i j,x= .int i∧y= .int j∧C i j∧Q (g i j) H
def yF (g:Int→Int→V):R2:=fun x y H Q=>∃i j,x= .int i∧y= .int j∧Q (g i j) H
def rU (g:Int→V):V→Hp→VK→Prop:=fun x H Q=>∃i,x= .int i∧Q (g i) H
section
variable {X:Cx} {a b c:Expr} {ta tb tc:TE} {pos:Pos}
theorem AZ (ha:PE X a ta) (hb:PE X b tb) {pins:List (Addr×Obj)} {s:Shared} {σ:St} {H:Hp} {R:V→V→Hp→Prop} (I:Inv X pins σ H s)
    (h:ta σ H fun x H1=>tb σ H1 fun y H2=>R x y H2) {Q:Value→Shared→Prop} {f:Value→Value→Sem Value}
    (hf:∀v u s2 x y H2,Inv X pins σ H2 s2→RelV x v→RelV y u→R x y H2→wpAny (model X.prog X.w) X.A (f v u) Q X.xe s2):
    wpAny (model X.prog X.w) X.A (eval a X.env) (fun v s₁=>wpAny (model X.prog X.w) X.A (eval b X.env) (fun u s₂=>wpAny (model X.prog X.w) X.A (f v u) Q X.xe s₂) X.xe s₁) X.xe s:=by
  refine fU (ha pins s σ H _ I h) fun v s1 ⟨x,H1,I1,r1,q1⟩=>?_
  refine fU (hb pins s1 σ H1 _ I1 q1) fun u s2 ⟨y,H2,I2,r2,q2⟩=>?_
  exact hf v u s2 x y H2 I2 r1 r2 q2
theorem CD {op:Operator} {r:R2} (ho:OpR X (binaryOp op) r) (ha:PE X a ta) (hb:PE X b tb):PE X (.BinOp a op b pos) (CC r ta tb):=by
  intro pins s σ H Q I h
  exact wpAny_BinOp (AZ ha hb I h fun v u s2 x y H2 I2 rx ry q=>ho pins s2 σ H2 x y v u Q I2 rx ry q)
theorem CF {op:UnaryOp} {r:V→Hp→VK→Prop} (ho:D4 X (unaryOp op) r) (ha:PE X a ta):PE X (.UnaryOp op a pos) (EH r ta):=by
  intro pins s σ H Q I h
  exact UnaryOp_ (fU (ha pins s σ H _ I h) fun v s1 ⟨x,H1,I1,r1,q1⟩=>ho pins s1 σ H1 x v Q I1 r1 q1)
theorem CG {f:Value→Value→Sem Value} {C:Int→Int→Prop} {g:Int→Int→Int}
    (rule:∀(i j:Int) (t u:Tok) (s:Shared) (Q:Value→Shared→Prop) (E:Value→Shared→Prop),C i j→Q (.int (g i j) s.toks) {s with toks:=s.toks+1}→wpAny (model X.prog X.w) X.A (f (.int i t) (.int j u)) Q E s):
    OpR X f (rI C fun i j=> .int (g i j)):=by
  intro pins s σ H x y v u Q I rx ry h
  obtain ⟨i,j,rfl,rfl,hc,q⟩:=h
  obtain ⟨t,rfl⟩:=rx
  obtain ⟨t',rfl⟩:=ry
  exact rule i j t t' s _ _ hc ⟨.int (g i j),H,I.tok _,⟨_,rfl⟩,q⟩
theorem A8 {f:Value→Value→Sem Value} {g:Int→Int→Int}
    (rule:∀(i j:Int) (t u:Tok) (s:Shared) (Q:Value→Shared→Prop) (E:Value→Shared→Prop),Q (.int (g i j) s.toks) {s with toks:=s.toks+1}→wpAny (model X.prog X.w) X.A (f (.int i t) (.int j u)) Q E s):
    OpR X f (yF fun i j=> .int (g i j)):=by
  intro pins s σ H x y v u Q I rx ry h
  obtain ⟨i,j,rfl,rfl,q⟩:=h
  obtain ⟨t,rfl⟩:=rx
  obtain ⟨t',rfl⟩:=ry
  exact rule i j t t' s _ _ ⟨.int (g i j),H,I.tok _,⟨_,rfl⟩,q⟩
theorem yG {f:Value→Value→Sem Value} {g:Int→Int→Bool}
    (rule:∀(i j:Int) (t u:Tok) (s:Shared) (Q:Value→Shared→Prop) (E:Value→Shared→Prop),Q (.bool (g i j)) s→wpAny (model X.prog X.w) X.A (f (.int i t) (.int j u)) Q E s):
    OpR X f (yF fun i j=> .bl (g i j)):=by
  intro pins s σ H x y v u Q I rx ry h
  obtain ⟨i,j,rfl,rfl,q⟩:=h
  obtain ⟨t,rfl⟩:=rx
  obtain ⟨t',rfl⟩:=ry
  exact rule i j t t' s _ _ ⟨.bl (g i j),H,I,rfl,q⟩
def CH (i j:Int):Prop:=0≤j∧j≤1000000∧i.natAbs < 2 ^ 64
def CMul (i j:Int):Prop:=(-(2 ^ 64) < i∧i < 2 ^ 64)∨(-(2 ^ 64) < j∧j < 2 ^ 64)
theorem CMul.ok {i j:Int} (h:CMul i j):IntMulOk i j:=by
  rcases h with ⟨h1,h2⟩ | ⟨h1,h2⟩
  · exact .of_left (intBits_le_64 h1 h2)
  · exact .of_right (intBits_le_64 h1 h2)
theorem se (k:Nat):(0:Int)≤2 ^ k:=by
  rw [two_pow_cast]
  exact Int.natCast_nonneg _
theorem A9:OpR X (binaryOp .Add) (yF fun i j=> .int (i+j)):=A8 fun _ _ _ _ _ _ _ q=>add_int q
theorem A_:OpR X (binaryOp .Sub) (yF fun i j=> .int (i - j)):=A8 fun _ _ _ _ _ _ _ q=>sub_int q
theorem Ba:OpR X (binaryOp .Mod) (rI (fun _ j=>0 < j) fun i j=> .int (i % j)):=CG fun i j _ _ _ _ _ hc q=>by
  have h1:(0:Int) < j:=hc
  exact mod_int' (by omega) (by rw [Int.fmod_eq_emod_of_nonneg i (by omega)];exact q)
theorem Bb:OpR X (binaryOp .Pow) (rI CH fun i j=> .int (i ^ j.toNat)):=CG fun _ _ _ _ _ _ _ hc q=>pow_int_small hc.1 hc.2.1 hc.2.2 q
theorem Bc:OpR X (binaryOp .RShift) (rI (fun _ j=>0≤j) fun i j=> .int (i / 2 ^ j.toNat)):=CG fun i j _ _ _ _ _ hc q=>
  rshift_int hc (by rw [Int.fdiv_eq_ediv_of_nonneg i (se _)];exact q)
theorem Bd:OpR X (binaryOp .BitAnd) (yF fun i j=> .int (Builtin.bitAnd i j)):=A8 fun _ _ _ _ _ _ _ q=>and_int q
theorem EI {f:Value→Sem Value} {g:Int→Int}
    (rule:∀(i:Int) (t:Tok) (s:Shared) (Q:Value→Shared→Prop) (E:Value→Shared→Prop),Q (.int (g i) s.toks) {s with toks:=s.toks+1}→wpAny (model X.prog X.w) X.A (f (.int i t)) Q E s):
    D4 X f (rU fun i=> .int (g i)):=by
  intro pins s σ H x v Q I rx h
  obtain ⟨i,rfl,q⟩:=h
  obtain ⟨t,rfl⟩:=rx
  exact rule i t s _ _ ⟨.int (g i),H,I.tok _,⟨_,rfl⟩,q⟩
theorem Be:D4 X (unaryOp .USub) (rU fun i=> .int (-i)):=EI fun _ _ _ _ _ q=>neg_int q
end
def Bf:V→V→Bool
  | .non, .non=>true | .non, .int _=>true | .int _, .non=>true | .non, .bl _=>true | .bl _, .non=>true | .non, .str _=>true | .str _, .non=>true
  | .int _, .int _=>true | .bl _, .bl _=>true | .str _, .str _=>true | .byt _, .byt _=>true
  | .int _, .str _=>true | .str _, .int _=>true | .bl _, .str _=>true | .str _, .bl _=>true
  | _,_=>false
def Ez:R2:=fun x y H Q=>Bf x y=true∧Q (.bl (decide (x=y))) H
def EA:R2:=fun x y H Q=>Bf x y=true∧Q (.bl (!decide (x=y))) H
theorem tI {i j:Int}:decide (V.int i=V.int j)=(i == j):=by
  rw [Bool.eq_iff_iff]
  simp
theorem we {i j:Bool}:decide (V.bl i=V.bl j)=(i == j):=by
  rw [Bool.eq_iff_iff]
  simp
theorem tJ {i j:Str}:decide (V.str i=V.str j)=(i == j):=by
  rw [Bool.eq_iff_iff]
  simp
theorem tK {i j:Array UInt8}:decide (V.byt i=V.byt j)=(i.toList == j.toList):=by
  rw [Bool.eq_iff_iff]
  cases i
  cases j
  simp
section
variable {X:Cx} {a b c:Expr} {ta tb tc:TE} {pos:Pos}
theorem aX {pins:List (Addr×Obj)} {σ:St} {H:Hp} {s:Shared} {Q:VK} {k k':Bool} (I:Inv X pins σ H s) (q:Q (.bl k) H) (e:k=k'):EP X pins σ Q (.bool k') s:=by
  subst e
  exact ⟨.bl k,H,I,rfl,q⟩
theorem Ag:OpR X (compareOp .Eq) Ez:=by
  intro pins s σ H x y v u Q I rx ry h
  obtain ⟨hs,q⟩:=h
  cases x with
  | non=>
    cases rx
    cases y with
    | non=>cases ry;exact PySem.EqNone.eq_none_none (aX I q (by simp))
    | bl j=>cases ry;exact PySem.EqNone.eq_none_bool (aX I q (by simp))
    | int j=>obtain ⟨t',rfl⟩:=ry;exact PySem.EqNone.eq_none_int (aX I q (by simp))
    | str j=>obtain ⟨t',rfl⟩:=ry;exact PySem.EqNone.eq_none_str (aX I q (by simp))
    | _=>exact absurd (show false=true from hs) Bool.false_ne_true
  | bl i=>
    cases rx
    cases y with
    | non=>cases ry;exact PySem.EqNone.eq_bool_none (aX I q (by simp))
    | bl j=>cases ry;exact eq_bool (aX I q we)
    | str j=>obtain ⟨t',rfl⟩:=ry;exact PySem.EqMixed.eq_bool_str (aX I q (by simp))
    | _=>exact absurd (show false=true from hs) Bool.false_ne_true
  | int i=>
    obtain ⟨t,rfl⟩:=rx
    cases y with
    | non=>cases ry;exact PySem.EqNone.eq_int_none (aX I q (by simp))
    | int j=>obtain ⟨t',rfl⟩:=ry;exact eq_int (aX I q tI)
    | str j=>obtain ⟨t',rfl⟩:=ry;exact PySem.EqMixed.eq_int_str (aX I q (by simp))
    | _=>exact absurd (show false=true from hs) Bool.false_ne_true
  | str i=>
    obtain ⟨t,rfl⟩:=rx
    cases y with
    | non=>cases ry;exact PySem.EqNone.eq_str_none (aX I q (by simp))
    | bl j=>cases ry;exact PySem.EqMixed.eq_str_bool (aX I q (by simp))
    | int j=>obtain ⟨t',rfl⟩:=ry;exact PySem.EqMixed.eq_str_int (aX I q (by simp))
    | str j=>obtain ⟨t',rfl⟩:=ry;exact eq_str (aX I q tJ)
    | _=>exact absurd (show false=true from hs) Bool.false_ne_true
  | byt i=>
    obtain ⟨t,rfl⟩:=rx
    cases y with
    | byt j=>obtain ⟨t',rfl⟩:=ry;exact PySem.W.eq_bytes (aX I q tK)
    | _=>exact absurd (show false=true from hs) Bool.false_ne_true
  | _=>cases y <;> exact absurd (show false=true from hs) Bool.false_ne_true
theorem CI:OpR X (compareOp .NotEq) EA:=by
  intro pins s σ H x y v u Q I rx ry h
  obtain ⟨hs,q⟩:=h
  cases x with
  | non=>
    cases rx
    cases y with
    | non=>cases ry;exact PySem.EqNone.ne_none_none (aX I q (by simp))
    | bl j=>cases ry;exact PySem.EqNone.ne_none_bool (aX I q (by simp))
    | int j=>obtain ⟨t',rfl⟩:=ry;exact PySem.EqNone.ne_none_int (aX I q (by simp))
    | str j=>obtain ⟨t',rfl⟩:=ry;exact PySem.EqNone.ne_none_str (aX I q (by simp))
    | _=>exact absurd (show false=true from hs) Bool.false_ne_true
  | bl i=>
    cases rx
    cases y with
    | non=>cases ry;exact PySem.EqNone.ne_bool_none (aX I q (by simp))
    | bl j=>cases ry;exact ne_bool (aX I q (congrArg not we))
    | str j=>obtain ⟨t',rfl⟩:=ry;exact PySem.EqMixed.ne_bool_str (aX I q (by simp))
    | _=>exact absurd (show false=true from hs) Bool.false_ne_true
  | int i=>
    obtain ⟨t,rfl⟩:=rx
    cases y with
    | non=>cases ry;exact PySem.EqNone.ne_int_none (aX I q (by simp))
    | int j=>obtain ⟨t',rfl⟩:=ry;exact ne_int (aX I q (congrArg not tI))
    | str j=>obtain ⟨t',rfl⟩:=ry;exact PySem.EqMixed.ne_int_str (aX I q (by simp))
    | _=>exact absurd (show false=true from hs) Bool.false_ne_true
  | str i=>
    obtain ⟨t,rfl⟩:=rx
    cases y with
    | non=>cases ry;exact PySem.EqNone.ne_str_none (aX I q (by simp))
    | bl j=>cases ry;exact PySem.EqMixed.ne_str_bool (aX I q (by simp))
    | int j=>obtain ⟨t',rfl⟩:=ry;exact PySem.EqMixed.ne_str_int (aX I q (by simp))
    | str j=>obtain ⟨t',rfl⟩:=ry;exact ne_str (aX I q (congrArg not tJ))
    | _=>exact absurd (show false=true from hs) Bool.false_ne_true
  | byt i=>
    obtain ⟨t,rfl⟩:=rx
    cases y with
    | byt j=>obtain ⟨t',rfl⟩:=ry;exact PySem.W.ne_bytes (aX I q (congrArg not tK))
    | _=>exact absurd (show false=true from hs) Bool.false_ne_true
  | _=>cases y <;> exact absurd (show false=true from hs) Bool.false_ne_true
theorem CJ:OpR X (compareOp .Lt) (yF fun i j=> .bl (decide (i < j))):=yG fun _ _ _ _ _ _ _ q=>lt_int q
theorem CK:OpR X (compareOp .LtE) (yF fun i j=> .bl (decide (i≤j))):=yG fun _ _ _ _ _ _ _ q=>le_int q
theorem CL:OpR X (compareOp .Gt) (yF fun i j=> .bl (decide (j < i))):=yG fun _ _ _ _ _ _ _ q=>gt_int q
theorem CM:OpR X (compareOp .GtE) (yF fun i j=> .bl (decide (j≤i))):=yG fun _ _ _ _ _ _ _ q=>ge_int q
theorem uT:OpR X (compareOp .Lt) (fun x y H Q=>∃i j,x= .str i∧y= .str j∧Q (.bl (decide (i.cps.toList < j.cps.toList))) H):=by
  intro pins s σ H x y v u Q I rx ry h
  obtain ⟨i,j,rfl,rfl,q⟩:=h
  obtain ⟨t,rfl⟩:=rx
  obtain ⟨t',rfl⟩:=ry
  exact lt_str (aX I q rfl)
theorem uU:OpR X (compareOp .In) (fun x y H Q=>∃i j,x= .str i∧y= .str j∧Q (.bl (!(Builtin.Str.occurrences j i 0 j.length 1).isEmpty)) H):=by
  intro pins s σ H x y v u Q I rx ry h
  obtain ⟨i,j,rfl,rfl,q⟩:=h
  obtain ⟨t,rfl⟩:=rx
  obtain ⟨t',rfl⟩:=ry
  exact in_str (aX I q rfl)
theorem OpR.or {f:Value→Value→Sem Value} {r r':R2} (h:OpR X f r) (h':OpR X f r'):OpR X f (fun x y H Q=>r x y H Q∨r' x y H Q):=by
  intro pins s σ H x y v u Q I rx ry q
  rcases q with q | q
  · exact h pins s σ H x y v u Q I rx ry q
  · exact h' pins s σ H x y v u Q I rx ry q
theorem pe (b:Expr) {op:CmpOp} (h:op≠ .In:=by decide) (h2:op≠ .NotIn:=by decide):behindInMarks op b=false:=by
  have e1:(op == CmpOp.In)=false:=by cases op <;> first | rfl | exact absurd rfl h
  have e2:(op == CmpOp.NotIn)=false:=by cases op <;> first | rfl | exact absurd rfl h2
  cases b <;> simp [behindInMarks,e1,e2]
theorem yH {op:CmpOp} {r:R2} (ho:OpR X (compareOp op) r) (ha:PE X a ta) (hb:PE X b tb) (hm:behindInMarks op b=false):PE X (.Compare a [op] [b] pos) (CC r ta tb):=by
  intro pins s σ H Q I h
  exact wpAny_Compare1 (AZ ha hb I h fun v u s2 x y H2 I2 rx ry q=>ho pins s2 σ H2 x y v u Q I2 rx ry q) hm
def CN (t:TE):TT:=fun σ H Q=>t σ H fun x H'=>∃k,x= .bl k∧Q k H'
theorem yI {op:CmpOp} {r:R2} (ho:OpR X (compareOp op) r) (ha:PE X a ta) (hb:PE X b tb) (hm:behindInMarks op b=false):PT X (.Compare a [op] [b] pos) (CN (CC r ta tb)):=by
  intro pins s σ H Q I h
  refine wpAny_isTrue_Compare1 (fU (ha pins s σ H _ I h) fun v s1 ⟨x,H1,I1,r1,q1⟩=>fU (hb pins s1 σ H1 _ I1 q1) fun u s2 ⟨y,H2,I2,r2,q2⟩=>
    fU (ho pins s2 σ H2 x y v u _ I2 r1 r2 q2) fun c s3 ⟨z,H3,I3,r3,k,e,q3⟩=>?_) hm
  subst e
  cases r3
  exact wpAny_truthy_bool ⟨H3,I3,q3⟩
def wf (r r':R2) (ta tb tc:TE):TE:=fun σ H Q=>ta σ H fun x H1=>tb σ H1 fun y H2=>r x y H2 fun z H3=>∃k,z= .bl k∧
  (if k=true then tc σ H3 fun w' H4=>r' y w' H4 Q else Q (.bl false) H3)
theorem wg {op op':CmpOp} {r r':R2} (ho:OpR X (compareOp op) r) (ho':OpR X (compareOp op') r') (ha:PE X a ta) (hb:PE X b tb) (hc:PE X c tc)
    (hm:lastMarks [op,op'] [b,c]=false:=by with_unfolding_all rfl):PE X (.Compare a [op,op'] [b,c] pos) (wf r r' ta tb tc):=by
  intro pins s σ H Q I h
  refine Compare_chain (fU (ha pins s σ H _ I h) fun v s1 ⟨x,H1,I1,r1,q1⟩=>chain_link (fU (hb pins s1 σ H1 _ I1 q1) fun u s2 ⟨y,H2,I2,r2,q2⟩=>
    fU (ho pins s2 σ H2 x y v u _ I2 r1 r2 q2) fun d s3 ⟨z,H3,I3,r3,k,e,q3⟩=>?_)) hm
  subst e
  cases r3
  refine wpAny_truthy_bool ?_
  cases k with
  | false=>exact ite_ff ⟨.bl false,H3,I3,rfl,q3⟩
  | true=>exact ite_tt (chain_last (fU (hc pins s3 σ H3 _ I3 q3) fun w' s4 ⟨z',H4,I4,r4,q4⟩=>ho' pins s4 σ H4 y z' u w' Q I4 r2 r4 q4))
def wj (K:PySem.W.Frag) (x:V) (H:Hp) (k:Bool):Prop:=
  match x with
  | .non=>k=false
  | .bl b=>k=b
  | .int i=>k=(i != 0)
  | .str y=>y.length≤sizeLine∧k=((y.length:Int) != 0)
  | .byt y=>y.size≤sizeLine∧k=((y.size:Int) != 0)
  | .ref p=>(∃xs,SqL K H p xs∧k= !xs.isEmpty)∨(∃xs,SqT K H p xs∧k= !xs.isEmpty)∨∃kvs,H p=some (.dK kvs)∧k= !kvs.isEmpty
  | _=>False
theorem sf {κ:Type} {kvs:List (κ×V)} {vs:List (κ×Value)} (r:KV kvs vs):(!vs.isEmpty)= !kvs.isEmpty:=by
  cases r <;> rfl
theorem mL {xs:List V} {its:List Value} (r:Vals xs its):(!its.toArray.isEmpty)= !xs.isEmpty:=by
  cases r <;> simp
theorem kT:(sizeLine:Nat) < 2 ^ 63:=by rw [sizeLine_eq];decide
theorem Bg:D5 X (fun x H Q=>∃k,wj X.K x H k∧Q k H):=by
  intro pins s σ H x v Q I rx h
  obtain ⟨k,e,q⟩:=h
  have hl:=kT
  have hs:sizeLine=16777216:=sizeLine_eq
  cases x with
  | non=>
    cases rx
    have e':k=false:=e
    subst e'
    exact truthy_none ⟨H,I,q⟩
  | bl b=>
    cases rx
    have e':k=b:=e
    subst e'
    exact wpAny_truthy_bool ⟨H,I,q⟩
  | int i=>
    obtain ⟨t,rfl⟩:=rx
    have e':k=(i != 0):=e
    subst e'
    exact PySem.P.truthy_int ⟨H,I,q⟩
  | str y=>
    obtain ⟨t,rfl⟩:=rx
    obtain ⟨hy,e'⟩:y.length≤sizeLine∧k=((y.length:Int) != 0):=e
    subst e'
    exact PySem.P.truthy_str (by omega) ⟨H,I.tok _,q⟩
  | byt y=>
    obtain ⟨t,rfl⟩:=rx
    obtain ⟨hy,e'⟩:y.size≤sizeLine∧k=((y.size:Int) != 0):=e
    subst e'
    exact PySem.W.truthy_bytes (by omega) ⟨H,I.tok _,q⟩
  | ref p=>
    cases rx
    have e':(∃xs,SqL X.K H p xs∧k= !xs.isEmpty)∨(∃xs,SqT X.K H p xs∧k= !xs.isEmpty)∨∃kvs,H p=some (.dK kvs)∧k= !kvs.isEmpty:=e
    rcases e' with ⟨xs,hx,e'⟩ | ⟨xs,hx,e'⟩ | ⟨kvs,hx,e'⟩
    · subst e'
      obtain ⟨its,r,pl,hz⟩:=I.list hx
      have hlen:=r.length
      exact wpAny_truthy_list pl.isList (by simp only [List.size_toArray];omega) ⟨H,I.tok _,by rw [mL r];exact q⟩
    · subst e'
      obtain ⟨its,r,pl,hz⟩:=I.tuple hx
      have hlen:=r.length
      exact truthy_tuple pl (by simp only [List.size_toArray];omega) ⟨H,I.tok _,by rw [mL r];exact q⟩
    · subst e'
      obtain ⟨hz,hS,vs,r,m⟩:kvs.length≤sizeLine∧(p == sysModules)=false∧∃vs,KV kvs vs∧s.heap.DictOf (mB X.prog X.w) p vs:=I.hok p _ hx
      have hlen:kvs.length=vs.length:=Paired.length r
      exact wpAny_truthy_dict hS m (by omega) ⟨H,I.tok _,by rw [sf r];exact q⟩
  | _=>exact (show False from e).elim
theorem wk (ha:PE X a ta) (he:∀whole,isTrue a X.env whole=(do let v ←whole;standAt a.pos;holding [v] (truthy v))):
    PT X a (fun σ H Q=>ta σ H fun x H'=>∃k,wj X.K x H' k∧Q k H'):=by
  intro pins s σ H Q I h
  exact isTrue_plain (fU (ha pins s σ H _ I h) fun v s1 ⟨x,H1,I1,r1,q1⟩=>Bg pins s1 σ H1 x v Q I1 r1 q1) (he _)
theorem si:OpR X (binaryOp .Add) (fun x y H Q=>∃i j,x= .str i∧y= .str j∧i.length+j.length≤sizeLine∧Q (.str (i++j)) H):=by
  intro pins s σ H x y v u Q I rx ry h
  obtain ⟨i,j,rfl,rfl,hz,q⟩:=h
  obtain ⟨t,rfl⟩:=rx
  obtain ⟨t',rfl⟩:=ry
  exact add_str (fun t' tk=>⟨.str (i++j),H,I.tok _,⟨_,rfl⟩,q⟩) hz
theorem tL {x:V} {us:List Value} (r:Vals [x] us):∃u,us=[u]∧RelV x u:=by
  cases r with
  | cons r1 r2=>cases r2;exact ⟨_,rfl,r1⟩
theorem wl:CallR X (.builtin "abs") (fun xs H Q=>∃i,xs=[.int i]∧Q (.int (if i < 0 then -i else i)) H):=by
  intro pins s σ H xs us Q I r h
  obtain ⟨i,rfl,q⟩:=h
  obtain ⟨u,rfl,t,rfl⟩:=tL r
  exact call_abs_int fun u tk=>⟨.int (if i < 0 then -i else i),H,I.tok _,⟨_,rfl⟩,q⟩
end
end L2
namespace L2
open PySem PySem.Spec PyProof.Rows
structure ObjM (h:Heap) (x dx C:Addr) (mA:Str→Option Value):Prop where
  obj:h.get? x=some (PySem.W.instObj C dx)
  ns:h.Ns1 dx mA
  ne:dx≠x
theorem uW {h:Heap} {dx:Addr} {mA:Str→Option Value} (n:h.Ns1 dx mA):∃od,h.get? dx=some od∧∀name,PySem.W.lookIn name od=some (mA name):=by
  obtain ⟨o,es,ep,ho,hd,hk,_,hm⟩:=n
  refine ⟨o,ho,fun name=>?_⟩
  have e:=hm name
  unfold nsFind findBy at e
  rw [←Array.find?_toList] at e
  unfold PySem.W.lookIn
  rw [hd]
  dsimp only
  split
  · rename_i y q
    rw [q] at e
    exact congrArg some e
  · rename_i q
    rw [q] at e
    have a:es.toList.any (·.refKey)=false:=by
      rw [List.any_eq_false]
      intro y hy
      obtain ⟨z,t,hkey⟩:=hk y (Array.mem_toList_iff.mp hy)
      simp [DictEntry.refKey,hkey]
    have a':¬es.toList.any (·.refKey)=true:=by rw [a];exact Bool.false_ne_true
    rw [if_neg a']
    exact congrArg some e
theorem ObjM.look {h:Heap} {x dx C:Addr} {mA:Str→Option Value} (I:ObjM h x dx C mA):∃od,PySem.W.InstAt h x (PySem.W.instObj C dx) C (some od)∧∀name,PySem.W.lookIn name od=some (mA name):=
  let ⟨od,ho,hl⟩:=uW I.ns
  ⟨od,⟨I.obj,rfl,rfl,ho⟩,hl⟩
section
variable {P:Program} {w:World} {H H':Hp} {h h':Heap} {a C dx:Addr} {fs fs':List (Str×V)}
theorem yJ (hok:HOk P w H h) (e:H a=some (.ins C dx fs)):∃mA,ObjM h a dx C mA∧(∀f,RelO (fs.lookup f) (mA f))∧PySem.Within mA (fs.map (·.1))∧fs.length≤1000∧H dx=some (.own a):=by
  obtain ⟨d,z,ne,ob,mA,n,r,q⟩:=(show ObjOk P w H h a (.ins C dx fs) from hok a _ e)
  exact ⟨mA,⟨ob,n,ne⟩,r,q,z,d⟩
end
structure Cls (K:PySem.W.Frag) (C:Addr):Prop where
  pg:PySem.W.plainGet K C Str.empty=true
  hd:PySem.W.hasDictIn K C=true
  po:PySem.W.plainOver K C=true
  sa:PySem.W.findIn K (.ref C) "__setattr__"=some (some (.builtin "object.__setattr__"))
theorem Cls.get {K:PySem.W.Frag} {C:Addr} (c:Cls K C) (f:Str):PySem.W.plainGet K C f=true:=c.pg
section
variable {X:Cx} {pins:List (Addr×Obj)} {σ:St} {H:Hp} {s:Shared} {a C dx:Addr} {fs:List (Str×V)} {f:Str} {v:V} {A:Around} {E:Value→Shared→Prop}
theorem Inv.made (I:Inv X pins σ H s):Inv X pins σ (upd (upd H s.heap.objs.size (.own (s.heap.objs.size+1))) (s.heap.objs.size+1) (.ins C s.heap.objs.size []))
    {s with heap:=(s.heap.push PySem.W.emptyDict).push (PySem.W.instObj C s.heap.objs.size)}:=by
  have e1:(s.heap.push PySem.W.emptyDict).get? s.heap.objs.size=some PySem.W.emptyDict:=Heap.get?_push_size s.heap rfl
  have e2:((s.heap.push PySem.W.emptyDict).push (PySem.W.instObj C s.heap.objs.size)).get? (s.heap.objs.size+1)=some (PySem.W.instObj C s.heap.objs.size):=by
    have:=Heap.get?_push_size (s.heap.push PySem.W.emptyDict) (o:=PySem.W.instObj C s.heap.objs.size) rfl
    rwa [Heap.size_push] at this
  have e3:(s.heap.push PySem.W.emptyDict).Ns s.heap.objs.size (fun _=>none):=⟨PySem.W.emptyDict,#[],_,e1,rfl,(fun e he=>absurd he (by simp)),fun _=>rfl⟩
  have I1:=I.laid (a:=s.heap.objs.size) (o:= .own (s.heap.objs.size+1)) (h':=s.heap.push PySem.W.emptyDict) (t':=s.toks) (fun b u q=>Heap.get?_push_of_some _ q) (Nat.le_refl _) ⟨_,e1⟩
  refine I1.laid (a:=s.heap.objs.size+1) (o:= .ins C s.heap.objs.size []) (t':=s.toks) (fun b u q=>Heap.get?_push_of_some _ q) (Nat.le_of_eq (Heap.size_push _ _)) ?_
  have ne:s.heap.objs.size≠s.heap.objs.size+1:=Nat.ne_of_lt (Nat.lt_succ_self _)
  refine ⟨by rw [aS ne,cy],Nat.zero_le _,ne,e2,fun _=>none,(Heap.Ns1.of_empty e3).at fun o q=>Heap.get?_push_of_some _ q,fun _=>True.intro,fun y hy=>absurd rfl hy⟩
end
section
variable {X:Cx} {pins:List (Addr×Obj)} {σ:St} {H:Hp} {s:Shared} {A:Around} {E:Value→Shared→Prop} {Q:Value→Shared→Prop} {c:Value} {b:Bool}
inductive TyOf (K:PySem.W.Frag) (H:Hp):V→Value→Prop where
  | non:TyOf K H .non (.type "NoneType")
  | bl (x:Bool):TyOf K H (.bl x) (.type "bool")
  | int (i:Int):TyOf K H (.int i) (.type "int")
  | str (x:Str):TyOf K H (.str x) (.type "str")
  | flt (x:UInt64):TyOf K H (.flt x) (.type "float")
  | lst {a:Addr} {xs:List V} (e:H a=some (.lst xs)):TyOf K H (.ref a) (.type "list")
  | frz {a:Addr} {o:Obj} {xs:List V} (e:H a=some (.frz o (.lst xs))):TyOf K H (.ref a) (.type "list")
  | tup {a:Addr} {xs:List V} (e:H a=some (.tup xs)):TyOf K H (.ref a) (.type "tuple")
  | dK {a:Addr} {kvs:List (fX×V)} (e:H a=some (.dK kvs)):TyOf K H (.ref a) (.type "dict")
  | dT {a:Addr} {kvs:List (List fX×V)} (e:H a=some (.dT kvs)):TyOf K H (.ref a) (.type "dict")
  | ins {a C dx:Addr} {fs:List (Str×V)} (e:H a=some (.ins C dx fs)) (cl:Cls K C) (ha:PySem.W.findIn K (.ref C) "__class__"=some (some (.builtin "object.__class__")))
      (hn:PySem.W.specialIn K (.builtin "object.__class__") "__get__"=some (some (.builtin "getset_descriptor.__get__"))) (htk:PySem.W.takesIn K (.builtin "object.__class__")=some true)
      (hm:PySem.W.mroIn K C (.type "object")=some true):TyOf K H (.ref a) (.ref C)
theorem jz {x:V} {u t:Value} (I:Inv X pins σ H s) (rx:RelV x u) (ty:TyOf X.K H x t) (e:PySem.W.kitOne X.K t c=some b) (h:∀tk,Q (.bool b) {s with toks:=tk}):
    wpAny (model X.prog X.w) A (call (.builtin "isinstance") [u,c]) Q E s:=by
  cases ty with
  | non=>cases (show u=Value.none from rx);exact PySem.W.kia_one PySem.W.kitx_none I.kIn True.intro e (fun z=>nomatch z) h
  | bl y=>cases (show u=Value.bool y from rx);exact PySem.W.kia_one PySem.W.kitx_bool I.kIn True.intro e (fun z=>nomatch z) h
  | int i=>obtain ⟨t,q⟩:=(show ∃t,u=Value.int i t from rx);cases q;exact PySem.W.kia_one PySem.W.kitx_int I.kIn True.intro e (fun z=>nomatch z) h
  | str y=>obtain ⟨t,q⟩:=(show ∃t,u=Value.str y t from rx);cases q;exact PySem.W.kia_one PySem.W.kitx_str I.kIn True.intro e (fun z=>nomatch z) h
  | flt y=>obtain ⟨t,q⟩:=(show ∃t,u=Value.float y t from rx);cases q;exact PySem.W.kia_one PySem.W.kitx_float I.kIn True.intro e (fun z=>nomatch z) h
  | @lst a xs ea=>
    cases (show u=Value.ref a from rx)
    obtain ⟨_,_,n,_,h1⟩:=(show ObjOk X.prog X.w H s.heap a (.lst xs) from I.hok a _ ea)
    exact PySem.W.kia_one PySem.W.kitx_list I.kIn ⟨_,h1,rfl⟩ e (fun z=>nomatch z) h
  | @frz a ob xs ea=>
    cases (show u=Value.ref a from rx)
    obtain ⟨_,_,_,n,_,h1⟩:=(show ObjOk X.prog X.w H s.heap a (.frz ob (.lst xs)) from I.hok a _ ea)
    exact PySem.W.kia_one PySem.W.kitx_list I.kIn ⟨_,h1,rfl⟩ e (fun z=>nomatch z) h
  | @tup a xs ea=>
    cases (show u=Value.ref a from rx)
    obtain ⟨_,_,_,p⟩:=(show ObjOk X.prog X.w H s.heap a (.tup xs) from I.hok a _ ea)
    obtain ⟨o,h1,h2,_⟩:=p
    exact PySem.W.kia_one PySem.W.kitx_tuple I.kIn ⟨o,h1,h2⟩ e (fun z=>nomatch z) h
  | @dK a kvs ea=>
    cases (show u=Value.ref a from rx)
    obtain ⟨_,_,vs,_,p⟩:=(show ObjOk X.prog X.w H s.heap a (.dK kvs) from I.hok a _ ea)
    obtain ⟨o,es,ep,h1,h2,_⟩:=p
    exact PySem.W.kia_one PySem.W.kitx_dict I.kIn ⟨o,h1,h2.1⟩ e (fun z=>nomatch z) h
  | @dT a kvs ea=>
    cases (show u=Value.ref a from rx)
    obtain ⟨_,_,xs,_,o,es,ep,h1,h2,_⟩:=(show ObjOk X.prog X.w H s.heap a (.dT kvs) from I.hok a _ ea)
    exact PySem.W.kia_one PySem.W.kitx_dict I.kIn ⟨o,h1,h2.1⟩ e (fun z=>nomatch z) h
  | @ins a C dx fs ea cl ha hn htk hm=>
    cases (show u=Value.ref a from rx)
    obtain ⟨mA,O,_⟩:=yJ I.hok ea
    obtain ⟨od,J,_⟩:=O.look
    exact PySem.W.kia_one (PySem.W.kitx_own (cl.get _) cl.hd ha hn htk hm) I.kIn J e (fun z=>nomatch z) h
end
end L2
namespace L2
open PySem PySem.Spec PyProof.Rows
structure Room (k:Nat) (A:Around):Prop where
  hd:A.handled=none
  dp:A.depth+3*k+5 < recursionLimit
  un:A.units+16*k+200 < cLine
theorem Room.mono {j k:Nat} {A:Around} (r:Room k A) (h:j≤k):Room j A:=⟨r.hd,by have:=r.dp;omega,by have:=r.un;omega⟩
theorem Room.deeper {k:Nat} {A:Around} (r:Room (k+1) A) (env:Env):Room k (A.deeper env):=
  ⟨r.hd,by have:=r.dp;show A.depth+1+3*k+5 < _;omega,by have:=r.un;show A.units+3+16*k+200 < _;omega⟩
theorem Room.in1 {k:Nat} {A:Around} (r:Room (k+1) A):Room k A.in1:=
  ⟨r.hd,by have:=r.dp;show A.depth+3*k+5 < _;omega,by have:=r.un;show A.units+1+16*k+200 < _;omega⟩
theorem Room.depth {k:Nat} {A:Around} (r:Room k A):A.depth < recursionLimit:=by have:=r.dp;omega
theorem Room.units {k:Nat} {A:Around} (r:Room k A):A.units+64 < cLine:=by have:=r.un;omega
def D6:TA:=fun _ H Q=>Q [] H
def CO (ta:TE) (tr:TA):TA:=fun σ H Q=>ta σ H fun x H1=>tr σ H1 fun xs H2=>Q (x::xs) H2
section
variable {X:Cx} {e:Expr} {es:List Expr} {te:TE} {t:TA} {pos:Pos}
theorem gC:PA X [] D6:=fun _ _ _ _ H Q I h=>Calls.spliced_nil ⟨[],H,I, .nil,h⟩
theorem eH (ha:PE X e te) (hr:PA X es t) (hs:starEach (e::es) X.env=(false,eval e X.env)::starEach es X.env:=by rfl):PA X (e::es) (CO te t):=by
  intro pos pins s σ H Q I h
  rw [hs]
  show wpAny _ _ (spliced ((false,eval e X.env)::backTo pos (starEach es X.env))) _ _ s
  refine Calls.spliced_cons (fU (ha pins s σ H _ I h) fun u s1 ⟨x,H1,I1,r1,q1⟩=>?_)
  exact fU (hr pos pins s1 σ H1 _ I1 q1) fun us s2 ⟨xs,H2,I2,r2,q2⟩=>⟨x::xs,H2,I2, .cons r1 r2,q2⟩
def D7 (t:TA):TE:=fun σ H Q=>t σ H fun xs H1=>xs.length≤sizeLine∧∀p,H1 p=none→Q (.ref p) (upd H1 p (.tup xs))
def D8 (t:TA):TE:=fun σ H Q=>t σ H fun xs H1=>xs.length≤sizeLine∧∀p,H1 p=none→Q (.ref p) (upd H1 p (.lst xs))
theorem Bh {x1} (h:PA X es t):PE X (.Tuple es x1 pos) (D7 t):=by
  intro pins s σ H Q I hq
  refine wpAny_Tuple_spliced (fU (h pos pins s σ H _ I hq) fun us s1 ⟨xs,H1,I1,r,z,q⟩=>⟨by rw [←r.length];exact z,?_⟩)
  have hf:H1 s1.heap.objs.size=none:=I1.hok.fresh (Nat.le_refl _)
  refine ⟨.ref s1.heap.objs.size,upd H1 s1.heap.objs.size (.tup xs),I1.laid (t':=s1.toks) (fun b u e=>Heap.get?_push_of_some _ e) (Nat.le_refl _) ?_,rfl,q _ hf⟩
  exact ⟨z,us,r,⟨_,Heap.get?_push_size _ rfl,rfl,_,rfl⟩⟩
theorem Bi (h:PA X es t):PE X (.List es pos) (D8 t):=by
  intro pins s σ H Q I hq
  refine wpAny_List_spliced (fU (h pos pins s σ H _ I hq) fun us s1 ⟨xs,H1,I1,r,z,q⟩=>⟨by rw [←r.length];exact z,?_⟩)
  have hf:H1 s1.heap.objs.size=none:=I1.hok.fresh (Nat.le_refl _)
  refine ⟨.ref s1.heap.objs.size,upd H1 s1.heap.objs.size (.lst xs),I1.laid (t':=s1.toks) (fun b u e=>Heap.get?_push_of_some _ e) (Nat.le_refl _) ?_,rfl,q _ hf⟩
  exact ⟨z,us,0,r,Heap.get?_push_size _ rfl⟩
end
abbrev Sp:=List V→Hp→VK→XK→Prop
abbrev v7:=List Env→Hp→Shared→XK→Value→Shared→Prop
structure Env0 (P:Program) (w:World) (K:PySem.W.Frag) (mg:Str→Option Value) (base:Heap) (A:Around) (outer:List Env) (s:Shared) (H:Hp):Prop where
  frames:A.frames=some outer
  mod:Mod K mg base
  bs:∀b o,base.get? b=some o→s.heap.get? b=some o∧H b=none
  bsz:base.objs.size≤s.heap.objs.size
  funs:s.heap.FunFrames base outer
  frf:∀b∈v6 outer,H b=none
  hok:HOk P w H s.heap
  bare:AllBare s.gens
  tab:∀b q,mi K b=some q→H b=some (.tbl q)
def CE (outer:List Env) (P:Program) (w:World) (H:Hp) (s:Shared) (Q:VK) (u:Value) (s':Shared):Prop:=
  ∃v H',s'.os=s.os∧AllBare s'.gens∧Un (v6 outer) [] H H' s.heap s'.heap∧HOk P w H' s'.heap∧RelV v u∧Q v H'
def CR (CX:v7) (outer:List Env) (P:Program) (w:World) (H:Hp) (s:Shared) (Q:VK) (E:XK) (r:Result) (s':Shared):Prop:=
  match r with
  | .ok (.ret u)=>CE outer P w H s Q u s'
  | .ok _=>False
  | .error e=>CX outer H s E e s'
structure FnOk (P:Program) (w:World) (K:PySem.W.Frag) (mg:Str→Option Value) (base:Heap) (CX:v7) (k:Nat) (f:Addr) (fd:FuncData) (ps:List Str) (sp:Sp):Prop where
  len:∀vs H Q E,sp vs H Q E→vs.length=ps.length
  run:∀(A:Around) (outer:List Env) (s:Shared) (H:Hp) (args:Args) (us:List Value) (vs:List V) (Q:VK) (E:XK),Room k A→Env0 P w K mg base A outer s H→BindsTo s fd args (ps.zip us)→Vals vs us→sp vs H Q E→
    codeAny (model P w) A (.call (.ref f) args) (CR CX outer P w H s Q E) s
theorem FnOk.mono {P:Program} {w:World} {K:PySem.W.Frag} {mg:Str→Option Value} {base:Heap} {CX:v7} {j k:Nat} {f:Addr} {fd:FuncData} {ps:List Str} {sp:Sp} (F:FnOk P w K mg base CX j f fd ps sp) (h:j≤k):
    FnOk P w K mg base CX k f fd ps sp:=⟨F.len,fun A outer s H args us vs Q E hr=>F.run A outer s H args us vs Q E (hr.mono h)⟩
theorem FnOk.imp {P:Program} {w:World} {K:PySem.W.Frag} {mg:Str→Option Value} {base:Heap} {CX:v7} {k:Nat} {f:Addr} {fd:FuncData} {ps:List Str} {sp sp':Sp} (F:FnOk P w K mg base CX k f fd ps sp)
    (h:∀vs H Q E,sp' vs H Q E→sp vs H Q E):FnOk P w K mg base CX k f fd ps sp':=
  ⟨fun vs H Q E q=>F.len vs H Q E (h _ _ _ _ q),fun A outer s H args us vs Q E hr he hb hv hs=>F.run A outer s H args us vs Q E hr he hb hv (h _ _ _ _ hs)⟩
theorem Env0.in1 {P:Program} {w:World} {K:PySem.W.Frag} {mg:Str→Option Value} {base:Heap} {A:Around} {outer:List Env} {s:Shared} {H:Hp} (e:Env0 P w K mg base A outer s H):
    Env0 P w K mg base A.in1 outer s H:=⟨e.frames,e.mod,e.bs,e.bsz,e.funs,e.frf,e.hok,e.bare,e.tab⟩
section
variable {X:Cx} {pins:List (Addr×Obj)} {σ:St} {H:Hp} {s s':Shared}
theorem Inv.env0 (I:Inv X pins σ H s):Env0 X.prog X.w X.K X.mg X.base X.A X.stack s H:=
  ⟨I.ok.frames,I.ok.mod,I.bs,Nat.le_trans I.ok.bsz I.sz,I.stack,I.stkFree,I.hok,I.bare,I.tab⟩
theorem Inv.after {Q:VK} {u:Value} (I:Inv X pins σ H s) (h:CE X.stack X.prog X.w H s Q u s'):EP X pins σ Q u s':=by
  obtain ⟨v,H',os,bare,un,hok,r,q⟩:=h
  obtain ⟨hh,g,d,t,os'⟩:=s'
  obtain rfl:os'=s.os:=os
  exact ⟨v,H',I.call (h':=hh) (g':=g) (d':=d) (t':=t) (ch:=[]) un hok bare (fun b z=>absurd z (by simp)),r,q⟩
end
def Ah (sp:Sp) (dvs:List V) (E:XK) (t:TA):TE:=fun σ H Q=>t σ H fun vs H1=>sp (vs++dvs) H1 Q E
def Binds (K:PySem.W.Frag) (fd:FuncData) (ps:List Str) (ds:List Value):Prop:=
  ∀(s:Shared) (us:List Value),K.In s.heap→(us++ds).length=ps.length→BindsTo s fd ⟨us,[]⟩ (ps.zip (us++ds))
theorem Binds.all {K:PySem.W.Frag} {fd:FuncData} {ps:List Str} (h:∀us:List Value,us.length=ps.length→bindArgs fd ⟨us,[]⟩=pure (ps.zip us)):Binds K fd ps []:=fun s us _ hl=>by
  rw [List.append_nil] at hl ⊢
  exact .of_eq (h us hl)
def sj (CX:v7) (X:Cx) (E:XK):Prop:=∀(pins:List (Addr×Obj)) (σ:St) (H:Hp) (s:Shared) (e:Value) (s':Shared),Inv X pins σ H s→CX X.stack H s E e s'→X.xe e s'
section
variable {X:Cx} {CX:v7} {k:Nat} {f C:Addr} {fd:FuncData} {ps:List Str} {sp:Sp} {dvs:List V} {ds:List Value} {E:XK} {x m:Str} {p pos apos:Pos} {e o:Expr} {es:List Expr} {ta:TE} {t:TA}
theorem Bj {pins:List (Addr×Obj)} {σ:St} {H:Hp} {s:Shared} {Q:VK} {us:List Value} {vs:List V} (F:FnOk X.prog X.w X.K X.mg X.base CX k f fd ps sp) (hr:Room k X.A) (hb:Binds X.K fd ps ds) (hd:Vals dvs ds) (hx:sj CX X E)
    (I:Inv X pins σ H s) (r:Vals vs us) (h:sp (vs++dvs) H Q E):wpAny (model X.prog X.w) X.A (call (.ref f) us) (EP X pins σ Q) X.xe s:=by
  have r2:Vals (vs++dvs) (us++ds):=r.append hd
  have hl:(us++ds).length=ps.length:=by rw [←r2.length];exact F.len _ _ _ _ h
  refine wpAny_call (codeAny_mono (F.run X.A X.stack s H ⟨us,[]⟩ (us++ds) (vs++dvs) Q E hr I.env0 (hb s us I.kIn hl) r2 h) fun r s' hq=>?_)
  cases r with
  | error e=>exact hx pins σ H s e s' I hq
  | ok fl=>
    cases fl with
    | ret u=>exact I.after hq
    | next=>exact False.elim hq
    | brk=>exact False.elim hq
    | cont=>exact False.elim hq
theorem yK (F:FnOk X.prog X.w X.K X.mg X.base CX k f fd ps sp) (hr:Room k X.A) (hg:Gl X x) (hm:X.mg x=some (.ref f)) (hk:PySem.W.keepIn X.K (.ref f)=true) (hb:Binds X.K fd ps ds) (hd:Vals dvs ds) (hx:sj CX X E)
    (ha:PA X (e::es) t) (hdb:(x == ("__debug__":Str))=false:=by decide) (he:starEach (e::es) X.env=(false,eval e X.env)::starEach es X.env:=by rfl) (hpl:(backTo pos (starEach es X.env)).any (·.1)=false:=by rfl):
    PE X (.Call (.Name x p) (e::es) [] pos) (Ah sp dvs E t):=by
  intro pins s σ H Q I h
  refine wpAny_Call_Name_kw (tE I hg hm ?_ hdb)
  refine PySem.W.callWith_K (h₀:=X.base) I.ok.mod.kin hk (fU (ha pos pins s σ H _ I h) fun us s1 ⟨vs,H1,I1,r,q⟩=>⟨I1.kIn,?_⟩) he hpl
  exact Bj F hr hb hd hx I1 r q
end
structure FnScope (N P:List Str) (sc:Scope):Prop where
  kind:sc.kind= .function
  co:sc.isCoroutine=false
  gen:sc.isGenerator=false
  nd:N.Nodup
  pre:N.take P.length=P
  par:∀x∈P,sc.names.lookup x=some .local∨sc.names.lookup x=some .cell
  nofree:∀y∈sc.names,y.2≠ .free
theorem om {kindOf:Str→Option NameKind} {x:Str}:∀{binds:List (Str×Value)} {m:Str→Option Value},(∀v,(x,v)∉binds)→bindL kindOf binds m x=m x
  | [],_,_=>rfl
  | (n,v)::r,m,h=>by
    unfold bindL
    rw [om fun w hw=>h w (List.mem_cons_of_mem _ hw)]
    split
    · have:x≠n:=by rintro rfl;exact h v List.mem_cons_self
      simp [this]
    · rfl
theorem on {kindOf:Str→Option NameKind} {x:Str}:∀{binds:List (Str×Value)} {m:Str→Option Value},(∀v,(x,v)∉binds)→bindC kindOf binds m x=m x
  | [],_,_=>rfl
  | (n,v)::r,m,h=>by
    unfold bindC
    rw [on fun w hw=>h w (List.mem_cons_of_mem _ hw)]
    split
    · rfl
    · have:x≠n:=by rintro rfl;exact h v List.mem_cons_self
      simp [this]
theorem oo {kindOf:Str→Option NameKind} {x:Str} {v:Value}:∀{P:List Str} {vs:List Value} {i:Nat} {m:Str→Option Value},P.Nodup→P[i]? =some x→vs[i]? =some v→kindOf x=some .local→
    bindL kindOf (P.zip vs) m x=some v
  | [],_,_,_,_,h,_,_=>by simp at h
  | _::_,[],_,_,_,_,h,_=>by simp at h
  | p::P,w::vs,0,m,nd,h1,h2,hk=>by
    simp at h1 h2;subst h1;subst h2
    show bindL kindOf ((p,w)::P.zip vs) m p=_
    unfold bindL
    rw [om fun v hv=>(List.nodup_cons.mp nd).1 (List.of_mem_zip hv).1,if_pos hk]
    simp
  | p::P,w::vs,i+1,m,nd,h1,h2,hk=>by
    show bindL kindOf ((p,w)::P.zip vs) m x=_
    unfold bindL
    exact oo (i:=i) (List.nodup_cons.mp nd).2 (by simpa using h1) (by simpa using h2) hk
theorem oq {kindOf:Str→Option NameKind} {x:Str} {v:Value}:∀{P:List Str} {vs:List Value} {i:Nat} {m:Str→Option Value},P.Nodup→P[i]? =some x→vs[i]? =some v→kindOf x≠some .local→
    bindC kindOf (P.zip vs) m x=some v
  | [],_,_,_,_,h,_,_=>by simp at h
  | _::_,[],_,_,_,_,h,_=>by simp at h
  | p::P,w::vs,0,m,nd,h1,h2,hk=>by
    simp at h1 h2;subst h1;subst h2
    show bindC kindOf ((p,w)::P.zip vs) m p=_
    unfold bindC
    rw [on fun v hv=>(List.nodup_cons.mp nd).1 (List.of_mem_zip hv).1,if_neg hk]
    simp
  | p::P,w::vs,i+1,m,nd,h1,h2,hk=>by
    show bindC kindOf ((p,w)::P.zip vs) m x=_
    unfold bindC
    exact oq (i:=i) (List.nodup_cons.mp nd).2 (by simpa using h1) (by simpa using h2) hk
def je (N:List Str) (vs:List V):St:=vs.map some++List.replicate (N.length - vs.length) none
def nS (CX:v7) (P:Program) (w:World) (K:PySem.W.Frag) (mg:Str→Option Value) (base:Heap) (N:List Str) (qual:Str) (scope:Scope) (f:Addr) (cd:Value) (A:Around) (outer:List Env) (s:Shared) (H:Hp) (E:XK):Cx where
  prog:=P
  w:=w
  K:=K
  mg:=mg
  base:=base
  A:=A.deeper (envOfC qual scope s.heap.objs.size f cd)
  N:=N
  s₀:=s
  H₀:=H
  env:=envOfC qual scope s.heap.objs.size f cd
  outer:=outer
  stack:=envOfC qual scope s.heap.objs.size f cd::outer
  ex:=[]
  calm:=true
  fn:=fun _=>true
  pn:=[]
  xe:=fun e s'=>wpAny (model P w) (A.deeper (envOfC qual scope s.heap.objs.size f cd)) (leaving (envOfC qual scope s.heap.objs.size f cd) e) (fun _ s''=>CX outer H s E e s'') (fun e' s''=>CX outer H s E e' s'') s'
theorem qC {sc:Scope} {n:Nat} {x:Str} (h:sc.names.lookup x=some .cell):∃c,(cellsFrom n sc.names []).lookup x=some c:=by
  have q:=PySem.W.cellsFrom_some sc.names n [] (.inl h)
  exact Option.isSome_iff_exists.mp q
theorem uX {CX:v7} {P:Program} {w:World} {K:PySem.W.Frag} {mg:Str→Option Value} {base:Heap} {N ps:List Str} {qual:Str} {scope:Scope} {f:Addr} {cd:Value} {A:Around} {outer:List Env} {s s1:Shared} {H:Hp} {E:XK} {us:List Value} {vs:List V}
    (S:FnScope N ps scope) (hd:A.handled=none) (e0:Env0 P w K mg base A outer s H) (hl:vs.length=ps.length) (r:Vals vs us)
    (x:InCallC s s.heap.objs.size (bindL (envOfC qual scope s.heap.objs.size f cd).kindOf (ps.zip us) fun _=>none) (cellsFrom (s.heap.objs.size+1) scope.names []) (bindC (envOfC qual scope s.heap.objs.size f cd).kindOf (ps.zip us) fun _=>none) s1):
    Inv (nS CX P w K mg base N qual scope f cd A outer s H E) [] (je N vs) H s1:=by
  have hpl:ps.length≤N.length:=by have:=congrArg List.length S.pre;rw [List.length_take] at this;omega
  obtain ⟨h1,tk,rfl,hk⟩:=x.done
  have noA:∀b:Addr,b∉(nS CX P w K mg base N qual scope f cd A outer s H E).ex:=fun b z=>absurd (show b∈([]:List Addr) from z) (by simp)
  refine ⟨⟨e0.mod,S.kind,rfl,rfl,Nat.le_refl _,fun y z c h1 h2=>?_,fun y hy=>?_,fun y c _ h=>?_,fun _=>hd,Around.frames_deeper e0.frames, .inr ⟨rfl,rfl⟩,fun b z=>absurd z (noA b),e0.bs,e0.bsz,fun b _ _=>noA b,fun b z=>absurd z (noA b),e0.funs,e0.frf,e0.tab⟩,
    rfl,e0.bare,Un.kept hk,⟨_,x.toInCall.ns,fun i y v h1 h2 h3=>?_⟩,fun y c h=>⟨_,x.cell y c h⟩,e0.hok.fresh (Nat.le_refl _),fun y c h=>?_,fun p hp=>absurd (show p∈([]:List (Addr×Obj)) from hp) (by simp),e0.hok.kept hk,?_⟩
  · exact name_of_addr x.apart (PySem.mem_of_lookup h1) (PySem.mem_of_lookup h2)
  · have hy:scope.names.lookup y=some .cell∨scope.names.lookup y=some .free:=hy
    rcases hy with hy | hy
    · exact qC hy
    · exact absurd rfl (S.nofree _ (PySem.mem_of_lookup hy))
  · exact Nat.le_of_lt (x.above y c (PySem.mem_of_lookup h))
  · have hi:i < vs.length:=by
      unfold je at h2
      by_cases hi:i < vs.length
      · exact hi
      · rw [List.getElem?_append_right (by simpa using hi)] at h2
        rw [List.getElem?_replicate] at h2
        split at h2 <;> cases h2
    have ha:vs[i]? =some v:=by
      unfold je at h2
      rw [List.getElem?_append_left (by simpa using hi),List.getElem?_map] at h2
      cases e:vs[i]? with
      | none=>rw [e] at h2;cases h2
      | some a=>rw [e] at h2;cases h2;rfl
    obtain ⟨u,hu,rv⟩:=r.get ha
    have hp:ps[i]? =some y:=by
      rw [←S.pre,List.getElem?_take_of_lt (by omega)];exact h1
    have ndP:ps.Nodup:=by rw [←S.pre];exact S.nd.sublist (List.take_sublist _ _)
    refine ⟨u,rv,?_⟩
    rcases S.par y (List.mem_of_getElem? hp) with k | k
    · exact .inl ⟨k,oo ndP hp hu k⟩
    · obtain ⟨c,e⟩:=qC (n:=s.heap.objs.size+1) k
      refine .inr ⟨.inl k,c,e,?_⟩
      have q:=x.cell y c e
      rw [oq ndP hp hu (by show scope.names.lookup y≠_;rw [k];decide)] at q
      exact q
  · exact e0.hok.fresh (Nat.le_of_lt (x.above y c (PySem.mem_of_lookup h)))
  · unfold je
    show _=N.length
    rw [List.length_append,List.length_map,List.length_replicate]
    omega
theorem Ai {CX:v7} {P:Program} {w:World} {K:PySem.W.Frag} {mg:Str→Option Value} {base:Heap} {k:Nat} {f:Addr} {name qual:Str} {params:Arguments} {body:List Stmt} {scope:Scope} {dV kV doc pm cdv ct oc:Value} {an od:Option Addr}
    {osl:Array (Option Value)} {N ps:List Str} {sp:Sp} (lk:K.lookup f=some ⟨oc,od, .func (PySem.W.fnOf name qual params body scope dV kV doc pm an cdv ct),osl⟩) (hcd:PySem.W.codeIn K cdv qual=true) (S:FnScope N ps scope)
    (len:∀vs H Q E,sp vs H Q E→vs.length=ps.length)
    (hbody:∀(A:Around) (outer:List Env) (s:Shared) (H:Hp) (vs:List V) (Q:VK) (E:XK),Room k (A.deeper (envOfC qual scope s.heap.objs.size f cdv))→sp vs H Q E→
      ∃t,PSs (nS CX P w K mg base N qual scope f cdv A outer s H E) body t∧t {nx:=fun _ H'=>Q .non H',rt:=Q} (je N vs) H):
    FnOk P w K mg base CX (k+1) f (PySem.W.fnOf name qual params body scope dV kV doc pm an cdv ct) ps sp:=by
  refine ⟨len,fun A outer s H args us vs Q E hr e0 hb r hsp=>?_⟩
  have hl:=len _ _ _ _ hsp
  have KX:K.In s.heap:=e0.mod.kin.keeps fun b o e=>(e0.bs b o e).1
  have lim:s.heap.NoLimit:=e0.mod.nolimit.keeps fun b o e=>(e0.bs b o e).1
  have hkind:∀y∈ps.zip us,scope.names.lookup y.1=some .local∨(scope.names.lookup y.1=some .cell∧((cellsFrom (s.heap.objs.size+1) scope.names []).lookup y.1).isSome=true):=fun ⟨n,v⟩ hy=>by
    rcases S.par n (List.of_mem_zip hy).1 with q | q
    · exact .inl q
    · exact .inr ⟨q,PySem.W.cellsFrom_some _ _ _ (.inl q)⟩
  refine codeAny_call_function hr.depth (KX _ _ lk) rfl S.co S.gen rfl (PySem.W.codeRec_of KX hcd) (hb _ _ _ _ ?_)
  refine wpAny_newFunctionEnv_cells S.kind hkind fun env he s1 x=>?_
  subst he
  refine ⟨lim.keeps x.toInCall.keep,codeAny_func ?_⟩
  obtain ⟨t,ht,hq⟩:=hbody A outer s H vs Q E (hr.deeper _) hsp
  have I:Inv (nS CX P w K mg base N qual scope f cdv A outer s H E) [] (je N vs) H s1:=uX S hr.hd e0 hl r x
  refine wpAny_mono (ht [] s1 (je N vs) H _ I hq) (fun fl s' hs=>?_) fun e s' hs=>hs
  have fin:∀{σ':St} {H':Hp} {v:V} {u:Value},Inv (nS CX P w K mg base N qual scope f cdv A outer s H E) [] σ' H' s'→RelV v u→Q v H'→CE outer P w H s Q u s':=
    fun {σ' H' v u} J rv q=>⟨v,H',J.os,J.bare,J.base,J.hok,rv,q⟩
  cases fl with
  | ret u=>
    obtain ⟨v,σ',H',J,rv,q⟩:=hs
    exact fin J rv q
  | next=>
    obtain ⟨σ',H',J,q⟩:=hs
    exact fin (v:=V.non) (u:=Value.none) J rfl q
  | brk=>
    obtain ⟨_,_,_,q⟩:=hs
    exact False.elim q
  | cont=>
    obtain ⟨_,_,_,q⟩:=hs
    exact False.elim q
end L2
namespace L2
open PySem PySem.Spec PyProof.Rows
section
variable {X:Cx} {x:Str} {p pos:Pos} {e:Expr} {es:List Expr} {t:TA} {id T:String} {r:List V→Hp→VK→Prop}
def D9 (r:List V→Hp→VK→Prop) (t:TA):TE:=fun σ H Q=>t σ H fun vs H1=>r vs H1 Q
theorem jf (hc:CallR X (.builtin id) r) (hg:Gl X x) (hm:X.mg x=none) (hv:bootBuiltins x=some (.builtin id)) (ha:PA X (e::es) t) (hn:x≠"__name__":=by decide) (hdb:(x == ("__debug__":Str))=false:=by decide)
    (he:starEach (e::es) X.env=(false,eval e X.env)::starEach es X.env:=by rfl) (hpl:(backTo pos (starEach es X.env)).any (·.1)=false:=by rfl):PE X (.Call (.Name x p) (e::es) [] pos) (D9 r t):=by
  intro pins s σ H Q I h
  refine wpAny_Call_Name_kw (jW I hg hm hv ?_ hn hdb)
  exact PyProof.Rows.callWith_builtin1 (fU (ha pos pins s σ H _ I h) fun us s1 ⟨vs,H1,I1,r1,q1⟩=>hc pins s1 σ H1 vs us Q I1 r1 q1) he hpl
theorem ou (hc:CallR X (.type T) r) (hg:Gl X x) (hm:X.mg x=none) (hv:bootBuiltins x=some (.type T)) (ha:PA X (e::es) t) (hn:x≠"__name__":=by decide) (hdb:(x == ("__debug__":Str))=false:=by decide)
    (he:starEach (e::es) X.env=(false,eval e X.env)::starEach es X.env:=by rfl) (hpl:(backTo pos (starEach es X.env)).any (·.1)=false:=by rfl):PE X (.Call (.Name x p) (e::es) [] pos) (D9 r t):=by
  intro pins s σ H Q I h
  refine wpAny_Call_Name_kw (jW I hg hm hv ?_ hn hdb)
  exact PyProof.Rows.callWith_type1 (fU (ha pos pins s σ H _ I h) fun us s1 ⟨vs,H1,I1,r1,q1⟩=>hc pins s1 σ H1 vs us Q I1 r1 q1) he hpl
end
end L2
namespace HT
open PySem PyProof.Rows
section
open PySem.SeqAt
open PySem.AutoSeq1 (wpAny_loadPart')
open PySem.MeetsSeq PySem.MeetsSeq2 PySem.MeetsSeq3
end
section
variable {prog:Program} {w:World} {A:Around} {E:Value→Shared→Prop} {s:Shared}
def mC (n d:Nat):Option Int→Nat
  | none=>d
  | some v=>if v < 0 then (v+(n:Int)).toNat else min v.toNat n
theorem wm (n d:Nat):mC n d none=d:=rfl
theorem pf (n d k:Nat):mC n d (some (k:Int))=min k n:=by
  show (if (k:Int) < 0 then ((k:Int)+(n:Int)).toNat else min (k:Int).toNat n)=min k n
  rw [if_neg (by omega),Int.toNat_natCast]
end
end HT
namespace L2
open PySem PySem.Spec PyProof.Rows
abbrev TO:=St→Hp→(Option Int→Hp→Prop)→Prop
def PO (X:Cx) (e:Option Expr) (t:TO):Prop:=
  ∀(pins:List (Addr×Obj)) (s:Shared) (σ:St) (H:Hp) (Q:Option Int→Hp→Prop),Inv X pins σ H s→t σ H Q→
    wpAny (model X.prog X.w) X.A (evalPart e X.env) (fun u s'=>∃o H',Inv X pins σ H' s'∧IsPart u o∧Q o H') X.xe s
def yL:TO:=fun _ H Q=>Q none H
def CP (t:TE):TO:=fun σ H Q=>t σ H fun x H1=>∃i,x= .int i∧Q (some i) H1
section
variable {X:Cx} {e:Expr} {te:TE} {lo hi:Option Expr} {tl th:TO} {pos p2:Pos}
theorem yM:PO X none yL:=by
  intro pins s σ H Q I h
  rw [evalPart_none]
  exact wpAny_pure ⟨none,H,I, .none,h⟩
theorem yN (h:PE X e te):PO X (some e) (CP te):=by
  intro pins s σ H Q I hw
  rw [evalPart_some]
  refine fU (h pins s σ H _ I hw) fun u s1 ⟨x,H1,I1,r1,q1⟩=>?_
  obtain ⟨i,rfl,q⟩:=q1
  obtain ⟨t,rfl⟩:=r1
  exact ⟨some i,H1,I1, .int i t,q⟩
def SlR (X:Cx) (r:V→Option Int→Option Int→Hp→VK→Prop):Prop:=
  ∀(pins:List (Addr×Obj)) (s:Shared) (σ:St) (H:Hp) (x:V) (v vl vu:Value) (lo hi:Option Int) (sl:Addr) (Q:VK),Inv X pins σ H s→RelV x v→s.heap.IsSliceOf sl vl vu .none→IsPart vl lo→IsPart vu hi→r x lo hi H Q→
    ∃T id,typeLookup (.type T) "__getitem__"=pure (some (.builtin id))∧s.TypeIs v T∧wpAny (model X.prog X.w) X.A (getItem v (.ref sl)) (EP X pins σ Q) X.xe s
theorem SlR.or {r r':V→Option Int→Option Int→Hp→VK→Prop} (h:SlR X r) (h':SlR X r'):SlR X (fun x lo hi H Q=>r x lo hi H Q∨r' x lo hi H Q):=by
  intro pins s σ H x v vl vu lo hi sl Q I rx hs pl pu q
  rcases q with q | q
  · exact h pins s σ H x v vl vu lo hi sl Q I rx hs pl pu q
  · exact h' pins s σ H x v vl vu lo hi sl Q I rx hs pl pu q
def EJ (r:V→Option Int→Option Int→Hp→VK→Prop) (te:TE) (tl th:TO):TE:=fun σ H Q=>te σ H fun x H1=>tl σ H1 fun l H2=>th σ H2 fun u H3=>r x l u H3 Q
theorem wn {r:V→Option Int→Option Int→Hp→VK→Prop} (hr:SlR X r) (he:PE X e te) (hl:PO X lo tl) (hu:PO X hi th):PE X (.Subscript e (.Slice lo hi none p2) pos) (EJ r te tl th):=by
  intro pins s σ H Q I h
  refine Subscript_ (fU (he pins s σ H _ I h) fun v s1 ⟨x,H1,I1,r1,q1⟩=>?_)
  refine wpAny_Slice (fU (hl pins s1 σ H1 _ I1 q1) fun vl s2 ⟨l,H2,I2,pl,q2⟩=>fU (hu pins s2 σ H2 _ I2 q2) fun vu s3 ⟨u,H3,I3,pu,q3⟩=>?_)
  rw [evalPart_none]
  refine wpAny_pure ?_
  have I4:Inv X pins σ H3 {s3 with heap:=s3.heap.push {cls:= .type "slice",data:= .fields #[vl,vu, .none]}}:=I3.kept (t':=s3.toks) fun b ob q=>Heap.get?_push_of_some _ q
  obtain ⟨T,id,hT,ht,hg⟩:=hr pins {s3 with heap:=s3.heap.push {cls:= .type "slice",data:= .fields #[vl,vu, .none]}} σ H3 x v vl vu l u s3.heap.objs.size Q I4 r1 (Heap.IsSliceOf.new ..) pl pu q3
  show wpAny (model X.prog X.w) X.A (subscriptTail e (.Slice lo hi none p2) v (.ref s3.heap.objs.size)) (EP X pins σ Q) X.xe {s3 with heap:=s3.heap.push {cls:= .type "slice",data:= .fields #[vl,vu, .none]}}
  exact tail_any (ops:=[.ref s3.heap.objs.size,v]) ht hT hg (by with_unfolding_all rfl)
def uY (xs:List V) (lo hi:Option Int):List V:=(xs.drop (HT.mC xs.length 0 lo)).take (HT.mC xs.length xs.length hi - HT.mC xs.length 0 lo)
theorem qD (xs:List V) (lo hi:Option Int):(uY xs lo hi).length≤xs.length:=by
  unfold uY
  rw [List.length_take,List.length_drop]
  omega
end
end L2
namespace L2
open PySem PySem.Spec PyProof.Rows
def CQ (n:Nat) (i:Int):Option Nat:=if 0≤i then (if i < n then some i.toNat else none) else if -(n:Int)≤i then some (i+n).toNat else none
def atI {α:Type} (xs:List α) (i:Int):Option α:=(CQ xs.length i).bind fun j=>xs[j]?
theorem yO {n:Nat} {i:Int} {j:Nat} (h:CQ n i=some j):seqIndex? i n=some j∧j < n∧ -(n:Int)≤i∧i < n:=by
  unfold CQ at h
  by_cases h0:0≤i
  · rw [if_pos h0] at h
    by_cases h1:i < n
    · rw [if_pos h1] at h
      have e:i.toNat=j:=Option.some.inj h
      exact ⟨by rw [seqIndex_of h0 h1,e],by omega,by omega,h1⟩
    · rw [if_neg h1] at h;cases h
  · rw [if_neg h0] at h
    by_cases h1: -(n:Int)≤i
    · rw [if_pos h1] at h
      have e:(i+n).toNat=j:=Option.some.inj h
      exact ⟨by rw [seqIndex_neg (by omega) h1,e],by omega,h1,by omega⟩
    · rw [if_neg h1] at h;cases h
theorem ph {α:Type} {xs:List α} {i:Int} {v:α} (h:atI xs i=some v):∃j,seqIndex? i xs.length=some j∧xs[j]? =some v∧j < xs.length∧ -(xs.length:Int)≤i∧i < xs.length:=by
  unfold atI at h
  cases e:CQ xs.length i with
  | none=>rw [e] at h;cases h
  | some j=>
    rw [e] at h
    obtain ⟨h1,h2,h3,h4⟩:=yO e
    exact ⟨j,h1,h,h2,h3,h4⟩
def tM (b:Expr):Prop:=∀o i,subscripted b false o i=operate [o,i] (getItem o i)
def IxR (X:Cx) (r:R2):Prop:=
  ∀(value slice:Expr) (pins:List (Addr×Obj)) (s:Shared) (σ:St) (H:Hp) (x y:V) (v u:Value) (Q:VK),Inv X pins σ H s→RelV x v→RelV y u→r x y H Q→
    subscripted slice false v u=operate [v,u] (getItem v u)→wpAny (model X.prog X.w) X.A (subscriptTail value slice v u) (EP X pins σ Q) X.xe s
def MtR (X:Cx) (id:String) (r:V→List V→Hp→VK→Prop):Prop:=
  ∀(pins:List (Addr×Obj)) (s:Shared) (σ:St) (H:Hp) (x:V) (xs:List V) (v:Value) (us:List Value) (Q:VK),Inv X pins σ H s→RelV x v→Vals xs us→r x xs H Q→
    wpAny (model X.prog X.w) X.A (call (.builtin id) (v::us)) (EP X pins σ Q) X.xe s
section
variable {X:Cx} {a b:Expr} {ta tb:TE} {pos:Pos}
theorem IxR.or {r r':R2} (h:IxR X r) (h':IxR X r'):IxR X (fun x y H Q=>r x y H Q∨r' x y H Q):=by
  intro value slice pins s σ H x y v u Q I rx ry q hs
  rcases q with q | q
  · exact h value slice pins s σ H x y v u Q I rx ry q hs
  · exact h' value slice pins s σ H x y v u Q I rx ry q hs
theorem MtR.or {id:String} {r r':V→List V→Hp→VK→Prop} (h:MtR X id r) (h':MtR X id r'):MtR X id (fun x xs H Q=>r x xs H Q∨r' x xs H Q):=by
  intro pins s σ H x xs v us Q I rx rs q
  rcases q with q | q
  · exact h pins s σ H x xs v us Q I rx rs q
  · exact h' pins s σ H x xs v us Q I rx rs q
theorem CS {r:R2} (hr:IxR X r) (ha:PE X a ta) (hb:PE X b tb) (hs:tM b):PE X (.Subscript a b pos) (CC r ta tb):=by
  intro pins s σ H Q I h
  exact Subscript_ (AZ ha hb I h fun v u s2 x y H2 I2 rx ry q=>hr a b pins s2 σ H2 x y v u Q I2 rx ry q (hs _ _))
def CT (K:PySem.W.Frag):R2:=fun x y H Q=>∃p xs i v,x= .ref p∧y= .int i∧SqL K H p xs∧atI xs i=some v∧Q v H
def CU (K:PySem.W.Frag):R2:=fun x y H Q=>∃p xs i v,x= .ref p∧y= .int i∧SqT K H p xs∧atI xs i=some v∧Q v H
def CV:R2:=fun x y H Q=>∃z i c,x= .str z∧y= .int i∧z.length≤sizeLine∧atI z.cps.toList i=some c∧Q (.str ⟨#[c]⟩) H
theorem ix_list:IxR X (CT X.K):=by
  intro value slice pins s σ H x y v u Q I rx ry h hs
  obtain ⟨p,xs,i,z,rfl,rfl,hq,he,q⟩:=h
  cases rx
  obtain ⟨t,rfl⟩:=ry
  obtain ⟨its,r,pl,hz⟩:=I.list hq
  obtain ⟨j,h1,h2,h3,h4,h5⟩:=ph he
  obtain ⟨w,ew,rw'⟩:=r.get h2
  have hl:=r.length
  have hn:=kT
  have fin:EP X pins σ Q w s:=⟨z,H,I,rw',q⟩
  by_cases h0:0≤i
  · have hj:i.toNat=j:=by
      rw [seqIndex_of h0 h5] at h1
      exact Option.some.inj h1
    exact item_listR pl.isList h0 (by omega) (by rw [hj];simpa using ew) fin hs
  · have hj:(i+(its.toArray.size:Int)).toNat=j:=by
      rw [seqIndex_neg (by omega) h4] at h1
      rw [List.size_toArray,←hl]
      exact Option.some.inj h1
    exact subscriptTail_builtinR (x:=w) pl.isList.typeIs slot_list_getitem.lookup
      (wpAny_getItem_list_neg (Q:=fun r s'=>r=w∧EP X pins σ Q r s') pl.isList (by omega) (by rw [List.size_toArray] <;> omega) (by omega) (by rw [hj];simpa using ew) ⟨rfl,fin⟩) hs
theorem ix_tup:IxR X (CU X.K):=by
  intro value slice pins s σ H x y v u Q I rx ry h hs
  obtain ⟨p,xs,i,z,rfl,rfl,hq,he,q⟩:=h
  cases rx
  obtain ⟨t,rfl⟩:=ry
  obtain ⟨its,r,pl,hz⟩:=I.tuple hq
  obtain ⟨j,h1,h2,h3,h4,h5⟩:=ph he
  obtain ⟨w,ew,rw'⟩:=r.get h2
  have hl:=r.length
  have hn:=kT
  have fin:EP X pins σ Q w s:=⟨z,H,I,rw',q⟩
  exact subscriptTail_builtinR (x:=w) pl.typeIs slot_tuple_getitem.lookup
    (getItem_tuple (j:=j) (Q:=fun r s'=>r=w∧EP X pins σ Q r s') pl (by omega) (by omega) (by rw [List.size_toArray,←hl];exact h1) (by simpa using ew) ⟨rfl,fin⟩) hs
theorem Bk:IxR X CV:=by
  intro value slice pins s σ H x y v u Q I rx ry h hs
  obtain ⟨z,i,c,rfl,rfl,hz,he,q⟩:=h
  obtain ⟨t,rfl⟩:=rx
  obtain ⟨t',rfl⟩:=ry
  obtain ⟨j,h1,h2,h3,h4,h5⟩:=ph he
  have hl:z.cps.toList.length=z.length:=by simp [Str.length]
  rw [hl] at h1 h4 h5
  have hn:=kT
  exact tail_any (typeIs_str s z t) slot_str_getitem.lookup (getItem_str (c:=c) (by
    have e1:decide (i < -(2 ^ 63:Int))=false:=decide_eq_false (by omega)
    have e2:decide (i≥2 ^ 63)=false:=decide_eq_false (by omega)
    rw [e1,e2,Bool.or_false]) (by rw [h1];simpa using h2) ⟨.str ⟨#[c]⟩,H,I.tok _,⟨_,rfl⟩,q⟩) hs
def EB (K:PySem.W.Frag):R2:=fun x y H Q=>CT K x y H Q∨CU K x y H Q∨CV x y H Q
theorem Bl:IxR X (EB X.K):=ix_list.or (ix_tup.or Bk)
theorem Inv.lst {pins:List (Addr×Obj)} {σ:St} {H:Hp} {s:Shared} {p:Addr} {xs:List V} (I:Inv X pins σ H s) (h:H p=some (.lst xs)):
    ∃(its:List Value) (n:Nat),Vals xs its∧s.heap.get? p=some {cls:= .type "list",data:= .seq its.toArray n}∧xs.length≤sizeLine:=by
  obtain ⟨z,its,n,r,e⟩:=I.hok p _ h
  exact ⟨its,n,r,e,z⟩
theorem pi (lo hi:Option Int) (n:Nat):(sliceBounds lo hi none n).1=((HT.mC n 0 lo:Nat):Int)∧(sliceBounds lo hi none n).2.1=((HT.mC n n hi:Nat):Int)∧(sliceBounds lo hi none n).2.2=1:=by
  refine ⟨?_,?_,rfl⟩
  · cases lo with
    | none=>simp [sliceBounds,HT.mC]
    | some i=>
      simp only [sliceBounds,HT.mC,Option.getD_none,show (1:Int) > 0 by decide,if_true]
      by_cases h:i < 0
      · simp only [h,if_true] <;> omega
      · simp only [h,if_false] <;> omega
  · cases hi with
    | none=>simp [sliceBounds,HT.mC]
    | some i=>
      simp only [sliceBounds,HT.mC,Option.getD_none,show (1:Int) > 0 by decide,if_true]
      by_cases h:i < 0
      · simp only [h,if_true] <;> omega
      · simp only [h,if_false] <;> omega
theorem nT (its:List Value) (lo hi:Option Int):slicePick its.toArray lo hi none=((its.drop (HT.mC its.length 0 lo)).take (HT.mC its.length its.length hi - HT.mC its.length 0 lo)).toArray:=by
  obtain ⟨h1,h2,h3⟩:=pi lo hi its.toArray.size
  unfold slicePick
  rw [h1,h2,h3]
  simp only [sliceRange_one,pick_run,List.size_toArray] <;> rfl
def D_ (K:PySem.W.Frag):V→Option Int→Option Int→Hp→VK→Prop:=fun x lo hi H Q=>∃a xs,x= .ref a∧SqL K H a xs∧∀p,H p=none→Q (.ref p) (upd H p (.lst (uY xs lo hi)))
theorem yP:SlR X (D_ X.K):=by
  intro pins s σ H x v vl vu lo hi sl Q I rx hs pl pu h
  obtain ⟨a,xs,rfl,hx,q⟩:=h
  cases rx
  obtain ⟨its,r,ht,hz⟩:=I.list hx
  have hlen:=r.length
  refine ⟨"list",_,slot_list_getitem.lookup,ht.isList.typeIs,?_⟩
  refine wpAny_getItem_list_slice ht.isList hs pl pu .none (by simp) ?_ (by rw [List.size_toArray] <;> omega)
  rw [nT,←hlen]
  refine ⟨.ref s.heap.objs.size,_,I.laid (t':=s.toks) (o:= .lst (uY xs lo hi)) (fun b ob q=>Heap.get?_push_of_some _ q) (Nat.le_refl _) ?_,rfl,q _ (I.hok.fresh (Nat.le_refl _))⟩
  exact ⟨Nat.le_trans (qD xs lo hi) hz,_,0,(r.drop (HT.mC xs.length 0 lo)).take (HT.mC xs.length xs.length hi - HT.mC xs.length 0 lo),Heap.get?_push_size _ rfl⟩
def iZ:V→Bool
  | .non=>true
  | .bl _=>true
  | .int _=>true
  | .str _=>true
  | _=>false
def yn:V→V→Bool
  | .non, .non=>true
  | .bl a, .bl b=>a == b
  | .bl a, .int b=>(if a then 1 else 0) == b
  | .int a, .bl b=>a == (if b then 1 else 0)
  | .int a, .int b=>a == b
  | .str a, .str b=>a == b
  | _,_=>false
theorem Bm {A:Around} {s:Shared} {y x:V} {u v:Value} (ry:RelV y u) (rx:RelV x v) (fy:iZ y=true) (fx:iZ x=true):SeqAt.EqAt A s u v (yn y x):=by
  cases y with
  | non=>
    cases ry
    cases x with
    | non=>cases rx;exact SeqAt.EqAt.same _
    | bl b=>cases rx;exact SeqAt.EqAt.none_bool b
    | int b=>obtain ⟨t,rfl⟩:=rx;exact SeqAt.EqAt.none_int b t
    | str b=>obtain ⟨t,rfl⟩:=rx;exact SeqAt.EqAt.none_str b t
    | _=>exact absurd (show false=true from fx) Bool.false_ne_true
  | bl a=>
    cases ry
    cases x with
    | non=>cases rx;exact SeqAt.EqAt.bool_none a
    | bl b=>cases rx;exact SeqAt.EqAt.bool_bool a b
    | int b=>obtain ⟨t,rfl⟩:=rx;exact SeqAt.EqAt.bool_int a b t
    | str b=>obtain ⟨t,rfl⟩:=rx;exact SeqAt.EqAt.bool_str a b t
    | _=>exact absurd (show false=true from fx) Bool.false_ne_true
  | int a=>
    obtain ⟨t',rfl⟩:=ry
    cases x with
    | non=>cases rx;exact SeqAt.EqAt.int_none a t'
    | bl b=>cases rx;exact SeqAt.EqAt.int_bool a t' b
    | int b=>obtain ⟨t,rfl⟩:=rx;exact SeqAt.EqAt.int_int a t' b t
    | str b=>obtain ⟨t,rfl⟩:=rx;exact SeqAt.EqAt.int_str a t' b t
    | _=>exact absurd (show false=true from fx) Bool.false_ne_true
  | str a=>
    obtain ⟨t',rfl⟩:=ry
    cases x with
    | non=>cases rx;exact SeqAt.EqAt.str_none a t'
    | bl b=>cases rx;exact SeqAt.EqAt.str_bool a t' b
    | int b=>obtain ⟨t,rfl⟩:=rx;exact SeqAt.EqAt.str_int a t' b t
    | str b=>obtain ⟨t,rfl⟩:=rx;exact SeqAt.EqAt.str_str a t' b t
    | _=>exact absurd (show false=true from fx) Bool.false_ne_true
  | _=>exact absurd (show false=true from fy) Bool.false_ne_true
def yQ (x:V) (u:Value):Bool:=match u with
  | .none=>yn .non x
  | .bool b=>yn (.bl b) x
  | .int i _=>yn (.int i) x
  | .str z _=>yn (.str z) x
  | _=>false
theorem wo {x y:V} {u:Value} (r:RelV y u) (f:iZ y=true):yQ x u=yn y x:=by
  cases y with
  | non=>cases r;rfl
  | bl b=>cases r;rfl
  | int i=>obtain ⟨t,rfl⟩:=r;rfl
  | str z=>obtain ⟨t,rfl⟩:=r;rfl
  | _=>exact absurd (show false=true from f) Bool.false_ne_true
theorem pj {x:V}:∀{xs:List V} {us:List Value},Vals xs us→xs.all iZ=true→us.any (yQ x)=xs.any fun y=>yn y x
  | _,_, .nil,_=>rfl
  | y::xs,u::us, .cons r t,f=>by
    rw [List.all_cons,Bool.and_eq_true] at f
    rw [List.any_cons,List.any_cons,wo r f.1,pj t f.2]
theorem mM {A:Around} {s:Shared} {x:V} {v:Value} (rx:RelV x v) (fx:iZ x=true):∀{xs:List V} {us:List Value},Vals xs us→xs.all iZ=true→∀u∈us,SeqAt.EqAt A s u v (yQ x u)
  | _,_, .nil,_=>fun u hu=>by cases hu
  | y::xs,u::us, .cons r t,f=>fun u' hu=>by
    rw [List.all_cons,Bool.and_eq_true] at f
    rcases List.mem_cons.mp hu with rfl | hu
    · rw [wo r f.1];exact Bm r rx f.1 fx
    · exact mM rx fx t f.2 u' hu
def Ck (x:V) (xs:List V):Bool:=xs.any fun y=>yn y x
def EC (K:PySem.W.Frag) (neg:Bool):R2:=fun x y H Q=>∃p xs,y= .ref p∧(SqL K H p xs∨SqT K H p xs)∧iZ x=true∧xs.all iZ=true∧Q (.bl (if neg then !Ck x xs else Ck x xs)) H
theorem uZ:OpR X (compareOp .In) (EC X.K false):=by
  intro pins s σ H x y v u Q I rx ry h
  obtain ⟨p,xs,rfl,hq,fx,fs,q⟩:=h
  cases ry
  rcases hq with hq | hq
  · obtain ⟨its,r,pl,hz⟩:=I.list hq
    refine SeqAt.in_listAt (yQ x) pl.isList (fun w hw=>mM rx fx r fs w (by simpa using hw)) ⟨.bl _,H,I,rfl,?_⟩
    rw [show its.toArray.any (yQ x)=its.any (yQ x) by simp,pj r fs]
    exact q
  · obtain ⟨its,r,pl,hz⟩:=I.tuple hq
    refine SeqAt.in_tupleAt (yQ x) pl (fun w hw=>mM rx fx r fs w (by simpa using hw)) ⟨.bl _,H,I,rfl,?_⟩
    rw [show its.toArray.any (yQ x)=its.any (yQ x) by simp,pj r fs]
    exact q
theorem pk:CallR X (.builtin "len") (fun xs H Q=>∃p ys,xs=[.ref p]∧(SqL X.K H p ys∨SqT X.K H p ys)∧Q (.int ys.length) H):=by
  intro pins s σ H xs us Q I r h
  obtain ⟨p,ys,rfl,hq,q⟩:=h
  obtain ⟨u,rfl,rx⟩:=tL r
  cases rx
  have hn:=kT
  rcases hq with hq | hq
  · obtain ⟨its,r',pl,hz⟩:=I.list hq
    have hlen:=r'.length
    exact Calls.call_len_list pl.isList (by simp only [List.size_toArray] <;> omega) ⟨.int ys.length,H,I.tok _,⟨s.toks+1,by rw [List.size_toArray,hlen]⟩,q⟩
  · obtain ⟨its,r',pl,hz⟩:=I.tuple hq
    have hlen:=r'.length
    exact len_tuple pl (by simp only [List.size_toArray] <;> omega) ⟨.int ys.length,H,I.tok _,⟨s.toks+1,by rw [List.size_toArray,hlen]⟩,q⟩
theorem pq:CallR X (.builtin "len") (fun xs H Q=>∃z,xs=[.str z]∧z.length≤sizeLine∧Q (.int z.length) H):=by
  intro pins s σ H xs us Q I r h
  obtain ⟨z,rfl,hz,q⟩:=h
  obtain ⟨u,rfl,t,rfl⟩:=tL r
  have hn:=kT
  exact len_str (by omega) ⟨.int z.length,H,I.tok _,⟨_,rfl⟩,q⟩
theorem CallR.or {f:Value} {r r':List V→Hp→VK→Prop} (h:CallR X f r) (h':CallR X f r'):CallR X f (fun xs H Q=>r xs H Q∨r' xs H Q):=by
  intro pins s σ H xs us Q I rs q
  rcases q with q | q
  · exact h pins s σ H xs us Q I rs q
  · exact h' pins s σ H xs us Q I rs q
theorem pv:CallR X (.type "list") (fun xs H Q=>∃p ys,xs=[.ref p]∧(SqL X.K H p ys∨SqT X.K H p ys)∧∀l,H l=none→Q (.ref l) (upd H l (.lst ys))):=by
  intro pins s σ H xs us Q I r h
  obtain ⟨p,ys,rfl,hq,q⟩:=h
  obtain ⟨u,rfl,rx⟩:=tL r
  cases rx
  have fin:∀(its:List Value),Vals ys its→ys.length≤sizeLine→∀(h':Heap) (c':Nat),(∀b o',s.heap.get? b=some o'→h'.get? b=some o')→
      h'.get? s.heap.objs.size=some {cls:= .type "list",dict:=none,data:= .seq its.toArray c',slots:=#[]}→EP X pins σ Q (.ref s.heap.objs.size) {s with heap:=h'}:=fun its r' hz h' c' kp e=>
    ⟨.ref s.heap.objs.size,_,I.laid (t':=s.toks) kp (Nat.le_refl _) (show ObjOk X.prog X.w _ h' _ (.lst ys) from ⟨hz,its,c',r',e⟩),rfl,q _ (I.hok.fresh (Nat.le_refl _))⟩
  rcases hq with hq | hq
  · obtain ⟨its,r',pl,hz⟩:=I.list hq
    have hlen:=r'.length
    obtain ⟨o,ho,hc,n,hd⟩:=pl.isList
    exact call_list_seq p (.inl rfl) ho hc hd (fun h' c' kp e=>fin its r' hz h' c' kp e) (by simp only [List.size_toArray] <;> omega)
  · obtain ⟨its,r',pl,hz⟩:=I.tuple hq
    have hlen:=r'.length
    obtain ⟨o,ho,hc,n,hd⟩:=pl
    exact call_list_seq p (.inr rfl) ho hc hd (fun h' c' kp e=>fin its r' hz h' c' kp e) (by simp only [List.size_toArray] <;> omega)
def ED (K:PySem.W.Frag) (T:String) (x:V) (H:Hp):Prop:=match x with
  | .str _=>T="str"
  | .int _=>T="int"
  | .ref p=>(T="list"∧∃xs,SqL K H p xs)∨(T="tuple"∧∃o,K.lookup p=some o∧o.cls= .type "tuple"∧o.dict=none)∨
      (T="dict"∧((∃kvs,H p=some (.dK kvs))∨∃kvs,H p=some (.dT kvs)))∨(T="set"∧∃S n,H p=some (.set S n))
  | _=>False
theorem Bo {pins:List (Addr×Obj)} {σ:St} {H:Hp} {s:Shared} {T:String} {x:V} {v:Value} (I:Inv X pins σ H s) (r:RelV x v) (ty:ED X.K T x H):
    s.TypeIs v T∧∀a,v= .ref a→∃ob,s.heap.get? a=some ob∧ob.dict=none:=by
  cases x with
  | str z=>
    obtain ⟨t,rfl⟩:=r
    cases (show T="str" from ty)
    exact ⟨typeIs_str s z t,fun _ e=>nomatch e⟩
  | int i=>
    obtain ⟨t,rfl⟩:=r
    cases (show T="int" from ty)
    exact ⟨typeIs_int s i t,fun _ e=>nomatch e⟩
  | ref p=>
    cases r
    rcases ty with ⟨rfl,xs,hq⟩ | ⟨rfl,o,hk,hc,hd⟩ | ⟨rfl,hk⟩ | ⟨rfl,S,n,hk⟩
    · obtain ⟨its,_,pl,_⟩:=I.list hq
      refine ⟨pl.isList.typeIs,fun a e=>?_⟩
      cases e
      obtain ⟨o,n,e,c,hd,_⟩:=pl
      exact ⟨o,e,hd⟩
    · refine ⟨⟨o,I.kIn p o hk,hc⟩,fun a e=>?_⟩
      cases e
      exact ⟨o,I.kIn _ o hk,hd⟩
    · have z:∃o,s.heap.get? p=some o∧o.ExactDict:=by
        rcases hk with ⟨kvs,hk⟩ | ⟨kvs,hk⟩
        · obtain ⟨_,_,_,_,o,_,_,e,ex,_⟩:=I.hok p _ hk
          exact ⟨o,e,ex⟩
        · obtain ⟨_,_,_,_,o,_,_,e,ex,_⟩:=I.hok p _ hk
          exact ⟨o,e,ex⟩
      obtain ⟨o,e,ex⟩:=z
      refine ⟨⟨o,e,ex.1⟩,fun a e2=>?_⟩
      cases e2
      exact ⟨o,e,ex.2.1⟩
    · obtain ⟨o,_,_,_,e,ex,_⟩:=I.hok p _ hk
      refine ⟨⟨o,e,ex.1⟩,fun a e2=>?_⟩
      cases e2
      exact ⟨o,e,ex.2.1⟩
  | _=>exact False.elim ty
def EK (K:PySem.W.Frag) (T:String) (r:V→List V→Hp→VK→Prop) (to:TE) (t:TA):TE:=fun σ H Q=>to σ H fun x H1=>ED K T x H1∧t σ H1 fun xs H2=>r x xs H2 Q
variable {o e:Expr} {es:List Expr} {to:TE} {t:TA} {name:Str} {apos cpos:Pos} {T id:String} {r:V→List V→Hp→VK→Prop}
theorem Aj (pa:PlainAttrs T) (slot:Slot T name id) (hty:typeOf (.builtin id)=pure (.type "method_descriptor")) (hm:MtR X id r) (ho:PE X o to) (ha:PA X (e::es) t)
    (hbase:attributeBase o name X.env (eval o X.env)=eval o X.env:=by rfl)
    (hfew:((backTo cpos (starEach (e::es) X.env)).all (fun x=> !x.1)&&(backToKw cpos (keywordEach [] X.env)).all (fun x=>x.1.isSome)
      &&decide ((e::es).length+([]:List Keyword).length+(if ([]:List Keyword).isEmpty then 0 else 1) < 30))=true:=by rfl)
    (hline:(apos.endLine == cpos.line)=true:=by rfl) (hs:starEach (e::es) X.env=(false,eval e X.env)::starEach es X.env:=by rfl) (hplain:(backTo cpos (starEach es X.env)).any (·.1)=false:=by rfl):
    PE X (.Call (.Attribute o name apos) (e::es) [] cpos) (EK X.K T r to t):=by
  intro pins s σ H Q I h
  refine wpAny_Call_method_late hbase hfew hline rfl (fU (ho pins s σ H _ I h) fun v s1 ⟨x,H1,I1,r1,ty,q1⟩=>?_)
  obtain ⟨h1,h2⟩:=Bo I1 r1 ty
  refine ⟨T,id,pa,slot,hty,h1,h2,?_⟩
  have hA:=ha cpos pins s1 σ H1 _ I1 q1
  rw [hs] at hA ⊢
  refine Calls.callWith_builtin (by show (false||(backTo cpos (starEach es X.env)).any (·.1))=false;rw [hplain] <;> rfl) (Calls.evalArgs_plain ?_)
  exact fU hA fun us s2 ⟨vs,H2,I2,r2,q2⟩=>hm pins s2 σ H2 x vs v us Q I2 r1 r2 q2
end
end L2
namespace L2
open PySem PySem.Spec PyProof.Rows
def EL (X:Cx) (id:String) (r:V→List V→Hp→VK→Prop):Prop:=
  ∀(pins:List (Addr×Obj)) (s:Shared) (σ:St) (H:Hp) (x:V) (xs:List V) (v:Value) (us:List Value) (Q:VK),Inv X pins σ H s→RelV x v→Vals xs us→r x xs H Q→
    wpAny (model X.prog X.w) X.A (call (.builtin id) (v::us)) (EP X pins σ Q) X.xe s
theorem Vals.one {x:V} {us:List Value} (h:Vals [x] us):∃u,us=[u]∧RelV x u:=by
  cases h with
  | cons r t=>cases t;exact ⟨_,rfl,r⟩
theorem Vals.two {x y:V} {us:List Value} (h:Vals [x,y] us):∃u v,us=[u,v]∧RelV x u∧RelV y v:=by
  cases h with
  | cons r t=>
    obtain ⟨v,rfl,q⟩:=Vals.one t
    exact ⟨_,_,rfl,r,q⟩
theorem Vals.zero:∀{us:List Value},Vals [] us→us=[]
  | _, .nil=>rfl
theorem Vals.eraseIdx:∀{xs:List V} {us:List Value} (i:Nat),Vals xs us→Vals (xs.eraseIdx i) (us.eraseIdx i)
  | _,_,_, .nil=> .nil
  | _,_,0, .cons _ t=>t
  | _,_,i+1, .cons r t=> .cons r (Vals.eraseIdx i t)
theorem Vals.reverse {xs:List V} {us:List Value} (h:Vals xs us):Vals xs.reverse us.reverse:=by
  induction h with
  | nil=>exact .nil
  | cons r t ih=>rw [List.reverse_cons,List.reverse_cons];exact Vals.append ih (.cons r .nil)
theorem Vals.rep {xs:List V} {us:List Value} (h:Vals xs us):∀k:Nat,Vals (List.replicate k xs).flatten (List.replicate k us).flatten
  | 0=> .nil
  | k+1=>by
    rw [List.replicate_succ,List.replicate_succ,List.flatten_cons,List.flatten_cons]
    exact Vals.append h (Vals.rep h k)
section
variable {X:Cx} {pins:List (Addr×Obj)} {σ:St} {H:Hp} {s:Shared} {l b:Addr} {xs ys zs:List V}
theorem Inv.lset {its its':List Value} {n:Nat} {f:Array Value→Array Value} {t':Nat} (I:Inv X pins σ H s) (hH:H l=some (.lst xs))
    (e:s.heap.get? l=some {cls:= .type "list",data:= .seq its.toArray n}) (hf:f its.toArray=its'.toArray) (hv:Vals ys its') (hz:ys.length≤sizeLine):
    Inv X pins σ (upd H l (.lst ys)) {s with heap:=s.heap.update l (Obj.mapSeq f),toks:=t'}:=by
  have q:=PySem.IsL.update e f
  rw [hf] at q
  refine I.write (x:=l) (e:=l) (by rw [hH];exact trivial) (.inl rfl) (fun b' u hb hu=>(Heap.get?_update_other s.heap (Obj.mapSeq f) (Ne.symm hb)).trans hu) ⟨_,q⟩ ?_
  exact ⟨hz,its',_,hv,q⟩
theorem Inv.lnew {its:List Value} {t':Nat} (I:Inv X pins σ H s) (hv:Vals ys its) (hz:ys.length≤sizeLine):
    Inv X pins σ (upd H s.heap.objs.size (.lst ys)) {s with heap:=s.heap.push {cls:= .type "list",data:= .seq its.toArray},toks:=t'}:=
  I.laid (fun _ _ q=>Heap.get?_push_of_some _ q) (Nat.le_refl _) ⟨hz,its,0,hv,Heap.get?_push_size _ rfl⟩
theorem Inv.fresh (I:Inv X pins σ H s):H s.heap.objs.size=none:=I.hok.fresh (Nat.le_refl _)
theorem Inv.lstM (I:Inv X pins σ H s) (hH:H l=some (.lst xs)):xs.length≤sizeLine∧∃(its:List Value) (n:Nat),Vals xs its∧xs.length=its.length∧s.heap.get? l=some {cls:= .type "list",data:= .seq its.toArray n}:=by
  obtain ⟨z,its,n,r,e⟩:=I.hok l _ hH
  exact ⟨z,its,n,r,r.length,e⟩
end
section
variable {X:Cx}
def yR:V→List V→Hp→VK→Prop:=fun x vs H Q=>∃l xs y,x= .ref l∧vs=[y]∧H l=some (.lst xs)∧xs.length < sizeLine∧Q .non (upd H l (.lst (xs++[y])))
theorem ov:EL X "list.append" yR:=by
  intro pins s σ H x vs v us Q I rx rv h
  obtain ⟨l,xs,y,rfl,rfl,hH,hz,q⟩:=h
  cases rx
  obtain ⟨u,rfl,ru⟩:=rv.one
  obtain ⟨z,its,n,r,hl,e⟩:=I.lstM hH
  refine call_meets F.slot_list_append ⟨_,e,rfl⟩ F.entry_list_append (F.args_list_append_2 _ _) (PySem.list_append l its.toArray n u (by rw [List.size_toArray];omega)) ⟨e,?_⟩
  refine ⟨.non,_,I.lset (its':=its++[u]) hH e (by simp) (r.append (.cons ru .nil)) ?_,rfl,q⟩
  rw [List.length_append,List.length_singleton]
  omega
theorem yS {α:Type} (xs:List α) (k:Nat):(List.replicate k xs).flatten.length=k*xs.length:=by
  induction k with
  | zero=>simp
  | succ k ih=>rw [List.replicate_succ,List.flatten_cons,List.length_append,ih,Nat.succ_mul,Nat.add_comm]
end
end L2
namespace Att
open PySem PySem.W PySem.Calls PyProof.Rows
theorem mj {P:Params} {h:Heap}:∀(ns:List Int) (vs:List Value),WellAll P h vs (ns.map WData.int)→IntsAre vs ns:=by
  intro ns
  induction ns with
  | nil=>
    intro vs w
    rw [List.map_nil] at w
    cases w
    exact .nil
  | cons n ns ih=>
    intro vs w
    rw [List.map_cons] at w
    cases w with
    | cons a b=>
      cases a
      exact .cons _ _ (ih _ b)
theorem u4 {l:OpenLaw} {n:Nat} (hn:l.most=some n) {P:Params} {h:Heap} {args:List WData} {vals:List Value}
    (hpre:l.row.toRowW.claim.pre args=true) (hwl:WellAll P h vals args):
    ∃a vs ns,vals=[Value.ref a]∧args=[WData.list (ns.map WData.int)]∧h.get? a=some {cls:= .type "list",data:= .seq vs.toArray}∧IntsAre vs ns∧ns.length≤n:=by
  have hsh:WShape.hasAll [] args [.list .int]=true:=(pre_splitW hpre).1
  have hc:l.pre.holds [] {args:=args}=true:=(pre_splitW hpre).2
  obtain ⟨d,r,rfl,h1,h2⟩:=hasAllW_cons hsh
  obtain rfl:=hasAllW_nil h2
  obtain ⟨xs,rfl,h3⟩:=hasW_list h1
  obtain ⟨ns,rfl⟩:=items_int h3
  have hlen:ns.length≤n:=by
    unfold OpenLaw.pre at hc
    have h4:(WTm.not (.lt (.lit (.int (n:Int))) (.len (.arg 0)))).holds [] {args:=[.list (ns.map .int)]}=true:=by
      have h4:=(holds_andW hc).1
      rw [hn] at h4
      exact h4
    have h5:=condW_of h4 (w_not (w_lt w_lit (w_len_list (w_arg rfl))))
    rw [List.length_map] at h5
    refine Nat.le_of_not_lt fun q=>?_
    have q':(n:Int) < ((ns.length:Nat):Int):=by omega
    first
      | (rw [decide_eq_true q'] at h5;exact absurd h5 (by decide))
      | (simp at h5;omega)
  cases hwl with
  | cons w1 w2=>
    cases w2
    cases w1 with
    | list ho hall=>exact ⟨_,_,ns,rfl,rfl,ho,mj ns _ hall,hlen⟩
theorem u5 (l:OpenLaw) (args:List WData):l.row.toRowW.claim.post args (.bool true) args=true:=
  postW_of (r:=l.row.toRowW) (X:=(true == true))
    (show WShape.has [] (.bool true) .bool=true by first | rfl | decide | simp [WShape.has,WShape.arms,WShape.armsAll])
    (show (WTm.eq .res (.lit (.bool true))).value [] {args:=args,res:=some (.bool true),after:=args}=some (.bool (true == true)) from w_eq_bool (w_res rfl) w_lit) rfl
theorem qE {l:OpenLaw} {n:Nat} {q:Program} {loose:List Str} {XP:(Str→Option Value)→Heap→Prop} {YP:World→Heap→Prop} {d:DefRec}
    (hn:l.most=some n) (hdf:d.params.defaults=[])
    (call:∀(w:World) (s₀ s₁:Shared) (mg mb:Str→Option Value) (fa:Addr) (o:Obj) (pm cd doc:Value) (a:Addr) (vs:List Value) (ns:List Int),
      Ground q loose [] XP w s₀ mg mb s₁.heap→YP w s₁.heap→
      s₁.heap.get? fa=some o→o.data= .func (docDef d.name d.params d.body d.scope pm cd doc)→s₁.heap.CodeRec cd d.name→mg d.name=some (.ref fa)→
      s₁.heap.get? a=some {cls:= .type "list",data:= .seq vs.toArray}→IntsAre vs ns→ns.length≤n→s₁.gens=#[]→
      codeAny (model l.prog w) callerA (.call (.ref fa) ⟨[.ref a],[]⟩) (fun r s'=>r= .ok (.ret (.bool true))∧OldK s₁.heap s'.heap∧s'.os=s₁.os∧AllBare s'.gens) s₁):
    WalkO q loose XP YP l.row.toRowW d [] (fun f vs=>PySem.call f vs):=by
  intro w s₀ s₁ mg mb G Y fa o pm cd doc dV kV ho hd hcd hD hmg hg args vals as hpre hlay hrd hwl hlo
  obtain rfl:dV= .none:=Dflts.none hD hdf
  obtain rfl:kV= .none:=Dflts.noKw hD
  obtain ⟨a,vs,ns,rfl,rfl,hobj,hints,hlen⟩:=u4 hn hpre hwl
  refine enter_call (codeAny_mono (call w s₀ s₁ mg mb fa o pm cd doc a vs ns G Y ho (fd_plain hd) hcd hmg hobj hints hlen hg) fun r s' hq=>?_)
  obtain ⟨rfl,h2,h3,h4⟩:=hq
  exact ⟨.inl ⟨.bool true, .bool true,[],rfl,fun _=>rfl, .bool true,u5 l _,fun _=>⟨List.Pairwise.nil,fun _ hm=>(nomatch hm)⟩⟩,h2,h3,h4⟩
end Att
namespace L2
open PySem PySem.Spec PyProof.Rows
theorem io:∀{vs:List Value} {ns:List Int},IntsAre vs ns→Vals (ns.map V.int) vs
  | _,_, .nil=> .nil
  | _,_, .cons n t h=> .cons ⟨t,rfl⟩ (io h)
theorem ObjOk.tbl0 {P:Program} {w:World} {H:Hp} {h:Heap} {b:Addr} {q:Str} (e:h.get? b=some (PySem.W.tabObj #[])):ObjOk P w H h b (.tbl q):=⟨#[],e,trivial,fun pos cv z=>by cases z⟩
end L2
namespace L2
open PySem PySem.Spec PyProof.Rows
def aE (s:Stmt):Arguments:=match s with
  | .FunctionDef _ a _ _ _ _ _ _ _ _=>a
  | _=>{posonlyargs:=[],args:=[],vararg:=none,kwonlyargs:=[],kw_defaults:=[],kwarg:=none,defaults:=[]}
def aA (s:Stmt):List Stmt:=match s with
  | .FunctionDef _ _ b _ _ _ _ _ _ _=>b
  | _=>[]
def ah (s:Stmt):Scope:=match s with
  | .FunctionDef _ _ _ _ _ _ sc _ _ _=>sc
  | _=>{kind:= .function,names:=[],isGenerator:=false,isCoroutine:=false}
abbrev u6:v7:=fun _ _ _ _ _ _=>False
abbrev E0:XK:=fun _ _ _=>False
theorem CW {X:Cx}:sj u6 X E0:=fun _ _ _ _ _ _ _ h=>h.elim
structure Fun (K:PySem.W.Frag) (x qual:Str) (st:Stmt) (f:Addr) (fd:FuncData):Prop where
  ex:∃(oc:Value) (od:Option Addr) (kV doc pm:Value) (an:Option Addr) (cdv ct:Value) (osl:Array (Option Value)),
    fd=PySem.W.fnOf x qual (aE st) (aA st) (ah st) .none kV doc pm an cdv ct∧K.lookup f=some ⟨oc,od, .func fd,osl⟩∧PySem.W.codeIn K cdv qual=true
  kp:PySem.W.keepIn K (.ref f)=true
section
variable {P:Program} {w:World} {K:PySem.W.Frag} {mg:Str→Option Value} {base:Heap}
theorem Fun.ok {x qual:Str} {st:Stmt} {f:Addr} {fd:FuncData} {N ps:List Str} {k:Nat} {sp:Sp} (F:Fun K x qual st f fd) (S:FnScope N ps (ah st)) (len:∀vs H Q E,sp vs H Q E→vs.length=ps.length)
    (hbody:∀(cdv:Value) (A:Around) (outer:List Env) (s:Shared) (H:Hp) (vs:List V) (Q:VK) (E:XK),Room k (A.deeper (envOfC qual (ah st) s.heap.objs.size f cdv))→sp vs H Q E→
      ∃t,PSs (nS u6 P w K mg base N qual (ah st) f cdv A outer s H E).nox (aA st) t∧t {nx:=fun _ H'=>Q .non H',rt:=Q} (je N vs) H):FnOk P w K mg base u6 (k+1) f fd ps sp:=by
  obtain ⟨oc,od,kV,doc,pm,an,cdv,ct,osl,rfl,lk,hcd⟩:=F.ex
  refine Ai lk hcd S len fun A outer s H vs Q E hr hsp=>?_
  obtain ⟨t,h,q⟩:=hbody cdv A outer s H vs Q E hr hsp
  exact ⟨t,h.nox,q⟩
theorem Fun.binds {x qual:Str} {st:Stmt} {f:Addr} {fd:FuncData} {ps:List Str} (F:Fun K x qual st f fd)
    (h:∀(kV doc pm:Value) (an:Option Addr) (cdv ct:Value) (us:List Value),us.length=ps.length→bindArgs (PySem.W.fnOf x qual (aE st) (aA st) (ah st) .none kV doc pm an cdv ct) ⟨us,[]⟩=pure (ps.zip us)):Binds K fd ps []:=by
  obtain ⟨oc,od,kV,doc,pm,an,cdv,ct,osl,rfl,lk,hcd⟩:=F.ex
  exact .all (h kV doc pm an cdv ct)
theorem sk {x qual:Str} {st:Stmt} {f:Addr} {oc:Value} {od an:Option Addr} {osl:Array (Option Value)} {kV doc pm cdv ct:Value} (l:K.lookup f=some ⟨oc,od, .func (PySem.W.fnOf x qual (aE st) (aA st) (ah st) .none kV doc pm an cdv ct),osl⟩)
    (c:PySem.W.codeIn K cdv qual=true) (k:PySem.W.keepIn K (.ref f)=true):Fun K x qual st f (PySem.W.fnOf x qual (aE st) (aA st) (ah st) .none kV doc pm an cdv ct):=⟨⟨oc,od,kV,doc,pm,an,cdv,ct,osl,rfl,l,c⟩,k⟩
end
def Same (H H':Hp):Prop:=∀b o,H b=some o→H' b=some o
theorem Same.refl (H:Hp):Same H H:=fun _ _ h=>h
theorem Same.trans {H H1 H2:Hp} (a:Same H H1) (b:Same H1 H2):Same H H2:=fun c o h=>b c o (a c o h)
theorem Same.free {H H':Hp} (e:Same H H') {l:Addr} (h:H' l=Option.none):H l=Option.none:=by
  cases q:H l with
  | none=>rfl
  | some o=>
    rw [e l o q] at h
    cases h
theorem Same.seq {K:PySem.W.Frag} {H H':Hp} {a:Addr} {xs:List V} (e:Same H H') (h:SqL K H a xs):SqL K H' a xs:=by
  rcases h with (h | ⟨o,h⟩) | h
  · exact .inl (.inl (e _ _ h))
  · exact .inl (.inr ⟨o,e _ _ h⟩)
  · exact .inr h
end L2
namespace NH
section
variable {α:Type} [DecidableEq α]
def stp (r:List (α×Int)) (p:α×Int):List (α×Int):=
  match r with
  | []=>if p.2=0 then [] else [p]
  | q::r'=>if q.1=p.1 then (if q.2+p.2=0 then r' else (p.1,q.2+p.2)::r') else (if p.2=0 then q::r' else p::q::r')
def stk (c:List (α×Int)):List (α×Int):=c.foldl stp []
def short (c:List (α×Int)):List (α×Int):=(stk c).reverse
def Red:List (α×Int)→Prop
  | []=>True
  | [p]=>p.2≠0
  | p::q::r=>p.2≠0∧p.1≠q.1∧Red (q::r)
theorem Red.cons {p:α×Int} {r:List (α×Int)} (h0:p.2≠0) (h1:∀q∈r.head?,p.1≠q.1) (h:Red r):Red (p::r):=by
  cases r with
  | nil=>exact h0
  | cons q r=>exact ⟨h0,h1 q rfl,h⟩
theorem Red.next {p:α×Int} {r:List (α×Int)} (h:Red (p::r)):∀q∈r.head?,p.1≠q.1:=by
  cases r with
  | nil=>intro q hq;cases hq
  | cons q r=>intro q' hq;cases hq;exact h.2.1
def contr (c:List (α×Int)):List (α×Int):=c.reverse.map fun p=>(p.1,-p.2)
theorem fF (c:List (α×Int)):(contr c).length=c.length:=by simp [contr]
def sn (w:List (α×Int)) (p:α×Int):List (α×Int):=(stp w.reverse p).reverse
def Ak (p x:α×Int):List (α×Int):=if x.1=p.1 then (if x.2+p.2=0 then [] else [(p.1,x.2+p.2)]) else (if p.2=0 then [x] else [p,x])
theorem kh (p x:α×Int) (r:List (α×Int)):stp (x::r) p=Ak p x++r:=by
  show (if x.1=p.1 then (if x.2+p.2=0 then r else (p.1,x.2+p.2)::r) else (if p.2=0 then x::r else p::x::r))=Ak p x++r
  unfold Ak
  by_cases e:x.1=p.1
  · rw [if_pos e,if_pos e];split <;> rfl
  · rw [if_neg e,if_neg e];split <;> rfl
def Ea (x p:α×Int):List (α×Int):=(Ak p x).reverse
theorem tN (p x:α×Int) (r:List (α×Int)):sn (r++[x]) p=r++Ea x p:=by
  unfold sn Ea
  rw [List.reverse_append,List.reverse_singleton,List.singleton_append,kh,List.reverse_append,List.reverse_reverse]
theorem CY (p q:α×Int) (x:α×Int) (hx:x.2≠0):stp (sn [x] q) p=sn (stp [x] p) q:=by
  obtain ⟨n,a⟩:=p
  obtain ⟨k,b⟩:=q
  obtain ⟨m,u⟩:=x
  simp at hx
  by_cases e1:m=n
  · subst e1
    by_cases e2:m=k
    · subst e2
      by_cases z1:u+a=0 <;> by_cases z2:u+b=0
      · simp [stp,sn,z1,z2]
        have:a=b:=by omega
        have ha:a≠0:=by omega
        have hb:b≠0:=by omega
        simp [ha,hb,this]
      · have hb:u+b+a=b:=by omega
        by_cases b0:b=0
        · subst b0;simp [stp,sn,z1,hx]
        · simp [stp,sn,z1,z2,hb,b0]
      · have hb:u+a+b=a:=by omega
        by_cases a0:a=0
        · subst a0;simp [stp,sn,z2,hx]
        · simp [stp,sn,z1,z2,hb,a0]
      · have hb:u+b+a=u+a+b:=by omega
        by_cases z3:u+a+b=0
        · simp [stp,sn,z1,z2,hb,z3]
        · simp [stp,sn,z1,z2,hb,z3]
    · by_cases z1:u+a=0 <;> by_cases z2:b=0 <;> simp [stp,sn,e2,z1,z2]
  · by_cases e2:m=k
    · subst e2
      by_cases z1:u+b=0 <;> by_cases z2:a=0 <;> simp [stp,sn,e1,z1,z2]
    · by_cases z1:a=0 <;> by_cases z2:b=0 <;> simp [stp,sn,e1,e2,z1,z2]
theorem CZ (p q:α×Int):stp (sn [] q) p=sn (stp [] p) q:=by
  obtain ⟨n,a⟩:=p
  obtain ⟨k,b⟩:=q
  by_cases z1:a=0 <;> by_cases z2:b=0
  · simp [stp,sn,z1,z2]
  · by_cases e:k=n <;> simp [stp,sn,z1,z2,e]
  · by_cases e:n=k <;> simp [stp,sn,z1,z2,e]
  · by_cases e:k=n
    · subst e
      by_cases z:a+b=0
      · have z':b+a=0:=by omega
        simp [stp,sn,z1,z2,z,z']
      · have z':¬b+a=0:=by omega
        simp [stp,sn,z1,z2,z,z']
        omega
    · have e':¬n=k:=fun t=>e t.symm
      simp [stp,sn,z1,z2,e,e']
theorem comm (p q:α×Int) {w:List (α×Int)} (h:Red w):stp (sn w q) p=sn (stp w p) q:=by
  cases w with
  | nil=>exact CZ p q
  | cons x r=>
    rcases List.eq_nil_or_concat r with rfl | ⟨m,y,e⟩
    · exact CY p q x h
    · have e':r=m++[y]:=by rw [e] <;> simp
      subst e'
      have e1:x::(m++[y])=(x::m)++[y]:=rfl
      have e2:sn (x::(m++[y])) q=x::(m++Ea y q):=by rw [e1,tN];rfl
      rw [e2,kh,kh,←List.append_assoc,←List.append_assoc,tN]
end
end NH
namespace L2
open PySem PySem.Spec PyProof.Rows
theorem ip {H:Hp} {p:Addr} (h:H p=none) (o:HO):Same H (upd H p o):=fun b u q=>by rw [aS (bL q h)];exact q
theorem Same.tup {K:PySem.W.Frag} {H H':Hp} {a:Addr} {xs:List V} (e:Same H H') (h:SqT K H a xs):SqT K H' a xs:=by
  rcases h with (h | ⟨o,h⟩) | h
  · exact .inl (.inl (e _ _ h))
  · exact .inl (.inr ⟨o,e _ _ h⟩)
  · exact .inr h
def SameBut (l:Addr) (H H':Hp):Prop:=∀b o,b≠l→H b=some o→H' b=some o
theorem SameBut.upd {H:Hp} {l:Addr} (o:HO):SameBut l H (upd H l o):=fun b u hb q=>by rw [aS hb];exact q
theorem SameBut.trans {H H1 H2:Hp} {l:Addr} (a:SameBut l H H1) (b:SameBut l H1 H2):SameBut l H H2:=fun c o hc q=>b c o hc (a c o hc q)
theorem SameBut.same {H H':Hp} {l:Addr} (a:SameBut l H H') (h:H l=none):Same H H':=fun b o q=>a b o (bL q h) q
theorem SameBut.tup {K:PySem.W.Frag} {H H':Hp} {l a:Addr} {xs ys:List V} (e:SameBut l H H') (hl:H l=some (.lst ys)) (h:SqT K H a xs):SqT K H' a xs:=by
  rcases h with (h | ⟨o,h⟩) | h
  · exact .inl (.inl (e _ _ (Af h hl (by intro z;cases z)) h))
  · exact .inl (.inr ⟨o,e _ _ (Af h hl (by intro z;cases z)) h⟩)
  · exact .inr h
mutual
inductive DOf (K:PySem.W.Frag) (H:Hp):V→PyData→Prop
  | non:DOf K H .non .none
  | bl (b:Bool):DOf K H (.bl b) (.bool b)
  | int (i:Int):DOf K H (.int i) (.int i)
  | str (x:Str):DOf K H (.str x) (.str x)
  | lst {a:Addr} {xs:List V} {ds:List PyData}:SqL K H a xs→DAll K H xs ds→DOf K H (.ref a) (.list ds)
  | tup {a:Addr} {xs:List V} {ds:List PyData}:SqT K H a xs→DAll K H xs ds→DOf K H (.ref a) (.tuple ds)
inductive DAll (K:PySem.W.Frag) (H:Hp):List V→List PyData→Prop
  | nil:DAll K H [] []
  | cons {x:V} {xs:List V} {d:PyData} {ds:List PyData}:DOf K H x d→DAll K H xs ds→DAll K H (x::xs) (d::ds)
end
section
variable {X:Cx} {pins:List (Addr×Obj)} {σ:St} {H:Hp} {s:Shared}
theorem DOf.reads (I:Inv X pins σ H s) {x:V} {d:PyData} {u:Value} (h:DOf X.K H x d) (r:RelV x u):∃as,Reads s.heap u d as:=DOf.rec (motive_1:=fun x d _=>∀{u:Value},RelV x u→∃as,Reads s.heap u d as) (motive_2:=fun xs ds _=>∀{us:List Value},Vals xs us→∃as,ReadsAll s.heap us ds as)
    (fun r=>by cases r;exact ⟨_,Reads.none⟩) (fun b _ r=>by cases r;exact ⟨_,Reads.bool b⟩) (fun i _ r=>by obtain ⟨t,rfl⟩:=r;exact ⟨_,Reads.int i t⟩) (fun x _ r=>by obtain ⟨t,rfl⟩:=r;exact ⟨_,Reads.str x t⟩)
    (fun hq _ ih _ r=>by
      cases r
      obtain ⟨its,rv,⟨o,n,e,c,_,d⟩,_⟩:=I.list hq
      obtain ⟨as,q⟩:=ih rv
      exact ⟨_,reads_list_at e c d (by simpa using q)⟩)
    (fun hq _ ih _ r=>by
      cases r
      obtain ⟨its,rv,⟨o,e,c,n,d⟩,_⟩:=I.tuple hq
      obtain ⟨as,q⟩:=ih rv
      exact ⟨_,reads_tuple_at e c d (by simpa using q)⟩)
    (fun r=>by cases r;exact ⟨_,ReadsAll.nil⟩)
    (fun _ _ a b _ r=>by
      cases r with
      | cons r rt=>
        obtain ⟨as,q⟩:=a r
        obtain ⟨bs,p⟩:=b rt
        exact ⟨_,ReadsAll.cons q p⟩) h r
end
def C3 (K:PySem.W.Frag):R2:=fun x y H Q=>∃d e,DOf K H x d∧DOf K H y e∧SeqAt.shaped d=true∧SeqAt.shaped e=true∧Q (.bl (PyData.eqv d e)) H
def C4 (K:PySem.W.Frag):R2:=fun x y H Q=>∃d e,DOf K H x d∧DOf K H y e∧SeqAt.shaped d=true∧SeqAt.shaped e=true∧Q (.bl (!PyData.eqv d e)) H
theorem wq {X:Cx} (hu:X.A.units+64 < cLine):OpR X (compareOp .Eq) (C3 X.K):=by
  intro pins s σ H x y v u Q I rx ry h
  obtain ⟨d,e,hd,he,s1,s2,q⟩:=h
  obtain ⟨as,ra⟩:=hd.reads I rx
  obtain ⟨bs,rb⟩:=he.reads I ry
  exact eq_dataH ra rb s1 s2 hu ⟨.bl _,H,I,rfl,q⟩
theorem Bp {X:Cx} (hu:X.A.units+64 < cLine):OpR X (compareOp .NotEq) (C4 X.K):=by
  intro pins s σ H x y v u Q I rx ry h
  obtain ⟨d,e,hd,he,s1,s2,q⟩:=h
  obtain ⟨as,ra⟩:=hd.reads I rx
  obtain ⟨bs,rb⟩:=he.reads I ry
  exact ne_dataH ra rb s1 s2 hu ⟨.bl _,H,I,rfl,q⟩
def Eb (K:PySem.W.Frag) (a:Addr) (xs:List V):It:=
  ⟨fun i H=>SqL K H a xs∧i < xs.length,fun i H x H'=>H'=H∧xs.reverse[i]? =some x,fun i H=>SqL K H a xs∧i=xs.length⟩
theorem wt {P:Program} {w:World} {K:PySem.W.Frag} {tg:Expr} (a it:Addr) (xs:List V):Turn P w K tg (Eb K a xs) [it] it (fun i h=>h.IsRevIter it a ((xs.length:Int) - 1 - (i:Int))) where
  mem:=by simp
  obj:=fun i h st b hb=>by
    have e:b=it:=by simpa using hb
    subst e
    obtain ⟨o,e,c,d⟩:=st
    exact ⟨o,e,fun v z=>by rw [d] at z;cases z⟩
  keep:=fun i h h' st k=>st.at fun o e=>k it (by simp) o e
  item:=by
    intro X hP hw hK hc i pins s σ H E I hf st hg
    subst hP hw hK
    obtain ⟨hq,hx⟩:=hg
    obtain ⟨its,rv,p,hz⟩:=I.list hq
    have hlen:=rv.length
    have e0:(xs.length:Int) - 1 - (i:Int)=((xs.length - 1 - i:Nat):Int):=by omega
    have hget:xs.reverse[i]? =xs[xs.length - 1 - i]? :=List.getElem?_reverse hx
    obtain ⟨x,hx'⟩:∃x,xs[xs.length - 1 - i]? =some x:=⟨xs[xs.length - 1 - i]'(by omega),List.getElem?_eq_getElem (by omega)⟩
    obtain ⟨u,hu,ru⟩:=rv.get hx'
    obtain ⟨f0,f1,f2,f3,f4,f5⟩:=hf it (by simp)
    have st1:s.heap.IsRevIter it a ((xs.length - 1 - i:Nat):Int):=by rw [←e0];exact st
    refine wpAny_pyNext_rev_item st1 p.isList (x:=u) (by simpa using hu) fun h' st' sb=>?_
    have I1:Inv X pins σ H {s with heap:=h'}:=I.turned (t':=s.toks) (fun b o hb e=>(sb.2 b hb).trans e) f0 f1 f3 f4 f5
    have e1:((xs.length - 1 - i:Nat):Int) - 1=(xs.length:Int) - 1 - ((i+1:Nat):Int):=by omega
    have st2:h'.IsRevIter it a ((xs.length:Int) - 1 - ((i+1:Nat):Int)):=by rw [←e1];exact st'
    obtain ⟨o,e,c,d⟩:=id st'
    exact ⟨u,rfl,qA (s:={s with heap:=h'}) e c d (by decide) ⟨x,H,I1,ru,⟨rfl,hget.trans hx'⟩,st2,fun b hb=>(hf b hb).1⟩⟩
  done:=by
    intro X hP hw hK hc i pins s σ H E I hf st hg
    subst hP hw hK
    obtain ⟨hq,hx⟩:=hg
    obtain ⟨f0,f1,f2,f3,f4,f5⟩:=hf it (by simp)
    have e0:(xs.length:Int) - 1 - (i:Int)= -1:=by omega
    have st1:s.heap.IsRevIter it a (-1):=by rw [←e0];exact st
    exact wpAny_pyNext_rev_end (I.ok.hd hc) st1 fun h' eb=>⟨rfl,I.turned (t':=s.toks) (fun b o hb e=>eb b o hb e) f0 f1 f3 f4 f5⟩
  self:=fun _ _ _ _ _ st h=>wpAny_pyIter_revIter st h
section
variable {X:Cx} {tg:Expr}
def Ec (K:PySem.W.Frag) (tl:TA):TI:=fun σ H R=>tl σ H fun vs H1=>∃a xs,vs=[.ref a]∧SqL K H1 a xs∧R (Eb K a xs) H1
theorem Bq {l:Expr} {tl:TA} {p pos:Pos} (hg:Gl X "reversed") (hm:X.mg "reversed"=none) (ha:PA X [l] tl) (hs:starEach [l] X.env=[(false,eval l X.env)]:=by rfl):PI X tg (.Call (.Name "reversed" p) [l] [] pos) (Ec X.K tl):=by
  intro pins s σ H R I h
  refine Call_ (jW I hg hm boot_reversed (PyProof.Rows.callWith_type1 (fU (ha pos pins s σ H _ I h) fun us s1 ⟨vs,H1,I1,r1,q1⟩=>?_) hs rfl))
  obtain ⟨a,xs,e,hq,q⟩:=q1
  subst e
  cases r1 with
  | cons r rr=>
    cases rr
    cases r
    obtain ⟨its,rv,p,hz⟩:=I1.list hq
    have hlen:=rv.length
    refine call_reversed_list p.isList ?_
    have hit:(s1.heap.push (revObj a (((its.toArray).size:Int) - 1))).IsRevIter s1.heap.objs.size a ((xs.length:Int) - 1 - ((0:Nat):Int)):=by
      refine ⟨_,Heap.get?_push_size _ rfl,rfl,?_⟩
      have e1:((its.toArray.size:Nat):Int) - 1=(xs.length:Int) - 1 - ((0:Nat):Int):=by rw [List.size_toArray];omega
      show Data.fields #[.ref a,rawInt ((its.toArray.size:Int) - 1)]=_
      rw [e1]
    have I2:Inv X pins σ H1 {s1 with heap:=s1.heap.push (revObj a (((its.toArray).size:Int) - 1))}:=I1.kept (t':=s1.toks) fun b o e=>Heap.get?_push_of_some _ e
    refine wpAny_pyIter_revIter hit ?_
    refine ⟨s1.heap.objs.size,[s1.heap.objs.size],_,_,H1,rfl,I2,wt a _ xs,hit,fun b hb=>?_,q⟩
    have e:b=s1.heap.objs.size:=by simpa using hb
    subst e
    have f:=I1.fpOk (H':=H1) (Nat.le_refl _) (I1.hok.fresh (Nat.le_refl _))
    exact f
end
end L2
namespace L2
open PySem PySem.Spec PyProof.Rows
section
variable {prog:Program} {w:World} {A:Around} {R:Result→Shared→Prop} {s:Shared}
theorem pA {elt target iter:Expr} {ifs:List Expr} {scope:Scope} {pos:Pos} {it acc:Value} {env:Env} (I:Nat→Shared→Prop)
    (turn:∀n s,I n s→wpAny (model prog w) A (pyNext it) (fun r s₁=>match r with
      | none=>R (.ok .next) s₁
      | some v=>wpAny (model prog w) A (letOwnedTupleGo target it v) (fun _ s₁'=>wpAny (model prog w) A (assign target env v) (fun _ s₂=>
          wpAny (model prog w) A (forIn ifs true fun c r=>if r=true then do let ok ←isTrue c env (eval c env);pure (ForInStep.yield ok) else pure (ForInStep.yield r)) (fun ok s₃=>
            if ok=true then wpAny (model prog w) A (eval elt env) (fun x s₄=>
              wpAny (model prog w) A (call (.builtin "list.append") [acc,x]) (fun _ s₅=>∃m,m < n∧I m s₅) (fun _ _=>False) s₄) (fun _ _=>False) s₃
            else ∃m,m < n∧I m s₃) (fun _ _=>False) s₂) (fun _ _=>False) s₁') (fun _ _=>False) s₁) (fun _ _=>False) s)
    (n:Nat) (h:I n s):
    codeAny (model prog w) A (.compLoop (.ListComp elt [⟨target,iter,ifs,0⟩] scope pos) 0 it acc env) R s:=by
  refine codeAny_loop rfl I (fun n s hI=>?_) n h
  show wpAny _ A ((compTurn (.ListComp elt [⟨target,iter,ifs,0⟩] scope pos) 0 it acc env).onRaise (fun x=>do noteFrame x env;theTreesLotGoes x)) _ _ s
  refine wpAny_noted ?_
  rw [compTurn_list]
  refine wpAny_bind (wpAny_standAt (wpAny_bind (wpAny_mono (turn n s hI) (fun r s₁ h₁=>?_) fun _ _ h'=>h'.elim)))
  cases r with
  | none=>exact wpAny_pure h₁
  | some v=>
    refine wpAny_bind (wpAny_mono h₁ (fun _ s₁' h₁'=>?_) fun _ _ h'=>h'.elim)
    refine wpAny_bind (wpAny_mono h₁' (fun _ s₂ h₂=>wpAny_bind (wpAny_mono h₂ (fun ok s₃ h₃=>?_) fun _ _ h'=>h'.elim)) fun _ _ h'=>h'.elim)
    cases ok with
    | false=>exact wpAny_pure ⟨rfl,h₃⟩
    | true=>
      exact wpAny_bind (wpAny_bind (wpAny_mono h₃ (fun x s₄ h₄=>wpAny_bind (wpAny_mono h₄ (fun _ s₅ h₅=>wpAny_pure (wpAny_pure ⟨rfl,h₅⟩)) fun _ _ h'=>h'.elim)) fun _ _ h'=>h'.elim))
end
def Cx.comp (X:Cx) (sc:Scope) (cl:List (Str×Addr)) (N:List Str) (C:Addr) (s₀:Shared) (H₀:Hp) (fp:List Addr):Cx:=
  ⟨X.prog,X.w,X.K,X.mg,X.base,X.A,N,s₀,H₀,⟨sc,C,X.env.globals,cl,X.env.qual,none,X.env.code,X.env.frame,X.env.builtins⟩,X.stack,X.stack,fp,fun _=>false,X.calm,[],fun _ _=>False⟩
def C5 (X:Cx) (ifs:List Expr) (t:TT):Prop:=
  ∀(pins:List (Addr×Obj)) (s:Shared) (σ:St) (H:Hp) (Q:Bool→Hp→Prop),Inv X pins σ H s→t σ H Q→
    wpAny (model X.prog X.w) X.A (forIn ifs true fun c r=>if r=true then do let ok ←isTrue c X.env (eval c X.env);pure (ForInStep.yield ok) else pure (ForInStep.yield r)) (TP X pins σ Q) X.xe s
def Ed:TT:=fun _ H Q=>Q true H
theorem tO {X:Cx}:C5 X [] Ed:=fun _ _ _ H _ I h=>wpAny_tests_nil ⟨H,I,h⟩
theorem yT {X:Cx} {c:Expr} {t:TT} (h:PT X c t):C5 X [c] t:=fun pins s σ H Q I q=>wpAny_tests_one (h pins s σ H Q I q)
def slots (js:List (Option Nat)) (σ:St):St:=js.map fun j=>j.bind fun j=>(σ[j]?).join
def tP (js:List (Option Nat)) (wi:TI) (g:TG) (tt:TT) (te:TE):TE:=fun σ H Q=>wi σ H fun J H1=>∀l,H1 l=none→∃W:Nat→Nat→St→Hp→Prop,(∃m,W 0 m (slots js σ) (upd H1 l (.lst [])))∧
  ∀i m σ' H',W i m σ' H'→(J.stop i H'∧Q (.ref l) H')∨(J.go i H'∧∃N:St→Hp→Prop,(∀σ' H',N σ' H'→∃m',m' < m∧W (i+1) m' σ' H')∧∀x H2,J.yld i H' x H2→g x σ' H2 fun σ3 H3=>tt σ3 H3 fun b H4=>
    if b=true then te σ3 H4 fun y H5=>∃ys,H5 l=some (.lst ys)∧ys.length < sizeLine∧N σ3 (upd H5 l (.lst (ys++[y]))) else N σ3 H4)
section
variable {X:Cx} {elt target iter:Expr} {ifs:List Expr} {scope sc:Scope} {cl:List (Str×Addr)} {N:List Str} {pos:Pos} {wi:TI} {g:TG} {tt:TT} {te:TE} {js:List (Option Nat)}
structure CompOk (X:Cx) (scope sc:Scope) (cl:List (Str×Addr)) (N:List Str) (js:List (Option Nat)):Prop where
  clos:closureFor scope X.env=pure cl
  rel:relabel scope X.env=sc
  nocell:∀y∈scope.names,y.2≠ .cell
  kind:scope.kind= .function
  names:∀y∈scope.names,y.2= .local→scope.names.lookup y.1=some .local
  same:∀x c,cl.lookup x=some c→X.env.cells.lookup x=some c
  has:∀x,(sc.names.lookup x=some .cell∨sc.names.lookup x=some .free)→∃c,cl.lookup x=some c
  len:js.length=N.length
  from_:∀(i j:Nat),js[i]? =some (some j)→∃x,N[i]? =some x∧X.N[j]? =some x∧(sc.names.lookup x=some .cell∨sc.names.lookup x=some .free)∧(X.env.kindOf x=some .cell∨X.env.kindOf x=some .free)
theorem qF {use:Option (Value→Sem Unit)} {Qv:Value→Shared→Prop} (K:CompOk X scope sc cl N js) (hc:X.calm=true) (hi:PI X target iter wi)
    (hgg:∀C s₀ H₀ fp,PG (X.comp sc cl N C s₀ H₀ fp) target g) (htt:∀C s₀ H₀ fp,C5 (X.comp sc cl N C s₀ H₀ fp) ifs tt) (hee:∀C s₀ H₀ fp,PE (X.comp sc cl N C s₀ H₀ fp) elt te)
    (hs:∀x,foldedSetIterable iter X.env x=pure x) (pins:List (Addr×Obj)) (s:Shared) (σ:St) (H:Hp) (Q:VK) (I:Inv X pins σ H s) (h:tP js wi g tt te σ H Q)
    (hend:∀(D C:Addr) (H4:Hp) (s5:Shared) (m:Str→Option Value),Inv X pins σ H4 s5→s5.heap.Ns C m→H4 C=none→C≠X.env.locals→C∉X.fs→X.s₀.heap.objs.size≤C→(∀x c,X.env.cells.lookup x=some c→c≠C)→(∀p∈X.pn++pins,p.1≠C)→Q (.ref D) H4→
      compPost (model X.prog X.w) X.A X.xe use Qv (.ref D) C (.ok .next) s5):
    wpAny (model X.prog X.w) X.A (comprehension (.ListComp elt [⟨target,iter,ifs,0⟩] scope pos) scope X.env (firstIterPos [⟨target,iter,ifs,0⟩] pos) (newList []) false (firstIter [⟨target,iter,ifs,0⟩] X.env) use) Qv X.xe s:=by
  refine wpAny_comprehension_free (use:=use) rfl hs K.clos K.kind K.names (fU (hi pins s σ H _ I h) fun v s1 h1=>fU h1 fun itv s2 h2=>?_)
  obtain ⟨it,fp,tn,J,H2,e,I2,T,st2,f2,R⟩:=h2
  subst e
  refine wpAny_newObj_type (wpAny_newFunctionEnv K.nocell (by intro y hy;simp at hy) (fun h₁ hns₁ hsb₁=>?_) K.kind)
  dsimp only at hns₁ hsb₁ ⊢
  have I3:Inv X pins σ (upd H2 s2.heap.objs.size (.lst [])) {s2 with heap:=s2.heap.push {cls:= .type "list",dict:=none,data:= .seq ([]:List Value).toArray}}:=
    I2.lnew (t':=s2.toks) (its:=[]) .nil (Nat.zero_le _)
  obtain ⟨W,⟨m0,w0⟩,turn⟩:=R s2.heap.objs.size (I2.hok.fresh (Nat.le_refl _))
  generalize hP:s2.heap.push {cls:= .type "list",dict:=none,data:= .seq ([]:List Value).toArray}=h3 at hns₁ hsb₁ I3 ⊢
  generalize hD:s2.heap.objs.size=D at w0 turn I3 ⊢
  have hsz3:h3.objs.size=D+1:=by rw [←hP,Heap.size_push,hD]
  have old3:∀b o,s2.heap.get? b=some o→h3.get? b=some o:=fun b o e=>by rw [←hP];exact Heap.get?_push_of_some _ e
  have old:∀b o,h3.get? b=some o→h₁.get? b=some o:=fun b o e=>hsb₁.extBut b o (Nat.ne_of_lt (Heap.lt_size e)) (Heap.get?_push_of_some _ e)
  have fpD:∀b∈fp,b < D:=fun b hb=>by
    obtain ⟨o,e,_⟩:=T.obj _ _ st2 b hb
    rw [←hD];exact Heap.lt_size e
  have frD:∀b∈fp,(upd H2 D (.lst [])) b=none:=fun b hb=>by rw [aS (Nat.ne_of_lt (fpD b hb))];exact (f2 b hb).1
  have f3:∀b∈fp,qz X pins (upd H2 D (.lst [])) b:=fun b hb=>⟨frD b hb,(f2 b hb).2⟩
  have Hfresh:∀a,h3.objs.size≤a→(upd H2 D (.lst [])) a=none:=fun a ha=>I3.hok.fresh ha
  have cellC:∀x c,X.env.cells.lookup x=some c→c < h3.objs.size:=fun x c e=>by
    obtain ⟨v,q⟩:=I3.cell x c e
    exact q.lt
  have YOk:(X.comp sc cl N h3.objs.size {s2 with heap:=h3} (upd H2 D (.lst [])) fp).Ok:=by
    refine ⟨I3.ok.mod,?_,I3.ok.glob,I3.ok.blt,Nat.le_refl _,fun x y c e1 e2=>I3.ok.inj x y c (K.same x c e1) (K.same y c e2),fun x hx=>K.has x hx,fun x c hf _=>absurd hf (by intro z;cases z),I3.ok.hd,I3.ok.frames, .inl rfl,fun b hb=>⟨?_,fun x c e=>(f2 b hb).2.2.2.2.1 x c (K.same x c e)⟩,
      I3.bs,Nat.le_trans I3.ok.bsz I3.sz,fun b o e hb=>?_,fun b hb hm=>?_,I3.stack,I3.stkFree,I3.tab⟩
    · rw [←K.rel];exact K.kind
    · exact Nat.ne_of_lt (by rw [hsz3];exact Nat.lt_succ_of_lt (fpD b hb))
    · rcases (f2 b hb).2.2.2.1 with z | z
      · exact I3.ok.noex b o e z
      · exact absurd (Nat.lt_of_lt_of_le (Heap.lt_size (I3.ok.bs b o e).1) z) (Nat.lt_irrefl _)
    · rcases List.mem_cons.mp (I3.stkSub b hm) with z | z
      · exact (f2 b hb).2.1 z
      · exact (f2 b hb).2.2.1 z
  have IY:Inv (X.comp sc cl N h3.objs.size {s2 with heap:=h3} (upd H2 D (.lst [])) fp) [] (slots js σ) (upd H2 D (.lst [])) {s2 with heap:=h₁,toks:=s2.toks+([]:List (Str×Value)).length}:=by
    refine ⟨YOk,rfl,I3.bare,Un.kept old,⟨_,hns₁,fun i x v e1 e2 e3=>?_⟩,fun x c e=>?_,Hfresh _ (Nat.le_refl _),fun x c e=>I3.freeC x c (K.same x c e),fun p hp=>absurd (show p∈([]:List (Addr×Obj)) from hp) (by simp),I3.hok.kept old,?_⟩
    · unfold slots at e2
      rw [List.getElem?_map] at e2
      cases ej:js[i]? with
      | none=>rw [ej] at e2;cases e2
      | some jo=>
        rw [ej] at e2
        cases jo with
        | none=>cases e2
        | some j=>
          obtain ⟨y,n1,n2,k1,k2⟩:=K.from_ i j ej
          have exy:y=x:=Option.some.inj (n1.symm.trans e1)
          subst exy
          have e2':(σ[j]?).join=some v:=Option.some.inj e2
          have e4:σ[j]? =some (some v):=by
            cases es:σ[j]? with
            | none=>rw [es] at e2';cases e2'
            | some w=>rw [es] at e2';exact congrArg some e2'
          obtain ⟨m,_,hl⟩:=I3.loc
          obtain ⟨u,ru,lk⟩:=hl j y v n2 e4 (by
            rcases k2 with z | z
            · exact .inr (.inl z)
            · exact .inr (.inr z))
          refine ⟨u,ru, .inr ⟨k1,?_⟩⟩
          obtain ⟨c,hcl⟩:=K.has y k1
          refine ⟨c,hcl,?_⟩
          rcases lk with ⟨z,_⟩ | ⟨_,c',e5,ic⟩
          · rcases k2 with q | q
            · rw [q] at z;cases z
            · rw [q] at z;cases z
          · have:c'=c:=Option.some.inj (e5.symm.trans (K.same y c hcl))
            subst this
            obtain ⟨o,ho,hd⟩:=ic
            exact ⟨o,old _ _ ho,hd⟩
    · obtain ⟨v,o,ho,hd⟩:=I3.cell x c (K.same x c e)
      exact ⟨v,o,old _ _ ho,hd⟩
    · unfold slots;rw [List.length_map];exact K.len
  have loop:∀s₃:Shared,s₃={s2 with heap:=h₁,toks:=s2.toks+([]:List (Str×Value)).length}→
      codeAny (model X.prog X.w) X.A (.compLoop (.ListComp elt [⟨target,iter,ifs,0⟩] scope pos) 0 (.ref it) (.ref D) (X.comp sc cl N h3.objs.size {s2 with heap:=h3} (upd H2 D (.lst [])) fp).env)
        (compPost (model X.prog X.w) X.A X.xe use Qv (.ref D) h3.objs.size) s₃:=by
    rintro s₃ rfl
    refine pA (fun n s'=>∃i σ' H',Inv (X.comp sc cl N h3.objs.size {s2 with heap:=h3} (upd H2 D (.lst [])) fp) [] σ' H' s'∧tn i s'.heap∧(∀b∈fp,H' b=none)∧W i n σ' H') ?_ m0
      ⟨0,_,_,IY,T.keep _ _ _ st2 (fun b hb o e=>old b o (old3 b o e)),frD,w0⟩
    rintro n s4 ⟨i,σ4,H4,I4,st4,fr4,w4⟩
    have ff:∀{H':Hp},(∀b∈fp,H' b=none)→∀b∈fp,qz (X.comp sc cl N h3.objs.size {s2 with heap:=h3} (upd H2 D (.lst [])) fp) [] H' b:=fun hn b hb=>
      ⟨hn b hb,(YOk.exf b hb).1,YOk.exfs b hb, .inl hb,(YOk.exf b hb).2,fun p hp=>absurd (show p∈([]:List (Addr×Obj)) from hp) (by simp)⟩
    have hg:=hgg h3.objs.size {s2 with heap:=h3} (upd H2 D (.lst [])) fp
    have ht:=htt h3.objs.size {s2 with heap:=h3} (upd H2 D (.lst [])) fp
    have he:=hee h3.objs.size {s2 with heap:=h3} (upd H2 D (.lst [])) fp
    rcases turn i n σ4 H4 w4 with ⟨stop,qn⟩ | ⟨go,Nx,hN,step⟩
    · refine fU (T.done (X.comp sc cl N h3.objs.size {s2 with heap:=h3} (upd H2 D (.lst [])) fp) rfl rfl rfl hc i [] s4 σ4 H4 _ I4 (ff fr4) st4 stop) fun r s5 ⟨hr,I5⟩=>?_
      subst hr
      obtain ⟨m,hn,_⟩:=I5.loc
      have IX:Inv X pins σ H4 s5:=I3.call' (ch:=fp) I5.os I5.base I5.hok I5.bare fun b hb=>⟨(f3 b hb).2.2.2.1,(f3 b hb).2.1,(f3 b hb).2.2.2.2.1,(f3 b hb).2.2.2.2.2⟩
      exact hend D h3.objs.size H4 s5 m IX hn I5.free (Ne.symm (Nat.ne_of_lt I3.lt)) (I3.nofs (Nat.le_refl _)) I3.sz (fun x c e=>Nat.ne_of_lt (cellC x c e)) (fun p hp=>Nat.ne_of_lt (Heap.lt_size (I3.pin p hp).1)) qn
    · refine fU (T.item (X.comp sc cl N h3.objs.size {s2 with heap:=h3} (upd H2 D (.lst [])) fp) rfl rfl rfl hc i [] s4 σ4 H4 _ I4 (ff fr4) st4 go) fun r s5 ⟨u,hr,h5⟩=>?_
      subst hr
      refine fU h5 fun _ s6 ⟨x,H6,I6,r6,y6,st6,fr6⟩=>?_
      have I6':=I6.pinned (ff fr6) (T.obj _ _ st6)
      have back:∀{σ7:St} {H7:Hp} {s7:Shared},Inv (X.comp sc cl N h3.objs.size {s2 with heap:=h3} (upd H2 D (.lst [])) fp) ([]++mK fp s6.heap) σ7 H7 s7→
          Inv (X.comp sc cl N h3.objs.size {s2 with heap:=h3} (upd H2 D (.lst [])) fp) [] σ7 H7 s7∧tn (i+1) s7.heap∧∀b∈fp,H7 b=none:=fun {σ7 H7 s7} I7=>
        ⟨I7.unpinned,T.keep _ _ _ st6 fun b hb o e=>(I7.pin (b,o) (List.mem_append_right _ (List.mem_append_right _ (iN hb e)))).1,fun b hb=>by
          obtain ⟨o,e,d⟩:=T.obj _ _ st6 b hb
          exact (I7.pin (b,o) (List.mem_append_right _ (List.mem_append_right _ (iN hb e)))).2.1⟩
      refine fU (hg _ s6 σ4 H6 x u _ I6' r6 (step x H6 y6)) fun _ s7 ⟨σ7,H7,I7,q7⟩=>?_
      refine fU (ht _ s7 σ7 H7 _ I7 q7) fun b s8 ⟨H8,I8,q8⟩=>?_
      cases b with
      | false=>
        obtain ⟨m',hm,w8⟩:=hN σ7 H8 q8
        obtain ⟨J1,J2,J3⟩:=back I8
        exact ⟨m',hm,i+1,σ7,H8,J1,J2,J3,w8⟩
      | true=>
        refine fU (he _ s8 σ7 H8 _ I8 q8) fun yv s9 ⟨y,H9,I9,r9,ys,hl,hz,n9⟩=>?_
        obtain ⟨m',hm,w9⟩:=hN _ _ n9
        refine fU (ov _ s9 σ7 H9 (.ref D) [y] (.ref D) [yv] (fun v H'=>v= .non∧H'=upd H9 D (.lst (ys++[y]))) I9 rfl (.cons r9 .nil) ⟨D,ys,y,rfl,rfl,hl,hz,rfl,rfl⟩) fun _ sA ⟨_,HA,IA,_,_,eA⟩=>?_
        subst eA
        obtain ⟨J1,J2,J3⟩:=back IA
        exact ⟨m',hm,i+1,σ7,_,J1,J2,J3,w9⟩
  rw [K.rel]
  exact codeAny_compStart_list (loop _ rfl) (T.self _ 0 _ _ _ (T.keep _ _ _ st2 (fun b hb o e=>old b o (old3 b o e))) (loop _ rfl))
theorem tQ (K:CompOk X scope sc cl N js) (hc:X.calm=true) (hi:PI X target iter wi)
    (hgg:∀C s₀ H₀ fp,PG (X.comp sc cl N C s₀ H₀ fp) target g) (htt:∀C s₀ H₀ fp,C5 (X.comp sc cl N C s₀ H₀ fp) ifs tt) (hee:∀C s₀ H₀ fp,PE (X.comp sc cl N C s₀ H₀ fp) elt te)
    (hs:∀x,foldedSetIterable iter X.env x=pure x:=by intro _;rfl):PE X (.ListComp elt [⟨target,iter,ifs,0⟩] scope pos) (tP js wi g tt te):=by
  intro pins s σ H Q I h
  rw [eval_ListComp]
  refine qF (use:=none) K hc hi hgg htt hee hs pins s σ H Q I h fun D C H4 s5 m IX hn fC nL _ sz nc np qn=>?_
  exact ⟨m,hn,fun h' hs'=>⟨.ref D,H4,IX.turned (t':=s5.toks) (it:=C) (fun b o hb e=>(hs'.2 b hb).trans e) fC nL (.inr sz) nc np,rfl,qn⟩⟩
theorem yV {x:Str} {px spos:Pos} {gx:TG} (K:CompOk X scope sc cl N js) (hc:X.calm=true) (hx:PG X (.Name x px) gx) (hi:PI X target iter wi)
    (hgg:∀C s₀ H₀ fp,PG (X.comp sc cl N C s₀ H₀ fp) target g) (htt:∀C s₀ H₀ fp,C5 (X.comp sc cl N C s₀ H₀ fp) ifs tt) (hee:∀C s₀ H₀ fp,PE (X.comp sc cl N C s₀ H₀ fp) elt te)
    (hs:∀x,foldedSetIterable iter X.env x=pure x:=by intro _;rfl) (hsw:swapsWith (.ListComp elt [⟨target,iter,ifs,0⟩] scope pos) (some (.Name x px)) spos.line X.env=pure true:=by rfl):
    PS X (.Assign [.Name x px] (.ListComp elt [⟨target,iter,ifs,0⟩] scope pos) spos) (Cw (tP js wi g tt te) gx):=by
  intro pins s σ H D I h
  rw [exec_Assign_Name_used _ _ _ _ hsw]
  refine wpAny_bind (wpAny_standAt (wpAny_bind ?_))
  show wpAny _ _ (comprehension (.ListComp elt [⟨target,iter,ifs,0⟩] scope pos) scope X.env (firstIterPos [⟨target,iter,ifs,0⟩] pos) (newList []) false (firstIter [⟨target,iter,ifs,0⟩] X.env) (some (assign (.Name x px) X.env)) >>= fun _=>pure ()) _ _ _
  refine wpAny_bind (wpAny_mono (qF (use:=some (assign (.Name x px) X.env)) (Qv:=fun _ s'=>∃σ' H',Inv X pins σ' H' s'∧D.nx σ' H') K hc hi hgg htt hee hs pins s σ H _ I h fun Dd C H4 s5 m IX hn fC nL nF sz nc np qn=>?_) (fun _ s' ⟨σ',H',I',q'⟩=>wpAny_pure (wpAny_pure ⟨σ',H',I',q'⟩)) fun _ _ e=>e)
  obtain ⟨o,es,ep,ho,hd,r⟩:=hn
  have IP:Inv X ((C,o)::pins) σ H4 s5:=IX.pins_of fun p hp=>(List.mem_cons.mp hp).elim (fun z=>by subst z;exact ⟨ho,fC,nL,nF,fun v z=>by rw [hd] at z;cases z⟩) fun z=>IX.pin p (List.mem_append_right _ z)
  refine wpAny_mono (hx ((C,o)::pins) s5 σ H4 (.ref Dd) (.ref Dd) D.nx IP rfl qn) (fun _ s6 ⟨σ6,H6,I6,q6⟩=>?_) fun _ _ e=>e
  obtain ⟨p1,p2,_⟩:=I6.pin (C,o) (List.mem_append_right _ (List.mem_cons_self ..))
  have I7:Inv X pins σ6 H6 s6:=I6.pins_of fun p hp=>I6.pin p (List.mem_append_right _ (List.mem_cons_of_mem _ hp))
  exact ⟨m,⟨o,es,ep,p1,hd,r⟩,fun h' hs'=>⟨σ6,H6,I7.turned (t':=s6.toks) (it:=C) (fun b o hb e=>(hs'.2 b hb).trans e) p2 nL (.inr sz) nc np,q6⟩⟩
end
end L2
namespace L2
open PySem PySem.Spec PyProof.Rows
theorem gW {X:Cx} {scope:Scope} {N:List Str} {js:List (Option Nat)} (hf:∀x∈scope.names,x.2≠ .free:=by decide+kernel) (hcell:∀x∈scope.names,x.2≠ .cell:=by decide+kernel)
    (hk:scope.kind= .function:=by rfl) (hn:∀y∈scope.names,y.2= .local→scope.names.lookup y.1=some .local:=by decide+kernel) (hl:js.length=N.length:=by rfl) (hj:∀j∈js,j=none:=by decide):CompOk X scope scope [] N js where
  clos:=closureFor_none hf
  rel:=by
    unfold relabel
    have e:(scope.names.map fun (x:Str×NameKind)=>match x with | (n,k)=>if (k == .free&&X.env.scope.kind == .function&&X.env.kindOf n == some .cell) then (n,NameKind.cell) else (n,k))=scope.names:=by
      refine map_eq_self fun x hx=>?_
      obtain ⟨n,k⟩:=x
      have:(k == NameKind.free)=false:=by simpa using hf _ hx
      simp [this]
    rw [e]
  nocell:=hcell
  kind:=hk
  names:=hn
  same:=fun x c e=>by simp at e
  has:=fun x h=>by
    rcases h with h | h
    · exact absurd rfl (hcell _ (PySem.mem_of_lookup h))
    · exact absurd rfl (hf _ (PySem.mem_of_lookup h))
  len:=hl
  from_:=fun i j h=>by
    have:=hj _ (List.mem_of_getElem? h)
    cases this
structure Own (P:Program) (w:World) (K:PySem.W.Frag) (mg:Str→Option Value) (base:Heap) (k:Nat) (x:Str) (ps:List Str) (sp:Sp):Prop where
  ex:∃(f:Addr) (fd:FuncData),FnOk P w K mg base u6 k f fd ps sp∧Binds K fd ps []∧mg x=some (.ref f)∧PySem.W.keepIn K (.ref f)=true
theorem Br {X:Cx} {k:Nat} {x:Str} {ps:List Str} {sp:Sp} {p pos:Pos} {e:Expr} {es:List Expr} {t:TA} (D:Own X.prog X.w X.K X.mg X.base k x ps sp) (hr:Room k X.A) (hg:Gl X x) (ha:PA X (e::es) t)
    (hdb:(x == ("__debug__":Str))=false:=by decide) (he:starEach (e::es) X.env=(false,eval e X.env)::starEach es X.env:=by rfl) (hpl:(backTo pos (starEach es X.env)).any (·.1)=false:=by rfl):
    PE X (.Call (.Name x p) (e::es) [] pos) (Ah sp [] E0 t):=by
  obtain ⟨f,fd,F,b,m,kp⟩:=D.ex
  exact yK F hr hg m kp b .nil CW ha hdb he hpl
structure Def (K:PySem.W.Frag) (mg:Str→Option Value) (x:Str) (st:Stmt) (ps:List Str):Prop where
  ex:∃(f:Addr) (fd:FuncData),Fun K x x st f fd∧mg x=some (.ref f)∧Binds K fd ps []
theorem Def.own {P:Program} {w:World} {K:PySem.W.Frag} {mg:Str→Option Value} {base:Heap} {x:Str} {st:Stmt} {N ps:List Str} {k:Nat} {sp:Sp} (D:Def K mg x st ps) (S:FnScope N ps (ah st))
    (len:∀vs H Q E,sp vs H Q E→vs.length=ps.length)
    (hbody:∀(f:Addr) (cdv:Value) (A:Around) (outer:List Env) (s:Shared) (H:Hp) (vs:List V) (Q:VK) (E:XK),Room k (A.deeper (envOfC x (ah st) s.heap.objs.size f cdv))→sp vs H Q E→
      ∃t,PSs (nS u6 P w K mg base N x (ah st) f cdv A outer s H E).nox (aA st) t∧t {nx:=fun _ H'=>Q .non H',rt:=Q} (je N vs) H):Own P w K mg base (k+1) x ps sp:=by
  obtain ⟨f,fd,F,m,b⟩:=D.ex
  exact ⟨f,fd,F.ok S len (hbody f),b,m,F.kp⟩
theorem bp {K:PySem.W.Frag} {h:Heap} {mg:Str→Option Value} {x:Str} {st:Stmt} {ps:List Str} {f:Addr} {oc:Value} {od an:Option Addr} {osl:Array (Option Value)} {kV doc pm cdv ct:Value} (X:K.In h) (G:h.Ns mainGlobals mg)
    (a:PySem.W.nsIn K mainGlobals x=some (some (.ref f))) (l:K.lookup f=some ⟨oc,od, .func (PySem.W.fnOf x x (aE st) (aA st) (ah st) .none kV doc pm an cdv ct),osl⟩)
    (c:PySem.W.codeIn K cdv x=true) (k:PySem.W.keepIn K (.ref f)=true)
    (b:∀(kV doc pm:Value) (an:Option Addr) (cdv ct:Value) (us:List Value),us.length=ps.length→bindArgs (PySem.W.fnOf x x (aE st) (aA st) (ah st) .none kV doc pm an cdv ct) ⟨us,[]⟩=pure (ps.zip us)):Def K mg x st ps:=
  ⟨f,_,sk l c k,PySem.W.mg_of X G a,(sk (st:=st) l c k).binds b⟩
end L2
namespace Nh
open PySem L2
section
variable {α β:Type} {F:α→β→Prop}
theorem jA:∀{a:List α} {b:List β} {c:List α} {d:List β},Paired F a b→Paired F c d→Paired F (a++c) (b++d)
  | _,_,_,_, .nil,s=>s
  | _,_,_,_, .cons r t,s=> .cons r (jA t s)
theorem tR:∀{a:List α} {b:List β} (n:Nat),Paired F a b→Paired F (a.take n) (b.take n)
  | _,_,0,_=> .nil
  | _,_,_+1, .nil=> .nil
  | _,_,n+1, .cons r t=> .cons r (tR n t)
theorem tS:∀{a:List α} {b:List β} (n:Nat),Paired F a b→Paired F (a.drop n) (b.drop n)
  | _,_,0,r=>r
  | _,_,_+1, .nil=> .nil
  | _,_,n+1, .cons _ t=>tS n t
theorem jX:∀{a:List α} {b:List β},Paired F a b→Paired F a.reverse b.reverse
  | _,_, .nil=> .nil
  | _,_, .cons r t=>by
    rw [List.reverse_cons,List.reverse_cons]
    exact jA (jX t) (.cons r .nil)
theorem tT:∀{a:List α} {b:List β} {i:Nat} {y:β},Paired F a b→b[i]? =some y→∃x,a[i]? =some x∧F x y
  | _,_,_,_, .nil,e=>by simp at e
  | _,_,0,_, .cons r _,e=>by simp at e;subst e;exact ⟨_,rfl,r⟩
  | _,_,i+1,x, .cons _ t,e=>by
    obtain ⟨u,h1,h2⟩:=tT (i:=i) (y:=x) t (by simpa using e)
    exact ⟨u,by simpa using h1,h2⟩
theorem wu {a:List α} {b:List β} (h:Paired F a b):∀k:Nat,Paired F (List.replicate k a).flatten (List.replicate k b).flatten
  | 0=> .nil
  | k+1=>by
    rw [List.replicate_succ,List.replicate_succ,List.flatten_cons,List.flatten_cons]
    exact jA h (wu h k)
end
abbrev Pc:=Nat×Int
def tv (p:Pc):List V:=[.str ⟨#[p.1]⟩, .int p.2]
def Ee (H:Hp) (v:V) (p:Pc):Prop:=∃t,v= .ref t∧H t=some (.tup (tv p))
abbrev PAll (H:Hp):List V→List Pc→Prop:=Paired (Ee H)
section
variable {H H':Hp} {l:Addr} {xs ys:List V} {c:List Pc}
theorem PAll.same (s:Same H H') (h:PAll H xs c):PAll H' xs c:=Paired.mapP h fun _ _ ⟨t,e,q⟩=>⟨t,e,s _ _ q⟩
theorem PAll.len (h:PAll H xs c):xs.length=c.length:=Paired.length h
end
def Cord (H:Hp) (a:Addr) (c:List Pc):Prop:=∃xs,H a=some (.lst xs)∧PAll H xs c
section
variable {H H':Hp} {a:Addr} {c d:List Pc}
theorem Cord.same (s:Same H H') (h:Cord H a c):Cord H' a c:=let ⟨xs,e,p⟩:=h;⟨xs,s _ _ e,p.same s⟩
end
def ja (p:Pc):PyData:= .tuple [.str ⟨#[p.1]⟩, .int p.2]
def C6 (c:List Pc):PyData:= .list (c.map ja)
def NailsOk (c:List Pc):Prop:=∀p∈c,p.1 < 128
theorem oz {K:PySem.W.Frag} {H:Hp}:∀{xs:List V} {c:List Pc},PAll H xs c→DAll K H xs (c.map ja)
  | _,_, .nil=> .nil
  | _,_, .cons ⟨t,e,q⟩ r=>by
    subst e
    exact .cons (.tup (SqT.of q) (.cons (.str _) (.cons (.int _) .nil))) (oz r)
theorem Cord.data {K:PySem.W.Frag} {H:Hp} {a:Addr} {c:List Pc} (h:Cord H a c):DOf K H (.ref a) (C6 c):=
  let ⟨_,e,p⟩:=h; .lst (SqL.of e) (oz p)
end Nh
namespace PL
open PySem PySem.Spec PyProof.Rows L2 Nh
def Ef:fX→PyData
  | .inl i=> .int i
  | .inr x=> .str x
mutual
inductive Rp (K:PySem.W.Frag) (H:Hp):V→PyData→Prop
  | non:Rp K H .non .none
  | bl (b:Bool):Rp K H (.bl b) (.bool b)
  | int (i:Int):Rp K H (.int i) (.int i)
  | str (x:Str):Rp K H (.str x) (.str x)
  | lst {a:Addr} {xs:List V} {ds:List PyData}:SqL K H a xs→RpA K H xs ds→Rp K H (.ref a) (.list ds)
  | tup {a:Addr} {xs:List V} {ds:List PyData}:SqT K H a xs→RpA K H xs ds→Rp K H (.ref a) (.tuple ds)
  | dct {a:Addr} {us:List (fX×V)} {kvs:List (PyData×PyData)}:Rd H a (.dK us)→RpK K H us kvs→Rp K H (.ref a) (.dict kvs)
inductive RpA (K:PySem.W.Frag) (H:Hp):List V→List PyData→Prop
  | nil:RpA K H [] []
  | cons {x:V} {xs:List V} {d:PyData} {ds:List PyData}:Rp K H x d→RpA K H xs ds→RpA K H (x::xs) (d::ds)
inductive RpK (K:PySem.W.Frag) (H:Hp):List (fX×V)→List (PyData×PyData)→Prop
  | nil:RpK K H [] []
  | cons {k:fX} {x:V} {us:List (fX×V)} {d:PyData} {kvs:List (PyData×PyData)}:Rp K H x d→RpK K H us kvs→RpK K H ((k,x)::us) ((Ef k,d)::kvs)
end
mutual
def cV:PyData→Bool
  | .none=>true
  | .bool _=>true
  | .int _=>true
  | .str _=>true
  | .list _=>false
  | .tuple xs=>bd xs
  | .dict _=>false
def bd:List PyData→Bool
  | []=>true
  | d::ds=>cV d&&bd ds
end
def Al:HO→Bool
  | .tup _=>true
  | .frz _ _=>true
  | _=>false
def tups (H:Hp):Hp:=fun b=>(H b).filter Al
theorem kU (H:Hp):Same (tups H) H:=fun b o h=>(Option.filter_eq_some_iff.mp h).1
theorem ki {H:Hp} {b:Addr} {o:HO} (h:H b=some o) (c:Al o=true):tups H b=some o:=Option.filter_eq_some_iff.mpr ⟨h,c⟩
theorem qG {H:Hp} {l:Addr} {xs ys:List V} (h:H l=some (.lst xs)):tups (upd H l (.lst ys))=tups H:=by
  funext b
  unfold tups
  by_cases e:b=l
  · subst e
    rw [cy,h]
    rfl
  · rw [aS e]
section
variable {K:PySem.W.Frag} {H H':Hp}
theorem qH {a:Addr} {xs:List V} (h:SqT K H a xs):SqT K (tups H) a xs:=by
  rcases h with (h | ⟨o,h⟩) | h
  · exact .inl (.inl (ki h rfl))
  · exact .inl (.inr ⟨o,ki h rfl⟩)
  · exact .inr h
theorem pB {a:Addr} {u:HO} (s:Same H H') (h:Rd H a u):Rd H' a u:=by
  rcases h with h | ⟨o,h⟩
  · exact .inl (s _ _ h)
  · exact .inr ⟨o,s _ _ h⟩
theorem Rp.same (s:Same H H') {v:V} {d:PyData} (h:Rp K H v d):Rp K H' v d:=Rp.rec (motive_1:=fun v d _=>Rp K H' v d) (motive_2:=fun v d _=>RpA K H' v d) (motive_3:=fun v d _=>RpK K H' v d) .non .bl .int .str (fun h _ r=> .lst (s.seq h) r) (fun h _ r=> .tup (s.tup h) r) (fun h _ r=> .dct (pB s h) r) .nil (fun _ _ a b=> .cons a b) .nil (fun _ _ a b=> .cons a b) h
theorem RpA.same (s:Same H H') {v:List V} {d:List PyData} (h:RpA K H v d):RpA K H' v d:=RpA.rec (motive_1:=fun v d _=>Rp K H' v d) (motive_2:=fun v d _=>RpA K H' v d) (motive_3:=fun v d _=>RpK K H' v d) .non .bl .int .str (fun h _ r=> .lst (s.seq h) r) (fun h _ r=> .tup (s.tup h) r) (fun h _ r=> .dct (pB s h) r) .nil (fun _ _ a b=> .cons a b) .nil (fun _ _ a b=> .cons a b) h
theorem RpK.same (s:Same H H') {v:List (fX×V)} {d:List (PyData×PyData)} (h:RpK K H v d):RpK K H' v d:=RpK.rec (motive_1:=fun v d _=>Rp K H' v d) (motive_2:=fun v d _=>RpA K H' v d) (motive_3:=fun v d _=>RpK K H' v d) .non .bl .int .str (fun h _ r=> .lst (s.seq h) r) (fun h _ r=> .tup (s.tup h) r) (fun h _ r=> .dct (pB s h) r) .nil (fun _ _ a b=> .cons a b) .nil (fun _ _ a b=> .cons a b) h
theorem Rp.cold {v:V} {d:PyData} (h:Rp K H v d) (e:cV d=true):Rp K (tups H) v d:=Rp.rec (motive_1:=fun v d _=>cV d=true→Rp K (tups H) v d) (motive_2:=fun v d _=>bd d=true→RpA K (tups H) v d) (motive_3:=fun _ _ _=>True) (fun _=> .non) (fun b _=> .bl b) (fun i _=> .int i) (fun x _=> .str x) (fun _ _ _ e=>nomatch e) (fun h _ r e=> .tup (qH h) (r e)) (fun _ _ _ e=>nomatch e) (fun _=> .nil) (fun _ _ a b e=> .cons (a (Bool.and_eq_true_iff.mp e).1) (b (Bool.and_eq_true_iff.mp e).2)) trivial (fun _ _ _ _=>trivial) h e
theorem RpA.cold {v:List V} {d:List PyData} (h:RpA K H v d) (e:bd d=true):RpA K (tups H) v d:=RpA.rec (motive_1:=fun v d _=>cV d=true→Rp K (tups H) v d) (motive_2:=fun v d _=>bd d=true→RpA K (tups H) v d) (motive_3:=fun _ _ _=>True) (fun _=> .non) (fun b _=> .bl b) (fun i _=> .int i) (fun x _=> .str x) (fun _ _ _ e=>nomatch e) (fun h _ r e=> .tup (qH h) (r e)) (fun _ _ _ e=>nomatch e) (fun _=> .nil) (fun _ _ a b e=> .cons (a (Bool.and_eq_true_iff.mp e).1) (b (Bool.and_eq_true_iff.mp e).2)) trivial (fun _ _ _ _=>trivial) h e
theorem Rp.dof' {v:V} {d:PyData} (h:Rp K H v d) (e:d.canLay0=true):DOf K H v d:=Rp.rec (motive_1:=fun v d _=>d.canLay0=true→DOf K H v d) (motive_2:=fun v d _=>PyData.canLayAll0 d=true→DAll K H v d) (motive_3:=fun _ _ _=>True) (fun _=> .non) (fun b _=> .bl b) (fun i _=> .int i) (fun x _=> .str x) (fun h _ r e=> .lst h (r e)) (fun h _ r e=> .tup h (r e)) (fun _ _ _ e=>nomatch e) (fun _=> .nil) (fun _ _ a b e=> .cons (a (Bool.and_eq_true_iff.mp e).1) (b (Bool.and_eq_true_iff.mp e).2)) trivial (fun _ _ _ _=>trivial) h e
theorem Rp.dof {v:V} {d:PyData} (h:Rp K H v d) (e:SeqAt.shaped d=true):DOf K H v d:=h.dof' (SeqAt.canLay_of_shaped e)
theorem RpA.pr {vs:List V} {ds:List PyData} (h:RpA K H vs ds):Paired (Rp K H) vs ds:=RpA.rec (motive_1:=fun _ _ _=>True) (motive_2:=fun v d _=>Paired (Rp K H) v d) (motive_3:=fun _ _ _=>True) trivial (fun _=>trivial) (fun _=>trivial) (fun _=>trivial) (fun _ _ _=>trivial) (fun _ _ _=>trivial) (fun _ _ _=>trivial) .nil (fun h _ _ b=> .cons h b) trivial (fun _ _ _ _=>trivial) h
theorem RpA.of {vs:List V} {ds:List PyData} (h:Paired (Rp K H) vs ds):RpA K H vs ds:=by
  induction h with
  | nil=>exact .nil
  | cons a _ b=>exact .cons a b
theorem RpA.len {vs:List V} {ds:List PyData} (h:RpA K H vs ds):vs.length=ds.length:=Paired.length h.pr
theorem RpA.append {vs us:List V} {ds es:List PyData} (h:RpA K H vs ds) (k:RpA K H us es):RpA K H (vs++us) (ds++es):= .of (jA h.pr k.pr)
theorem RpA.take {vs:List V} {ds:List PyData} (n:Nat) (h:RpA K H vs ds):RpA K H (vs.take n) (ds.take n):= .of (tR n h.pr)
theorem RpA.drop {vs:List V} {ds:List PyData} (n:Nat) (h:RpA K H vs ds):RpA K H (vs.drop n) (ds.drop n):= .of (tS n h.pr)
theorem RpA.rev {vs:List V} {ds:List PyData} (h:RpA K H vs ds):RpA K H vs.reverse ds.reverse:= .of (jX h.pr)
theorem RpA.rep {vs:List V} {ds:List PyData} (n:Nat) (h:RpA K H vs ds):RpA K H (List.replicate n vs).flatten (List.replicate n ds).flatten:= .of (wu h.pr n)
theorem RpA.get {vs:List V} {ds:List PyData} {i:Nat} {d:PyData} (h:RpA K H vs ds) (e:ds[i]? =some d):∃v,vs[i]? =some v∧Rp K H v d:=tT h.pr e
theorem RpA.set:∀{vs:List V} {ds:List PyData} {v:V} {d:PyData} (i:Nat),RpA K H vs ds→Rp K H v d→RpA K H (vs.set i v) (ds.set i d)
  | _,_,_,_,_, .nil,_=> .nil
  | _,_,_,_,0, .cons _ r,h=> .cons h r
  | _,_,_,_,i+1, .cons q r,h=> .cons q (RpA.set i r h)
theorem RpA.snoc {vs:List V} {ds:List PyData} {v:V} {d:PyData} (h:RpA K H vs ds) (k:Rp K H v d):RpA K H (vs++[v]) (ds++[d]):=h.append (.cons k .nil)
end
inductive Pt where
  | fl (d:PyData) | ol (ds:List PyData)
def Pt.val:Pt→PyData
  | .fl d=>d
  | .ol ds=> .list ds
inductive Sl where
  /-- nothing is known -/
  | no
  /-- never written again -/
  | sh (d:PyData)
  /-- a list of one's own -/
  | ow (ds:List PyData)
  /-- a dict of one's own,its values lists of one's own -/
  | od (kvs:List (fX×List PyData))
  /-- a tuple with lists of one's own -/
  | tx (ps:List Pt)
  /-- (a part of an expression) the value of a name -/
  | al (i:Nat)
  /-- (a part of an expression) as it stands just now -/
  | br (d:PyData)
def PtsOk (K:PySem.W.Frag) (F H:Hp):List V→List Pt→List Addr→Prop
  | [],[],A=>A=[]
  | v::vs, .fl d::ps,A=>Rp K F v d∧PtsOk K F H vs ps A
  | v::vs, .ol ds::ps,A=>∃l us A',v= .ref l∧A=l::A'∧H l=some (.lst us)∧RpA K F us ds∧PtsOk K F H vs ps A'
  | _,_,_=>False
def DlOk (K:PySem.W.Frag) (F H:Hp):List (fX×V)→List (fX×List PyData)→List Addr→Prop
  | [],[],A=>A=[]
  | p::us,q::kvs,A=>∃l vs A',p=(q.1, .ref l)∧A=l::A'∧H l=some (.lst vs)∧RpA K F vs q.2∧DlOk K F H us kvs A'
  | _,_,_=>False
def SlOk (K:PySem.W.Frag) (F H:Hp) (σ:L2.St) (o:Option V):Sl→List Addr→Prop
  | .no,A=>A=[]
  | .sh d,A=>A=[]∧∃v,o=some v∧Rp K F v d
  | .ow ds,A=>∃l vs,o=some (.ref l)∧A=[l]∧H l=some (.lst vs)∧RpA K F vs ds
  | .od kvs,A=>∃l us A',o=some (.ref l)∧A=l::A'∧H l=some (.dK us)∧DlOk K F H us kvs A'
  | .tx ps,A=>∃t vs,o=some (.ref t)∧F t=some (.tup vs)∧PtsOk K F H vs ps A
  | .al i,A=>A=[]∧∃v,o=some v∧σ[i]? =some (some v)
  | .br d,A=>A=[]∧∃v,o=some v∧Rp K H v d
def Sl.isBr:Sl→Bool
  | .br _=>true
  | _=>false
def Sl.isAl:Sl→Bool
  | .al _=>true
  | .br _=>true
  | _=>false
section
variable {K:PySem.W.Frag} {F F' H H':Hp} {σ σ':L2.St}
theorem PtsOk.stay (s:Same F F'):∀{vs:List V} {ps:List Pt} {A:List Addr},(∀b∈A,H' b=H b)→PtsOk K F H vs ps A→PtsOk K F' H' vs ps A
  | [],[],A,_,h=>h
  | v::vs, .fl d::ps,A,e,h=>⟨h.1.same s,PtsOk.stay s e h.2⟩
  | v::vs, .ol ds::ps,A,e,h=>by
    obtain ⟨l,us,A',rfl,rfl,hl,hr,q⟩:=h
    exact ⟨l,us,A',rfl,rfl,(e l (List.mem_cons_self ..)).trans hl,hr.same s,q.stay s fun b hb=>e b (List.mem_cons_of_mem _ hb)⟩
  | [],_::_,_,_,h=>False.elim h
  | _::_,[],_,_,h=>False.elim h
theorem DlOk.stay (s:Same F F'):∀{us:List (fX×V)} {kvs:List (fX×List PyData)} {A:List Addr},(∀b∈A,H' b=H b)→DlOk K F H us kvs A→DlOk K F' H' us kvs A
  | [],[],A,_,h=>h
  | p::us,q::kvs,A,e,h=>by
    obtain ⟨l,vs,A',rfl,rfl,hl,hr,k⟩:=h
    exact ⟨l,vs,A',rfl,rfl,(e l (List.mem_cons_self ..)).trans hl,hr.same s,k.stay s fun b hb=>e b (List.mem_cons_of_mem _ hb)⟩
  | [],_::_,_,_,h=>False.elim h
  | _::_,[],_,_,h=>False.elim h
theorem DlOk.some:∀{us:List (fX×V)} {kvs:List (fX×List PyData)} {A:List Addr},DlOk K F H us kvs A→∀a∈A,∃vs,H a=some (.lst vs)
  | [],[],A,h,a,ha=>by rw [show A=[] from h] at ha;cases ha
  | p::us,q::kvs,A,h,a,ha=>by
    obtain ⟨l,vs,A',rfl,rfl,hl,hr,k⟩:=h
    rcases List.mem_cons.mp ha with e | e
    · subst e;exact ⟨vs,hl⟩
    · exact k.some a e
  | [],_::_,_,h,_,_=>False.elim h
  | _::_,[],_,h,_,_=>False.elim h
theorem PtsOk.some:∀{vs:List V} {ps:List Pt} {A:List Addr},PtsOk K F H vs ps A→∀a∈A,∃us,H a=some (.lst us)
  | [],[],A,h,a,ha=>by rw [show A=[] from h] at ha;cases ha
  | v::vs, .fl d::ps,A,h,a,ha=>PtsOk.some h.2 a ha
  | v::vs, .ol ds::ps,A,h,a,ha=>by
    obtain ⟨l,us,A',rfl,rfl,hl,hr,q⟩:=h
    rcases List.mem_cons.mp ha with e | e
    · subst e;exact ⟨us,hl⟩
    · exact q.some a e
  | [],_::_,_,h,_,_=>False.elim h
  | _::_,[],_,h,_,_=>False.elim h
theorem PtsOk.rp (s:Same F H):∀{vs:List V} {ps:List Pt} {A:List Addr},PtsOk K F H vs ps A→RpA K H vs (ps.map Pt.val)
  | [],[],A,_=> .nil
  | v::vs, .fl d::ps,A,h=> .cons (h.1.same s) (PtsOk.rp s h.2)
  | v::vs, .ol ds::ps,A,h=>by
    obtain ⟨l,us,A',rfl,rfl,hl,hr,q⟩:=h
    exact .cons (.lst (SqL.of hl) (hr.same s)) (q.rp s)
  | [],_::_,_,h=>False.elim h
  | _::_,[],_,h=>False.elim h
theorem SlOk.stay {o:Option V} {s:Sl} {A:List Addr} (hF:Same F F') (e:∀b∈A,H' b=H b) (hb:s.isBr=true→Same H H') (h:SlOk K F H σ o s A):SlOk K F' H' σ o s A:=by
  cases s with
  | no=>exact h
  | sh d=>obtain ⟨rfl,v,rfl,r⟩:=h;exact ⟨rfl,v,rfl,r.same hF⟩
  | ow ds=>obtain ⟨l,vs,rfl,rfl,hl,r⟩:=h;exact ⟨l,vs,rfl,rfl,(e l (by simp)).trans hl,r.same hF⟩
  | od kvs=>obtain ⟨l,us,A',rfl,rfl,hl,r⟩:=h;exact ⟨l,us,A',rfl,rfl,(e l (by simp)).trans hl,r.stay hF fun b hb=>e b (List.mem_cons_of_mem _ hb)⟩
  | tx ps=>obtain ⟨t,vs,rfl,ht,r⟩:=h;exact ⟨t,vs,rfl,hF _ _ ht,r.stay hF e⟩
  | al i=>exact h
  | br d=>obtain ⟨rfl,v,rfl,r⟩:=h;exact ⟨rfl,v,rfl,r.same (hb rfl)⟩
theorem SlOk.mut {o:Option V} {s:Sl} {A:List Addr} (h:SlOk K F H σ o s A):∀a∈A,(∃us,H a=some (.lst us))∨∃us,H a=some (.dK us):=by
  cases s with
  | no=>intro a ha;rw [show A=[] from h] at ha;cases ha
  | sh d=>obtain ⟨rfl,_⟩:=h;intro a ha;cases ha
  | ow ds=>obtain ⟨l,vs,rfl,rfl,hl,r⟩:=h;intro a ha;rw [List.mem_singleton.mp ha];exact .inl ⟨_,hl⟩
  | od kvs=>
    obtain ⟨l,vs,A',rfl,rfl,hl,r⟩:=h
    intro a ha
    rcases List.mem_cons.mp ha with z | z
    · rw [z];exact .inr ⟨_,hl⟩
    · exact .inl (r.some a z)
  | tx ps=>obtain ⟨t,vs,rfl,ht,r⟩:=h;exact fun a ha=> .inl (r.some a ha)
  | al i=>obtain ⟨rfl,_⟩:=h;intro a ha;cases ha
  | br d=>obtain ⟨rfl,_⟩:=h;intro a ha;cases ha
end
inductive SAll (P:Option V→Sl→List Addr→Prop):List (Option V)→List Sl→List Addr→Prop
  | nil:SAll P [] [] []
  | cons {o:Option V} {s:Sl} {A:List Addr} {os:List (Option V)} {ss:List Sl} {B:List Addr}:P o s A→SAll P os ss B→SAll P (o::os) (s::ss) (A++B)
section
variable {P P':Option V→Sl→List Addr→Prop}
theorem SAll.len {os:List (Option V)} {ss:List Sl} {A:List Addr} (h:SAll P os ss A):os.length=ss.length:=by
  induction h with
  | nil=>rfl
  | cons _ _ b=>exact congrArg (· +1) b
theorem SAll.mono {os:List (Option V)} {ss:List Sl} {A:List Addr} (h:SAll P os ss A):(∀o s B,s∈ss→(∀b∈B,b∈A)→P o s B→P' o s B)→SAll P' os ss A:=by
  induction h with
  | nil=>exact fun _=> .nil
  | cons h _ r=>exact fun f=> .cons (f _ _ _ (List.mem_cons_self ..) (fun b hb=>List.mem_append_left _ hb) h) (r fun o s B hs hB q=>f o s B (List.mem_cons_of_mem _ hs) (fun b hb=>List.mem_append_right _ (hB b hb)) q)
theorem SAll.all {R:Addr→Prop} (hR:∀o s B,P o s B→∀b∈B,R b) {os:List (Option V)} {ss:List Sl} {A:List Addr} (h:SAll P os ss A):∀a∈A,R a:=by
  induction h with
  | nil=>exact fun _ ha=>nomatch ha
  | cons h _ r=>exact fun a ha=>(List.mem_append.mp ha).elim (hR _ _ _ h a) (r a)
theorem SAll.at:∀{os:List (Option V)} {ss:List Sl} {A:List Addr} {k:Nat} {s:Sl},SAll P os ss A→ss[k]? =some s→
    ∃o A0 A1 A2,A=A0++(A1++A2)∧os[k]? =some o∧P o s A1∧∀(P':Option V→Sl→List Addr→Prop) (o':Option V) (s':Sl) (A1':List Addr),P' o' s' A1'→
      (∀o s B,s∈ss→(∀b∈B,b∈A0∨b∈A2)→P o s B→P' o s B)→SAll P' (os.set k o') (ss.set k s') (A0++(A1'++A2))
  | _,_,_,_,_, .nil,e=>by simp at e
  | _,_,_,0,s, .cons (o:=o) (A:=A) (B:=B) h r,e=>by
    simp at e;subst e
    refine ⟨o,[],A,B,by simp,rfl,h,fun P' o' s' A1' h' f=>?_⟩
    have z:SAll P' _ _ (A1'++B):= .cons h' (r.mono (P':=P') fun o s B hs hB q=>f o s B (List.mem_cons_of_mem _ hs) (fun b hb=> .inr (hB b hb)) q)
    exact z
  | _,_,_,k+1,s, .cons (o:=o) (A:=A) (B:=B) h r,e=>by
    obtain ⟨o2,A0,A1,A2,eA,eo,hp,f⟩:=r.at (k:=k) (s:=s) (by simpa using e)
    subst eA
    refine ⟨o2,A++A0,A1,A2,by simp,by simpa using eo,hp,fun P' o' s' A1' h' g=>?_⟩
    have z:=f P' o' s' A1' h' fun o s B hs hB q=>g o s B (List.mem_cons_of_mem _ hs) (fun b hb=>(hB b hb).imp (fun x=>List.mem_append_right _ x) id) q
    rw [List.append_assoc]
    exact .cons (g _ _ _ (List.mem_cons_self ..) (fun b hb=> .inl (List.mem_append_left _ hb)) h) z
end
end PL
namespace PL
open PySem L2 Nh
abbrev Sg:=L2.St
structure FrF (K:PySem.W.Frag) (B F:Hp) (A:List Addr) (σ:Sg) (H:Hp) (E:List Sl) (xs:List V) (Xs:List Sl):Prop where
  bf:Same B F
  fh:Same F H
  tf:Same (tups H) F
  sl:SAll (SlOk K F H σ) (xs.map some++σ) (Xs++E) A
  nd:A.Nodup
  fr:∀a∈A,F a=none
  len:xs.length=Xs.length
  pl:∀s∈E,s.isAl=false
def Frm (K:PySem.W.Frag) (B:Hp) (σ:Sg) (H:Hp) (E:List Sl) (xs:List V) (Xs:List Sl):Prop:=∃F A,FrF K B F A σ H E xs Xs
def Sl.val:Sl→Option PyData
  | .sh d=>some d
  | .ow ds=>some (.list ds)
  | .tx ps=>some (.tuple (ps.map Pt.val))
  | .br d=>some d
  | _=>none
def look (E:List Sl):Sl→Option PyData
  | .al i=>(E[i]?).bind Sl.val
  | s=>s.val
def fG:Sl→Bool
  | .br _=>true
  | .tx _=>true
  | _=>false
def gP (E:List Sl):Sl→Bool
  | .al i=>(E[i]?).any fG
  | s=>fG s
def RpF (K:PySem.W.Frag) (F H:Hp) (v:V):PyData→Prop
  | .list ds=>∃a vs,v= .ref a∧SqL K H a vs∧RpA K F vs ds
  | d=>Rp K F v d
def qI (F H:Hp) (A:List Addr):Hp:=fun b=>if b∈A then H b else F b
theorem pD {F H:Hp} {A:List Addr} {b:Addr} (h:b∈A):qI F H A b=H b:=if_pos h
theorem mN {F H:Hp} {A:List Addr} {b:Addr} (h:b∉A):qI F H A b=F b:=if_neg h
section
variable {K:PySem.W.Frag} {B F:Hp} {A:List Addr} {σ:Sg} {H:Hp} {E:List Sl} {xs:List V} {Xs:List Sl} {v:V} {s:Sl} {d:PyData}
theorem RpF.of (h:Rp K F v d) (s:Same F H):RpF K F H v d:=by
  cases h with
  | lst h r=>exact ⟨_,_,rfl,s.seq h,r⟩
  | non=>exact .non
  | bl b=>exact .bl b
  | int i=>exact .int i
  | str x=>exact .str x
  | tup h r=>exact .tup h r
  | dct h r=>exact .dct h r
theorem SlOk.val {o:Option V} {A1:List Addr} (h:SlOk K F H σ o s A1) (hF:Same F H) (e:s.val=some d):∃v,o=some v∧Rp K H v d∧(fG s=false→RpF K F H v d):=by
  cases s with
  | no=>cases e
  | sh d'=>
    obtain ⟨rfl,v,rfl,r⟩:=h
    cases e
    exact ⟨v,rfl,r.same hF,fun _=>RpF.of r hF⟩
  | ow ds=>
    obtain ⟨l,vs,rfl,rfl,hl,r⟩:=h
    cases e
    exact ⟨_,rfl, .lst (SqL.of hl) (r.same hF),fun _=>⟨_,_,rfl,SqL.of hl,r⟩⟩
  | od kvs=>cases e
  | tx ps=>
    obtain ⟨t,vs,rfl,ht,r⟩:=h
    cases e
    exact ⟨_,rfl, .tup (SqT.of (hF _ _ ht)) (r.rp hF),fun z=>by cases z⟩
  | al i=>cases e
  | br d'=>
    obtain ⟨rfl,v,rfl,r⟩:=h
    cases e
    exact ⟨v,rfl,r,fun z=>by cases z⟩
theorem FrF.slen (h:FrF K B F A σ H E xs Xs):σ.length=E.length:=by
  have e:=h.sl.len
  have:=h.len
  simp only [List.length_append,List.length_map] at e
  omega
theorem FrF.var {i:Nat} (h:FrF K B F A σ H E xs Xs) (e:E[i]? =some s):∃o A1,σ[i]? =some o∧SlOk K F H σ o s A1:=by
  obtain ⟨o,A0,A1,A2,eA,eo,hp,_⟩:=h.sl.at (k:=Xs.length+i) (s:=s) (by rw [List.getElem?_append_right (by omega)];simpa using e)
  rw [List.getElem?_append_right (by rw [List.length_map,h.len];omega),List.length_map,h.len,Nat.add_sub_cancel_left] at eo
  exact ⟨o,A1,eo,hp⟩
theorem FrF.ext {k:Nat} (h:FrF K B F A σ H E xs Xs) (e:Xs[k]? =some s):∃v A1,xs[k]? =some v∧SlOk K F H σ (some v) s A1:=by
  have hk:k < Xs.length:=(List.getElem?_eq_some_iff.mp e).1
  obtain ⟨o,A0,A1,A2,eA,eo,hp,_⟩:=h.sl.at (k:=k) (s:=s) (by rw [List.getElem?_append_left hk];exact e)
  rw [List.getElem?_append_left (by rw [List.length_map,h.len];omega),List.getElem?_map] at eo
  cases q:xs[k]? with
  | none=>rw [q] at eo;cases eo
  | some v=>rw [q] at eo;cases eo;exact ⟨v,A1,rfl,hp⟩
theorem FrF.look {k:Nat} (h:FrF K B F A σ H E xs Xs) (e:Xs[k]? =some s) (q:look E s=some d):∃v,xs[k]? =some v∧Rp K H v d∧(gP E s=false→RpF K F H v d):=by
  obtain ⟨v,A1,ev,hs⟩:=h.ext e
  cases s with
  | al i=>
    obtain ⟨rfl,w,ew,hw⟩:=hs
    cases ew
    cases ei:E[i]? with
    | none=>simp [PL.look,ei] at q
    | some t=>
      obtain ⟨o,A2,eo,ht⟩:=h.var ei
      rw [hw] at eo
      cases eo
      obtain ⟨v',e',r,c⟩:=ht.val h.fh (d:=d) (by simpa [PL.look,ei] using q)
      cases e'
      exact ⟨v,ev,r,fun z=>c (by simpa [gP,ei] using z)⟩
  | no=>cases q
  | od kvs=>cases q
  | sh d'=>obtain ⟨v',e',r,c⟩:=hs.val h.fh q;cases e';exact ⟨v,ev,r,c⟩
  | ow ds=>obtain ⟨v',e',r,c⟩:=hs.val h.fh q;cases e';exact ⟨v,ev,r,c⟩
  | tx ps=>obtain ⟨v',e',r,c⟩:=hs.val h.fh q;cases e';exact ⟨v,ev,r,c⟩
  | br d'=>obtain ⟨v',e',r,c⟩:=hs.val h.fh q;cases e';exact ⟨v,ev,r,c⟩
theorem FrF.look0 (h:FrF K B F A σ H E (v::xs) (s::Xs)) (q:PL.look E s=some d):Rp K H v d∧(gP E s=false→RpF K F H v d):=by
  obtain ⟨v',e,r⟩:=h.look (k:=0) rfl q
  cases e
  exact r
theorem FrF.look1 {w:V} {t:Sl} (h:FrF K B F A σ H E (w::v::xs) (t::s::Xs)) (q:PL.look E s=some d):Rp K H v d∧(gP E s=false→RpF K F H v d):=by
  obtain ⟨v',e,r⟩:=h.look (k:=1) rfl q
  cases e
  exact r
theorem FrF.mutA (h:FrF K B F A σ H E xs Xs):∀a∈A,(∃us,H a=some (.lst us))∨∃us,H a=some (.dK us):=
  SAll.all (R:=fun a=>(∃us,H a=some (.lst us))∨∃us,H a=some (.dK us)) (fun _ _ _ q=>q.mut) h.sl
theorem FrF.newA {p:Addr} (h:FrF K B F A σ H E xs Xs) (hp:H p=none):p∉A:=fun hm=>by
  rcases h.mutA p hm with ⟨_,z⟩ | ⟨_,z⟩ <;> rw [hp] at z <;> cases z
theorem FrF.cold {u:V} {e:PyData} (h:FrF K B F A σ H E xs Xs) (r:Rp K H u e) (f:cV e=true):Rp K F u e:=(r.cold f).same h.tf
theorem FrF.coldA {us:List V} {es:List PyData} (h:FrF K B F A σ H E xs Xs) (r:RpA K H us es) (f:bd es=true):RpA K F us es:=(r.cold f).same h.tf
theorem FrF.push (h:FrF K B F A σ H E xs Xs) (q:SlOk K F H σ (some v) s []):FrF K B F A σ H E (v::xs) (s::Xs):=
  ⟨h.bf,h.fh,h.tf, .cons (A:=[]) q h.sl,h.nd,h.fr,by simp [h.len],h.pl⟩
theorem FrF.pop (h:FrF K B F A σ H E (v::xs) (s::Xs)):∃A',FrF K B F A' σ H E xs Xs:=by
  obtain ⟨bf,fh,tf,sl,nd,fr,len,pl⟩:=h
  generalize hT:List.map some (v::xs)++σ=T at sl
  generalize hS:(s::Xs)++E=S at sl
  cases sl with
  | nil=>cases hS
  | cons q r=>
    injection hT with _ hT
    injection hS with _ hS
    subst hT hS
    exact ⟨_,bf,fh,tf,r,(List.nodup_append.mp nd).2.1,fun a ha=>fr a (List.mem_append_right _ ha),by simpa using len,pl⟩
theorem FrF.grow {H':Hp} (h:FrF K B F A σ H E xs Xs) (g:Same H H'):FrF K B (fun b=>if b∈A then none else H' b) A σ H' E xs Xs:=by
  have nF:∀b o,F b=some o→b∉A:=fun b o e hb=>by rw [h.fr b hb] at e;cases e
  have FF:Same F (fun b=>if b∈A then none else H' b):=fun b o e=>by
    show (if b∈A then none else H' b)=some o
    rw [if_neg (nF b o e)]
    exact g _ _ (h.fh _ _ e)
  have hA:∀b∈A,H' b=H b:=fun b hb=>by
    rcases h.mutA b hb with ⟨_,z⟩ | ⟨_,z⟩ <;> rw [z,g _ _ z]
  refine ⟨h.bf.trans FF,fun b o e=>?_,fun b o e=>?_,h.sl.mono fun o s C _ hC q=>q.stay FF (fun b hb=>hA b (hC b hb)) fun _=>g,h.nd,fun a ha=>if_pos ha,h.len,h.pl⟩
  · by_cases hb:b∈A
    · rw [if_pos hb] at e;cases e
    · rw [if_neg hb] at e;exact e
  · obtain ⟨e1,e2⟩:=Option.filter_eq_some_iff.mp e
    show (if b∈A then none else H' b)=some o
    by_cases hb:b∈A
    · rw [hA b hb] at e1
      rcases h.mutA b hb with ⟨_,z⟩ | ⟨_,z⟩ <;> rw [z] at e1 <;> cases e1 <;> cases e2
    · rw [if_neg hb];exact e1
theorem FrF.newl {p:Addr} {vs:List V} {ds:List PyData} (h:FrF K B F A σ H E xs Xs) (r:RpA K F vs ds) (hp:H p=none):FrF K B F (p::A) σ (upd H p (.lst vs)) E (.ref p::xs) (.ow ds::Xs):=by
  have g:Same H (upd H p (.lst vs)):=ip hp _
  have nA:=h.newA hp
  refine ⟨h.bf,h.fh.trans g,fun b o e=>?_, .cons (A:=[p]) ⟨p,vs,rfl,rfl,cy,r⟩ (h.sl.mono fun o s C _ hC q=>q.stay (Same.refl _) (fun b hb=>aS fun z=>nA (z▸hC b hb)) fun _=>g),List.nodup_cons.mpr ⟨nA,h.nd⟩,fun a ha=>?_,by simp [h.len],h.pl⟩
  · obtain ⟨e1,e2⟩:=Option.filter_eq_some_iff.mp e
    by_cases hb:b=p
    · subst hb;rw [cy] at e1;cases e1;cases e2
    · rw [aS hb] at e1;exact h.tf b o (ki e1 e2)
  · rcases List.mem_cons.mp ha with z | z
    · subst z;exact h.fh.free hp
    · exact h.fr a z
theorem FrF.newt {p:Addr} {vs:List V} {ds:List PyData} (h:FrF K B F A σ H E xs Xs) (r:RpA K F vs ds) (hp:H p=none):FrF K B (upd F p (.tup vs)) A σ (upd H p (.tup vs)) E (.ref p::xs) (.sh (.tuple ds)::Xs):=by
  have g:Same H (upd H p (.tup vs)):=ip hp _
  have nA:=h.newA hp
  have gF:Same F (upd F p (.tup vs)):=ip (h.fh.free hp) _
  refine ⟨h.bf.trans gF,fun b o e=>?_,fun b o e=>?_, .cons (A:=[]) ⟨rfl,_,rfl, .tup (.inl (.inl cy)) (r.same gF)⟩ (h.sl.mono fun o s C _ hC q=>q.stay gF (fun b hb=>aS fun z=>nA (z▸hC b hb)) fun _=>g),h.nd,fun a ha=>?_,by simp [h.len],h.pl⟩
  · by_cases hb:b=p
    · subst hb;rw [cy] at e ⊢;exact e
    · rw [aS hb] at e ⊢;exact h.fh _ _ e
  · obtain ⟨e1,e2⟩:=Option.filter_eq_some_iff.mp e
    by_cases hb:b=p
    · subst hb;rw [cy] at e1 ⊢;exact e1
    · rw [aS hb] at e1 ⊢;exact h.tf b o (ki e1 e2)
  · have ne:a≠p:=fun z=>nA (z▸ha)
    rw [aS ne];exact h.fr a ha
theorem FrF.mut {i:Nat} {ds:List PyData} (h:FrF K B F A σ H E xs Xs) (e:E[i]? =some (.ow ds)) (c:∀s∈Xs,s.isBr=false):
    ∃l vs,σ[i]? =some (some (.ref l))∧H l=some (.lst vs)∧RpA K F vs ds∧∀vs' ds',RpA K F vs' ds'→FrF K B F A σ (upd H l (.lst vs')) (E.set i (.ow ds')) xs Xs:=by
  obtain ⟨o,A0,A1,A2,eA,eo,hp,put⟩:=h.sl.at (k:=Xs.length+i) (s:= .ow ds) (by rw [List.getElem?_append_right (by omega)];simpa using e)
  rw [List.getElem?_append_right (by rw [List.length_map,h.len];omega),List.length_map,h.len,Nat.add_sub_cancel_left] at eo
  obtain ⟨l,vs,rfl,rfl,hl,r⟩:=hp
  refine ⟨l,vs,eo,hl,r,fun vs' ds' r'=>?_⟩
  have hlA:l∈A:=by rw [eA];simp
  have nl:∀b,b∈A0∨b∈A2→b≠l:=fun b hb z=>by
    subst z
    have nd:=h.nd
    rw [eA] at nd
    rcases hb with hb | hb
    · exact (List.nodup_append.mp nd).2.2 b hb b (by simp) rfl
    · exact (List.nodup_append.mp (List.nodup_append.mp nd).2.1).2.2 b (by simp) b hb rfl
  have lF:F l=none:=h.fr l hlA
  have z:=put (SlOk K F (upd H l (.lst vs')) σ) (some (.ref l)) (.ow ds') [l] ⟨l,vs',rfl,rfl,cy,r'⟩ fun o s C hs hC q=>q.stay (Same.refl _) (fun b hb=>aS (nl b (hC b hb))) fun z=>by
    rcases List.mem_append.mp hs with hs | hs
    · rw [c s hs] at z;cases z
    · have:=h.pl s hs
      cases s <;> simp [Sl.isAl,Sl.isBr] at this z
  have e3:(Xs++E).set (Xs.length+i) (.ow ds')=Xs++E.set i (.ow ds'):=by
    rw [List.set_append_right _ _ (by omega),Nat.add_sub_cancel_left]
  have e2:(List.map some xs++σ).set (Xs.length+i) (some (V.ref l))=List.map some xs++σ:=by
    rw [←h.len,List.set_append_right _ _ (by rw [List.length_map];omega),List.length_map,Nat.add_sub_cancel_left]
    congr 1
    exact List.ext_getElem? fun j=>by
      by_cases hj:i=j
      · subst hj
        rw [List.getElem?_set_self',eo];rfl
      · rw [List.getElem?_set_ne hj]
  rw [e2,e3,←eA] at z
  refine ⟨h.bf,fun b o q=>?_,?_,z,h.nd,h.fr,h.len,fun s hs=>?_⟩
  · rw [aS (fun z=>by rw [z,lF] at q;cases q)]
    exact h.fh _ _ q
  · rw [qG hl];exact h.tf
  · rcases List.mem_or_eq_of_mem_set hs with hs | hs
    · exact h.pl s hs
    · subst hs;rfl
theorem FrF.frzAt {k:Nat} (h:FrF K B F A σ H E xs Xs) (e:(Xs++E)[k]? =some s) (q:s.val=some d) (c:s.isAl=false):
    ∃F' A' v,(xs.map some++σ)[k]? =some (some v)∧Rp K F' v d∧Same B F'∧Same F' H∧Same (tups H) F'∧SAll (SlOk K F' H σ) (xs.map some++σ) ((Xs++E).set k (.sh d)) A'∧A'.Nodup∧∀a∈A',F' a=none:=by
  obtain ⟨o,A0,A1,A2,eA,eo,hp,put⟩:=h.sl.at e
  have nd:=h.nd
  rw [eA] at nd
  have nA1:∀b o,F b=some o→b∉A1:=fun b o e hb=>by
    have:=h.fr b (by rw [eA];simp [hb])
    rw [this] at e;cases e
  have FF:Same F (qI F H A1):=fun b o e=>by rw [mN (nA1 b o e)];exact e
  obtain ⟨v,rfl,r⟩:∃v,o=some v∧Rp K (qI F H A1) v d:=by
    cases s with
    | no=>cases q
    | od kvs=>cases q
    | al i=>cases c
    | br d'=>cases c
    | sh d'=>
      obtain ⟨rfl,v,rfl,r⟩:=hp
      cases q
      exact ⟨v,rfl,r.same FF⟩
    | ow ds=>
      obtain ⟨l,vs,rfl,rfl,hl,r⟩:=hp
      cases q
      exact ⟨_,rfl, .lst (SqL.of ((pD (by simp)).trans hl)) (r.same FF)⟩
    | tx ps=>
      obtain ⟨t,vs,rfl,ht,r⟩:=hp
      cases q
      refine ⟨_,rfl, .tup (SqT.of (FF _ _ ht)) ?_⟩
      have r':PtsOk K (qI F H A1) (qI F H A1) vs ps A1:=r.stay FF fun b hb=>pD hb
      exact r'.rp (Same.refl _)
  have e2:(List.map some xs++σ).set k (some v)=List.map some xs++σ:=List.ext_getElem? fun j=>by
    by_cases hj:k=j
    · subst hj
      rw [List.getElem?_set_self',eo];rfl
    · rw [List.getElem?_set_ne hj]
  have z:=put (SlOk K (qI F H A1) H σ) (some v) (.sh d) [] ⟨rfl,v,rfl,r⟩ fun o s C _ hC q=>q.stay FF (fun b _=>rfl) fun _=>Same.refl _
  rw [e2] at z
  refine ⟨qI F H A1,A0++A2,v,eo,r,h.bf.trans FF,fun b o e=>?_,fun b o e=>FF _ _ (h.tf _ _ e),by simpa using z,?_,fun a ha=>?_⟩
  · by_cases hb:b∈A1
    · rw [pD hb] at e;exact e
    · rw [mN hb] at e;exact h.fh _ _ e
  · exact List.Nodup.sublist (List.Sublist.append (List.Sublist.refl _) (List.sublist_append_right _ _)) nd
  · have hn:a∉A1:=fun hm=>by
      rcases List.mem_append.mp ha with z | z
      · exact (List.nodup_append.mp nd).2.2 a z a (by simp [hm]) rfl
      · exact (List.nodup_append.mp (List.nodup_append.mp nd).2.1).2.2 a hm a z rfl
    rw [mN hn]
    exact h.fr a (by rw [eA];rcases List.mem_append.mp ha with z | z <;> simp [z])
end
def frz (E:List Sl):Sl→Option (PyData×List Sl)
  | .sh d=>some (d,E)
  | .ow ds=>some (.list ds,E)
  | .tx ps=>some (.tuple (ps.map Pt.val),E)
  | .br d=>if cV d then some (d,E) else none
  | .al i=>match E[i]? with
    | some (.sh d)=>some (d,E)
    | some (.ow ds)=>some (.list ds,E.set i (.sh (.list ds)))
    | some (.tx ps)=>some (.tuple (ps.map Pt.val),E.set i (.sh (.tuple (ps.map Pt.val))))
    | _=>none
  | _=>none
section
variable {K:PySem.W.Frag} {B F:Hp} {A:List Addr} {σ:Sg} {H:Hp} {E E':List Sl} {xs:List V} {Xs:List Sl} {v:V} {s:Sl} {d:PyData}
theorem FrF.frzVar {i:Nat} (h:FrF K B F A σ H E xs Xs) (e:E[i]? =some s) (q:s.val=some d):∃F' A' v,σ[i]? =some (some v)∧Rp K F' v d∧FrF K B F' A' σ H (E.set i (.sh d)) xs Xs:=by
  obtain ⟨F',A',v,ev,r,b1,b2,b3,sl,nd,fr⟩:=h.frzAt (k:=Xs.length+i) (by rw [List.getElem?_append_right (by omega)];simpa using e) q (h.pl s (List.mem_of_getElem? e))
  rw [List.getElem?_append_right (by rw [List.length_map,h.len];omega),List.length_map,h.len,Nat.add_sub_cancel_left] at ev
  have e3:(Xs++E).set (Xs.length+i) (.sh d)=Xs++E.set i (.sh d):=by
    rw [List.set_append_right _ _ (by omega),Nat.add_sub_cancel_left]
  rw [e3] at sl
  refine ⟨F',A',v,ev,r,b1,b2,b3,sl,nd,fr,h.len,fun s hs=>?_⟩
  rcases List.mem_or_eq_of_mem_set hs with hs | hs
  · exact h.pl s hs
  · subst hs;rfl
theorem FrF.frz0 (h:FrF K B F A σ H E (v::xs) (s::Xs)) (q:PL.frz E s=some (d,E')):∃F' A',FrF K B F' A' σ H E' (v::xs) (.sh d::Xs):=by
  have key:s.val=some d→s.isAl=false→E=E'→∃F' A',FrF K B F' A' σ H E' (v::xs) (.sh d::Xs):=fun q' c e=>by
    subst e
    obtain ⟨F',A',v',ev,r,b1,b2,b3,sl,nd,fr⟩:=h.frzAt (k:=0) rfl q' c
    exact ⟨F',A',b1,b2,b3,sl,nd,fr,by simpa using h.len,h.pl⟩
  have al:∀i t,s= .al i→E[i]? =some t→t.val=some d→E'=E.set i (.sh d)→∃F' A',FrF K B F' A' σ H E' (v::xs) (.sh d::Xs):=fun i t es ei qt eE=>by
    subst es eE
    obtain ⟨v',A1,ev,hs⟩:=h.ext (k:=0) rfl
    cases ev
    obtain ⟨rfl,w,ew,hw⟩:=hs
    cases ew
    obtain ⟨F',A',w,ew,r,h'⟩:=h.frzVar ei qt
    rw [hw] at ew
    cases ew
    obtain ⟨A2,h2⟩:=h'.pop
    exact ⟨F',A2,h2.push ⟨rfl,_,rfl,r⟩⟩
  cases s with
  | no=>cases q
  | od kvs=>cases q
  | sh d'=>cases q;exact key rfl rfl rfl
  | ow ds=>cases q;exact key rfl rfl rfl
  | tx ps=>cases q;exact key rfl rfl rfl
  | br d'=>
    simp only [PL.frz] at q
    split at q
    · rename_i hf
      cases q
      obtain ⟨r,_⟩:=h.look0 (d:=d) rfl
      obtain ⟨A2,h2⟩:=h.pop
      exact ⟨F,A2,h2.push ⟨rfl,_,rfl,h.cold r hf⟩⟩
    · cases q
  | al i=>
    simp only [PL.frz] at q
    split at q
    · rename_i d' ei
      cases q
      refine al i _ rfl ei rfl ?_
      exact List.ext_getElem? fun j=>by
        by_cases hj:i=j
        · subst hj;rw [List.getElem?_set_self',ei];rfl
        · rw [List.getElem?_set_ne hj]
    · rename_i ds ei
      cases q
      exact al i _ rfl ei rfl rfl
    · rename_i ps ei
      cases q
      exact al i _ rfl ei rfl rfl
    · cases q
theorem FrF.store {i:Nat} (h:FrF K B F A σ H E (v::xs) (s::Xs)) (c:s.isAl=false) (cx:∀s∈Xs,s.isAl=false) (hi:i < E.length):∃A',FrF K B F A' (σ.set i (some v)) H (E.set i s) xs Xs:=by
  have hlen:=h.len
  have hsl:=h.slen
  obtain ⟨bf,fh,tf,sl,nd,fr,len,pl⟩:=h
  generalize hT:List.map some (v::xs)++σ=T at sl
  generalize hS:(s::Xs)++E=S at sl
  cases sl with
  | nil=>cases hS
  | cons q r=>
    rename_i A1 _ _ A2
    injection hT with h1 hT
    injection hS with h2 hS
    subst h1 h2 hT hS
    have len':xs.length=Xs.length:=by simpa using len
    have r:SAll (SlOk K F H σ) (List.map some xs++σ) (Xs++E) A2:=r
    obtain ⟨t,et⟩:∃t,E[i]? =some t:=⟨E[i],List.getElem?_eq_getElem hi⟩
    obtain ⟨o,C0,C1,C2,eA,eo,hp,put⟩:=r.at (k:=Xs.length+i) (s:=t) (by rw [List.getElem?_append_right (by omega)];simpa using et)
    have all:∀s'∈Xs++E,s'.isAl=false:=fun s' hs=>(List.mem_append.mp hs).elim (cx s') (pl s')
    have chg:∀(o:Option V) (s':Sl) (C:List Addr),s'.isAl=false→SlOk K F H σ o s' C→SlOk K F H (σ.set i (some v)) o s' C:=fun o s' C hc z=>by
      cases s' <;> first | exact z | cases hc
    have z:=put (SlOk K F H (σ.set i (some v))) (some v) s A1 (chg _ _ _ c q) fun o s' C hs _ z=>chg o s' C (all s' hs) z
    have e3:(Xs++E).set (Xs.length+i) s=Xs++E.set i s:=by
      rw [List.set_append_right _ _ (by omega),Nat.add_sub_cancel_left]
    have e2:(List.map some xs++σ).set (Xs.length+i) (some v)=List.map some xs++σ.set i (some v):=by
      rw [←len',List.set_append_right _ _ (by rw [List.length_map];omega),List.length_map,Nat.add_sub_cancel_left]
    rw [e2,e3] at z
    refine ⟨_,bf,fh,tf,z,?_,fun a ha=>fr a ?_,len',fun s' hs=>?_⟩
    · rw [eA] at nd
      have p:(C0++(A1++C2)).Perm (A1++(C0++C2)):=by
        rw [←List.append_assoc,←List.append_assoc]
        exact List.Perm.append_right _ List.perm_append_comm
      refine p.nodup_iff.mpr (List.Nodup.sublist ?_ nd)
      exact List.Sublist.append (List.Sublist.refl _) (List.Sublist.append (List.Sublist.refl _) (List.sublist_append_right _ _))
    · rw [eA]
      simp only [List.mem_append] at ha ⊢
      rcases ha with z | z | z
      · exact .inr (.inl z)
      · exact .inl z
      · exact .inr (.inr (.inr z))
    · rcases List.mem_or_eq_of_mem_set hs with hs | hs
      · exact pl s' hs
      · subst hs;exact c
end
end PL
namespace PL
open PySem L2 Nh
abbrev bq:=List Sl→Option (Sl×List Sl)
abbrev kW:=List Sl→Option (Bool×List Sl)
abbrev qJ:=List Sl→Option (List Sl×List Sl)
abbrev mD:=List Sl→Option (List PyData×List Sl)
inductive Fl where
  | nx | bk | ct | rt (r:Sl)
abbrev dH:=List Sl→Option (List Sl×Fl)
abbrev Calm (Xs:List Sl):Prop:=∀s∈Xs,s.isBr=false
abbrev Still (Xs:List Sl):Prop:=∀s∈Xs,s.isAl=false
theorem Still.calm {Xs:List Sl} (h:Still Xs):Calm Xs:=fun s hs=>by
  have:=h s hs
  cases s <;> simp [Sl.isAl,Sl.isBr] at this ⊢
theorem Still.nil {Xs:List Sl} (h:Xs=[]):Still Xs:=fun s hs=>by subst h;cases hs
theorem Calm.nil {Xs:List Sl} (h:Xs=[]):Calm Xs:=(Still.nil h).calm
theorem Calm.cons {Xs:List Sl} {s:Sl} (h:Calm Xs) (hs:s.isBr=false):Calm (s::Xs):=fun t ht=>(List.mem_cons.mp ht).elim (fun e=>e▸hs) (h t)
def rd (K:PySem.W.Frag) (m:Bool) (f:bq):TE:=fun σ H Q=>∃B E xs Xs r E',Frm K B σ H E xs Xs∧(m=true→Calm Xs)∧f E=some (r,E')∧∀v H',Frm K B σ H' E' (v::xs) (r::Xs)→Q v H'
def rt (K:PySem.W.Frag) (m:Bool) (f:kW):TT:=fun σ H Q=>∃B E xs Xs b E',Frm K B σ H E xs Xs∧(m=true→Calm Xs)∧f E=some (b,E')∧∀H',Frm K B σ H' E' xs Xs→Q b H'
def ra (K:PySem.W.Frag) (m:Bool) (f:qJ):TA:=fun σ H Q=>∃B E xs Xs rs E',Frm K B σ H E xs Xs∧(m=true→Calm Xs)∧f E=some (rs,E')∧∀vs H',vs.length=rs.length→Frm K B σ H' E' (vs.reverse++xs) (rs.reverse++Xs)→Q vs H'
def EM (K:PySem.W.Frag) (m:Bool) (f:mD):TA:=fun σ H Q=>∃B E xs Xs ds E',Frm K B σ H E xs Xs∧(m=true→Calm Xs)∧f E=some (ds,E')∧∀vs H',vs.length=ds.length→Frm K B σ H' E' (vs.reverse++xs) (ds.reverse.map .sh++Xs)→Q vs H'
def rs (K:PySem.W.Frag) (g:dH):TS:=fun D σ H=>∃B E xs Xs E' fl,Frm K B σ H E xs Xs∧Xs=[]∧g E=some (E',fl)∧match fl with
  | .nx=>∀σ' H',Frm K B σ' H' E' xs Xs→D.nx σ' H'
  | .bk=>∀σ' H',Frm K B σ' H' E' xs Xs→D.bk σ' H'
  | .ct=>∀σ' H',Frm K B σ' H' E' xs Xs→D.ct σ' H'
  | .rt r=>∀σ' v H',Frm K B σ' H' E' (v::xs) (r::Xs)→D.rt v H'
def EX (X:Cx) (e:Expr) (m:Bool) (f:bq):Prop:=PE X e (rd X.K m f)
def TX (X:Cx) (e:Expr) (m:Bool) (f:kW):Prop:=PT X e (rt X.K m f)
def WX (X:Cx) (e:Expr) (m:Bool) (f:kW):Prop:=PW X e (rt X.K m f)
def AX (X:Cx) (es:List Expr) (m:Bool) (f:qJ):Prop:=PA X es (ra X.K m f)
def DX (X:Cx) (es:List Expr) (m:Bool) (f:mD):Prop:=PA X es (EM X.K m f)
def SX (X:Cx) (s:Stmt) (g:dH):Prop:=PS X s (rs X.K g)
def u7 (X:Cx) (s:List Stmt) (g:dH):Prop:=PSs X s (rs X.K g)
section
variable {X:Cx}
theorem b_ {e:Expr} {t t':TE} (h:PE X e t) (k:∀σ H Q,t' σ H Q→t σ H Q):PE X e t':=fun pins s σ H Q I q=>h pins s σ H Q I (k σ H Q q)
theorem sm {e:Expr} {t t':TT} (h:PT X e t) (k:∀σ H Q,t' σ H Q→t σ H Q):PT X e t':=fun pins s σ H Q I q=>h pins s σ H Q I (k σ H Q q)
theorem Bs {e:Expr} {t t':TT} (h:PW X e t) (k:∀σ H Q,t' σ H Q→t σ H Q):PW X e t':=fun whole pins s σ H Q I q=>h whole pins s σ H Q I (k σ H Q q)
theorem pE {es:List Expr} {t t':TA} (h:PA X es t) (k:∀σ H Q,t' σ H Q→t σ H Q):PA X es t':=fun pos pins s σ H Q I q=>h pos pins s σ H Q I (k σ H Q q)
theorem jY {st:Stmt} {t t':TS} (h:PS X st t) (k:∀D σ H,t' D σ H→t D σ H):PS X st t':=fun pins s σ H D I q=>h pins s σ H D I (k D σ H q)
theorem tU {st:List Stmt} {t t':TS} (h:PSs X st t) (k:∀D σ H,t' D σ H→t D σ H):PSs X st t':=fun pins s σ H D I q=>h pins s σ H D I (k D σ H q)
end
def Am:PyData→Option V
  | .none=>some .non
  | .bool b=>some (.bl b)
  | .int i=>some (.int i)
  | .str x=>some (.str x)
  | _=>none
theorem mO {K:PySem.W.Frag} {H:Hp} {d:PyData} {v:V} (h:Am d=some v):Rp K H v d:=by
  cases d <;> simp [Am] at h <;> subst h <;> constructor
def aa (i:Nat):bq:=fun E=>match E[i]? with
  | some (.sh d)=>some (.sh d,E)
  | some (.ow _)=>some (.al i,E)
  | some (.od _)=>some (.al i,E)
  | some (.tx _)=>some (.al i,E)
  | _=>none
def pC (d:PyData):bq:=fun E=>some (.sh d,E)
section
variable {X:Cx} {K:PySem.W.Frag}
theorem ab (i:Nat) {x:Str} {pos:Pos} (hN:X.N[i]? =some x:=by rfl) (hv:DJ X.env.scope x:=by first | exact Or.inl rfl | exact Or.inr (Or.inl rfl) | exact Or.inr (Or.inr rfl)) (hd:(x == ("__debug__":Str))=false:=by decide)
    (hcd:(x == ("__classdict__":Str))=false:=by decide):EX X (.Name x pos) false (aa i):=by
  refine b_ (v9 hN hv hd hcd) fun σ H Q h=>?_
  obtain ⟨B,E,xs,Xs,r,E',⟨F,A,fr⟩,_,e,q⟩:=h
  unfold aa at e
  split at e
  · rename_i d ei
    cases e
    obtain ⟨o,A1,eo,rfl,v,rfl,rp⟩:=fr.var ei
    exact ⟨v,eo,q v H ⟨F,A,fr.push ⟨rfl,v,rfl,rp⟩⟩⟩
  · rename_i ds ei
    cases e
    obtain ⟨o,A1,eo,l,vs,rfl,_⟩:=fr.var ei
    exact ⟨_,eo,q _ H ⟨F,A,fr.push ⟨rfl,_,rfl,eo⟩⟩⟩
  · rename_i ds ei
    cases e
    obtain ⟨o,A1,eo,l,vs,A2,rfl,_⟩:=fr.var ei
    exact ⟨_,eo,q _ H ⟨F,A,fr.push ⟨rfl,_,rfl,eo⟩⟩⟩
  · rename_i ds ei
    cases e
    obtain ⟨o,A1,eo,l,vs,rfl,_⟩:=fr.var ei
    exact ⟨_,eo,q _ H ⟨F,A,fr.push ⟨rfl,_,rfl,eo⟩⟩⟩
  · cases e
theorem Bt {e:Expr} {v:V} (d:PyData) (h:PE X e (tC v)) (hd:Am d=some v:=by rfl):EX X e false (pC d):=by
  refine b_ h fun σ H Q h=>?_
  obtain ⟨B,E,xs,Xs,r,E',⟨F,A,fr⟩,_,e,q⟩:=h
  cases e
  exact q v H ⟨F,A,fr.push ⟨rfl,v,rfl,mO hd⟩⟩
theorem ar {i j pos}:EX X (.Constant (.int i) j pos) false (pC (.int i)):=Bt _ AL
theorem mP {b j pos}:EX X (.Constant (.bool b) j pos) false (pC (.bool b)):=Bt _ Cp
theorem jg {x j pos}:EX X (.Constant (.str x) j pos) false (pC (.str x)):=Bt _ v_
end
abbrev P2:=List Sl→Sl→Sl→Option (Sl×List Sl)
def jh (K:PySem.W.Frag) (r:R2) (p:P2):Prop:=∀{B F:Hp} {A:List Addr} {σ:Sg} {H:Hp} {E:List Sl} {xs:List V} {Xs:List Sl} {v1 v2:V} {s1 s2 res:Sl} {E':List Sl} {Q:VK},
  FrF K B F A σ H E (v2::v1::xs) (s2::s1::Xs)→p E s1 s2=some (res,E')→(∀v H',Frm K B σ H' E' (v::xs) (res::Xs)→Q v H')→r v1 v2 H Q
def ag (p:P2) (m2:Bool) (f g:bq):bq:=fun E=>(f E).bind fun a=>if m2&&a.1.isBr then none else (g a.2).bind fun b=>p b.2 a.1 b.1
theorem pF {K:PySem.W.Frag} {r:R2} {p:P2} (hp:jh K r p) {m1 m2:Bool} {f g:bq} {σ:Sg} {H:Hp} {Q:VK} (h:rd K (m1||m2) (ag p m2 f g) σ H Q):CC r (rd K m1 f) (rd K m2 g) σ H Q:=by
  obtain ⟨B,E,xs,Xs,res,E',fr,c,e,q⟩:=h
  obtain ⟨⟨s1,E1⟩,e1,e⟩:=Option.bind_eq_some_iff.mp e
  by_cases hb:(m2&&s1.isBr)=true
  · rw [if_pos hb] at e;cases e
  rw [if_neg hb] at e
  obtain ⟨⟨s2,E2⟩,e2,e⟩:=Option.bind_eq_some_iff.mp e
  refine ⟨B,E,xs,Xs,s1,E1,fr,fun z=>c (by simp [z]),e1,fun v1 H1 fr1=>?_⟩
  refine ⟨B,E1,v1::xs,s1::Xs,s2,E2,fr1,fun z=>?_,e2,fun v2 H2 fr2=>?_⟩
  · refine Calm.cons (c (by simp [z])) ?_
    cases hs:s1.isBr with
    | false=>rfl
    | true=>exact absurd (by simp [z,hs]) hb
  · obtain ⟨F,A,fr2⟩:=fr2
    exact hp fr2 e q
def fT (op:PyData→PyData→Option PyData):P2:=fun E s1 s2=>(look E s1).bind fun d1=>(look E s2).bind fun d2=>(op d1 d2).map fun d=>(.sh d,E)
theorem FrF.res2 {K:PySem.W.Frag} {B F:Hp} {A:List Addr} {σ:Sg} {H:Hp} {E:List Sl} {xs:List V} {Xs:List Sl} {v1 v2 v:V} {s1 s2 s:Sl} (h:FrF K B F A σ H E (v2::v1::xs) (s2::s1::Xs)) (q:SlOk K F H σ (some v) s []):Frm K B σ H E (v::xs) (s::Xs):=by
  obtain ⟨A1,h⟩:=h.pop
  obtain ⟨A2,h⟩:=h.pop
  exact ⟨F,A2,h.push q⟩
theorem jZ {K:PySem.W.Frag} {r:R2} {op:PyData→PyData→Option PyData} (h:∀(d1 d2 d:PyData) (v1 v2:V) (H:Hp) (Q:VK),op d1 d2=some d→Rp K H v1 d1→Rp K H v2 d2→∃v,Am d=some v∧(Q v H→r v1 v2 H Q)):jh K r (fT op):=by
  intro B F A σ H E xs Xs v1 v2 s1 s2 res E' Q fr e q
  obtain ⟨d1,e1,e⟩:=Option.bind_eq_some_iff.mp e
  obtain ⟨d2,e2,e⟩:=Option.bind_eq_some_iff.mp e
  obtain ⟨d,e3,e⟩:=Option.map_eq_some_iff.mp e
  cases e
  obtain ⟨v,hv,k⟩:=h d1 d2 d v1 v2 H Q e3 (fr.look1 e1).1 (fr.look0 e2).1
  exact k (q v H (fr.res2 ⟨rfl,v,rfl,mO hv⟩))
section
variable {X:Cx} {a b:Expr} {m1 m2:Bool} {f g:bq} {pos:Pos}
theorem lN {op:Operator} {r:R2} {p:P2} (ho:OpR X (binaryOp op) r) (hp:jh X.K r p) (ha:EX X a m1 f) (hb:EX X b m2 g):EX X (.BinOp a op b pos) (m1||m2) (ag p m2 f g):=b_ (CD ho ha hb) fun _ _ _ h=>pF hp h
theorem sq {op:CmpOp} {r:R2} {p:P2} (ho:OpR X (compareOp op) r) (hp:jh X.K r p) (ha:EX X a m1 f) (hb:EX X b m2 g) (hm:behindInMarks op b=false):EX X (.Compare a [op] [b] pos) (m1||m2) (ag p m2 f g):=b_ (yH ho ha hb hm) fun _ _ _ h=>pF hp h
def eI (f:bq):kW:=fun E=>(f E).bind fun a=>match a.1 with
  | .sh (.bool b)=>some (b,a.2)
  | _=>none
theorem Bu {K:PySem.W.Frag} {m:Bool} {f:bq} {σ:Sg} {H:Hp} {Q:Bool→Hp→Prop} (h:rt K m (eI f) σ H Q):rd K m f σ H (fun x H'=>∃k,x= .bl k∧Q k H'):=by
  obtain ⟨B,E,xs,Xs,b,E',fr,c,e,q⟩:=h
  obtain ⟨⟨s,E1⟩,e1,e⟩:=Option.bind_eq_some_iff.mp e
  refine ⟨B,E,xs,Xs,s,E1,fr,c,e1,fun v H' ⟨F,A,fr'⟩=>?_⟩
  simp only at e
  split at e
  · cases e
    obtain ⟨r,_⟩:=fr'.look0 (d:= .bool b) rfl
    cases r
    obtain ⟨A',fr2⟩:=fr'.pop
    exact ⟨b,rfl,q H' ⟨F,A',fr2⟩⟩
  · cases e
theorem pG {op:CmpOp} {r:R2} {p:P2} (ho:OpR X (compareOp op) r) (hp:jh X.K r p) (ha:EX X a m1 f) (hb:EX X b m2 g) (hm:behindInMarks op b=false):TX X (.Compare a [op] [b] pos) (m1||m2) (eI (ag p m2 f g)):=by
  refine sm (yI ho ha hb hm) fun σ H Q h=>?_
  exact pF hp (Bu h)
end
def Bv:Int:=2 ^ 20000
def fA (i j:Int):Bool:=decide (-(2 ^ 64) < i∧i < 2 ^ 64)||decide (-(2 ^ 64) < j∧j < 2 ^ 64)||decide (-Bv < i∧i < Bv∧ -Bv < j∧j < Bv)
def lQ (j:Int):Bool:=decide (0 < j∧j < 2 ^ 200)
def mQ (C:Int→Int→Bool) (g:Int→Int→PyData):PyData→PyData→Option PyData
  | .int i, .int j=>if C i j then some (g i j) else none
  | _,_=>none
abbrev An (C:Int→Int→Bool) (g:Int→Int→V):R2:=rI (fun i j=>C i j=true) g
theorem kX {K:PySem.W.Frag} {C:Int→Int→Bool} {g:Int→Int→PyData} {g':Int→Int→V} (hg:∀i j,Am (g i j)=some (g' i j)):jh K (An C g') (fT (mQ C g)):=by
  refine jZ fun d1 d2 d v1 v2 H Q e r1 r2=>?_
  unfold mQ at e
  split at e
  · split at e
    · cases e
      cases r1
      cases r2
      rename_i hC
      exact ⟨_,hg _ _,fun q=>⟨_,_,rfl,rfl,hC,q⟩⟩
    · cases e
  · cases e
section
variable {X:Cx}
theorem lR {i:Int} (h1: -Bv < i) (h2:i < Bv):Builtin.Int.intBits i≤2 ^ 20:=by
  unfold Bv at h1 h2
  have h:i.natAbs < 2 ^ 20000:=by
    have e:((2 ^ 20000:Nat):Int)=2 ^ 20000:=Int.natCast_pow 2 20000
    generalize (2 ^ 20000:Int)=z at h1 h2 e
    generalize (2 ^ 20000:Nat)=y at e ⊢
    omega
  unfold Builtin.Int.intBits
  split
  · exact Nat.zero_le _
  · rename_i hz
    have hz':i≠0:=by simpa using hz
    have:i.natAbs.log2 < 20000:=(Nat.log2_lt (by omega)).mpr h
    omega
theorem wv {i j:Int} (h:fA i j=true):PySem.IntMulOk i j:=by
  unfold fA at h
  simp only [Bool.or_eq_true,decide_eq_true_eq] at h
  rcases h with (h | h) | h
  · exact CMul.ok (.inl h)
  · exact CMul.ok (.inr h)
  · exact PySem.IntMulOk.of_bits (lR h.1 h.2.1) (lR h.2.2.1 h.2.2.2)
end
end PL
namespace PL
open PySem L2 Nh PyProof.Rows
abbrev lS:=L2.St
section
variable {X:Cx}
theorem OpR.or {f:Value→Value→Sem Value} {r r':R2} (h:OpR X f r) (h':OpR X f r'):OpR X f (fun x y H Q=>r x y H Q∨r' x y H Q):=by
  intro pins s σ H x y v u Q I rx ry q
  rcases q with q | q
  · exact h pins s σ H x y v u Q I rx ry q
  · exact h' pins s σ H x y v u Q I rx ry q
theorem OpR.imp {f:Value→Value→Sem Value} {r r':R2} (h:OpR X f r) (k:∀x y H Q,r' x y H Q→r x y H Q):OpR X f r':=fun pins s σ H x y v u Q I rx ry q=>h pins s σ H x y v u Q I rx ry (k _ _ _ _ q)
def Ao (K:PySem.W.Frag):R2:=fun x y H Q=>∃l b xs zs,x= .ref l∧y= .ref b∧SqL K H l xs∧SqL K H b zs∧xs.length+zs.length≤sizeLine∧∀p,H p=none→Q (.ref p) (upd H p (.lst (xs++zs)))
theorem yW:OpR X (binaryOp .Add) (Ao X.K):=by
  intro pins s σ H x y v u Q I rx ry h
  obtain ⟨l,b,xs,zs,rfl,rfl,hH,hB,hz,q⟩:=h
  cases rx
  cases ry
  obtain ⟨its,r,p1,z1⟩:=I.list hH
  obtain ⟨its2,r2,p2,z2⟩:=I.list hB
  obtain ⟨⟨cls,dd,data,sl⟩,ho,hc,n,hd⟩:=p1.isList
  obtain ⟨⟨cls2,dd2,data2,sl2⟩,ho2,hc2,n2,Ak⟩:=p2.isList
  simp only at hc hd hc2 Ak
  subst hc hd hc2 Ak
  have l1:=r.length
  have l2:=r2.length
  refine concat_meets ⟨_,ho,rfl⟩ ⟨_,ho2,rfl⟩ noFill_list_add seq_list_add PySem.F.slot_list_add PySem.F.entry_list_add (PySem.F.args_list_add_2 _ _) (list_addW l b its.toArray its2.toArray n n2 dd dd2 sl sl2 (by simp only [List.size_toArray];omega)) ⟨ho,ho2,?_⟩
  have ea:its.toArray++its2.toArray=(its++its2).toArray:=by simp
  rw [ea]
  exact ⟨.ref _,_,I.lnew (t':=s.toks) (r.append r2) (by rw [List.length_append];omega),rfl,q _ I.fresh⟩
def Ap (K:PySem.W.Frag):R2:=fun x y H Q=>∃l k xs,x= .ref l∧y= .int k∧SqL K H l xs∧ -(2 ^ 63)≤k∧k < 2 ^ 63∧xs.length*k.toNat≤sizeLine∧
  ∀p,H p=none→Q (.ref p) (upd H p (.lst (List.replicate k.toNat xs).flatten))
theorem yX:OpR X (binaryOp .Mult) (Ap X.K):=by
  intro pins s σ H x y v u Q I rx ry h
  obtain ⟨l,k,xs,rfl,rfl,hH,h1,h2,hz,q⟩:=h
  cases rx
  obtain ⟨t,rfl⟩:=ry
  obtain ⟨its,r,p1,z1⟩:=I.list hH
  obtain ⟨⟨cls,d,data,sl⟩,ho,hcl,n,hd⟩:=p1.isList
  simp only at hcl hd
  subst hcl hd
  have l1:=r.length
  have hsz:its.toArray.size*k.toNat≤2 ^ 24:=by rw [List.size_toArray,←l1];exact hz
  refine wpAny_binaryOp_repeat_ref (T:="list") (U:="int") (by decide) ⟨_,ho,rfl⟩ (fun s'=>typeIs_int s' k t) noFill_list_mul F.fills_int_mul F.slot_int_rmul repeat_list F.slot_int_index.lookup
    (call_meets F.slot_int_rmul (typeIs_int s k t) F.entry_int_rmul (F.args_int_rmul_2 _ _) (lm_int_rmul_list_any k t l its.toArray n d sl)
      ⟨ho,rfl,⟨_,ho,rfl⟩,call_meets F.slot_list_mul ⟨_,ho,rfl⟩ F.entry_list_mul (F.args_list_mul_2 _ _)
        (lm_list_mul_any l its.toArray n d sl k t (by simp [Builtin.List.listFitsIndex];omega) (by omega) (by simp [Builtin.List.listTooLong,sizeLine];omega))
        ⟨ho,?_⟩⟩)
  rw [listMul_foldl_if]
  exact ⟨.ref _,_,I.lnew (t':=s.toks) (r.rep k.toNat) (by rw [yS,Nat.mul_comm];exact hz),rfl,q _ I.fresh⟩
end
def aT:P2:=fun E s1 s2=>(look E s1).bind fun d1=>(look E s2).bind fun d2=>match d1,d2 with
  | .int i, .int j=>some (.sh (.int (i+j)),E)
  | .str a, .str b=>if a.length+b.length≤1000000 then some (.sh (.str (a++b)),E) else none
  | .list a, .list b=>if decide (a.length+b.length≤1000000)&&(!gP E s1||bd a)&&(!gP E s2||bd b) then some (.ow (a++b),E) else none
  | _,_=>none
theorem small {n:Nat} (h:n≤1000000):n < sizeLine:=Nat.lt_of_le_of_lt h (by rw [sizeLine_eq];decide)
theorem gD {n:Nat} (h:n≤1000000):n≤sizeLine:=Nat.le_of_lt (small h)
section
variable {K:PySem.W.Frag} {B F:Hp} {A:List Addr} {σ:lS} {H:Hp} {E:List Sl} {xs:List V} {Xs:List Sl} {v:V} {s:Sl} {ds:List PyData}
theorem FrF.items {k:Nat} (h:FrF K B F A σ H E xs Xs) (e:Xs[k]? =some s) (q:PL.look E s=some (.list ds)) (c:(!gP E s||bd ds)=true):∃a vs,xs[k]? =some (.ref a)∧SqL K H a vs∧RpA K F vs ds:=by
  obtain ⟨v,ev,r,f⟩:=h.look e q
  cases hh:gP E s with
  | false=>
    obtain ⟨a,vs,rfl,h1,h2⟩:=f hh
    exact ⟨a,vs,ev,h1,h2⟩
  | true=>
    rw [hh] at c
    cases r with
    | lst h1 h2=>exact ⟨_,_,ev,h1,h.coldA h2 (by simpa using c)⟩
theorem FrF.res2l {v1 v2:V} {s1 s2:Sl} {vs:List V} (h:FrF K B F A σ H E (v2::v1::xs) (s2::s1::Xs)) (r:RpA K F vs ds) {p:Addr} (hp:H p=none):Frm K B σ (upd H p (.lst vs)) E (.ref p::xs) (.ow ds::Xs):=by
  obtain ⟨A1,h⟩:=h.pop
  obtain ⟨A2,h⟩:=h.pop
  exact ⟨F,_,h.newl r hp⟩
end
abbrev Aq (K:PySem.W.Frag):R2:=fun x y H Q=>(∃i j,x= .int i∧y= .int j∧Q (.int (i+j)) H)∨(∃i j,x= .str i∧y= .str j∧i.length+j.length≤sizeLine∧Q (.str (i++j)) H)∨Ao K x y H Q
theorem yY {X:Cx}:OpR X (binaryOp .Add) (Aq X.K):=OpR.or A9 (OpR.or si yW)
theorem yZ {K:PySem.W.Frag}:jh K (Aq K) aT:=by
  intro B F A σ H E xs Xs v1 v2 s1 s2 res E' Q fr e q
  obtain ⟨d1,e1,e⟩:=Option.bind_eq_some_iff.mp e
  obtain ⟨d2,e2,e⟩:=Option.bind_eq_some_iff.mp e
  have r1:=(fr.look1 e1).1
  have r2:=(fr.look0 e2).1
  split at e
  · cases e;cases r1;cases r2
    exact .inl ⟨_,_,rfl,rfl,q _ _ (fr.res2 ⟨rfl,_,rfl, .int _⟩)⟩
  · split at e
    · rename_i hl
      cases e;cases r1;cases r2
      exact .inr (.inl ⟨_,_,rfl,rfl,gD hl,q _ _ (fr.res2 ⟨rfl,_,rfl, .str _⟩)⟩)
    · cases e
  · split at e
    · rename_i hc
      cases e
      simp only [Bool.and_eq_true,decide_eq_true_eq] at hc
      obtain ⟨a1,u1,x1,q1,i1⟩:=fr.items (k:=1) rfl e1 hc.1.2
      obtain ⟨a2,u2,x2,q2,i2⟩:=fr.items (k:=0) rfl e2 hc.2
      cases x1;cases x2
      have l1:=i1.len
      have l2:=i2.len
      exact .inr (.inr ⟨_,_,_,_,rfl,rfl,q1,q2,gD (by omega),fun p hp=>q _ _ (fr.res2l (i1.append i2) hp)⟩)
    · cases e
  · cases e
def sr:P2:=fT (mQ (fun _ _=>true) fun i j=> .int (i - j))
def bP:P2:=fT (mQ (fun _ j=>lQ j) fun i j=> .int (i / j))
def eJ:P2:=fT (mQ (fun _ j=>decide (0 < j)) fun i j=> .int (i % j))
def mR:P2:=fT (mQ (fun i j=>decide (0≤j∧j≤1000000∧ -(2 ^ 64) < i∧i < 2 ^ 64)) fun i j=> .int (i ^ j.toNat))
section
variable {X:Cx}
theorem y0:OpR X (binaryOp .Sub) (An (fun _ _=>true) fun i j=> .int (i - j)):=OpR.imp A_ fun x y H Q ⟨i,j,a,b,_,q⟩=>⟨i,j,a,b,q⟩
theorem ww:OpR X (binaryOp .FloorDiv) (An (fun _ j=>lQ j) fun i j=> .int (i / j)):=CG fun i j _ _ _ _ _ hc q=>by
  obtain ⟨h1,h2⟩:=of_decide_eq_true hc
  have h3:j.natAbs.log2 < 9000:=by
    have:j.natAbs < 2 ^ 200:=by omega
    have:=(Nat.log2_lt (n:=j.natAbs) (k:=200) (by omega)).mpr this
    omega
  exact floordiv_int (by omega) (by rw [Int.fdiv_eq_ediv_of_nonneg i (by omega)];exact q) (.inl (PyProof.noPylong_of_log2 h3))
theorem y9:OpR X (binaryOp .Mod) (An (fun _ j=>decide (0 < j)) fun i j=> .int (i % j)):=OpR.imp Ba fun x y H Q ⟨i,j,a,b,c,q⟩=>⟨i,j,a,b,of_decide_eq_true c,q⟩
theorem y_ {i j:Int} (c:0≤j∧j≤1000000∧ -(2 ^ 64) < i∧i < 2 ^ 64):CH i j:=⟨c.1,c.2.1,by omega⟩
theorem za:OpR X (binaryOp .Pow) (An (fun i j=>decide (0≤j∧j≤1000000∧ -(2 ^ 64) < i∧i < 2 ^ 64)) fun i j=> .int (i ^ j.toNat)):=OpR.imp Bb fun x y H Q ⟨i,j,a,b,c,q⟩=>⟨i,j,a,b,y_ (of_decide_eq_true c),q⟩
end
def fq:P2:=fun E s1 s2=>(look E s1).bind fun d1=>(look E s2).bind fun d2=>match d1,d2 with
  | .int i, .int j=>if fA i j then some (.sh (.int (i*j)),E) else none
  | .list a, .int k=>if decide (a.length*k.toNat≤1000000∧ -1000000≤k∧k≤1000000)&&(!gP E s1||bd a) then some (.ow (List.replicate k.toNat a).flatten,E) else none
  | _,_=>none
abbrev Ar (K:PySem.W.Frag):R2:=fun x y H Q=>An fA (fun i j=> .int (i*j)) x y H Q∨Ap K x y H Q
theorem zb {X:Cx}:OpR X (binaryOp .Mult) (Ar X.K):=OpR.or (CG fun _ _ _ _ _ _ _ hc q=>mul_int q (wv hc)) yX
theorem zc {K:PySem.W.Frag}:jh K (Ar K) fq:=by
  intro B F A σ H E xs Xs v1 v2 s1 s2 res E' Q fr e q
  obtain ⟨d1,e1,e⟩:=Option.bind_eq_some_iff.mp e
  obtain ⟨d2,e2,e⟩:=Option.bind_eq_some_iff.mp e
  have r1:=(fr.look1 e1).1
  have r2:=(fr.look0 e2).1
  split at e
  · split at e
    · rename_i hm
      cases e;cases r1;cases r2
      exact .inl ⟨_,_,rfl,rfl,hm,q _ _ (fr.res2 ⟨rfl,_,rfl, .int _⟩)⟩
    · cases e
  · split at e
    · rename_i hc
      cases e
      simp only [Bool.and_eq_true,decide_eq_true_eq] at hc
      obtain ⟨a1,u1,x1,q1,i1⟩:=fr.items (k:=1) rfl e1 hc.2
      cases x1;cases r2
      have l1:=i1.len
      exact .inr ⟨_,_,_,rfl,rfl,q1,by omega,by omega,gD (by rw [l1];exact hc.1.1),fun p hp=>q _ _ (fr.res2l (i1.rep _) hp)⟩
    · cases e
  · cases e
section
variable {X:Cx} {a b:Expr} {m1 m2:Bool} {f g:bq} {pos:Pos}
theorem bw (ha:EX X a m1 f) (hb:EX X b m2 g):EX X (.BinOp a .Add b pos) (m1||m2) (ag aT m2 f g):=lN yY yZ ha hb
theorem wx (ha:EX X a m1 f) (hb:EX X b m2 g):EX X (.BinOp a .Sub b pos) (m1||m2) (ag sr m2 f g):=lN y0 (kX fun _ _=>rfl) ha hb
theorem fH (ha:EX X a m1 f) (hb:EX X b m2 g):EX X (.BinOp a .Mult b pos) (m1||m2) (ag fq m2 f g):=lN zb zc ha hb
theorem fI (ha:EX X a m1 f) (hb:EX X b m2 g):EX X (.BinOp a .FloorDiv b pos) (m1||m2) (ag bP m2 f g):=lN ww (kX fun _ _=>rfl) ha hb
theorem fY (ha:EX X a m1 f) (hb:EX X b m2 g):EX X (.BinOp a .Mod b pos) (m1||m2) (ag eJ m2 f g):=lN y9 (kX fun _ _=>rfl) ha hb
theorem wy (ha:EX X a m1 f) (hb:EX X b m2 g):EX X (.BinOp a .Pow b pos) (m1||m2) (ag mR m2 f g):=lN za (kX fun _ _=>rfl) ha hb
end
def Eg (K:PySem.W.Frag) (r:V→Hp→VK→Prop) (op:PyData→Option PyData):Prop:=∀(d1 d:PyData) (v1:V) (H:Hp) (Q:VK),op d1=some d→Rp K H v1 d1→∃v,Am d=some v∧(Q v H→r v1 H Q)
def kj (op:PyData→Option PyData) (f:bq):bq:=fun E=>(f E).bind fun a=>(look a.2 a.1).bind fun d1=>(op d1).map fun d=>(.sh d,a.2)
theorem C7 {K:PySem.W.Frag} {r:V→Hp→VK→Prop} {op:PyData→Option PyData} (hp:Eg K r op) {m:Bool} {f:bq} {σ:lS} {H:Hp} {Q:VK} (h:rd K m (kj op f) σ H Q):rd K m f σ H (fun x H1=>r x H1 Q):=by
  obtain ⟨B,E,xs,Xs,res,E',fr,c,e,q⟩:=h
  obtain ⟨⟨s1,E1⟩,e1,e⟩:=Option.bind_eq_some_iff.mp e
  obtain ⟨d1,e2,e⟩:=Option.bind_eq_some_iff.mp e
  obtain ⟨d,e3,e⟩:=Option.map_eq_some_iff.mp e
  cases e
  refine ⟨B,E,xs,Xs,s1,E1,fr,c,e1,fun v1 H1 ⟨F,A,fr1⟩=>?_⟩
  obtain ⟨v,hv,k⟩:=hp d1 d v1 H1 Q e3 (fr1.look0 e2).1
  obtain ⟨A',fr2⟩:=fr1.pop
  exact k (q v H1 ⟨F,A',fr2.push ⟨rfl,v,rfl,mO hv⟩⟩)
def zd:PyData→Option PyData
  | .int i=>some (.int (-i))
  | _=>none
section
variable {X:Cx} {a b c:Expr} {m1 m2 m3:Bool} {f g h:bq} {pos:Pos}
theorem Bw (ha:EX X a m1 f):EX X (.UnaryOp .USub a pos) m1 (kj zd f):=b_ (CF Be ha) fun σ H Q h=>C7 (r:=rU fun i=> .int (-i)) (fun d1 d v1 H Q e r=>by
  cases d1 <;> simp [zd] at e
  cases e;cases r
  exact ⟨_,rfl,fun q=>⟨_,rfl,q⟩⟩) h
end
def yo (d1 d2:PyData):Option Bool:=match d1,d2 with
  | .int i, .int j=>some (decide (i=j))
  | .str a, .str b=>some (decide (a=b))
  | .bool a, .bool b=>some (decide (a=b))
  | .none, .none=>some true
  | .none, .str _=>some false
  | .str _, .none=>some false
  | d1,d2=>if SeqAt.shaped d1&&SeqAt.shaped d2 then some (PyData.eqv d1 d2) else none
def i5:P2:=fT fun d1 d2=>(yo d1 d2).map fun b=> .bool b
def qK:P2:=fT fun d1 d2=>(yo d1 d2).map fun b=> .bool (!b)
abbrev Eh (K:PySem.W.Frag):R2:=fun x y H Q=>Ez x y H Q∨C3 K x y H Q
abbrev Ek (K:PySem.W.Frag):R2:=fun x y H Q=>EA x y H Q∨C4 K x y H Q
theorem wz {K:PySem.W.Frag} {H:Hp} {v1 v2:V} {d1 d2:PyData} {b:Bool} (e:yo d1 d2=some b) (r1:Rp K H v1 d1) (r2:Rp K H v2 d2):
    (Bf v1 v2=true∧decide (v1=v2)=b)∨(DOf K H v1 d1∧DOf K H v2 d2∧SeqAt.shaped d1=true∧SeqAt.shaped d2=true∧PyData.eqv d1 d2=b):=by
  unfold yo at e
  split at e
  · cases e;cases r1;cases r2;exact .inl ⟨rfl,by simp⟩
  · cases e;cases r1;cases r2;exact .inl ⟨rfl,by simp⟩
  · cases e;cases r1;cases r2;exact .inl ⟨rfl,by simp⟩
  · cases e;cases r1;cases r2;exact .inl ⟨rfl,rfl⟩
  · cases e;cases r1;cases r2;exact .inl ⟨rfl,rfl⟩
  · cases e;cases r1;cases r2;exact .inl ⟨rfl,rfl⟩
  · split at e
    · rename_i hs
      cases e
      simp only [Bool.and_eq_true] at hs
      exact .inr ⟨r1.dof hs.1,r2.dof hs.2,hs.1,hs.2,rfl⟩
    · cases e
theorem wA {K:PySem.W.Frag}:jh K (Eh K) i5:=jZ fun d1 d2 d v1 v2 H Q e r1 r2=>by
  obtain ⟨b,e',rfl⟩:=Option.map_eq_some_iff.mp e
  refine ⟨_,rfl,fun q=>?_⟩
  rcases wz e' r1 r2 with ⟨a,rfl⟩ | ⟨a1,a2,a3,a4,rfl⟩
  · exact .inl ⟨a,q⟩
  · exact .inr ⟨_,_,a1,a2,a3,a4,q⟩
theorem Bx {K:PySem.W.Frag}:jh K (Ek K) qK:=jZ fun d1 d2 d v1 v2 H Q e r1 r2=>by
  obtain ⟨b,e',rfl⟩:=Option.map_eq_some_iff.mp e
  refine ⟨_,rfl,fun q=>?_⟩
  rcases wz e' r1 r2 with ⟨a,rfl⟩ | ⟨a1,a2,a3,a4,rfl⟩
  · exact .inl ⟨a,q⟩
  · exact .inr ⟨_,_,a1,a2,a3,a4,q⟩
def u8 (K:PySem.W.Frag) (r:R2) (op:PyData→PyData→Option PyData):Prop:=∀(d1 d2 d:PyData) (v1 v2:V) (H:Hp) (Q:VK),op d1 d2=some d→Rp K H v1 d1→Rp K H v2 d2→∃v,Am d=some v∧(Q v H→r v1 v2 H Q)
def mS (op op':PyData→PyData→Option PyData) (m2 m3:Bool) (f g h:bq):bq:=fun E=>(f E).bind fun a=>if (m2||m3)&&a.1.isBr then none else (g a.2).bind fun b=>if m3&&b.1.isBr then none else
  (look b.2 a.1).bind fun d1=>(look b.2 b.1).bind fun d2=>match op d1 d2 with
    | some (.bool true)=>(h b.2).bind fun c=>(look c.2 b.1).bind fun d2=>(look c.2 c.1).bind fun d3=>(op' d2 d3).map fun d=>(.sh d,c.2)
    | some (.bool false)=>some (.sh (.bool false),b.2)
    | _=>none
section
variable {X:Cx} {a b c:Expr} {m1 m2 m3:Bool} {f g h:bq} {pos:Pos}
theorem wB (hu:X.A.units+64 < cLine) (ha:EX X a m1 f) (hb:EX X b m2 g):EX X (.Compare a [.Eq] [b] pos) (m1||m2) (ag i5 m2 f g):=sq (OpR.or Ag (wq hu)) wA ha hb (pe _)
theorem ji (hu:X.A.units+64 < cLine) (ha:EX X a m1 f) (hb:EX X b m2 g):TX X (.Compare a [.Eq] [b] pos) (m1||m2) (eI (ag i5 m2 f g)):=pG (OpR.or Ag (wq hu)) wA ha hb (pe _)
theorem tV (hu:X.A.units+64 < cLine) (ha:EX X a m1 f) (hb:EX X b m2 g):TX X (.Compare a [.NotEq] [b] pos) (m1||m2) (eI (ag qK m2 f g)):=pG (OpR.or CI (Bp hu)) Bx ha hb (pe _)
theorem wC {K:PySem.W.Frag} {r r':R2} {op op':PyData→PyData→Option PyData} (k:u8 K r op) (k':u8 K r' op') {σ:lS} {H:Hp} {Q:VK} (z:rd K (m1||(m2||m3)) (mS op op' m2 m3 f g h) σ H Q):wf r r' (rd K m1 f) (rd K m2 g) (rd K m3 h) σ H Q:=by
  obtain ⟨B,E,xs,Xs,res,E',fr,cl,e,q⟩:=z
  obtain ⟨⟨s1,E1⟩,e1,e⟩:=Option.bind_eq_some_iff.mp e
  by_cases hb:((m2||m3)&&s1.isBr)=true
  · rw [if_pos hb] at e;cases e
  rw [if_neg hb] at e
  obtain ⟨⟨s2,E2⟩,e2,e⟩:=Option.bind_eq_some_iff.mp e
  by_cases hb2:(m3&&s2.isBr)=true
  · rw [if_pos hb2] at e;cases e
  rw [if_neg hb2] at e
  obtain ⟨d1,l1,e⟩:=Option.bind_eq_some_iff.mp e
  obtain ⟨d2,l2,e⟩:=Option.bind_eq_some_iff.mp e
  have n1:(m2||m3)=true→s1.isBr=false:=fun z=>by
    cases hs:s1.isBr with
    | false=>rfl
    | true=>exact absurd (by rw [z,hs];rfl) hb
  have n2:m3=true→s2.isBr=false:=fun z=>by
    cases hs:s2.isBr with
    | false=>rfl
    | true=>exact absurd (by rw [z,hs];rfl) hb2
  refine ⟨B,E,xs,Xs,s1,E1,fr,fun z=>cl (by simp [z]),e1,fun v1 H1 fr1=>?_⟩
  refine ⟨B,E1,v1::xs,s1::Xs,s2,E2,fr1,fun z=>Calm.cons (cl (by simp [z])) (n1 (by simp [z])),e2,fun v2 H2 ⟨F,A,fr2⟩=>?_⟩
  cases ho:op d1 d2 with
  | none=>rw [ho] at e;cases e
  | some d=>
    rw [ho] at e
    obtain ⟨v,hv,kk⟩:=k d1 d2 d v1 v2 H2 (fun z H3=>∃k,z= .bl k∧(if k=true then rd K m3 h σ H3 fun w' H4=>r' v2 w' H4 Q else Q (.bl false) H3)) ho (fr2.look1 l1).1 (fr2.look0 l2).1
    cases d with
    | bool t=>
      cases hv
      refine kk ⟨t,rfl,?_⟩
      cases t with
      | true=>
        rw [if_pos rfl]
        obtain ⟨⟨s3,E3⟩,e3,e⟩:=Option.bind_eq_some_iff.mp e
        obtain ⟨d2',l2',e⟩:=Option.bind_eq_some_iff.mp e
        obtain ⟨d3,l3,e⟩:=Option.bind_eq_some_iff.mp e
        obtain ⟨d,ho',e⟩:=Option.map_eq_some_iff.mp e
        cases e
        refine ⟨B,E2,v2::v1::xs,s2::s1::Xs,s3,E3,⟨F,A,fr2⟩,fun z=>Calm.cons (Calm.cons (cl (by simp [z])) (n1 (by simp [z]))) (n2 z),e3,fun v3 H3 ⟨F3,A3,fr3⟩=>?_⟩
        obtain ⟨v,hv,kk⟩:=k' d2' d3 d v2 v3 H3 Q ho' (fr3.look1 l2').1 (fr3.look0 l3).1
        obtain ⟨A4,fr4⟩:=fr3.pop
        exact kk (q v H3 (fr4.res2 ⟨rfl,v,rfl,mO hv⟩))
      | false=>
        rw [if_neg (by decide)]
        cases e
        exact q _ _ (fr2.res2 ⟨rfl,_,rfl, .bl _⟩)
    | none=>cases e
    | int i=>cases e
    | str x=>cases e
    | list xs=>cases e
    | tuple xs=>cases e
    | dict kvs=>cases e
theorem wD {o1 o2:CmpOp} {r r':R2} {op op':PyData→PyData→Option PyData} (ho:OpR X (compareOp o1) r) (ho':OpR X (compareOp o2) r') (k:u8 X.K r op) (k':u8 X.K r' op') (ha:EX X a m1 f) (hb:EX X b m2 g) (hc:EX X c m3 h)
    (hm:lastMarks [o1,o2] [b,c]=false:=by with_unfolding_all rfl):EX X (.Compare a [o1,o2] [b,c] pos) (m1||(m2||m3)) (mS op op' m2 m3 f g h):=b_ (wg ho ho' ha hb hc hm) fun _ _ _ z=>wC k k' z
end
end PL
namespace PL
open PySem L2 Nh
def kl (f g:bq):bq:=fun E=>(f E).bind fun a=>match a.1 with
  | .sh (.bool true)=>g a.2
  | .sh (.bool false)=>some (.sh (.bool false),a.2)
  | _=>none
def j4 (f g:kW):kW:=fun E=>(f E).bind fun a=>if a.1 then some (true,a.2) else g a.2
def fB (f:kW):kW:=fun E=>(f E).map fun a=>(!a.1,a.2)
def jJ:PyData→Option Bool
  | .none=>some false
  | .bool b=>some b
  | .int i=>some (i != 0)
  | .str x=>if x.length≤1000000 then some ((x.length:Int) != 0) else none
  | .list xs=>some (!xs.isEmpty)
  | .tuple xs=>some (!xs.isEmpty)
  | .dict _=>none
def eW (f:bq):kW:=fun E=>(f E).bind fun a=>match a.1 with
  | .al i=>match a.2[i]? with
    | some (.od kvs)=>some (!kvs.isEmpty,a.2)
    | some s=>(s.val.bind jJ).map fun b=>(b,a.2)
    | none=>none
  | s=>(s.val.bind jJ).map fun b=>(b,a.2)
section
variable {X:Cx} {a b c:Expr} {gr:List Expr} {m1 m2 m3:Bool} {f g h:bq} {t u:kW} {pos:Pos} {K:PySem.W.Frag}
theorem wE {op} (h:EX X a m1 f):EX X (.BoolOp op [a] pos) m1 f:=AO h
theorem pH (ha:EX X a m1 f) (hb:EX X (.BoolOp .And (b::gr) pos) m2 g):EX X (.BoolOp .And (a::b::gr) pos) (m1||m2) (kl f g):=by
  refine b_ (AQ ha hb) fun σ H Q z=>?_
  obtain ⟨B,E,xs,Xs,res,E',fr,cl,e,q⟩:=z
  obtain ⟨⟨s1,E1⟩,e1,e⟩:=Option.bind_eq_some_iff.mp e
  refine ⟨B,E,xs,Xs,s1,E1,fr,fun z=>cl (by simp [z]),e1,fun v1 H1 ⟨F,A,fr1⟩=>?_⟩
  simp only at e
  split at e
  · obtain ⟨r,_⟩:=fr1.look0 (d:= .bool true) rfl
    cases r
    obtain ⟨A',fr2⟩:=fr1.pop
    exact ⟨true,rfl,(if_pos rfl).mpr ⟨B,E1,xs,Xs,res,E',⟨F,A',fr2⟩,fun z=>cl (by simp [z]),e,q⟩⟩
  · cases e
    obtain ⟨r,_⟩:=fr1.look0 (d:= .bool false) rfl
    cases r
    exact ⟨false,rfl,(if_neg (by decide)).mpr (q _ _ ⟨F,A,fr1⟩)⟩
  · cases e
theorem wF (ha:TX X a m1 t):WX X (.BoolOp .Or [a] pos) m1 t:=AM ha
theorem tW (ha:TX X a m1 t) (hb:WX X (.BoolOp .Or (b::gr) pos) m2 u):WX X (.BoolOp .Or (a::b::gr) pos) (m1||m2) (j4 t u):=by
  refine Bs (Cq ha hb) fun σ H Q z=>?_
  obtain ⟨B,E,xs,Xs,res,E',fr,cl,e,q⟩:=z
  obtain ⟨⟨b1,E1⟩,e1,e⟩:=Option.bind_eq_some_iff.mp e
  refine ⟨B,E,xs,Xs,b1,E1,fr,fun z=>cl (by simp [z]),e1,fun H1 fr1=>?_⟩
  cases b1 with
  | true=>cases e;exact (if_pos rfl).mpr (q _ fr1)
  | false=>exact (if_neg (by decide)).mpr ⟨B,E1,xs,Xs,res,E',fr1,fun z=>cl (by simp [z]),e,q⟩
theorem C8 (h:WX X a m1 t):TX X a m1 t:=PW.pt h
theorem kY (ha:TX X a m1 t):TX X (.UnaryOp .Not a pos) m1 (fB t):=by
  refine sm (AN ha) fun σ H Q z=>?_
  obtain ⟨B,E,xs,Xs,res,E',fr,cl,e,q⟩:=z
  obtain ⟨⟨b1,E1⟩,e1,e⟩:=Option.map_eq_some_iff.mp e
  cases e
  exact ⟨B,E,xs,Xs,b1,E1,fr,cl,e1,fun H1 fr1=>q _ fr1⟩
theorem By {H:Hp} {v:V} {d:PyData} {b:Bool} (r:Rp K H v d) (e:jJ d=some b):wj K v H b:=by
  cases r with
  | non=>cases e;rfl
  | bl b=>cases e;rfl
  | int i=>cases e;rfl
  | str x=>
    simp only [jJ] at e
    split at e
    · rename_i hl
      cases e
      exact ⟨gD hl,rfl⟩
    · cases e
  | lst h r=>cases e;exact .inl ⟨_,h,by cases r <;> rfl⟩
  | tup h r=>cases e;exact .inr (.inl ⟨_,h,by cases r <;> rfl⟩)
  | dct h r=>cases e
theorem h9 (ha:EX X a m1 f) (he:∀whole,isTrue a X.env whole=(do let v ←whole;standAt a.pos;holding [v] (truthy v)):=by exact fun _=>rfl):TX X a m1 (eW f):=by
  refine sm (wk ha he) fun σ H Q z=>?_
  obtain ⟨B,E,xs,Xs,res,E',fr,cl,e,q⟩:=z
  obtain ⟨⟨s,E1⟩,e1,e⟩:=Option.bind_eq_some_iff.mp e
  refine ⟨B,E,xs,Xs,s,E1,fr,cl,e1,fun v1 H1 ⟨F,A,fr1⟩=>?_⟩
  have key:∀d,look E1 s=some d→(jJ d).map (fun b=>(b,E1))=some (res,E')→∃k,wj X.K v1 H1 k∧Q k H1:=fun d l e=>by
    obtain ⟨b,e',z⟩:=Option.map_eq_some_iff.mp e
    cases z
    obtain ⟨A',fr2⟩:=fr1.pop
    exact ⟨_,By (fr1.look0 l).1 e',q _ ⟨F,A',fr2⟩⟩
  have kv:(s.val.bind jJ).map (fun b=>(b,E1))=some (res,E')→(∀i,s≠ .al i)→∃k,wj X.K v1 H1 k∧Q k H1:=fun e na=>by
    obtain ⟨b,e',z⟩:=Option.map_eq_some_iff.mp e
    obtain ⟨d,e1,e2⟩:=Option.bind_eq_some_iff.mp e'
    refine key d ?_ (by rw [e2];exact congrArg some z)
    cases s <;> first | exact e1 | exact absurd rfl (na _)
  simp only at e
  split at e
  · rename_i i
    split at e
    · rename_i kvs ei
      cases e
      obtain ⟨v',A1,ev,rfl,w,ew,hw⟩:=fr1.ext (k:=0) rfl
      cases ev;cases ew
      obtain ⟨o,A1,eo,l,us,A2,rfl,_,hl,r⟩:=fr1.var ei
      rw [hw] at eo
      cases eo
      obtain ⟨A',fr2⟩:=fr1.pop
      exact ⟨_, .inr (.inr ⟨_,hl,by cases us <;> cases kvs <;> first | rfl | exact False.elim r⟩),q _ ⟨F,A',fr2⟩⟩
    · rename_i s' _ ei
      obtain ⟨b,e',z⟩:=Option.map_eq_some_iff.mp e
      obtain ⟨d,e1,e2⟩:=Option.bind_eq_some_iff.mp e'
      exact key d (by simp [look,ei,e1]) (by rw [e2];exact congrArg some z)
    · cases e
  · rename_i na
    exact kv e na
end
def aj:qJ:=fun E=>some ([],E)
def ae (m2:Bool) (f:bq) (g:qJ):qJ:=fun E=>(f E).bind fun a=>if m2&&a.1.isBr then none else (g a.2).map fun b=>(a.1::b.1,b.2)
def cM:mD:=fun E=>some ([],E)
def dI (f:bq) (g:mD):mD:=fun E=>(f E).bind fun a=>(frz a.2 a.1).bind fun b=>(g b.2).map fun c=>(b.1::c.1,c.2)
def u9 (f:mD):bq:=fun E=>(f E).bind fun a=>if a.1.length≤1000000 then some (.sh (.tuple a.1),a.2) else none
def cA (f:mD):bq:=fun E=>(f E).bind fun a=>if a.1.length≤1000000 then some (.ow a.1,a.2) else none
section
variable {X:Cx} {e:Expr} {es:List Expr} {m1 m2:Bool} {f:bq} {g:qJ} {d:mD} {pos:Pos} {K:PySem.W.Frag}
theorem aq:AX X [] false aj:=by
  refine pE gC fun σ H Q z=>?_
  obtain ⟨B,E,xs,Xs,res,E',fr,cl,e,q⟩:=z
  cases e
  exact q [] H rfl fr
theorem ai (ha:EX X e m1 f) (hr:AX X es m2 g) (hs:starEach (e::es) X.env=(false,eval e X.env)::starEach es X.env:=by rfl):AX X (e::es) (m1||m2) (ae m2 f g):=by
  refine pE (eH ha hr hs) fun σ H Q z=>?_
  obtain ⟨B,E,xs,Xs,res,E',fr,cl,e,q⟩:=z
  obtain ⟨⟨s,E1⟩,e1,e⟩:=Option.bind_eq_some_iff.mp e
  by_cases hb:(m2&&s.isBr)=true
  · rw [if_pos hb] at e;cases e
  rw [if_neg hb] at e
  obtain ⟨⟨rs,E2⟩,e2,e⟩:=Option.map_eq_some_iff.mp e
  cases e
  refine ⟨B,E,xs,Xs,s,E1,fr,fun z=>cl (by simp [z]),e1,fun v1 H1 fr1=>?_⟩
  refine ⟨B,E1,v1::xs,s::Xs,rs,E2,fr1,fun z=>Calm.cons (cl (by simp [z])) ?_,e2,fun vs H2 hl fr2=>?_⟩
  · cases hs:s.isBr with
    | false=>rfl
    | true=>exact absurd (by simp [z,hs]) hb
  · exact q (v1::vs) H2 (by simp [hl]) (by simpa using fr2)
theorem eX:DX X [] false cM:=by
  refine pE gC fun σ H Q z=>?_
  obtain ⟨B,E,xs,Xs,res,E',fr,cl,e,q⟩:=z
  cases e
  exact q [] H rfl fr
theorem fJ (ha:EX X e m1 f) (hr:DX X es m2 d) (hs:starEach (e::es) X.env=(false,eval e X.env)::starEach es X.env:=by rfl):DX X (e::es) (m1||m2) (dI f d):=by
  refine pE (eH ha hr hs) fun σ H Q z=>?_
  obtain ⟨B,E,xs,Xs,res,E',fr,cl,e,q⟩:=z
  obtain ⟨⟨s,E1⟩,e1,e⟩:=Option.bind_eq_some_iff.mp e
  obtain ⟨⟨d1,E2⟩,e2,e⟩:=Option.bind_eq_some_iff.mp e
  obtain ⟨⟨rs,E3⟩,e3,e⟩:=Option.map_eq_some_iff.mp e
  cases e
  refine ⟨B,E,xs,Xs,s,E1,fr,fun z=>cl (by simp [z]),e1,fun v1 H1 ⟨F,A,fr1⟩=>?_⟩
  obtain ⟨F2,A2,fr2⟩:=fr1.frz0 e2
  refine ⟨B,E2,v1::xs, .sh d1::Xs,rs,E3,⟨F2,A2,fr2⟩,fun z=>Calm.cons (cl (by simp [z])) rfl,e3,fun vs H2 hl fr2=>?_⟩
  exact q (v1::vs) H2 (by simp [hl]) (by simpa using fr2)
theorem FrF.shsR {B F:Hp} {σ:lS} {H:Hp} {E:List Sl} {xs:List V} {Xs:List Sl}:∀{us:List V} {es:List PyData} {A:List Addr},us.length=es.length→FrF K B F A σ H E (us++xs) (es.map .sh++Xs)→RpA K F us es∧∃A',FrF K B F A' σ H E xs Xs
  | [],[],A,_,h=>⟨.nil,A,h⟩
  | u::us,e::es,A,hl,h=>by
    obtain ⟨v,A1,ev,rfl,w,ew,r⟩:=h.ext (k:=0) rfl
    cases ev;cases ew
    obtain ⟨A',h'⟩:=FrF.pop (xs:=us++xs) (Xs:=es.map .sh++Xs) h
    obtain ⟨r',q⟩:=FrF.shsR (by simpa using hl) h'
    exact ⟨.cons r r',q⟩
  | [],_::_,_,e,_=>by cases e
  | _::_,[],_,e,_=>by cases e
theorem FrF.shs {B F:Hp} {σ:lS} {H:Hp} {E:List Sl} {xs:List V} {Xs:List Sl} {us:List V} {es:List PyData} {A:List Addr} (hl:us.length=es.length) (h:FrF K B F A σ H E (us.reverse++xs) (es.reverse.map .sh++Xs)):RpA K F us es∧∃A',FrF K B F A' σ H E xs Xs:=by
  obtain ⟨r,q⟩:=FrF.shsR (by simpa using hl) h
  have:=r.rev
  rw [List.reverse_reverse,List.reverse_reverse] at this
  exact ⟨this,q⟩
theorem wG {x1} (h:DX X es m1 d):EX X (.Tuple es x1 pos) m1 (u9 d):=by
  refine b_ (Bh h) fun σ H Q z=>?_
  obtain ⟨B,E,xs,Xs,res,E',fr,cl,e,q⟩:=z
  obtain ⟨⟨ds,E1⟩,e1,e⟩:=Option.bind_eq_some_iff.mp e
  simp only at e
  split at e
  · rename_i hl
    cases e
    refine ⟨B,E,xs,Xs,ds,_,fr,cl,e1,fun vs H1 hv ⟨F,A,fr1⟩=>?_⟩
    obtain ⟨r,A',fr2⟩:=fr1.shs hv
    exact ⟨gD (by omega),fun p hp=>q _ _ ⟨_,_,fr2.newt r hp⟩⟩
  · cases e
theorem fK (h:DX X es m1 d):EX X (.List es pos) m1 (cA d):=by
  refine b_ (Bi h) fun σ H Q z=>?_
  obtain ⟨B,E,xs,Xs,res,E',fr,cl,e,q⟩:=z
  obtain ⟨⟨ds,E1⟩,e1,e⟩:=Option.bind_eq_some_iff.mp e
  simp only at e
  split at e
  · rename_i hl
    cases e
    refine ⟨B,E,xs,Xs,ds,_,fr,cl,e1,fun vs H1 hv ⟨F,A,fr1⟩=>?_⟩
    obtain ⟨r,A',fr2⟩:=fr1.shs hv
    exact ⟨gD (by omega),fun p hp=>q _ _ ⟨_,_,fr2.newl r hp⟩⟩
  · cases e
end
def u_ (ds:List PyData) (lo hi:Option Int):List PyData:=(ds.drop (HT.mC ds.length 0 lo)).take (HT.mC ds.length ds.length hi - HT.mC ds.length 0 lo)
def mE:P2:=fun E s1 s2=>(look E s1).bind fun d1=>(look E s2).bind fun d2=>match d2 with
  | .int i=>match d1 with
    | .list ds=>(atI ds i).map fun d=>(if gP E s1&& !cV d then .br d else .sh d,E)
    | .tuple ds=>(atI ds i).map fun d=>(if gP E s1&& !cV d then .br d else .sh d,E)
    | .str z=>if z.length≤1000000 then (atI z.cps.toList i).map fun c=>(.sh (.str ⟨#[c]⟩),E) else none
    | _=>none
  | _=>none
section
variable {K:PySem.W.Frag} {H:Hp}
theorem RpA.atI {vs:List V} {ds:List PyData} {i:Int} {d:PyData} (h:RpA K H vs ds) (e:L2.atI ds i=some d):∃v,L2.atI vs i=some v∧Rp K H v d:=by
  unfold L2.atI at e ⊢
  obtain ⟨j,e1,e2⟩:=Option.bind_eq_some_iff.mp e
  obtain ⟨v,ev,r⟩:=h.get e2
  exact ⟨v,by rw [h.len,e1];exact ev,r⟩
theorem FrF.item {B F:Hp} {A:List Addr} {σ:lS} {E:List Sl} {xs:List V} {Xs:List Sl} {v1 v2 v:V} {s1 s2:Sl} {d:PyData} (fr:FrF K B F A σ H E (v2::v1::xs) (s2::s1::Xs)) (r:Rp K H v d) (f:gP E s1=false→Rp K F v d):
    Frm K B σ H E (v::xs) ((if gP E s1&& !cV d then .br d else .sh d)::Xs):=by
  by_cases hc:(gP E s1&& !cV d)=true
  · rw [if_pos hc]
    exact fr.res2 ⟨rfl,v,rfl,r⟩
  · rw [if_neg hc]
    refine fr.res2 ⟨rfl,v,rfl,?_⟩
    cases hh:gP E s1 with
    | false=>exact f hh
    | true=>
      rw [hh] at hc
      exact fr.cold r (by simpa using hc)
theorem Bz:jh K (EB K) mE:=by
  intro B F A σ H E xs Xs v1 v2 s1 s2 res E' Q fr e q
  obtain ⟨d1,e1,e⟩:=Option.bind_eq_some_iff.mp e
  obtain ⟨d2,e2,e⟩:=Option.bind_eq_some_iff.mp e
  obtain ⟨r1,f1⟩:=fr.look1 e1
  have r2:=(fr.look0 e2).1
  split at e
  · cases r2
    split at e
    · obtain ⟨d,ed,e⟩:=Option.map_eq_some_iff.mp e
      cases e
      cases hh:gP E s1 with
      | false=>
        obtain ⟨a,vs,rfl,h1,h2⟩:=f1 hh
        obtain ⟨v,ev,rv⟩:=h2.atI ed
        have z:=fr.item (rv.same fr.fh) fun _=>rv
        rw [hh] at z q
        exact .inl ⟨_,_,_,v,rfl,rfl,h1,ev,q _ _ z⟩
      | true=>
        cases r1 with
        | lst h1 h2=>
          obtain ⟨v,ev,rv⟩:=h2.atI ed
          have z:=fr.item rv fun h=>absurd (hh.symm.trans h) (by decide)
          rw [hh] at z q
          exact .inl ⟨_,_,_,v,rfl,rfl,h1,ev,q _ _ z⟩
    · obtain ⟨d,ed,e⟩:=Option.map_eq_some_iff.mp e
      cases e
      cases hh:gP E s1 with
      | false=>
        have h0:Rp K F v1 _:=f1 hh
        cases h0 with
        | tup h1 h2=>
          obtain ⟨v,ev,rv⟩:=h2.atI ed
          have z:=fr.item (rv.same fr.fh) fun _=>rv
          rw [hh] at z q
          exact .inr (.inl ⟨_,_,_,v,rfl,rfl,fr.fh.tup h1,ev,q _ _ z⟩)
      | true=>
        cases r1 with
        | tup h1 h2=>
          obtain ⟨v,ev,rv⟩:=h2.atI ed
          have z:=fr.item rv fun h=>absurd (hh.symm.trans h) (by decide)
          rw [hh] at z q
          exact .inr (.inl ⟨_,_,_,v,rfl,rfl,h1,ev,q _ _ z⟩)
    · split at e
      · rename_i hl
        obtain ⟨c,ec,e⟩:=Option.map_eq_some_iff.mp e
        cases e;cases r1
        exact .inr (.inr ⟨_,_,c,rfl,rfl,gD hl,ec,q _ _ (fr.res2 ⟨rfl,_,rfl, .str _⟩)⟩)
      · cases e
    · cases e
  · cases e
end
end PL
namespace L2
open PySem PySem.Spec PyProof.Rows
section
variable {κ:Type} [DecidableEq κ]
def ml (kvs:List (κ×V)) (k:κ):Option V:=(kvs.find? fun kv=>decide (kv.1=k)).map (·.2)
def qL (kvs:List (κ×V)) (k:κ) (v:V):List (κ×V):=
  if (kvs.any fun kv=>decide (kv.1=k))=true then kvs.map (fun kv=>if kv.1=k then (kv.1,v) else kv) else kvs++[(k,v)]
def As (kvs:List (κ×V)) (k:κ):List (κ×V):=kvs.filter fun kv=>decide (kv.1≠k)
theorem mT {p:κ×V} {r:List (κ×V)} {k:κ} (e:p.1=k):ml (p::r) k=some p.2:=by simp [ml,List.find?_cons,e]
theorem mU {p:κ×V} {r:List (κ×V)} {k:κ} (e:¬p.1=k):ml (p::r) k=ml r k:=by simp [ml,List.find?_cons,e]
theorem qM (k:κ):∀kvs:List (κ×V),(kvs.any fun kv=>decide (kv.1=k))=(ml kvs k).isSome
  | []=>rfl
  | p::r=>by
    rw [List.any_cons]
    by_cases e:p.1=k
    · simp only [mT e,decide_eq_true e,Bool.true_or,Option.isSome_some]
    · rw [mU e,decide_eq_false e,Bool.false_or];exact qM k r
theorem RelO.isSome_eq {o:Option V} {u:Option Value} (r:RelO o u):o.isSome=u.isSome:=by
  cases o with
  | none=>cases u with
    | none=>rfl
    | some _=>exact (show False from r).elim
  | some _=>cases u with
    | none=>exact (show False from r).elim
    | some _=>rfl
theorem RelO.getD {o:Option V} {u:Option Value} {d:V} {d':Value} (r:RelO o u) (rd:RelV d d'):RelV (o.getD d) (u.getD d'):=by
  cases o with
  | none=>cases u with
    | none=>exact rd
    | some _=>exact (show False from r).elim
  | some _=>cases u with
    | none=>exact (show False from r).elim
    | some _=>exact r
theorem KV.val {kvs:List (κ×V)} {vs:List (κ×Value)} (r:KV kvs vs) (k:κ):RelO (ml kvs k) (valueAt vs k):=by
  unfold KV at r
  induction r with
  | nil=>exact True.intro
  | @cons p q ps qs h t ih=>
    obtain ⟨h1,h2⟩:=h
    by_cases e:p.1=k
    · have e':q.1=k:=h1.symm.trans e
      have b:valueAt (q::qs) k=some q.2:=by simp [valueAt,List.find?_cons,e']
      rw [mT e,b];exact h2
    · have e':¬q.1=k:=fun z=>e (h1.trans z)
      have b:valueAt (q::qs) k=valueAt qs k:=by simp [valueAt,List.find?_cons,e']
      rw [mU e,b];exact ih
theorem KV.any {kvs:List (κ×V)} {vs:List (κ×Value)} (r:KV kvs vs) (k:κ):(kvs.any fun kv=>decide (kv.1=k))=vs.any fun kv=>decide (kv.1=k):=by
  unfold KV at r
  induction r with
  | nil=>rfl
  | cons h t ih=>rw [List.any_cons,List.any_cons,ih,h.1]
theorem KV.repl {kvs:List (κ×V)} {vs:List (κ×Value)} (r:KV kvs vs) (k:κ) {y:V} {u:Value} (ry:RelV y u):
    KV (kvs.map fun kv=>if kv.1=k then (kv.1,y) else kv) (vs.map fun kv=>if kv.1=k then (kv.1,u) else kv):=by
  unfold KV at r ⊢
  induction r with
  | nil=>exact .nil
  | @cons p q ps qs h t ih=>
    rw [List.map_cons,List.map_cons]
    refine .cons ?_ ih
    obtain ⟨h1,h2⟩:=h
    by_cases e:p.1=k
    · rw [if_pos e,if_pos (h1.symm.trans e)];exact ⟨h1,ry⟩
    · rw [if_neg e,if_neg (fun z=>e (h1.trans z))];exact ⟨h1,h2⟩
theorem KV.put {kvs:List (κ×V)} {vs:List (κ×Value)} (r:KV kvs vs) (k:κ) {y:V} {u:Value} (ry:RelV y u):KV (qL kvs k y) (stored vs k u):=by
  unfold qL stored
  rw [r.any k]
  by_cases e:(vs.any fun kv=>decide (kv.1=k))=true
  · rw [if_pos e,if_pos e];exact r.repl k ry
  · rw [if_neg e,if_neg e];exact Paired.snoc r ⟨rfl,ry⟩
theorem KV.drop {kvs:List (κ×V)} {vs:List (κ×Value)} (r:KV kvs vs) (k:κ):KV (As kvs k) (without vs k):=by
  unfold KV at r ⊢
  unfold As without
  induction r with
  | nil=>exact .nil
  | @cons p q ps qs h t ih=>
    obtain ⟨h1,h2⟩:=h
    rw [List.filter_cons,List.filter_cons]
    by_cases e:p.1=k
    · have a:¬decide (p.1≠k)=true:=by simp [e]
      have b:¬decide (q.1≠k)=true:=by simp [h1.symm.trans e]
      rw [if_neg a,if_neg b];exact ih
    · have e':¬q.1=k:=fun z=>e (h1.trans z)
      have a:decide (p.1≠k)=true:=by simp [e]
      have b:decide (q.1≠k)=true:=by simp [e']
      rw [if_pos a,if_pos b];exact .cons ⟨h1,h2⟩ ih
theorem KV.keys {kvs:List (κ×V)} {vs:List (κ×Value)} (r:KV kvs vs):kvs.map (·.1)=vs.map (·.1):=by
  unfold KV at r
  induction r with
  | nil=>rfl
  | cons h t ih=>rw [List.map_cons,List.map_cons,ih,h.1]
theorem KV.length {kvs:List (κ×V)} {vs:List (κ×Value)} (r:KV kvs vs):kvs.length=vs.length:=Paired.length r
end
abbrev KT (H:Hp):List (List fX×V)→List (List fX×Addr×Value)→Prop:=Paired fun p q=>p.1=q.1∧H q.2.1=some (.tup (p.1.map kV))∧RelV p.2 q.2.2
theorem KT.val {H:Hp} {kvs:List (List fX×V)} {xs:List (List fX×Addr×Value)} (r:KT H kvs xs) (k:List fX):RelO (ml kvs k) ((atKey xs k).map (·.2)):=by
  induction r with
  | nil=>exact True.intro
  | @cons p q ps qs h t ih=>
    obtain ⟨h1,_,h2⟩:=h
    by_cases e:p.1=k
    · have e':q.1=k:=h1.symm.trans e
      have b:atKey (q::qs) k=some q.2:=by simp [atKey,List.find?_cons,e']
      rw [mT e,b];exact h2
    · have e':¬q.1=k:=fun z=>e (h1.trans z)
      have b:atKey (q::qs) k=atKey qs k:=by simp [atKey,List.find?_cons,e']
      rw [mU e,b];exact ih
theorem KT.repl {H:Hp} {kvs:List (List fX×V)} {xs:List (List fX×Addr×Value)} (r:KT H kvs xs) (k:List fX) {y:V} {u:Value} (ry:RelV y u):
    KT H (kvs.map fun kv=>if kv.1=k then (kv.1,y) else kv) (xs.map (putAt k u)):=by
  induction r with
  | nil=>exact .nil
  | @cons p q ps qs h t ih=>
    rw [List.map_cons,List.map_cons]
    refine .cons ?_ ih
    obtain ⟨h1,h2,h3⟩:=h
    unfold putAt
    by_cases e:p.1=k
    · rw [if_pos e,if_pos (h1.symm.trans e)];exact ⟨h1,h2,ry⟩
    · rw [if_neg e,if_neg (fun z=>e (h1.trans z))];exact ⟨h1,h2,h3⟩
theorem KT.put {H:Hp} {kvs:List (List fX×V)} {xs:List (List fX×Addr×Value)} (r:KT H kvs xs) (k:List fX) {b:Addr} {y:V} {u:Value} (hb:H b=some (.tup (k.map kV))) (ry:RelV y u):
    KT H (qL kvs k y) (storedH xs k b u):=by
  have e:(kvs.any fun kv=>decide (kv.1=k))=(atKey xs k).isSome:=by
    rw [qM,(r.val k).isSome_eq,Option.isSome_map]
  unfold qL storedH
  rw [e]
  by_cases q:(atKey xs k).isSome=true
  · rw [if_pos q,if_pos q];exact r.repl k ry
  · rw [if_neg q,if_neg q];exact Paired.snoc r ⟨rfl,hb,ry⟩
theorem KT.keeps {H H':Hp} {kvs:List (List fX×V)} {xs:List (List fX×Addr×Value)} (r:KT H kvs xs) (ht:∀b ys,H b=some (.tup ys)→H' b=some (.tup ys)):KT H' kvs xs:=
  Paired.mapP r fun _ _ z=>⟨z.1,ht _ _ z.2.1,z.2.2⟩
section
variable {P:Program} {w:World} {H:Hp} {h:Heap} {a:Addr}
theorem C9 {u:HO} (ok:HOk P w H h) (e:Rd H a u):ObjOk P w H h a u:=e.ok ok
theorem C_ {kvs:List (fX×V)} (ok:HOk P w H h) (e:Rd H a (.dK kvs)):kvs.length≤sizeLine∧(a == sysModules)=false∧∃vs,KV kvs vs∧h.DictOf (mB P w) a vs:=
  show ObjOk P w H h a (.dK kvs) from C9 ok e
end
def DGet (H:Hp) (a:Addr) (y:V) (r:Option V):Prop:=
  (∃kvs k,Rd H a (.dK kvs)∧y=kV k∧r=ml kvs k)∨∃kvs k b,Rd H a (.dT kvs)∧y= .ref b∧H b=some (.tup (k.map kV))∧r=ml kvs k
def DPut (H:Hp) (a:Addr) (y v:V) (H':Hp):Prop:=
  (∃kvs k,H a=some (.dK kvs)∧y=kV k∧kvs.length < sizeLine∧H'=upd H a (.dK (qL kvs k v)))∨
  ∃kvs k b,H a=some (.dT kvs)∧y= .ref b∧H b=some (.tup (k.map kV))∧kvs.length < sizeLine∧H'=upd H a (.dT (qL kvs k v))
theorem DGet.k {H:Hp} {a:Addr} {kvs:List (fX×V)} {k:fX} (e:H a=some (.dK kvs)):DGet H a (kV k) (ml kvs k):= .inl ⟨kvs,k, .inl e,rfl,rfl⟩
theorem DGet.t {H:Hp} {a b:Addr} {kvs:List (List fX×V)} {k:List fX} (e:H a=some (.dT kvs)) (eb:H b=some (.tup (k.map kV))):DGet H a (.ref b) (ml kvs k):= .inr ⟨kvs,k,b, .inl e,rfl,eb,rfl⟩
theorem DPut.k {H:Hp} {a:Addr} {kvs:List (fX×V)} {k:fX} {v:V} (e:H a=some (.dK kvs)) (hl:kvs.length < sizeLine):DPut H a (kV k) v (upd H a (.dK (qL kvs k v))):= .inl ⟨kvs,k,e,rfl,hl,rfl⟩
theorem DPut.t {H:Hp} {a b:Addr} {kvs:List (List fX×V)} {k:List fX} {v:V} (e:H a=some (.dT kvs)) (eb:H b=some (.tup (k.map kV))) (hl:kvs.length < sizeLine):
    DPut H a (.ref b) v (upd H a (.dT (qL kvs k v))):= .inr ⟨kvs,k,b,e,rfl,eb,hl,rfl⟩
section
variable {X:Cx} {pins:List (Addr×Obj)} {σ:St} {H:Hp} {s:Shared} {a:Addr} {y v:V} {u r:Value} {o:Option V} {A:Around} {E:Value→Shared→Prop}
theorem Inv.big (I:Inv X pins σ H s):sysModules < s.heap.objs.size:=by
  have h:mainGlobals < s.heap.objs.size:=(I.mod.glob.keeps I.bk).lt
  exact Nat.lt_trans (by decide) h
end
structure M1 (X:Cx) (o:Expr) (m:Str) (apos:Pos) (e:Expr) (cpos:Pos):Prop where
  base:attributeBase o m X.env (eval o X.env)=eval o X.env
  few:((backTo cpos (starEach [e] X.env)).all (fun x=> !x.1)&&(backToKw cpos (keywordEach [] X.env)).all (fun x=>x.1.isSome)
    &&decide (([e]:List Expr).length+([]:List Keyword).length+(if ([]:List Keyword).isEmpty then 0 else 1) < 30))=true
  line:(apos.endLine == cpos.line)=true
  trees:backTo cpos (starEach [e] X.env)=[(false,eval e X.env)]
end L2
namespace PL
open PySem L2 Nh
theorem mV {X:Cx} {a b:Expr} {m1 m2:Bool} {f g:bq} {pos:Pos} (ha:EX X a m1 f) (hb:EX X b m2 g) (hs:tM b:=by exact fun _ _=>rfl):EX X (.Subscript a b pos) (m1||m2) (ag mE m2 f g):=b_ (CS Bl ha hb hs) fun _ _ _ h=>pF Bz h
abbrev BA:=List Sl→Option (Option Int×List Sl)
def ro (K:PySem.W.Frag) (m:Bool) (f:BA):TO:=fun σ H Q=>∃B E xs Xs o E',Frm K B σ H E xs Xs∧(m=true→Calm Xs)∧f E=some (o,E')∧∀H',Frm K B σ H' E' xs Xs→Q o H'
def OX (X:Cx) (e:Option Expr) (m:Bool) (f:BA):Prop:=PO X e (ro X.K m f)
def jM:BA:=fun E=>some (none,E)
def d4 (f:bq):BA:=fun E=>(f E).bind fun a=>match look a.2 a.1 with
  | some (.int i)=>some (some i,a.2)
  | _=>none
section
variable {X:Cx} {e:Expr} {lo hi:Option Expr} {m1 m2 m3:Bool} {f:bq} {g h:BA} {pos p2:Pos} {K:PySem.W.Frag}
theorem wH {e:Option Expr} {t t':TO} (h:PO X e t) (k:∀σ H Q,t' σ H Q→t σ H Q):PO X e t':=fun pins s σ H Q I q=>h pins s σ H Q I (k σ H Q q)
theorem pI:OX X none false jM:=wH yM fun σ H Q z=>by
  obtain ⟨B,E,xs,Xs,res,E',fr,cl,e,q⟩:=z
  cases e
  exact q _ fr
theorem iO (he:EX X e m1 f):OX X (some e) m1 (d4 f):=wH (yN he) fun σ H Q z=>by
  obtain ⟨B,E,xs,Xs,res,E',fr,cl,e,q⟩:=z
  obtain ⟨⟨s,E1⟩,e1,e⟩:=Option.bind_eq_some_iff.mp e
  refine ⟨B,E,xs,Xs,s,E1,fr,cl,e1,fun v1 H1 ⟨F,A,fr1⟩=>?_⟩
  simp only at e
  split at e
  · rename_i i l
    cases e
    have r:=(fr1.look0 l).1
    cases r
    obtain ⟨A',fr2⟩:=fr1.pop
    exact ⟨i,rfl,q _ ⟨F,A',fr2⟩⟩
  · cases e
theorem RpA.cut {F:Hp} {vs:List V} {ds:List PyData} (h:RpA K F vs ds) (lo hi:Option Int):RpA K F (uY vs lo hi) (u_ ds lo hi):=by
  unfold uY u_
  rw [h.len]
  exact (h.drop _).take _
end
def bQ (E:List Sl):List Sl→Option (List PyData)
  | []=>some []
  | s::ss=>(look E s).bind fun d=>(bQ E ss).map fun ds=>d::ds
theorem lookA_iff {E:List Sl}:∀{ss:List Sl} {ds:List PyData},bQ E ss=some ds↔Paired (fun s d=>look E s=some d) ss ds
  | [],ds=>⟨fun h=>by cases h;exact .nil,fun h=>by cases h;rfl⟩
  | s::ss,ds=>by
    constructor
    · intro h
      obtain ⟨d,h1,h⟩:=Option.bind_eq_some_iff.mp h
      obtain ⟨es,h2,h⟩:=Option.map_eq_some_iff.mp h
      cases h
      exact .cons h1 (lookA_iff.mp h2)
    · intro h
      cases h with
      | cons h1 h2=>simp [bQ,h1,lookA_iff.mpr h2]
theorem va {E:List Sl} {ss:List Sl} {ds:List PyData} (h:bQ E ss=some ds):bQ E ss.reverse=some ds.reverse:=lookA_iff.mpr (jX (lookA_iff.mp h))
section
variable {X:Cx} {K:PySem.W.Frag} {B F:Hp} {σ:lS} {H:Hp} {E:List Sl} {xs:List V} {Xs:List Sl}
theorem FrF.looksR:∀{us:List V} {ts:List Sl} {es:List PyData} {A:List Addr},us.length=ts.length→FrF K B F A σ H E (us++xs) (ts++Xs)→bQ E ts=some es→RpA K H us es∧∃A',FrF K B F A' σ H E xs Xs
  | [],[],es,A,_,h,e=>by cases e;exact ⟨.nil,A,h⟩
  | u::us,t::ts,es,A,hl,h,e=>by
    obtain ⟨d,h1,e⟩:=Option.bind_eq_some_iff.mp e
    obtain ⟨es',h2,e⟩:=Option.map_eq_some_iff.mp e
    cases e
    have r:=(FrF.look0 (xs:=us++xs) (Xs:=ts++Xs) h h1).1
    obtain ⟨A',h'⟩:=FrF.pop (xs:=us++xs) (Xs:=ts++Xs) h
    obtain ⟨r',q⟩:=FrF.looksR (by simpa using hl) h' h2
    exact ⟨.cons r r',q⟩
  | [],_::_,_,_,e,_,_=>by cases e
  | _::_,[],_,_,e,_,_=>by cases e
theorem FrF.looks {us:List V} {ts:List Sl} {es:List PyData} {A:List Addr} (hl:us.length=ts.length) (h:FrF K B F A σ H E (us.reverse++xs) (ts.reverse++Xs)) (e:bQ E ts=some es):RpA K H us es∧∃A',FrF K B F A' σ H E xs Xs:=by
  obtain ⟨r,q⟩:=FrF.looksR (by simpa using hl) h (va e)
  have:=r.rev
  rw [List.reverse_reverse,List.reverse_reverse] at this
  exact ⟨this,q⟩
end
def wI (K:PySem.W.Frag) (r:List V→Hp→VK→Prop) (op:List PyData→Option PyData):Prop:=∀(ds:List PyData) (d:PyData) (vs:List V) (H:Hp) (Q:VK),op ds=some d→RpA K H vs ds→∃v,Am d=some v∧(Q v H→r vs H Q)
def bB (op:List PyData→Option PyData) (g:qJ):bq:=fun E=>(g E).bind fun a=>(bQ a.2 a.1).bind fun ds=>(op ds).map fun d=>(.sh d,a.2)
theorem BB {K:PySem.W.Frag} {r:List V→Hp→VK→Prop} {op:List PyData→Option PyData} (hp:wI K r op) {m:Bool} {g:qJ} {σ:lS} {H:Hp} {Q:VK} (h:rd K m (bB op g) σ H Q):D9 r (ra K m g) σ H Q:=by
  obtain ⟨B,E,xs,Xs,res,E',fr,cl,e,q⟩:=h
  obtain ⟨⟨rs,E1⟩,e1,e⟩:=Option.bind_eq_some_iff.mp e
  obtain ⟨ds,e2,e⟩:=Option.bind_eq_some_iff.mp e
  obtain ⟨d,e3,e⟩:=Option.map_eq_some_iff.mp e
  cases e
  refine ⟨B,E,xs,Xs,rs,E1,fr,cl,e1,fun vs H1 hl ⟨F,A,fr1⟩=>?_⟩
  obtain ⟨r1,A',fr2⟩:=fr1.looks hl e2
  obtain ⟨v,hv,k⟩:=hp ds d vs H1 Q e3 r1
  exact k (q v H1 ⟨F,A',fr2.push ⟨rfl,v,rfl,mO hv⟩⟩)
def d7:List PyData→Option PyData
  | [.list xs]=>some (.int xs.length)
  | [.tuple xs]=>some (.int xs.length)
  | [.str z]=>if z.length≤1000000 then some (.int z.length) else none
  | _=>none
def nU:List PyData→Option PyData
  | [.int i]=>some (.int (if i < 0 then -i else i))
  | _=>none
theorem RpA.one {K:PySem.W.Frag} {H:Hp} {vs:List V} {d:PyData} (h:RpA K H vs [d]):∃v,vs=[v]∧Rp K H v d:=by
  cases h with
  | cons h t=>cases t;exact ⟨_,rfl,h⟩
theorem RpA.two {K:PySem.W.Frag} {H:Hp} {vs:List V} {d e:PyData} (h:RpA K H vs [d,e]):∃v u,vs=[v,u]∧Rp K H v d∧Rp K H u e:=by
  cases h with
  | cons h t=>
    obtain ⟨u,rfl,r⟩:=t.one
    exact ⟨_,_,rfl,h,r⟩
section
variable {X:Cx} {e:Expr} {es:List Expr} {m1:Bool} {g:qJ} {p pos:Pos} {K:PySem.W.Frag}
abbrev Da (K:PySem.W.Frag):List V→Hp→VK→Prop:=fun xs H Q=>(∃p ys,xs=[.ref p]∧(SqL K H p ys∨SqT K H p ys)∧Q (.int ys.length) H)∨(∃z,xs=[.str z]∧z.length≤sizeLine∧Q (.int z.length) H)
theorem ze:wI K (Da K) d7:=fun ds d vs H Q e r=>by
  unfold d7 at e
  split at e
  · cases e
    obtain ⟨v,rfl,r'⟩:=r.one
    cases r' with
    | lst h1 h2=>exact ⟨_,rfl,fun q=> .inl ⟨_,_,rfl, .inl h1,by rw [h2.len];exact q⟩⟩
  · cases e
    obtain ⟨v,rfl,r'⟩:=r.one
    cases r' with
    | tup h1 h2=>exact ⟨_,rfl,fun q=> .inl ⟨_,_,rfl, .inr h1,by rw [h2.len];exact q⟩⟩
  · split at e
    · rename_i hl
      cases e
      obtain ⟨v,rfl,r'⟩:=r.one
      cases r'
      exact ⟨_,rfl,fun q=> .inr ⟨_,rfl,gD hl,q⟩⟩
    · cases e
  · cases e
theorem kn {x:Str} {id:String} {r:List V→Hp→VK→Prop} {op:List PyData→Option PyData} (hp:wI X.K r op) (hc:CallR X (.builtin id) r) (hg:Gl X x) (hm:X.mg x=none) (hv:bootBuiltins x=some (.builtin id)) (ha:AX X (e::es) m1 g) (hn:x≠"__name__":=by decide) (hdb:(x == ("__debug__":Str))=false:=by decide)
    (he:starEach (e::es) X.env=(false,eval e X.env)::starEach es X.env:=by rfl) (hpl:(backTo pos (starEach es X.env)).any (·.1)=false:=by rfl):EX X (.Call (.Name x p) (e::es) [] pos) m1 (bB op g):=
  b_ (jf hc hg hm hv ha hn hdb he hpl) fun _ _ _ h=>BB hp h
theorem fZ (hg:Gl X "len") (hm:X.mg "len"=none) (ha:AX X [e] m1 g) (he:starEach [e] X.env=[(false,eval e X.env)]:=by rfl):EX X (.Call (.Name "len" p) [e] [] pos) m1 (bB d7 g):=kn ze (CallR.or pk pq) hg hm PySem.boot_len ha (by decide) (by decide) he rfl
theorem BC (hg:Gl X "abs") (hm:X.mg "abs"=none) (ha:AX X [e] m1 g) (he:starEach [e] X.env=[(false,eval e X.env)]:=by rfl):EX X (.Call (.Name "abs" p) [e] [] pos) m1 (bB nU g):=kn (fun ds d vs H Q e r=>by
  unfold nU at e
  split at e
  · cases e
    obtain ⟨v,rfl,r'⟩:=r.one
    cases r'
    exact ⟨_,rfl,fun q=>⟨_,rfl,q⟩⟩
  · cases e) wl hg hm PyProof.Rows.boot_abs ha (by decide) (by decide) he rfl
end
def kZ (g:bq):bq:=fun E=>(g E).bind fun a=>match look a.2 a.1 with
  | some (.list ds)=>if !gP a.2 a.1||bd ds then some (.ow ds,a.2) else none
  | some (.tuple ds)=>if !gP a.2 a.1||bd ds then some (.ow ds,a.2) else none
  | _=>none
section
variable {X:Cx} {e:Expr} {m1:Bool} {f:bq} {p pos:Pos} {K:PySem.W.Frag}
theorem zf (hg:Gl X "list") (hm:X.mg "list"=none) (ha:EX X e m1 f) (he:starEach [e] X.env=[(false,eval e X.env)]:=by rfl):EX X (.Call (.Name "list" p) [e] [] pos) m1 (kZ f):=by
  refine b_ (ou pv hg hm PyProof.Rows.boot_list (eH ha gC he) (by decide) (by decide) he rfl) fun σ H Q z=>?_
  obtain ⟨B,E,xs,Xs,res,E',fr,cl,e,q⟩:=z
  obtain ⟨⟨s,E1⟩,e1,e⟩:=Option.bind_eq_some_iff.mp e
  refine ⟨B,E,xs,Xs,s,E1,fr,cl,e1,fun v1 H1 ⟨F,A,fr1⟩=>?_⟩
  obtain ⟨A',fr2⟩:=fr1.pop
  simp only at e
  split at e
  · rename_i ds ld
    split at e
    · rename_i hc
      cases e
      obtain ⟨a,vs,ev,h1,h2⟩:=fr1.items (k:=0) rfl ld hc
      cases ev
      exact ⟨a,vs,rfl, .inl h1,fun l hl=>q _ _ ⟨F,_,fr2.newl h2 hl⟩⟩
    · cases e
  · rename_i ds ld
    split at e
    · rename_i hc
      cases e
      obtain ⟨r,f0⟩:=fr1.look0 ld
      cases hh:gP E' s with
      | false=>
        have h0:Rp X.K F v1 _:=f0 hh
        cases h0 with
        | tup h1 h2=>exact ⟨_,_,rfl, .inr (fr1.fh.tup h1),fun l hl=>q _ _ ⟨F,_,fr2.newl h2 hl⟩⟩
      | true=>
        rw [hh] at hc
        cases r with
        | tup h1 h2=>exact ⟨_,_,rfl, .inr h1,fun l hl=>q _ _ ⟨F,_,fr2.newl (fr1.coldA h2 (by simpa using hc)) hl⟩⟩
    · cases e
  · cases e
end
inductive Ty where
  | non | bool | int | str | list | tuple | dict
def Ty.name:Ty→String
  | .non=>"NoneType"
  | .bool=>"bool"
  | .int=>"int"
  | .str=>"str"
  | .list=>"list"
  | .tuple=>"tuple"
  | .dict=>"dict"
def Ty.is:Ty→Ty→Bool
  | .non, .non=>true
  | .bool, .bool=>true
  | .bool, .int=>true
  | .int, .int=>true
  | .str, .str=>true
  | .list, .list=>true
  | .tuple, .tuple=>true
  | .dict, .dict=>true
  | _,_=>false
def yp:PyData→Ty
  | .none=> .non
  | .bool _=> .bool
  | .int _=> .int
  | .str _=> .str
  | .list _=> .list
  | .tuple _=> .tuple
  | .dict _=> .dict
theorem Db (K:PySem.W.Frag) (t n:Ty):PySem.W.kitOne K (.type t.name) (.type n.name)=some (t.is n):=by cases t <;> cases n <;> rfl
def ie (n:Ty) (d:PyData):Option PyData:=some (.bool ((yp d).is n))
section
variable {X:Cx} {e:Expr} {m1:Bool} {f:bq} {p p2 pos:Pos}
theorem vb {pins:List (Addr×Obj)} {s:Shared} {σ:lS} {H:Hp} {x:V} {u:Value} {d:PyData} {n:Ty} {A:Around} {E:Value→Shared→Prop} {Q:Value→Shared→Prop} (I:Inv X pins σ H s) (rx:RelV x u) (rp:Rp X.K H x d) (h:∀tk,Q (.bool ((yp d).is n)) {s with toks:=tk}):
    wpAny (model X.prog X.w) A (call (.builtin "isinstance") [u, .type n.name]) Q E s:=by
  have e:=Db X.K (yp d) n
  cases rp with
  | non=>exact jz I rx .non e h
  | bl b=>exact jz I rx (.bl b) e h
  | int i=>exact jz I rx (.int i) e h
  | str y=>exact jz I rx (.str y) e h
  | lst h1 _=>
    cases rx
    obtain ⟨its,rv,⟨o,n',e1,c,_,d⟩,_⟩:=I.list h1
    exact PySem.W.kia_one PySem.W.kitx_list I.kIn ⟨_,e1,c⟩ e (fun z=>nomatch z) h
  | tup h1 _=>
    cases rx
    obtain ⟨its,rv,⟨o,e1,c,n',d⟩,_⟩:=I.tuple h1
    exact PySem.W.kia_one PySem.W.kitx_tuple I.kIn ⟨_,e1,c⟩ e (fun z=>nomatch z) h
  | dct h1 _=>
    cases rx
    obtain ⟨_,_,vs,_,ob,es,ep,e1,c,_⟩:=C_ I.hok h1
    exact PySem.W.kia_one PySem.W.kitx_dict I.kIn ⟨_,e1,c.1⟩ e (fun z=>nomatch z) h
theorem vc (n:Ty):CallR X (.builtin "isinstance") (fun xs H Q=>∃x d,xs=[x, .ty n.name]∧Rp X.K H x d∧Q (.bl ((yp d).is n)) H):=by
  intro pins s σ H xs us Q I r h
  obtain ⟨x,d,rfl,rp,q⟩:=h
  obtain ⟨u,w',rfl,ru,rw'⟩:=r.two
  cases (show w'=Value.type n.name from rw')
  exact vb I ru rp fun tk=>⟨.bl _,H,I.tok _,rfl,q⟩
theorem k_ (n:Ty) (hg:Gl X "isinstance") (hm:X.mg "isinstance"=none) (ha:EX X e m1 f) {x:Str} (hgx:Gl X x) (hmx:X.mg x=none) (hbx:bootBuiltins x=some (.type n.name)) (hnx:x≠"__name__":=by decide) (hdx:(x == ("__debug__":Str))=false:=by decide)
    (he:starEach [e, .Name x p2] X.env=(false,eval e X.env)::starEach [.Name x p2] X.env:=by rfl) (he2:starEach [.Name x p2] X.env=[(false,eval (.Name x p2) X.env)]:=by rfl) (hpl:(backTo pos (starEach [.Name x p2] X.env)).any (·.1)=false:=by rfl):
    EX X (.Call (.Name "isinstance" p) [e, .Name x p2] [] pos) m1 (kj (ie n) f):=by
  have h2:PE X (.Name x p2) (tC (.ty n.name)):=yx (v:= .ty n.name) hgx hmx hbx rfl hnx hdx
  refine b_ (jf (vc n) hg hm PyProof.Rows.boot_isinstance (eH ha (eH h2 gC he2) he) (by decide) (by decide) he hpl) fun σ H Q z=>?_
  obtain ⟨B,E,xs,Xs,res,E',fr,cl,e,q⟩:=z
  obtain ⟨⟨s,E1⟩,e1,e⟩:=Option.bind_eq_some_iff.mp e
  obtain ⟨d1,e2,e⟩:=Option.bind_eq_some_iff.mp e
  cases e
  refine ⟨B,E,xs,Xs,s,E1,fr,cl,e1,fun v1 H1 ⟨F,A,fr1⟩=>?_⟩
  obtain ⟨A',fr2⟩:=fr1.pop
  exact ⟨v1,d1,rfl,(fr1.look0 e2).1,q _ _ ⟨F,A',fr2.push ⟨rfl,_,rfl, .bl _⟩⟩⟩
end
end PL
namespace PL
open PySem L2 Nh
def tX (K:PySem.W.Frag) (H H':Hp) (v:V):Sl→Prop
  | .sh d=>Rp K (tups H') v d
  | .ow ds=>∃l vs,v= .ref l∧H l=none∧H' l=some (.lst vs)∧RpA K (tups H') vs ds
  | .tx ps=>∃t vs A,v= .ref t∧tups H' t=some (.tup vs)∧A.Nodup∧(∀a∈A,H a=none)∧PtsOk K (tups H') H' vs ps A
  | .od kvs=>∃l us A,v= .ref l∧(l::A).Nodup∧(∀a∈l::A,H a=none)∧H' l=some (.dK us)∧DlOk K (tups H') H' us kvs A
  | .br d=>Rp K H' v d
  | _=>False
def cL (K:PySem.W.Frag) (c:List PyData→Option Sl):Sp:=fun vs H Q _=>∃ds r,c ds=some r∧RpA K H vs ds∧∀v H',Same H H'→tX K H H' v r→Q v H'
section
variable {K:PySem.W.Frag} {B F:Hp} {A N:List Addr} {σ:lS} {H H':Hp} {E:List Sl} {xs:List V} {Xs:List Sl} {v:V} {s:Sl}
theorem FrF.growN (h:FrF K B F A σ H E xs Xs) (g:Same H H') (hN:∀a∈N,H a=none∧((∃us,H' a=some (.lst us))∨∃us,H' a=some (.dK us))):FrF K B (fun b=>if b∈N then none else if b∈A then none else H' b) A σ H' E xs Xs:=by
  have h1:=h.grow g
  have nF:∀b o,F b=some o→b∉N:=fun b o e hb=>by
    have:=h.fh.free (hN b hb).1
    rw [this] at e;cases e
  have FF:Same F (fun b=>if b∈N then none else if b∈A then none else H' b):=fun b o e=>by
    have nA:b∉A:=fun hb=>by rw [h.fr b hb] at e;cases e
    show (if b∈N then none else if b∈A then none else H' b)=some o
    rw [if_neg (nF b o e),if_neg nA]
    exact g _ _ (h.fh _ _ e)
  have hA:∀b∈A,H' b=H b:=fun b hb=>by
    rcases h.mutA b hb with ⟨_,z⟩ | ⟨_,z⟩ <;> rw [z,g _ _ z]
  refine ⟨h.bf.trans FF,fun b o e=>?_,fun b o e=>?_,h.sl.mono fun o s C _ hC q=>q.stay FF (fun b hb=>hA b (hC b hb)) fun _=>g,h.nd,fun a ha=>?_,h.len,h.pl⟩
  · by_cases hb:b∈N
    · rw [if_pos hb] at e;cases e
    · rw [if_neg hb] at e;exact h1.fh _ _ e
  · show (if b∈N then none else if b∈A then none else H' b)=some o
    by_cases hb:b∈N
    · obtain ⟨e1,e2⟩:=Option.filter_eq_some_iff.mp e
      rcases (hN b hb).2 with ⟨us,z⟩ | ⟨us,z⟩ <;> rw [z] at e1 <;> cases e1 <;> cases e2
    · rw [if_neg hb];exact h1.tf _ _ e
  · show (if a∈N then none else if a∈A then none else H' a)=none
    by_cases hb:a∈N
    · rw [if_pos hb]
    · rw [if_neg hb,if_pos ha]
theorem FrF.pushR (h:FrF K B F A σ H E xs Xs) (q:SlOk K F H σ (some v) s N) (nd:N.Nodup) (dj:∀a∈N,a∉A) (fr:∀a∈N,F a=none):FrF K B F (N++A) σ H E (v::xs) (s::Xs):=
  ⟨h.bf,h.fh,h.tf, .cons q h.sl,List.nodup_append.mpr ⟨nd,h.nd,fun a ha b hb e=>dj a ha (e▸hb)⟩,fun a ha=>(List.mem_append.mp ha).elim (fr a) (h.fr a),by simp [h.len],h.pl⟩
theorem FrF.told (h:FrF K B F A σ H E xs Xs) (g:Same H H') (q:tX K H H' v s):Frm K B σ H' E (v::xs) (s::Xs):=by
  cases s with
  | sh d=>
    have h1:=h.grow g
    exact ⟨_,_,h1.push ⟨rfl,v,rfl,Rp.same h1.tf q⟩⟩
  | ow ds=>
    obtain ⟨l,vs,rfl,hl,hl',r⟩:=q
    have h1:=h.growN (N:=[l]) g fun a ha=>by rw [List.mem_singleton.mp ha];exact ⟨hl, .inl ⟨vs,hl'⟩⟩
    exact ⟨_,_,h1.pushR (N:=[l]) ⟨l,vs,rfl,rfl,hl',r.same h1.tf⟩ (by simp) (fun a ha=>by rw [List.mem_singleton.mp ha];exact h.newA hl) fun a ha=>if_pos ha⟩
  | tx ps=>
    obtain ⟨t,vs,N,rfl,ht,nd,hN,r⟩:=q
    have h1:=h.growN (N:=N) g fun a ha=>⟨hN a ha, .inl (r.some a ha)⟩
    exact ⟨_,_,h1.pushR (N:=N) ⟨t,vs,rfl,h1.tf _ _ ht,r.stay h1.tf fun _ _=>rfl⟩ nd (fun a ha=>h.newA (hN a ha)) fun a ha=>if_pos ha⟩
  | no=>exact False.elim q
  | od kvs=>
    obtain ⟨l,us,N,rfl,nd,hN,hl,r⟩:=q
    have h1:=h.growN (N:=l::N) g fun a ha=>⟨hN a ha,(List.mem_cons.mp ha).elim (fun z=> .inr ⟨us,z▸hl⟩) fun z=> .inl (r.some a z)⟩
    exact ⟨_,_,h1.pushR (N:=l::N) ⟨l,us,N,rfl,rfl,hl,r.stay h1.tf fun _ _=>rfl⟩ nd (fun a ha=>h.newA (hN a ha)) fun a ha=>if_pos ha⟩
  | al i=>exact False.elim q
  | br d=>
    have h1:=h.grow g
    exact ⟨_,_,h1.push ⟨rfl,v,rfl,q⟩⟩
end
def ak (c:List PyData→Option Sl) (g:qJ):bq:=fun E=>(g E).bind fun a=>(bQ a.2 a.1).bind fun ds=>(c ds).map fun r=>(r,a.2)
theorem aD {X:Cx} {k:Nat} {x:Str} {ps:List Str} {c:List PyData→Option Sl} {p pos:Pos} {e:Expr} {es:List Expr} {m:Bool} {g:qJ} (D:Own X.prog X.w X.K X.mg X.base k x ps (cL X.K c)) (hr:Room k X.A) (hg:Gl X x) (ha:AX X (e::es) m g)
    (hdb:(x == ("__debug__":Str))=false:=by decide) (he:starEach (e::es) X.env=(false,eval e X.env)::starEach es X.env:=by rfl) (hpl:(backTo pos (starEach es X.env)).any (·.1)=false:=by rfl):
    EX X (.Call (.Name x p) (e::es) [] pos) m (ak c g):=by
  refine b_ (Br D hr hg ha hdb he hpl) fun σ H Q z=>?_
  obtain ⟨B,E,xs,Xs,res,E',fr,cl,e,q⟩:=z
  obtain ⟨⟨rs,E1⟩,e1,e⟩:=Option.bind_eq_some_iff.mp e
  obtain ⟨ds,e2,e⟩:=Option.bind_eq_some_iff.mp e
  obtain ⟨r,e3,e⟩:=Option.map_eq_some_iff.mp e
  cases e
  refine ⟨B,E,xs,Xs,rs,E1,fr,cl,e1,fun vs H1 hl ⟨F,A,fr1⟩=>?_⟩
  obtain ⟨r1,A',fr2⟩:=fr1.looks hl e2
  exact ⟨ds,res,e3,by rw [List.append_nil];exact r1,fun v H' g q'=>q v H' (fr2.told g q')⟩
def cW (i:Nat) (f:bq):bq:=fun E=>match E[i]? with
  | some (.ow _)=>(f E).bind fun a=>(frz a.2 a.1).bind fun b=>match b.2[i]? with
    | some (.ow ds)=>if ds.length < 1000000 then some (.sh .none,b.2.set i (.ow (ds++[b.1]))) else none
    | _=>none
  | _=>none
section
variable {X:Cx} {e:Expr} {m1:Bool} {f:bq} {x:Str} {p apos cpos:Pos}
theorem gQ (i:Nat) (he:EX X e m1 f) (hN:X.N[i]? =some x:=by rfl) (hv:DJ X.env.scope x:=by first | exact Or.inl rfl | exact Or.inr (Or.inl rfl) | exact Or.inr (Or.inr rfl)) (hd:(x == ("__debug__":Str))=false:=by decide) (hcd:(x == ("__classdict__":Str))=false:=by decide)
    (hs:starEach [e] X.env=[(false,eval e X.env)]:=by rfl) (hbase:attributeBase (.Name x p) "append" X.env (eval (.Name x p) X.env)=eval (.Name x p) X.env:=by rfl)
    (hfew:((backTo cpos (starEach [e] X.env)).all (fun x=> !x.1)&&(backToKw cpos (keywordEach [] X.env)).all (fun x=>x.1.isSome)
      &&decide (([e]:List Expr).length+([]:List Keyword).length+(if ([]:List Keyword).isEmpty then 0 else 1) < 30))=true:=by rfl) (hline:(apos.endLine == cpos.line)=true:=by rfl):
    EX X (.Call (.Attribute (.Name x p) "append" apos) [e] [] cpos) true (cW i f):=by
  refine b_ (Aj PySem.F.plainAttrs_list PySem.F.slot_list_append PySem.F.type_list_append ov (v9 hN hv hd hcd) (eH he gC hs) hbase hfew hline hs rfl) fun σ H Q z=>?_
  obtain ⟨B,E,xs,Xs,res,E',⟨F,A,fr⟩,cl,e,q⟩:=z
  unfold cW at e
  split at e
  · rename_i ds0 ei
    obtain ⟨⟨s,E1⟩,e1,e⟩:=Option.bind_eq_some_iff.mp e
    obtain ⟨⟨d,E2⟩,e2,e⟩:=Option.bind_eq_some_iff.mp e
    simp only at e
    split at e
    · rename_i ds ei2
      split at e
      · rename_i hl
        cases e
        obtain ⟨o,A1,eo,l,vs,rfl,rfl,hl0,_⟩:=fr.var ei
        refine ⟨_,eo, .inl ⟨rfl,_,SqL.of hl0⟩,B,E,xs,Xs,s,E1,⟨F,A,fr⟩,fun _=>cl rfl,e1,fun v H1 ⟨F1,A1,fr1⟩=>?_⟩
        obtain ⟨F2,A2,fr2⟩:=fr1.frz0 e2
        obtain ⟨v',A3,ev,rfl,w,ew,rv⟩:=fr2.ext (k:=0) rfl
        cases ev;cases ew
        obtain ⟨A4,fr3⟩:=fr2.pop
        obtain ⟨l',vs',eo',hl',r',put⟩:=fr3.mut ei2 (cl rfl)
        rw [eo] at eo'
        cases eo'
        have ll:=r'.len
        have fr4:=put (vs'++[v]) (ds++[d]) (r'.snoc rv)
        exact ⟨l,vs',v,rfl,rfl,hl',small (by omega),q _ _ ⟨_,_,fr4.push ⟨rfl,_,rfl, .non⟩⟩⟩
      · cases e
    · cases e
  · cases e
end
def wJ (s:Sl):Sl:=match s.val with
  | some d=> .sh d
  | none=> .no
def frzAll (E:List Sl):List Sl:=E.map wJ
def settle (E:List Sl):Sl→Option (Sl×List Sl)
  | .al i=>(frz E (.al i)).map fun a=>(.sh a.1,a.2)
  | .br d=>if cV d then some (.sh d,E) else some (.sh d,frzAll E)
  | s=>some (s,E)
def aG (g h:dH):dH:=fun E=>(g E).bind fun a=>match a.2 with
  | .nx=>h a.1
  | fl=>some (a.1,fl)
def aV:dH:=fun E=>some (E, .nx)
def eU (f:bq):dH:=fun E=>(f E).map fun a=>(a.2, .nx)
def aN (f:bq):dH:=fun E=>(f E).bind fun a=>match a.1 with
  | .al i=>(a.2[i]?).map fun s=>(a.2.set i .no, .rt s)
  | s=>some (a.2, .rt s)
def ca (c:kW) (g h:dH):dH:=fun E=>(c E).bind fun a=>if a.1 then g a.2 else h a.2
def aC (i:Nat) (f:bq):dH:=fun E=>(f E).bind fun a=>(settle a.2 a.1).bind fun b=>if i < b.2.length then some (b.2.set i b.1, .nx) else none
section
variable {K:PySem.W.Frag} {B F:Hp} {A:List Addr} {σ:lS} {H:Hp} {E E':List Sl} {xs:List V} {Xs:List Sl} {v:V} {s s':Sl} {d:PyData}
theorem FrF.frzAll (h:FrF K B F A σ H E xs Xs) (hX:Xs=[]):FrF K B H [] σ H (PL.frzAll E) [] []:=by
  subst hX
  have hx:xs=[]:=by simpa using h.len
  subst hx
  refine ⟨h.bf.trans h.fh,Same.refl _,kU H,?_,List.nodup_nil,fun a ha=>(by cases ha),rfl,fun s hs=>?_⟩
  · have key:∀{os:List (Option V)} {ss:List Sl} {C:List Addr},SAll (SlOk K F H σ) os ss C→SAll (SlOk K H H σ) os (PL.frzAll ss) []:=fun {os ss C} r=>by
      induction r with
      | nil=>exact .nil
      | cons q _ ih=>
        refine .cons (A:=[]) ?_ ih
        unfold wJ
        split
        · rename_i d e
          obtain ⟨v,rfl,r,_⟩:=q.val h.fh e
          exact ⟨rfl,v,rfl,r⟩
        · exact rfl
    exact key h.sl
  · obtain ⟨t,_,rfl⟩:=List.mem_map.mp hs
    unfold wJ
    split <;> rfl
theorem FrF.settle (h:FrF K B F A σ H E (v::xs) (s::Xs)) (hX:Xs=[]) (q:PL.settle E s=some (s',E')):s'.isAl=false∧Frm K B σ H E' (v::xs) (s'::Xs):=by
  cases s with
  | al i=>
    obtain ⟨⟨d,E2⟩,e,z⟩:=Option.map_eq_some_iff.mp (show (frz E (.al i)).map (fun a=>(Sl.sh a.1,a.2))=some (s',E') from q)
    cases z
    obtain ⟨F',A',h'⟩:=h.frz0 e
    exact ⟨rfl,F',A',h'⟩
  | br d=>
    have r:=(h.look0 (d:=d) rfl).1
    obtain ⟨A',h'⟩:=h.pop
    simp only [PL.settle] at q
    split at q
    · rename_i hf
      cases q
      exact ⟨rfl,F,A',h'.push ⟨rfl,v,rfl,h.cold r hf⟩⟩
    · cases q
      have h2:=h'.frzAll hX
      have hl:=h'.len
      subst hX
      have hx:xs=[]:=by simpa using hl
      subst hx
      exact ⟨rfl,H,[],h2.push ⟨rfl,v,rfl,r⟩⟩
  | no=>cases q;exact ⟨rfl,F,A,h⟩
  | sh d=>cases q;exact ⟨rfl,F,A,h⟩
  | ow ds=>cases q;exact ⟨rfl,F,A,h⟩
  | od kvs=>cases q;exact ⟨rfl,F,A,h⟩
  | tx ps=>cases q;exact ⟨rfl,F,A,h⟩
theorem FrF.move {i:Nat} (h:FrF K B F A σ H E (v::xs) (.al i::Xs)) (e:E[i]? =some s):Frm K B σ H (E.set i .no) (v::xs) (s::Xs):=by
  obtain ⟨v',A1,ev,rfl,w,ew,hw⟩:=h.ext (k:=0) rfl
  cases ev;cases ew
  obtain ⟨A',h'⟩:=h.pop
  obtain ⟨o,A0,A1,A2,eA,eo,hp,put⟩:=h'.sl.at (k:=Xs.length+i) (s:=s) (by rw [List.getElem?_append_right (by omega)];simpa using e)
  have z:=put (SlOk K F H σ) o .no [] rfl fun _ _ _ _ _ q=>q
  have e3:(Xs++E).set (Xs.length+i) .no=Xs++E.set i .no:=by
    rw [List.set_append_right _ _ (by omega),Nat.add_sub_cancel_left]
  have e2:(List.map some xs++σ).set (Xs.length+i) o=List.map some xs++σ:=List.ext_getElem? fun j=>by
    by_cases hj:Xs.length+i=j
    · subst hj
      rw [List.getElem?_set_self',eo];rfl
    · rw [List.getElem?_set_ne hj]
  rw [e2,e3] at z
  rw [List.getElem?_append_right (by rw [List.length_map,h'.len];omega),List.length_map,h'.len,Nat.add_sub_cancel_left,hw] at eo
  cases eo
  have nd:=h'.nd
  rw [eA] at nd
  refine ⟨F,A1++(A0++([]++A2)),h.bf,h.fh,h.tf, .cons hp z,?_,fun a ha=>h'.fr a ?_,h.len,fun s' hs=>?_⟩
  · have p:(A1++(A0++([]++A2))).Perm (A0++(A1++A2)):=by
      rw [List.nil_append,←List.append_assoc,←List.append_assoc]
      exact List.Perm.append_right _ List.perm_append_comm
    exact p.nodup_iff.mpr nd
  · rw [eA]
    simp only [List.mem_append,List.nil_append] at ha ⊢
    rcases ha with z | z | z
    · exact .inr (.inl z)
    · exact .inl z
    · exact .inr (.inr z)
  · rcases List.mem_or_eq_of_mem_set hs with hs | hs
    · exact h.pl s' hs
    · subst hs;rfl
end
section
variable {X:Cx} {st:Stmt} {gr a b:List Stmt} {g h:dH} {e c:Expr} {m:Bool} {f:bq} {t:kW} {pos:Pos}
theorem bC:u7 X [] aV:=tU yy fun D σ H z=>by
  obtain ⟨B,E,xs,Xs,E',fl,fr,cl,e,q⟩:=z
  cases e
  exact q _ _ fr
theorem ao (h1:SX X st g):u7 X [st] g:=yz h1
theorem BD {K:PySem.W.Frag} {D:Ends} {σ:lS} {H:Hp} (z:rs K (aG g h) D σ H):rs K g {D with nx:=rs K h D} σ H:=by
  obtain ⟨B,E,xs,Xs,E',fl,fr,cl,e,q⟩:=z
  obtain ⟨⟨E1,f1⟩,e1,e⟩:=Option.bind_eq_some_iff.mp e
  refine ⟨B,E,xs,Xs,E1,f1,fr,cl,e1,?_⟩
  cases f1 with
  | nx=>exact fun σ' H' fr'=>⟨B,E1,xs,Xs,E',fl,fr',cl,e,q⟩
  | bk=>cases e;exact q
  | ct=>cases e;exact q
  | rt r=>cases e;exact q
theorem am (h1:SX X st g) (h2:u7 X gr h):u7 X (st::gr) (aG g h):=tU (wa h1 h2) fun D σ H z=>BD z
theorem hO (he:EX X e m f) (hs:swapsWith e none pos.line X.env=pure false:=by rfl):SX X (.Expr e pos) (eU f):=jY (yA he hs) fun D σ H z=>by
  obtain ⟨B,E,xs,Xs,E',fl,fr,cl,e,q⟩:=z
  obtain ⟨⟨s,E1⟩,e1,e⟩:=Option.map_eq_some_iff.mp e
  cases e
  refine ⟨B,E,xs,Xs,s,E1,fr,fun _=>Calm.nil cl,e1,fun v H1 ⟨F,A,fr1⟩=>?_⟩
  obtain ⟨A',fr2⟩:=fr1.pop
  exact q _ _ ⟨F,A',fr2⟩
theorem aL (he:EX X e m f):SX X (.Return (some e) pos) (aN f):=jY (AR he) fun D σ H z=>by
  obtain ⟨B,E,xs,Xs,E',fl,fr,cl,e,q⟩:=z
  obtain ⟨⟨s,E1⟩,e1,e⟩:=Option.bind_eq_some_iff.mp e
  refine ⟨B,E,xs,Xs,s,E1,fr,fun _=>Calm.nil cl,e1,fun v H1 ⟨F,A,fr1⟩=>?_⟩
  simp only at e
  split at e
  · obtain ⟨s',es,e⟩:=Option.map_eq_some_iff.mp e
    cases e
    exact q σ _ _ (fr1.move es)
  · cases e
    exact q σ _ _ ⟨F,A,fr1⟩
theorem d8 (hc:TX X c m t) (ha:u7 X a g) (hb:u7 X b h):SX X (.If c a b pos) (ca t g h):=jY (Cu hc ha hb) fun D σ H z=>by
  obtain ⟨B,E,xs,Xs,E',fl,fr,cl,e,q⟩:=z
  obtain ⟨⟨b1,E1⟩,e1,e⟩:=Option.bind_eq_some_iff.mp e
  refine ⟨B,E,xs,Xs,b1,E1,fr,fun _=>Calm.nil cl,e1,fun H1 fr1=>?_⟩
  cases b1 with
  | true=>exact (if_pos rfl).mpr ⟨B,E1,xs,Xs,E',fl,fr1,cl,e,q⟩
  | false=>exact (if_neg (by decide)).mpr ⟨B,E1,xs,Xs,E',fl,fr1,cl,e,q⟩
theorem aJ (i:Nat) {x:Str} {pos':Pos} (hN:X.N.Nodup) (he:EX X e m f) (hi:X.N[i]? =some x:=by rfl) (hx:AK X.env.scope x:=by first | exact Or.inl rfl | exact Or.inr rfl) (hs:swapsWith e (some (.Name x pos')) pos.line X.env=pure false:=by rfl) (hf:X.fn x=true∨X.env.scope.names.lookup x=some .local:=by first | exact .inl rfl | exact .inr rfl | assumption):
    SX X (.Assign [.Name x pos'] e pos) (aC i f):=jY (AV hN hi hx he hs hf) fun D σ H z=>by
  obtain ⟨B,E,xs,Xs,E',fl,fr,cl,e,q⟩:=z
  obtain ⟨⟨s,E1⟩,e1,e⟩:=Option.bind_eq_some_iff.mp e
  obtain ⟨⟨s',E2⟩,e2,e⟩:=Option.bind_eq_some_iff.mp e
  refine ⟨B,E,xs,Xs,s,E1,fr,fun _=>Calm.nil cl,e1,fun v H1 ⟨F,A,fr1⟩=>?_⟩
  obtain ⟨c1,F2,A2,fr2⟩:=fr1.settle cl e2
  simp only at e
  split at e
  · rename_i hi
    cases e
    obtain ⟨A3,fr3⟩:=fr2.store c1 (Still.nil cl) hi
    exact q _ _ ⟨F2,A3,fr3⟩
  · cases e
end
end PL
namespace PL
open PySem L2 Nh
abbrev gI:=PyData→List Sl→Option (List Sl)
abbrev qN:=List PyData→List Sl→Option (List Sl)
def rg (K:PySem.W.Frag) (h:gI):TG:=fun v σ H Q=>∃B E xs Xs d E',Frm K B σ H E (v::xs) (.sh d::Xs)∧Still Xs∧h d E=some E'∧∀σ' H',Frm K B σ' H' E' xs Xs→Q σ' H'
def EN (K:PySem.W.Frag) (h:qN):yC:=fun vs σ H Q=>∃B E xs Xs ds E',vs.length=ds.length∧Frm K B σ H E (vs++xs) (ds.map .sh++Xs)∧Still Xs∧h ds E=some E'∧∀σ' H',Frm K B σ' H' E' xs Xs→Q σ' H'
def GX (X:Cx) (e:Expr) (h:gI):Prop:=PG X e (rg X.K h)
def DK (X:Cx) (es:List Expr) (h:qN):Prop:=AT X es (EN X.K h)
def aY (i:Nat):gI:=fun d E=>if i < E.length then some (E.set i (.sh d)) else none
def wK:qN:=fun ds E=>if ds.isEmpty then some E else none
def su (h:gI) (hs:qN):qN:=fun ds E=>match ds with
  | d::ds=>(h d E).bind (hs ds)
  | []=>none
def wL (n:Nat) (hs:qN):gI:=fun d E=>match d with
  | .tuple ds=>if ds.length=n then hs ds E else none
  | _=>none
section
variable {X:Cx}
theorem wM {e:Expr} {t t':TG} (h:PG X e t) (k:∀v σ H Q,t' v σ H Q→t v σ H Q):PG X e t':=fun pins s σ H v u Q I r q=>h pins s σ H v u Q I r (k v σ H Q q)
theorem tY {es:List Expr} {t t':yC} (h:AT X es t) (k:∀v σ H Q,t' v σ H Q→t v σ H Q):AT X es t':=fun pins s σ H v u Q I r q=>h pins s σ H v u Q I r (k v σ H Q q)
theorem aM (i:Nat) {x:Str} {pos:Pos} (hN:X.N.Nodup) (hi:X.N[i]? =some x:=by rfl) (hx:AK X.env.scope x:=by first | exact Or.inl rfl | exact Or.inr rfl) (hf:X.fn x=true∨X.env.scope.names.lookup x=some .local:=by first | exact .inl rfl | exact .inr rfl | assumption):GX X (.Name x pos) (aY i):=wM (tH hN hi hx hf) fun v σ H Q z=>by
  obtain ⟨B,E,xs,Xs,d,E',⟨F,A,fr⟩,cl,e,q⟩:=z
  unfold aY at e
  split at e
  · rename_i hi
    cases e
    obtain ⟨A',fr'⟩:=fr.store rfl cl hi
    exact q _ _ ⟨F,A',fr'⟩
  · cases e
theorem zg:DK X [] wK:=tY yD fun v σ H Q z=>by
  obtain ⟨B,E,xs,Xs,ds,E',hl,fr,cl,e,q⟩:=z
  unfold wK at e
  split at e
  · rename_i hd
    cases e
    have:ds=[]:=by simpa using hd
    subst this
    have hv:v=[]:=by simpa using hl
    subst hv
    exact ⟨rfl,q _ _ fr⟩
  · cases e
theorem qO {e:Expr} {es:List Expr} {h:gI} {hs:qN} (h1:GX X e h) (h2:DK X es hs) (hst:(assignEach (e::es) X.env).map (·.2)=assign e X.env::(assignEach es X.env).map (·.2):=by rfl):DK X (e::es) (su h hs):=tY (wd h1 h2 hst) fun v σ H Q z=>by
  obtain ⟨B,E,xs,Xs,ds,E',hl,fr,cl,e,q⟩:=z
  cases ds with
  | nil=>cases e
  | cons d ds=>
    cases v with
    | nil=>cases hl
    | cons v vs=>
      obtain ⟨E1,e1,e2⟩:=Option.bind_eq_some_iff.mp e
      refine ⟨v,vs,rfl,B,E,vs++xs,ds.map Sl.sh++Xs,d,E1,fr,fun s hs=>?_,e1,fun σ1 H1 fr1=>⟨B,E1,xs,Xs,ds,E',by simpa using hl,fr1,cl,e2,q⟩⟩
      rcases List.mem_append.mp hs with hs | hs
      · obtain ⟨d',_,rfl⟩:=List.mem_map.mp hs
        rfl
      · exact cl s hs
theorem BE {es:List Expr} {k:Nat} {pos:Pos} {hs:qN} {n:Nat} (hc:X.calm=true) (h:DK X es hs) (hn:(assignEach es X.env).length=n:=by rfl) (hst:(assignEach es X.env).findIdx? (·.1)=none:=by rfl):GX X (.Tuple es k pos) (wL n hs):=wM (AU hc h hn hst) fun v σ H Q z=>by
  obtain ⟨B,E,xs,Xs,d,E',⟨F,A,fr⟩,cl,e,q⟩:=z
  unfold wL at e
  split at e
  · rename_i ds
    split at e
    · rename_i hl
      obtain ⟨v',A1,ev,rfl,w,ew,r⟩:=fr.ext (k:=0) rfl
      cases ev;cases ew
      cases r with
      | tup h1 h2=>
        obtain ⟨A',fr'⟩:=fr.pop
        have key:∀{us:List V} {es:List PyData},RpA X.K F us es→FrF X.K B F A' σ H E (us++xs) (es.map .sh++Xs):=fun {us es} r=>by
          induction us generalizing es with
          | nil=>cases r;exact fr'
          | cons u us ih=>
            cases r with
            | cons r1 r2=>exact (ih r2).push ⟨rfl,_,rfl,r1⟩
        exact ⟨_,_,rfl,fr.fh.tup h1,by rw [h2.len];exact hl,B,E,xs,Xs,ds,E',h2.len,⟨F,A',key h2⟩,cl,e,q⟩
    · cases e
  · cases e
end
def sv (K:PySem.W.Frag) (B0:Hp) (J:It) (ds:List PyData):Prop:=∀{B F:Hp} {A:List Addr} {σ:lS} {H:Hp} {E:List Sl} {xs:List V} {Xs:List Sl} (i:Nat),Same B0 B→FrF K B F A σ H E xs Xs→
  (∀d,ds[i]? =some d→J.go i H∧∀x H2,J.yld i H x H2→Frm K B σ H2 E (x::xs) (.sh d::Xs))∧(i=ds.length→J.stop i H)
def ri (K:PySem.W.Frag) (m:Bool) (f:mD):TI:=fun σ H R=>∃B E xs Xs ds E',Frm K B σ H E xs Xs∧(m=true→Calm Xs)∧f E=some (ds,E')∧∀B' J H',Same B B'→Frm K B' σ H' E' xs Xs→sv K B' J ds→R J H'
def IX (X:Cx) (tg e:Expr) (m:Bool) (f:mD):Prop:=PI X tg e (ri X.K m f)
theorem FrF.base {K:PySem.W.Frag} {B B' F:Hp} {A:List Addr} {σ:lS} {H:Hp} {E:List Sl} {xs:List V} {Xs:List Sl} (h:FrF K B' F A σ H E xs Xs) (s:Same B B'):FrF K B F A σ H E xs Xs:=⟨s.trans h.bf,h.fh,h.tf,h.sl,h.nd,h.fr,h.len,h.pl⟩
theorem Frm.base {K:PySem.W.Frag} {B B':Hp} {σ:lS} {H:Hp} {E:List Sl} {xs:List V} {Xs:List Sl} (h:Frm K B' σ H E xs Xs) (s:Same B B'):Frm K B σ H E xs Xs:=let ⟨F,A,h⟩:=h;⟨F,A,h.base s⟩
theorem FrF.raise {K:PySem.W.Frag} {B F:Hp} {A:List Addr} {σ:lS} {H:Hp} {E:List Sl} {xs:List V} {Xs:List Sl} (h:FrF K B F A σ H E xs Xs):FrF K F F A σ H E xs Xs:=⟨Same.refl _,h.fh,h.tf,h.sl,h.nd,h.fr,h.len,h.pl⟩
def iq (lo:Int) (n:Nat):List PyData:=(List.range n).map fun (k:Nat)=> .int (lo+(k:Int))
def f_ (g:qJ):mD:=fun E=>(g E).bind fun a=>match bQ a.2 a.1 with
  | some [.int j]=>if -1000000≤j∧j≤1000000 then some (iq 0 j.toNat,a.2) else none
  | _=>none
def mW (g:qJ):mD:=fun E=>(g E).bind fun a=>match bQ a.2 a.1 with
  | some [.int i, .int j]=>if -1000000≤i∧i≤1000000∧ -1000000≤j∧j≤1000000 then some (iq i (j - i).toNat,a.2) else none
  | _=>none
def wN (f:bq):mD:=fun E=>(f E).bind fun a=>(frz a.2 a.1).bind fun b=>match b.1 with
  | .list ds=>some (ds.reverse,b.2)
  | _=>none
section
variable {X:Cx} {tg e e2:Expr} {m:Bool} {f:bq} {g:qJ} {p pos:Pos} {K:PySem.W.Frag} {B:Hp}
theorem pJ {t t':TI} (h:PI X tg e t) (k:∀σ H Q,t' σ H Q→t σ H Q):PI X tg e t':=fun pins s σ H R I q=>h pins s σ H R I (k σ H R q)
theorem vd {a:Addr} {vs:List V} {ds:List PyData} (h:SqL K B a vs) (r:RpA K B vs ds):sv K B (D0 K a) ds:=fun {B' F A σ H E xs Xs} i sB fr=>by
  have hH:=fr.fh.seq (fr.bf.seq (sB.seq h))
  refine ⟨fun d ed=>?_,fun e=>⟨vs,hH,by rw [e,r.len];exact Nat.le_refl _⟩⟩
  obtain ⟨v,ev,rv⟩:=r.get ed
  refine ⟨⟨vs,v,hH,ev⟩,fun x H2 ⟨e2,y⟩=>?_⟩
  subst e2
  have:=y vs hH
  rw [ev] at this
  cases this
  exact ⟨F,A,fr.push ⟨rfl,_,rfl,rv.same (sB.trans fr.bf)⟩⟩
theorem wO {a:Addr} {vs:List V} {ds:List PyData} (h:SqL K B a vs) (r:RpA K B vs ds):sv K B (Eb K a vs) ds.reverse:=fun {B' F A σ H E xs Xs} i sB fr=>by
  have hH:=fr.fh.seq (fr.bf.seq (sB.seq h))
  refine ⟨fun d ed=>?_,fun e=>⟨hH,by rw [e,List.length_reverse,r.len]⟩⟩
  obtain ⟨v,ev,rv⟩:=r.rev.get ed
  have hi:i < vs.length:=by
    have:=(List.getElem?_eq_some_iff.mp ev).1
    simpa using this
  refine ⟨⟨hH,hi⟩,fun x H2 ⟨e2,y⟩=>?_⟩
  subst e2
  rw [ev] at y
  cases y
  exact ⟨F,A,fr.push ⟨rfl,_,rfl,rv.same (sB.trans fr.bf)⟩⟩
theorem mX {lo:Int} {n:Nat}:sv K B (Cy lo n) (iq lo n):=fun {B' F A σ H E xs Xs} i sB fr=>by
  have hl:(iq lo n).length=n:=by simp [iq]
  refine ⟨fun d ed=>?_,fun e=>?_⟩
  · have hi:i < n:=by have:=(List.getElem?_eq_some_iff.mp ed).1;omega
    refine ⟨hi,fun x H2 ⟨e2,y⟩=>?_⟩
    subst e2 y
    have:d= .int (lo+i):=by
      unfold iq at ed
      rw [List.getElem?_map,List.getElem?_range hi] at ed
      exact (Option.some.inj ed).symm
    subst this
    exact ⟨F,A,fr.push ⟨rfl,_,rfl, .int _⟩⟩
  · show n≤i
    omega
theorem BF (hg:Gl X "reversed") (hm:X.mg "reversed"=none) (he:EX X e m f) (hs:starEach [e] X.env=[(false,eval e X.env)]:=by rfl):IX X tg (.Call (.Name "reversed" p) [e] [] pos) m (wN f):=pJ (Bq hg hm (eH he gC hs) hs) fun σ H R z=>by
  obtain ⟨B,E,xs,Xs,ds,E',fr,cl,e,q⟩:=z
  obtain ⟨⟨s,E1⟩,e1,e⟩:=Option.bind_eq_some_iff.mp e
  obtain ⟨⟨d,E2⟩,e2,e⟩:=Option.bind_eq_some_iff.mp e
  refine ⟨B,E,xs,Xs,s,E1,fr,cl,e1,fun v H1 ⟨F,A,fr1⟩=>?_⟩
  obtain ⟨F2,A2,fr2⟩:=fr1.frz0 e2
  simp only at e
  split at e
  · cases e
    obtain ⟨v',A1,ev,rfl,w,ew,r⟩:=fr2.ext (k:=0) rfl
    cases ev;cases ew
    cases r with
    | lst h1 h2=>
      obtain ⟨A3,fr3⟩:=fr2.pop
      exact ⟨_,_,rfl,fr2.fh.seq h1,q F2 _ _ fr2.bf ⟨F2,A3,fr3.raise⟩ (wO h1 h2)⟩
  · cases e
theorem ir (hg:Gl X "range") (hm:X.mg "range"=none) (ha:AX X [e] m g) (hs:starEach [e] X.env=[(false,eval e X.env)]:=by rfl):IX X tg (.Call (.Name "range" p) [e] [] pos) m (f_ g):=pJ (uQ hg hm ha hs) fun σ H R z=>by
  obtain ⟨B,E,xs,Xs,ds,E',fr,cl,e,q⟩:=z
  obtain ⟨⟨rs,E1⟩,e1,e⟩:=Option.bind_eq_some_iff.mp e
  refine ⟨B,E,xs,Xs,rs,E1,fr,cl,e1,fun vs H1 hl ⟨F,A,fr1⟩=>?_⟩
  simp only at e
  split at e
  · rename_i j ld
    split at e
    · rename_i hj
      cases e
      obtain ⟨r,A',fr2⟩:=fr1.looks hl ld
      obtain ⟨v,rfl,r'⟩:=r.one
      cases r'
      exact ⟨j,rfl,by omega,by omega,q B _ _ (Same.refl _) ⟨F,A',fr2⟩ mX⟩
    · cases e
  · cases e
theorem ve (hg:Gl X "range") (hm:X.mg "range"=none) (ha:AX X [e,e2] m g) (hs:starEach [e,e2] X.env=[(false,eval e X.env),(false,eval e2 X.env)]:=by rfl) (hs2:starEach [e2] X.env=[(false,eval e2 X.env)]:=by rfl):IX X tg (.Call (.Name "range" p) [e,e2] [] pos) m (mW g):=pJ (uR hg hm ha hs hs2) fun σ H R z=>by
  obtain ⟨B,E,xs,Xs,ds,E',fr,cl,e,q⟩:=z
  obtain ⟨⟨rs,E1⟩,e1,e⟩:=Option.bind_eq_some_iff.mp e
  refine ⟨B,E,xs,Xs,rs,E1,fr,cl,e1,fun vs H1 hl ⟨F,A,fr1⟩=>?_⟩
  simp only at e
  split at e
  · rename_i i j ld
    split at e
    · rename_i hj
      cases e
      obtain ⟨r,A',fr2⟩:=fr1.looks hl ld
      obtain ⟨v,u,rfl,r1,r2⟩:=r.two
      cases r1;cases r2
      exact ⟨i,j,rfl,by omega,q B _ _ (Same.refl _) ⟨F,A',fr2⟩ mX⟩
    · cases e
  · cases e
end
def bu (tg:gI) (body:dH):List PyData→dH
  | [],E=>some (E, .nx)
  | d::ds,E=>((tg d E).bind body).bind fun a=>match a.2 with
    | .nx=>bu tg body ds a.1
    | .ct=>bu tg body ds a.1
    | .bk=>some (a.1, .nx)
    | .rt r=>some (a.1, .rt r)
def dm (it:mD) (tg:gI) (body:dH):dH:=fun E=>(it E).bind fun a=>bu tg body a.1 a.2
theorem ft {X:Cx} {tg iter:Expr} {body:List Stmt} {m:Bool} {it:mD} {g:gI} {b:dH} {pos:Pos} (hp:PassesOwn (model X.prog X.w) X.A X.env X.xe) (hc:X.calm=true) (hi:IX X tg iter m it) (hg:GX X tg g) (hb:u7 X body b)
    (hs:∀x,foldedSetIterable iter X.env x=pure x:=by intro _;rfl):SX X (.For tg iter body [] pos) (dm it g b):=jY (AY hp hc hi hg hb hs) fun D σ H z=>by
  obtain ⟨B,E,xs,Xs,E',fl,fr,cl,e,q⟩:=z
  obtain ⟨⟨ds,E1⟩,e1,e⟩:=Option.bind_eq_some_iff.mp e
  refine ⟨B,E,xs,Xs,ds,E1,fr,fun _=>Calm.nil cl,e1,fun B' J H1 hB fr1 ok=>?_⟩
  refine ⟨fun i mm σ' H'=>mm=ds.length - i∧i≤ds.length∧∃Ei,bu g b (ds.drop i) Ei=some (E',fl)∧Frm X.K B' σ' H' Ei xs Xs,⟨ds.length,by simp,Nat.zero_le _,E1,by simpa using e,fr1⟩,?_⟩
  rintro i mm σ' H' ⟨rfl,hi,Ei,ei,F,A,fri⟩
  obtain ⟨go,stop⟩:=ok i (Same.refl _) fri
  by_cases hlt:i < ds.length
  · obtain ⟨d,ed⟩:∃d,ds[i]? =some d:=⟨ds[i],List.getElem?_eq_getElem hlt⟩
    obtain ⟨g1,yl⟩:=go d ed
    have edr:ds.drop i=d::ds.drop (i+1):=by
      rw [List.drop_eq_getElem_cons hlt]
      congr 1
      exact Option.some.inj ((List.getElem?_eq_getElem hlt).symm.trans ed)
    rw [edr] at ei
    obtain ⟨⟨E2,f2⟩,e2,ei⟩:=Option.bind_eq_some_iff.mp ei
    obtain ⟨E3,e3,e2⟩:=Option.bind_eq_some_iff.mp e2
    refine .inr ⟨g1,fun σ2 H2=>∃Ej,bu g b (ds.drop (i+1)) Ej=some (E',fl)∧Frm X.K B' σ2 H2 Ej xs Xs,fun σ2 H2 ⟨Ej,ej,frj⟩=>⟨ds.length - (i+1),by omega,rfl,hlt,Ej,ej,frj⟩,fun x H2 y=>?_⟩
    refine ⟨B',Ei,xs,Xs,d,E3,yl x H2 y,Still.nil cl,e3,fun σ3 H3 fr3=>?_⟩
    refine ⟨B',E3,xs,Xs,E2,f2,fr3,cl,e2,?_⟩
    cases f2 with
    | nx=>exact fun σ4 H4 fr4=>⟨E2,ei,fr4⟩
    | ct=>exact fun σ4 H4 fr4=>⟨E2,ei,fr4⟩
    | bk=>cases ei;exact fun σ4 H4 fr4=>q _ _ (fr4.base hB)
    | rt r=>cases ei;exact fun σ4 v H4 fr4=>q _ _ _ (fr4.base hB)
  · have e0:i=ds.length:=by omega
    refine .inl ⟨stop e0,?_⟩
    rw [e0,List.drop_length] at ei
    cases ei
    exact q _ _ (Frm.base ⟨F,A,fri⟩ hB)
def bJ:Sl→Bool
  | .sh d=>cV d
  | .ow ds=>bd ds
  | .tx ps=>ps.all fun p=>match p with | .fl d=>cV d | .ol ds=>bd ds
  | .od kvs=>kvs.all fun p=>bd p.2
  | _=>false
def bx (n:Nat) (ds:List PyData):List Sl:=ds.map .sh++List.replicate (n - ds.length) .no
def bV (r:Sl):Option Sl:=if bJ r then some r else match r with
  | .sh d=>some (.br d)
  | .ow ds=>some (.br (.list ds))
  | .tx ps=>some (.br (.tuple (ps.map Pt.val)))
  | .br d=>some (if cV d then .sh d else .br d)
  | _=>none
def gJ (n:Nat) (g:dH):List PyData→Option Sl:=fun ds=>(g (bx n ds)).bind fun a=>match a.2 with
  | .rt r=>bV r
  | .nx=>some (.sh .none)
  | _=>none
section
variable {K:PySem.W.Frag} {B F:Hp} {A:List Addr} {σ:lS} {H:Hp} {E:List Sl} {v:V} {r:Sl}
theorem DlOk.cold {F H:Hp} (sF:Same F H):∀{us:List (fX×V)} {kvs:List (fX×List PyData)} {A:List Addr},(∀p∈kvs,bd p.2=true)→DlOk K F H us kvs A→DlOk K (tups H) H us kvs A
  | [],[],A,_,h=>h
  | p::us,q::kvs,A,c,h=>by
    obtain ⟨l,vs,A',rfl,rfl,hl,hr,k⟩:=h
    exact ⟨l,vs,A',rfl,rfl,hl,(hr.same sF).cold (c q (List.mem_cons_self ..)),DlOk.cold sF (fun p hp=>c p (List.mem_cons_of_mem _ hp)) k⟩
  | [],_::_,_,_,h=>False.elim h
  | _::_,[],_,_,h=>False.elim h
theorem PtsOk.cold {F H G:Hp} (sF:Same F H) (tG:∀{v:V} {d:PyData},Rp K F v d→cV d=true→Rp K G v d):∀{vs:List V} {ps:List Pt} {A:List Addr},(∀p∈ps,(match p with | .fl d=>cV d | .ol ds=>bd ds)=true)→PtsOk K F H vs ps A→PtsOk K G H vs ps A
  | [],[],A,_,h=>h
  | v::vs, .fl d::ps,A,c,h=>⟨tG h.1 (c (.fl d) (List.mem_cons_self ..)),PtsOk.cold sF tG (fun p hp=>c p (List.mem_cons_of_mem _ hp)) h.2⟩
  | v::vs, .ol ds::ps,A,c,h=>by
    obtain ⟨l,us,A',rfl,rfl,hl,hr,q⟩:=h
    refine ⟨l,us,A',rfl,rfl,hl,?_,q.cold sF tG fun p hp=>c p (List.mem_cons_of_mem _ hp)⟩
    have cd:bd ds=true:=c (.ol ds) (List.mem_cons_self ..)
    have key:∀{us:List V} {ds:List PyData},RpA K F us ds→bd ds=true→RpA K G us ds:=fun {us ds} r c=>by
      induction us generalizing ds with
      | nil=>cases r;exact .nil
      | cons u us ih=>
        cases r with
        | cons r1 r2=>
          simp only [bd,Bool.and_eq_true] at c
          exact .cons (tG r1 c.1) (ih r2 c.2)
    exact key hr cd
  | [],_::_,_,_,h=>False.elim h
  | _::_,[],_,_,h=>False.elim h
theorem FrF.result (h:FrF K B F A σ H E [v] [r]) (c:bJ r=true):Same B H∧tX K B H v r:=by
  refine ⟨h.bf.trans h.fh,?_⟩
  have nB:∀a,F a=none→B a=none:=fun a e=>h.bf.free e
  have cold:∀{v:V} {d:PyData},Rp K F v d→cV d=true→Rp K (tups H) v d:=fun r f=>(r.same h.fh).cold f
  obtain ⟨v',A1,ev,hs⟩:=h.ext (k:=0) rfl
  cases ev
  obtain ⟨o,C0,C1,C2,eA,eo,hp,_⟩:=h.sl.at (k:=0) (s:=r) rfl
  cases eo
  have sub:∀a∈C1,F a=none:=fun a ha=>h.fr a (by rw [eA];simp [ha])
  have nd:C1.Nodup:=by
    have:=h.nd
    rw [eA] at this
    exact (List.nodup_append.mp (List.nodup_append.mp this).2.1).1
  cases r with
  | sh d=>obtain ⟨_,w,ew,r⟩:=hp;cases ew;exact cold r c
  | ow ds=>
    obtain ⟨l,vs,el,rfl,hl,r⟩:=hp
    cases el
    exact ⟨l,vs,rfl,nB l (sub l (by simp)),hl,(r.same h.fh).cold c⟩
  | tx ps=>
    obtain ⟨t,vs,et,ht,r⟩:=hp
    cases et
    exact ⟨t,vs,C1,rfl,ki (h.fh _ _ ht) rfl,nd,fun a ha=>nB a (sub a ha),r.cold h.fh cold (by simpa [bJ,List.all_eq_true] using c)⟩
  | no=>cases c
  | od kvs=>
    obtain ⟨l,us,A',el,rfl,hl,r⟩:=hp
    cases el
    exact ⟨l,us,A',rfl,nd,fun a ha=>nB a (sub a ha),hl,r.cold h.fh (by simpa [bJ,List.all_eq_true] using c)⟩
  | al i=>cases c
  | br d=>cases c
theorem FrF.resultO {r':Sl} (h:FrF K B F A σ H E [v] [r]) (c:bV r=some r'):Same B H∧tX K B H v r':=by
  unfold bV at c
  split at c
  · rename_i hc
    cases c
    exact h.result hc
  · refine ⟨h.bf.trans h.fh,?_⟩
    cases r with
    | sh d=>cases c;exact (h.look0 (d:=d) rfl).1
    | ow ds=>cases c;exact (h.look0 (d:= .list ds) rfl).1
    | tx ps=>cases c;exact (h.look0 (d:= .tuple (ps.map Pt.val)) rfl).1
    | br d=>
      have r:=(h.look0 (d:=d) rfl).1
      simp only at c
      split at c
      · rename_i hf
        cases c
        exact r.cold hf
      · cases c
        exact r
    | no=>cases c
    | od kvs=>cases c
    | al i=>cases c
theorem pK {N:List Str} {vs:List V} {ds:List PyData} (r:RpA K H vs ds) (hn:ds.length≤N.length):FrF K H H [] (L2.je N vs) H (bx N.length ds) [] []:=by
  refine ⟨Same.refl _,Same.refl _,kU H,?_,List.nodup_nil,fun a ha=>(by cases ha),rfl,?_⟩
  · have l:=r.len
    unfold L2.je bx
    rw [l]
    generalize N.length - ds.length=k
    have base:∀τ:lS,SAll (SlOk K H H τ) (List.replicate k none) (List.replicate k .no) []:=fun τ=>by
      induction k with
      | zero=>exact .nil
      | succ k ih=>exact .cons (A:=[]) rfl ih
    have key:∀(τ:lS) {us:List V} {es:List PyData},RpA K H us es→SAll (SlOk K H H τ) (us.map some++List.replicate k none) (es.map .sh++List.replicate k .no) []:=fun τ us es r=>by
      induction us generalizing es with
      | nil=>cases r;exact base τ
      | cons u us ih=>
        cases r with
        | cons r1 r2=>exact .cons (A:=[]) ⟨rfl,_,rfl,r1⟩ (ih _ r2)
    exact key _ r
  · intro s hs
    unfold bx at hs
    rcases List.mem_append.mp hs with hs | hs
    · obtain ⟨d,_,rfl⟩:=List.mem_map.mp hs
      rfl
    · rw [(List.mem_replicate.mp hs).2]
      rfl
end
def d5 (k n:Nat) (g:dH):List PyData→Option Sl:=fun ds=>if ds.length=k then gJ n g ds else none
theorem fu {P:Program} {w:World} {K:PySem.W.Frag} {mg:Str→Option Value} {base:Heap} {x:Str} {st:Stmt} {N ps:List Str} {k a n:Nat} {g:dH} (D:Def K mg x st ps) (S:FnScope N ps (ah st)) (hpa:ps.length=a) (hNn:N.length=n) (hps:a≤n)
    (hbody:∀(f:Addr) (cdv:Value) (A:Around) (outer:List Env) (s:Shared) (H:Hp) (E:XK),Room k (A.deeper (PyProof.Rows.envOfC x (ah st) s.heap.objs.size f cdv))→
      u7 (nS u6 P w K mg base N x (ah st) f cdv A outer s H E).nox (aA st) g):Own P w K mg base (k+1) x ps (cL K (d5 a n g)):=by
  subst hpa hNn
  refine D.own S (fun vs H Q E h=>?_) (fun f cdv A outer s H vs Q E hr h=>?_)
  · obtain ⟨ds,r,e,rp,_⟩:=h
    unfold d5 at e
    split at e
    · rename_i hl
      rw [rp.len];exact hl
    · cases e
  obtain ⟨ds,r,e,rp,q⟩:=h
  unfold d5 at e
  split at e
  · rename_i hl
    refine ⟨_,hbody f cdv A outer s H E hr,?_⟩
    obtain ⟨⟨E',fl⟩,e1,e⟩:=Option.bind_eq_some_iff.mp e
    refine ⟨H,bx N.length ds,[],[],E',fl,⟨H,[],pK rp (by omega)⟩,rfl,e1,?_⟩
    cases fl with
    | nx=>
      cases e
      rintro σ' H' ⟨F',A',fr'⟩
      exact q _ _ (fr'.bf.trans fr'.fh) .non
    | bk=>cases e
    | ct=>cases e
    | rt r'=>
      rintro σ' v H' ⟨F',A',fr'⟩
      obtain ⟨s1,s2⟩:=fr'.resultO e
      exact q v H' s1 s2
  · cases e
theorem EO {P:Program} {w:World} {K:PySem.W.Frag} {mg:Str→Option Value} {base:Heap} {x:Str} {st:Stmt} {N ps:List Str} {k a n:Nat} {g:dH} {f0:Addr} {fd:FuncData} (D:Fun K x x st f0 fd) (S:FnScope N ps (ah st)) (hpa:ps.length=a) (hNn:N.length=n) (hps:a≤n)
    (hbody:∀(cdv:Value) (A:Around) (outer:List Env) (s:Shared) (H:Hp) (E:XK),Room k (A.deeper (PyProof.Rows.envOfC x (ah st) s.heap.objs.size f0 cdv))→
      u7 (nS u6 P w K mg base N x (ah st) f0 cdv A outer s H E).nox (aA st) g):FnOk P w K mg base u6 (k+1) f0 fd ps (cL K (d5 a n g)):=by
  subst hpa hNn
  refine D.ok S (fun vs H Q E h=>?_) (fun cdv A outer s H vs Q E hr h=>?_)
  · obtain ⟨ds,r,e,rp,_⟩:=h
    unfold d5 at e
    split at e
    · rename_i hl
      rw [rp.len];exact hl
    · cases e
  obtain ⟨ds,r,e,rp,q⟩:=h
  unfold d5 at e
  split at e
  · rename_i hl
    refine ⟨_,hbody cdv A outer s H E hr,?_⟩
    obtain ⟨⟨E',fl⟩,e1,e⟩:=Option.bind_eq_some_iff.mp e
    refine ⟨H,bx N.length ds,[],[],E',fl,⟨H,[],pK rp (by omega)⟩,rfl,e1,?_⟩
    cases fl with
    | nx=>
      cases e
      rintro σ' H' ⟨F',A',fr'⟩
      exact q _ _ (fr'.bf.trans fr'.fh) .non
    | bk=>cases e
    | ct=>cases e
    | rt r'=>
      rintro σ' v H' ⟨F',A',fr'⟩
      obtain ⟨s1,s2⟩:=fr'.resultO e
      exact q v H' s1 s2
  · cases e
theorem oA {K:PySem.W.Frag} {H:Hp}:∀ns:List Int,RpA K H (ns.map V.int) (ns.map PyData.int)
  | []=> .nil
  | n::ns=> .cons (.int n) (oA ns)
theorem BG {K:PySem.W.Frag} {H:Hp} {a:Addr} {ns:List Int} {c:List PyData→Option Sl} (e:c [.list (ns.map .int)]=some (.sh (.bool true))) (h:SqL K H a (ns.map V.int)):cL K c [.ref a] H (fun v _=>v= .bl true) fun _ _ _=>False:=
  ⟨_,_,e, .cons (.lst h (oA ns)) .nil,fun v H' _ r=>by
    have r':Rp K (tups H') v (.bool true):=r
    cases r'
    rfl⟩
end PL
namespace PL
open PySem L2 Nh
def tZ (E:List Sl):Option Nat→Sl
  | none=> .no
  | some j=>match (E[j]?).bind Sl.val with
    | some d=> .sh d
    | none=> .no
def jj (js:List (Option Nat)) (E:List Sl):List Sl:=js.map (tZ E)
def bA:kW:=fun E=>some (true,E)
def cB (tg:gI) (cond:kW) (elt:bq):List PyData→List Sl→Option (List PyData)
  | [],_=>some []
  | d::ds,E=>(tg d E).bind fun E1=>(cond E1).bind fun b=>if b.1 then (elt b.2).bind fun c=>(frz c.2 c.1).bind fun e=>(cB tg cond elt ds e.2).map fun r=>e.1::r else cB tg cond elt ds b.2
def bn (js:List (Option Nat)) (it:mD) (tg:gI) (cond:kW) (elt:bq):bq:=fun E=>(it E).bind fun a=>(cB tg cond elt a.1 (jj js a.2)).bind fun ds=>if bd ds&&decide (ds.length≤1000000) then some (.ow ds,a.2) else none
section
variable {X:Cx} {elt target iter:Expr} {ifs:List Expr} {scope sc:Scope} {cl:List (Str×Addr)} {N:List Str} {pos:Pos} {js:List (Option Nat)} {K:PySem.W.Frag}
theorem wP {B F:Hp} {A:List Addr} {σ:lS} {H:Hp} {E:List Sl} {xs:List V} {Xs:List Sl} (fr:FrF K B F A σ H E xs Xs) (js:List (Option Nat)):FrF K H H [] (slots js σ) H (jj js E) [] []:=by
  refine ⟨Same.refl _,Same.refl _,kU H,?_,List.nodup_nil,fun a ha=>(by cases ha),rfl,fun s hs=>?_⟩
  · have key:∀(τ:lS) (ks:List (Option Nat)),SAll (SlOk K H H τ) (slots ks σ) (jj ks E) []:=fun τ ks=>by
      induction ks with
      | nil=>exact .nil
      | cons j ks ih=>
        refine .cons (A:=[]) ?_ ih
        cases j with
        | none=>exact rfl
        | some j=>
          show SlOk K H H τ _ (match (E[j]?).bind Sl.val with | some d=> .sh d | none=> .no) []
          cases ej:E[j]? with
          | none=>exact rfl
          | some s=>
            cases ev:s.val with
            | none=>simp only [Option.bind_some,ev];exact rfl
            | some d=>
              simp only [Option.bind_some,ev]
              obtain ⟨o,A1,eo,hs⟩:=fr.var ej
              obtain ⟨v,rfl,r,_⟩:=hs.val fr.fh ev
              refine ⟨rfl,v,?_,r⟩
              show (σ[j]?).join=some v
              rw [eo]
              rfl
    exact key _ js
  · obtain ⟨j,_,rfl⟩:=List.mem_map.mp hs
    cases j with
    | none=>rfl
    | some j=>
      simp only [tZ]
      split <;> rfl
theorem vf {m2 m3:Bool} {tg:gI} {cond:kW} {el:bq} {tt:TT} (htt:∀σ H Q,rt K m2 cond σ H Q→tt σ H Q) {B B' F:Hp} {A:List Addr} {σ:lS} {H1:Hp} {E1:List Sl} {xs:List V} {Xs:List Sl} {ds rs:List PyData} {J:It} {Q:VK}
    (fr1:FrF K B F A σ H1 E1 xs Xs) (B2:Same B' H1) (ok:sv K B' J ds) (e2:cB tg cond el ds (jj js E1)=some rs) (hc:bd rs=true∧rs.length≤1000000) (q:∀v H',Frm K B σ H' E1 (v::xs) (.ow rs::Xs)→Q v H') (l:Addr) (hl:H1 l=none):
    ∃W:Nat→Nat→lS→Hp→Prop,(∃m,W 0 m (slots js σ) (upd H1 l (.lst [])))∧
  ∀i m σ' H',W i m σ' H'→(J.stop i H'∧Q (.ref l) H')∨(J.go i H'∧∃N:lS→Hp→Prop,(∀σ' H',N σ' H'→∃m',m' < m∧W (i+1) m' σ' H')∧∀x H2,J.yld i H' x H2→rg K tg x σ' H2 fun σ3 H3=>tt σ3 H3 fun b H4=>
    if b=true then rd K m3 el σ3 H4 fun y H5=>∃ys,H5 l=some (.lst ys)∧ys.length < sizeLine∧N σ3 (upd H5 l (.lst (ys++[y]))) else N σ3 H4):=by
  have fr0:=(wP fr1 js).newl (ds:=[]) .nil hl
  refine ⟨fun i mm σ' H'=>mm=ds.length - i∧i≤ds.length∧∃Ei acc gr,cB tg cond el (ds.drop i) Ei=some gr∧rs=acc++gr∧Frm K H1 σ' H' Ei [.ref l] [.ow acc],⟨ds.length,by simp,Nat.zero_le _,_,[],rs,by simpa using e2,rfl,⟨_,_,fr0⟩⟩,?_⟩
  rintro i mm σ' H' ⟨rfl,hi,Ei,acc,gr,ei,er,F',A',fri⟩
  obtain ⟨go,stop⟩:=ok i B2 fri
  by_cases hlt:i < ds.length
  · obtain ⟨d,ed⟩:∃d,ds[i]? =some d:=⟨ds[i],List.getElem?_eq_getElem hlt⟩
    obtain ⟨g1,yl⟩:=go d ed
    have edr:ds.drop i=d::ds.drop (i+1):=by
      rw [List.drop_eq_getElem_cons hlt]
      congr 1
      exact Option.some.inj ((List.getElem?_eq_getElem hlt).symm.trans ed)
    rw [edr] at ei
    obtain ⟨E3,e3,ei⟩:=Option.bind_eq_some_iff.mp ei
    obtain ⟨⟨b,E4⟩,e4,ei⟩:=Option.bind_eq_some_iff.mp ei
    refine .inr ⟨g1,fun σ2 H2=>∃Ej acc gr,cB tg cond el (ds.drop (i+1)) Ej=some gr∧rs=acc++gr∧Frm K H1 σ2 H2 Ej [.ref l] [.ow acc],fun σ2 H2 ⟨Ej,ac,rt,ej,er,frj⟩=>⟨ds.length - (i+1),by omega,rfl,hlt,Ej,ac,rt,ej,er,frj⟩,fun x H2 y=>?_⟩
    have clm:Calm [Sl.ow acc]:=Calm.cons (fun s hs=>absurd hs (by simp)) rfl
    refine ⟨H1,Ei,[.ref l],[.ow acc],d,E3,yl x H2 y,(fun s hs=>by rw [List.mem_singleton.mp hs];rfl),e3,fun σ3 H3 fr3=>htt _ _ _ ?_⟩
    refine ⟨H1,E3,[.ref l],[.ow acc],b,E4,fr3,fun _=>clm,e4,fun H4 fr4=>?_⟩
    cases b with
    | false=>
      rw [if_neg (by decide)]
      exact ⟨E4,acc,gr,ei,er,fr4⟩
    | true=>
      rw [if_pos rfl]
      obtain ⟨⟨s5,E5⟩,e5,ei⟩:=Option.bind_eq_some_iff.mp ei
      obtain ⟨⟨d6,E6⟩,e6,ei⟩:=Option.bind_eq_some_iff.mp ei
      obtain ⟨rest',e7,ei⟩:=Option.map_eq_some_iff.mp ei
      subst ei
      refine ⟨H1,E4,[.ref l],[.ow acc],s5,E5,fr4,fun _=>clm,e5,fun y5 H5 ⟨F5,A5,fr5⟩=>?_⟩
      obtain ⟨F6,A6,fr6⟩:=fr5.frz0 e6
      obtain ⟨v',C1,ev,rfl,w,ew,ry⟩:=fr6.ext (k:=0) rfl
      cases ev;cases ew
      obtain ⟨A7,fr7⟩:=fr6.pop
      -- the list under way is the one part that owns
      obtain ⟨bf,fh,tf,sl,nd,frn,len,pl⟩:=fr7
      generalize hT:List.map some [V.ref l]++σ3=T at sl
      generalize hS:[Sl.ow acc]++E6=S at sl
      cases sl with
      | nil=>cases hS
      | cons q0 r0=>
        injection hT with h1 hT
        injection hS with h2 hS
        subst h1 h2 hT hS
        obtain ⟨l',us,el,rfl,hl5,ru⟩:=q0
        cases el
        have lu:=ru.len
        refine ⟨us,hl5,small (by rw [er] at hc;simp at hc;omega),E6,acc++[d6],rest',e7,by rw [er];simp,F6,_,bf,fun b o qb=>?_,?_, .cons (A:=[l]) ⟨l,us++[y5],rfl,rfl,cy,ru.snoc ry⟩ (r0.mono fun o s C hs hC qq=>qq.stay (Same.refl _) (fun b hb=>aS fun z=>?_) fun z=>?_),nd,frn,rfl,pl⟩
        · have lF:F6 l=none:=frn l (by simp)
          rw [aS (fun z=>by rw [z,lF] at qb;cases qb)]
          exact fh _ _ qb
        · rw [qG hl5];exact tf
        · have:=hC b hb
          rw [z] at this
          exact (List.nodup_cons.mp nd).1 this
        · have:=pl s hs
          cases s <;> simp [Sl.isAl,Sl.isBr] at this z
  · have e0:i=ds.length:=by omega
    refine .inl ⟨stop e0,?_⟩
    rw [e0,List.drop_length] at ei
    cases ei
    rw [List.append_nil] at er
    subst er
    obtain ⟨g1,g2⟩:=fri.result hc.1
    exact q _ _ (fr1.told g1 g2)
theorem pL {m m2 m3:Bool} {it:mD} {tg:gI} {cond:kW} {el:bq} {tt:TT} (htt:∀σ H Q,rt K m2 cond σ H Q→tt σ H Q) {σ:lS} {H:Hp} {Q:VK} (z:rd K m (bn js it tg cond el) σ H Q):tP js (ri K m it) (rg K tg) tt (rd K m3 el) σ H Q:=by
  obtain ⟨B,E,xs,Xs,res,E',fr,cl,e,q⟩:=z
  obtain ⟨⟨ds,E1⟩,e1,e⟩:=Option.bind_eq_some_iff.mp e
  obtain ⟨rs,e2,e⟩:=Option.bind_eq_some_iff.mp e
  simp only at e
  split at e
  · rename_i hc
    cases e
    simp only [Bool.and_eq_true,decide_eq_true_eq] at hc
    exact ⟨B,E,xs,Xs,ds,_,fr,cl,e1,fun B' J H1 hB ⟨F,A,fr1⟩ ok l hl=>vf htt (fr1.base hB) (fr1.bf.trans fr1.fh) ok e2 hc q l hl⟩
  · cases e
theorem eY {m m3:Bool} {it:mD} {tg:gI} {el:bq} (C:CompOk X scope sc cl N js) (hc:X.calm=true) (hi:IX X target iter m it) (hg:∀C s₀ H₀ fp,GX (X.comp sc cl N C s₀ H₀ fp) target tg) (he:∀C s₀ H₀ fp,EX (X.comp sc cl N C s₀ H₀ fp) elt m3 el)
    (hs:∀x,foldedSetIterable iter X.env x=pure x:=by intro _;rfl):EX X (.ListComp elt [⟨target,iter,[],0⟩] scope pos) m (bn js it tg bA el):=
  b_ (tQ (g:=rg X.K tg) (te:=rd X.K m3 el) C hc hi hg (fun _ _ _ _=>tO) he hs) fun σ H Q z=>pL (m2:=false) (fun σ H Q z=>by
    obtain ⟨B,E,xs,Xs,b,E',fr,cl,e,q⟩:=z
    cases e
    exact q _ fr) z
theorem ko {c:Expr} {m m2 m3:Bool} {it:mD} {tg:gI} {cond:kW} {el:bq} (C:CompOk X scope sc cl N js) (hc:X.calm=true) (hi:IX X target iter m it) (hg:∀C s₀ H₀ fp,GX (X.comp sc cl N C s₀ H₀ fp) target tg) (ht:∀C s₀ H₀ fp,TX (X.comp sc cl N C s₀ H₀ fp) c m2 cond) (he:∀C s₀ H₀ fp,EX (X.comp sc cl N C s₀ H₀ fp) elt m3 el)
    (hs:∀x,foldedSetIterable iter X.env x=pure x:=by intro _;rfl):EX X (.ListComp elt [⟨target,iter,[c],0⟩] scope pos) m (bn js it tg cond el):=
  b_ (tQ (g:=rg X.K tg) (te:=rd X.K m3 el) (tt:=rt X.K m2 cond) C hc hi hg (fun _ _ _ _=>yT (ht _ _ _ _)) he hs) fun σ H Q z=>pL (m2:=m2) (fun _ _ _ z=>z) z
end
end PL
namespace PL
open PySem L2 Nh
theorem BH {K:PySem.W.Frag} {m:Bool} {i:Nat} {f:bq} {D:Ends} {σ:lS} {H:Hp} (z:rs K (aC i f) D σ H):rd K m f σ H fun v H1=>wc i v σ H1 D.nx:=by
  obtain ⟨B,E,xs,Xs,E',fl,fr,cl,e,q⟩:=z
  obtain ⟨⟨s,E1⟩,e1,e⟩:=Option.bind_eq_some_iff.mp e
  obtain ⟨⟨s',E2⟩,e2,e⟩:=Option.bind_eq_some_iff.mp e
  refine ⟨B,E,xs,Xs,s,E1,fr,fun _=>Calm.nil cl,e1,fun v H1 ⟨F,A,fr1⟩=>?_⟩
  obtain ⟨c1,F2,A2,fr2⟩:=fr1.settle cl e2
  simp only at e
  split at e
  · rename_i hi
    cases e
    obtain ⟨A3,fr3⟩:=fr2.store c1 (Still.nil cl) hi
    exact q _ _ ⟨F2,A3,fr3⟩
  · cases e
section
variable {X:Cx} {elt target iter:Expr} {scope sc:Scope} {cl:List (Str×Addr)} {N:List Str} {pos spos px:Pos} {js:List (Option Nat)} {x:Str}
theorem wQ {m m3:Bool} {it:mD} {tg:gI} {el:bq} (i:Nat) (hN:X.N.Nodup) (C:CompOk X scope sc cl N js) (hc:X.calm=true) (h:IX X target iter m it) (hg:∀C s₀ H₀ fp,GX (X.comp sc cl N C s₀ H₀ fp) target tg) (he:∀C s₀ H₀ fp,EX (X.comp sc cl N C s₀ H₀ fp) elt m3 el)
    (hi:X.N[i]? =some x:=by rfl) (hx:AK X.env.scope x:=by first | exact Or.inl rfl | exact Or.inr rfl) (hf:X.fn x=true∨X.env.scope.names.lookup x=some .local:=by first | exact .inl rfl | exact .inr rfl | assumption)
    (hs:∀x,foldedSetIterable iter X.env x=pure x:=by intro _;rfl) (hsw:swapsWith (.ListComp elt [⟨target,iter,[],0⟩] scope pos) (some (.Name x px)) spos.line X.env=pure true:=by rfl):
    SX X (.Assign [.Name x px] (.ListComp elt [⟨target,iter,[],0⟩] scope pos) spos) (aC i (bn js it tg bA el)):=
  jY (yV (g:=rg X.K tg) (te:=rd X.K m3 el) C hc (tH hN hi hx hf) h hg (fun _ _ _ _=>tO) he hs hsw) fun D σ H z=>pL (m2:=false) (fun σ H Q z=>by
    obtain ⟨B,E,xs,Xs,b,E',fr,cl,e,q⟩:=z
    cases e
    exact q _ fr) (BH z)
end
def Dc:Const→Option Int
  | .int i=>some i
  | _=>none
def BI:Expr→Option Int
  | .Constant c _ _=>Dc c
  | _=>none
def jB:List Expr→Option (List Int)
  | []=>some []
  | e::r=>(BI e).bind fun i=>(jB r).map (i:: ·)
def oB (ns:List Int):mD:=fun E=>some (ns.map .int,E)
theorem BJ {e:Expr} {i:Int} (h:BI e=some i):∃k p,e= .Constant (.int i) k p:=by
  unfold BI at h
  split at h
  · unfold Dc at h
    split at h
    · cases h;exact ⟨_,_,rfl⟩
    · cases h
  · cases h
theorem t5 {X:Cx}:∀{es:List Expr} {ns:List Int},jB es=some ns→DX X es false (oB ns)
  | [],ns,h=>by cases h;exact eX
  | e::es,ns,h=>by
    obtain ⟨i,h0,h⟩:=Option.bind_eq_some_iff.mp h
    obtain ⟨ms,h1,h⟩:=Option.map_eq_some_iff.mp h
    subst h
    obtain ⟨k,p,rfl⟩:=BJ h0
    exact fJ (m1:=false) (m2:=false) ar (t5 h1) rfl
def De (body:List Stmt) (k:Nat):List Expr:=match body[k]? with
  | some (.Assign _ (.Subscript (.List es _) _ _) _)=>es
  | _=>[]
def El (es:List Expr):Stmt→Stmt
  | .Assign t (.Subscript (.List _ p) i q) r=> .Assign t (.Subscript (.List es p) i q) r
  | s=>s
def BK (es:List Expr):Nat→List Stmt→List Stmt
  | _,[]=>[]
  | 0,s::r=>El es s::r
  | k+1,s::r=>s::BK es k r
theorem sx {X:Cx} {body:List Stmt} {g:dH} (k:Nat) (ns:List Int) (h:jB (De body k)=some ns) (hb:BK (De body k) k body=body) (key:∀es,jB es=some ns→u7 X (BK es k body) g):u7 X body g:=by
  have:=key _ h
  rw [hb] at this
  exact this
end PL
namespace PL
open PySem L2 Nh
theorem iu {α:Type} (xs:List α) (k:Nat):atI xs (k:Int)=xs[k]? :=by
  unfold atI CQ
  rw [if_pos (by omega)]
  split
  · simp
  · rw [List.getElem?_eq_none (by omega)];rfl
theorem Df {α:Type} (a:α) (l:List α):atI (a::l) 0=some a:=iu (a::l) 0
theorem BL {α:Type} {xs:List α} {i:Int} (h:0≤i):atI xs i=xs[i.toNat]? :=by
  have e:i=((i.toNat:Nat):Int):=by omega
  rw [e,iu,Int.toNat_natCast]
theorem kq:∀(a b:List PyData),bd (a++b)=(bd a&&bd b)
  | [],b=>by simp [bd]
  | x::a,b=>by simp [bd,kq a b,Bool.and_assoc]
theorem oC:∀{a:List PyData},(∀d∈a,cV d=true)→bd a=true
  | [],_=>rfl
  | x::a,h=>by simp [bd,h x (List.mem_cons_self ..),oC fun d hd=>h d (List.mem_cons_of_mem _ hd)]
theorem oD {α:Type} {f:α→PyData} (h:∀a,cV (f a)=true) (l:List α):bd (l.map f)=true:=oC fun d hd=>by
  obtain ⟨a,_,rfl⟩:=List.mem_map.mp hd
  exact h a
theorem zh (p:Pc):cV (ja p)=true:=rfl
theorem jk (c:List Pc):bd (c.map ja)=true:=oD zh c
theorem vg (l:List Int):bd (l.map PyData.int)=true:=oD (fun _=>rfl) l
def cutL {α:Type} (l:List α) (lo hi:Option Int):List α:=(l.drop (HT.mC l.length 0 lo)).take (HT.mC l.length l.length hi - HT.mC l.length 0 lo)
theorem mY {α:Type} (f:α→PyData) (l:List α) (lo hi:Option Int):u_ (l.map f) lo hi=(cutL l lo hi).map f:=by
  unfold u_ cutL
  rw [List.length_map,List.map_take,List.map_drop]
theorem qP {α:Type} (l:List α) (lo hi:Option Int):(cutL l lo hi).length≤l.length:=by
  unfold cutL
  rw [List.length_take,List.length_drop]
  omega
theorem vh {α:Type} (l:List α) {k:Int} (h0:0≤k):cutL l (some k) none=l.drop k.toNat:=by
  have e:k=((k.toNat:Nat):Int):=by omega
  have z:∀d,HT.mC l.length d (some k)=min k.toNat l.length:=fun d=>by
    rw [e,HT.pf,Int.toNat_natCast]
  unfold cutL
  rw [z,HT.wm]
  rcases Nat.le_total k.toNat l.length with h | h
  · rw [Nat.min_eq_left h]
    exact List.take_of_length_le (by rw [List.length_drop];omega)
  · rw [Nat.min_eq_right h,List.drop_length,List.drop_of_length_le h,List.take_nil]
theorem qQ {α:Type} {l:List α} {lo hi:Option Int} {x:α} (h:x∈cutL l lo hi):x∈l:=List.mem_of_mem_drop (List.mem_of_mem_take h)
theorem iv (lo:Int) (n:Nat):iq lo (n+1)= .int lo::iq (lo+1) n:=by
  unfold iq
  rw [List.range_succ_eq_map,List.map_cons,List.map_map]
  simp only [Int.natCast_zero,Int.add_zero]
  congr 1
  refine List.map_congr_left fun k _=>?_
  show PyData.int (lo+((k+1:Nat):Int))=PyData.int (lo+1+(k:Int))
  congr 1
  omega
end PL
namespace L2
open PySem PySem.Spec PyProof.Rows
def DL (x:Str):It:=⟨fun i _=>i < x.cps.toList.length,fun i H v H'=>H'=H∧∃c,x.cps.toList[i]? =some c∧v= .str ⟨#[c]⟩,fun i _=>i=x.cps.toList.length⟩
theorem wR {P:Program} {w:World} {K:PySem.W.Frag} {tg:Expr} {it:Addr} {T:String} {x:Str} {t:Tok} (hT:T="str_ascii_iterator"∨T="str_iterator"):Turn P w K tg (DL x) [it] it (fun i h=>h.IsStrIter it T x t i) where
  mem:=by simp
  obj:=fun i h st b hb=>by
    have e:b=it:=by simpa using hb
    subst e
    obtain ⟨o,e,c,d⟩:=st
    exact ⟨o,e,fun v z=>by rw [d] at z;cases z⟩
  keep:=fun i h h' st k=>let ⟨o,ho,r⟩:=st;⟨o,k it (by simp) o ho,r⟩
  item:=by
    intro X hP hw hK hc i pins s σ H E I hf st hg
    subst hP hw hK
    obtain ⟨f0,f1,f2,f3,f4,f5⟩:=hf it (by simp)
    have hi:i < x.cps.toList.length:=hg
    have hx:x.cps[i]? =some (x.cps.toList[i]'hi):=by simp at hi;simp [hi]
    have fin:∀(h':Heap),h'.IsStrIter it T x t (i+1)→Heap.SameBut it s.heap h'→∃u,some (Value.str ⟨#[x.cps.toList[i]'hi]⟩ s.toks)=some u∧
        wpAny (model X.prog X.w) X.A (letOwnedTupleGo tg (.ref it) u) (fun _ s2=>∃v H',Inv X pins σ H' s2∧RelV v u∧(DL x).yld i H v H'∧s2.heap.IsStrIter it T x t (i+1)∧∀b∈[it],H' b=none) E {s with heap:=h',toks:=s.toks+1}:=fun h' st' sb=>by
      have I1:Inv X pins σ H {s with heap:=h',toks:=s.toks+1}:=I.turned (t':=s.toks+1) (fun b o hb e=>(sb.2 b hb).trans e) f0 f1 f3 f4 f5
      obtain ⟨o,e,c,d⟩:=id st'
      exact ⟨_,rfl,qA (s:={s with heap:=h',toks:=s.toks+1}) e c d (by rcases hT with rfl | rfl <;> decide) ⟨.str ⟨#[x.cps.toList[i]'hi]⟩,H,I1,⟨_,rfl⟩,⟨rfl,_,List.getElem?_eq_getElem hi,rfl⟩,st',fun b hb=>(hf b hb).1⟩⟩
    rcases hT with rfl | rfl
    · exact wpAny_pyNext_ascii_item st hx fun h' st' sb=>fin h' st' sb
    · exact wpAny_pyNext_wide_item st hx fun h' st' sb=>fin h' st' sb
  done:=by
    intro X hP hw hK hc i pins s σ H E I hf st hg
    subst hP hw hK
    obtain ⟨f0,f1,f2,f3,f4,f5⟩:=hf it (by simp)
    have hi:i=x.cps.toList.length:=hg
    have hx:x.cps[i]? =none:=by simp at hi;simp [hi]
    rcases hT with rfl | rfl
    · exact wpAny_pyNext_ascii_end (I.ok.hd hc) st hx fun h' eb=>⟨rfl,I.turned (t':=s.toks) (fun b o hb e=>eb b o hb e) f0 f1 f3 f4 f5⟩
    · exact wpAny_pyNext_wide_end (I.ok.hd hc) st hx fun h' eb=>⟨rfl,I.turned (t':=s.toks) (fun b o hb e=>eb b o hb e) f0 f1 f3 f4 f5⟩
  self:=fun _ _ _ _ _ st h=>by
    rcases hT with rfl | rfl
    · exact wpAny_pyIter_striter_ascii st h
    · exact wpAny_pyIter_striter_wide st h
def Em (tl:TE):TI:=fun σ H R=>tl σ H fun v H1=>∃x,v= .str x∧R (DL x) H1
theorem BM {X:Cx} {tg l:Expr} {tl:TE} (hl:PE X l tl):PI X tg l (Em tl):=by
  intro pins s σ H R I h
  refine fU (hl pins s σ H _ I h) fun v s1 ⟨y,H1,I1,r1,q1⟩=>?_
  obtain ⟨x,e,q⟩:=q1
  subst e
  obtain ⟨t,rfl⟩:=r1
  refine wpAny_pyIter_strU ?_
  refine ⟨s1.heap.objs.size,[s1.heap.objs.size],fun i h=>h.IsStrIter s1.heap.objs.size (strIterType x) x t i,_,H1,rfl,I1.kept (t':=s1.toks) fun b o e=>Heap.get?_push_of_some _ e,wR (t:=t) ?_,⟨_,Heap.get?_push_size _ rfl,rfl,rfl⟩,fun b hb=>?_,q⟩
  · unfold strIterType
    split
    · exact .inl rfl
    · exact .inr rfl
  · have e:b=s1.heap.objs.size:=by simpa using hb
    subst e
    exact I1.fpOk (Nat.le_refl _) (I1.hok.fresh (Nat.le_refl _))
theorem PI.or {X:Cx} {tg l:Expr} {a b:TI} (h1:PI X tg l a) (h2:PI X tg l b):PI X tg l (fun σ H R=>a σ H R∨b σ H R):=by
  intro pins s σ H R I h
  rcases h with h | h
  · exact h1 pins s σ H R I h
  · exact h2 pins s σ H R I h
end L2
namespace PL
open PySem L2 Nh
def ig (x:Str):List PyData:=x.cps.toList.map fun c=> .str ⟨#[c]⟩
def aO (f:bq):mD:=fun E=>(f E).bind fun a=>(frz a.2 a.1).bind fun b=>match b.1 with
  | .list ds=>some (ds,b.2)
  | .tuple ds=>some (ds,b.2)
  | .str x=>some (ig x,b.2)
  | _=>none
section
variable {X:Cx} {K:PySem.W.Frag} {B:Hp}
theorem wS {x:Str}:sv K B (DL x) (ig x):=fun {B' F A σ H E xs Xs} i sB fr=>by
  refine ⟨fun d ed=>?_,fun e=>by show i=x.cps.toList.length;rw [e];simp [ig]⟩
  unfold ig at ed
  rw [List.getElem?_map] at ed
  obtain ⟨c,ec,rfl⟩:=Option.map_eq_some_iff.mp ed
  refine ⟨(List.getElem?_eq_some_iff.mp ec).1,fun z H2 ⟨e1,c',e2,e3⟩=>?_⟩
  rw [ec] at e2;cases e2
  subst e1 e3
  exact ⟨F,A,fr.push ⟨rfl,_,rfl, .str _⟩⟩
theorem wT {a:Addr} {vs:List V} {ds:List PyData} (h:SqT K B a vs) (r:RpA K B vs ds):sv K B (D1 K a) ds:=fun {B' F A σ H E xs Xs} i sB fr=>by
  have hH:=fr.fh.tup (fr.bf.tup (sB.tup h))
  refine ⟨fun d ed=>?_,fun e=>⟨vs,hH,by rw [e,r.len];exact Nat.le_refl _⟩⟩
  obtain ⟨v,ev,rv⟩:=r.get ed
  refine ⟨⟨vs,v,hH,ev⟩,fun x H2 ⟨e2,y⟩=>?_⟩
  subst e2
  have:=y vs hH
  rw [ev] at this
  cases this
  exact ⟨F,A,fr.push ⟨rfl,_,rfl,rv.same (sB.trans fr.bf)⟩⟩
theorem cC {tg e:Expr} {m:Bool} {f:bq} (he:EX X e m f):IX X tg e m (aO f):=pJ (PI.or (yE he) (PI.or (AW he) (BM he))) fun σ H R z=>by
  obtain ⟨B,E,xs,Xs,ds,E',fr,cl,e,q⟩:=z
  obtain ⟨⟨s,E1⟩,e1,e⟩:=Option.bind_eq_some_iff.mp e
  obtain ⟨⟨d,E2⟩,e2,e⟩:=Option.bind_eq_some_iff.mp e
  have key:∀(v:V) (H1:Hp),Frm X.K B σ H1 E1 (v::xs) (s::Xs)→∃F2 A2 A3,Rp X.K F2 v d∧Same B F2∧FrF X.K F2 F2 A3 σ H1 E2 xs Xs∧FrF X.K B F2 A2 σ H1 E2 (v::xs) (.sh d::Xs):=fun v H1 ⟨F,A,fr1⟩=>by
    obtain ⟨F2,A2,fr2⟩:=fr1.frz0 e2
    obtain ⟨v',A1,ev,rfl,w,ew,r⟩:=fr2.ext (k:=0) rfl
    cases ev;cases ew
    obtain ⟨A3,fr3⟩:=fr2.pop
    exact ⟨F2,A2,A3,r,fr2.bf,fr3.raise,fr2⟩
  simp only at e
  split at e
  · cases e
    refine .inl ⟨B,E,xs,Xs,s,E1,fr,cl,e1,fun v H1 fr1=>?_⟩
    obtain ⟨F2,A2,A3,r,sb,fr3,fr2⟩:=key v H1 fr1
    cases r with
    | lst h1 h2=>exact ⟨_,rfl,⟨_,fr2.fh.seq h1⟩,q F2 _ _ sb ⟨F2,A3,fr3⟩ (vd h1 h2)⟩
  · cases e
    refine .inr (.inl ⟨B,E,xs,Xs,s,E1,fr,cl,e1,fun v H1 fr1=>?_⟩)
    obtain ⟨F2,A2,A3,r,sb,fr3,fr2⟩:=key v H1 fr1
    cases r with
    | tup h1 h2=>exact ⟨_,rfl,⟨_,fr2.fh.tup h1⟩,q F2 _ _ sb ⟨F2,A3,fr3⟩ (wT h1 h2)⟩
  · cases e
    refine .inr (.inr ⟨B,E,xs,Xs,s,E1,fr,cl,e1,fun v H1 fr1=>?_⟩)
    obtain ⟨F2,A2,A3,r,sb,fr3,fr2⟩:=key v H1 fr1
    cases r
    exact ⟨_,rfl,q F2 _ _ sb ⟨F2,A3,fr3⟩ wS⟩
  · cases e
end
end PL
namespace PL
open PySem L2 Nh
inductive Cm where
  | lt | le | gt | ge
def Cm.op:Cm→CmpOp
  | .lt=> .Lt
  | .le=> .LtE
  | .gt=> .Gt
  | .ge=> .GtE
def Cm.i:Cm→Int→Int→Bool
  | .lt,i,j=>decide (i < j)
  | .le,i,j=>decide (i≤j)
  | .gt,i,j=>decide (j < i)
  | .ge,i,j=>decide (j≤i)
def Cm.s:Cm→List Nat→List Nat→Bool
  | .lt,i,j=>decide (i < j)
  | .le,i,j=> !decide (j < i)
  | .gt,i,j=>decide (j < i)
  | .ge,i,j=> !decide (i < j)
def gu (c:Cm):PyData→PyData→Option PyData
  | .int i, .int j=>some (.bool (c.i i j))
  | .str x, .str y=>some (.bool (c.s x.cps.toList y.cps.toList))
  | _,_=>none
def EE (c:Cm):R2:=fun x y H Q=>(∃i j,x= .int i∧y= .int j∧Q (.bl (c.i i j)) H)∨(∃i j,x= .str i∧y= .str j∧Q (.bl (c.s i.cps.toList j.cps.toList)) H)
section
variable {X:Cx} {a b c:Expr} {m1 m2 m3:Bool} {f g h:bq} {pos:Pos} {K:PySem.W.Frag}
theorem t6 (c:Cm):OpR X (compareOp c.op) (EE c):=by
  cases c with
  | lt=>exact OpR.or CJ uT
  | le=>exact OpR.or CK (fun pins s σ H x y v u Q I rx ry h=>by
      obtain ⟨i,j,rfl,rfl,q⟩:=h
      obtain ⟨t,rfl⟩:=rx
      obtain ⟨t',rfl⟩:=ry
      exact PySem.P.le_str (aX I q rfl))
  | gt=>exact OpR.or CL (fun pins s σ H x y v u Q I rx ry h=>by
      obtain ⟨i,j,rfl,rfl,q⟩:=h
      obtain ⟨t,rfl⟩:=rx
      obtain ⟨t',rfl⟩:=ry
      exact PySem.P.gt_str (aX I q rfl))
  | ge=>exact OpR.or CM (fun pins s σ H x y v u Q I rx ry h=>by
      obtain ⟨i,j,rfl,rfl,q⟩:=h
      obtain ⟨t,rfl⟩:=rx
      obtain ⟨t',rfl⟩:=ry
      exact PySem.P.ge_str (aX I q rfl))
theorem t7 (c:Cm):u8 K (EE c) (gu c):=fun d1 d2 d v1 v2 H Q e r1 r2=>by
  unfold gu at e
  split at e
  · cases e;cases r1;cases r2
    exact ⟨_,rfl,fun q=> .inl ⟨_,_,rfl,rfl,q⟩⟩
  · cases e;cases r1;cases r2
    exact ⟨_,rfl,fun q=> .inr ⟨_,_,rfl,rfl,q⟩⟩
  · cases e
theorem oE (c:Cm) (b:Expr):behindInMarks c.op b=false:=by cases c <;> exact pe _
theorem Dg (c:Cm) (ha:EX X a m1 f) (hb:EX X b m2 g):EX X (.Compare a [c.op] [b] pos) (m1||m2) (ag (fT (gu c)) m2 f g):=sq (t6 c) (jZ (t7 c)) ha hb (oE c b)
theorem t8 (c:Cm) (ha:EX X a m1 f) (hb:EX X b m2 g):TX X (.Compare a [c.op] [b] pos) (m1||m2) (eI (ag (fT (gu c)) m2 f g)):=pG (t6 c) (jZ (t7 c)) ha hb (oE c b)
theorem Dh (c1 c2:Cm) (ha:EX X a m1 f) (hb:EX X b m2 g) (hc:EX X c m3 h) (hm:lastMarks [c1.op,c2.op] [b,c]=false:=by with_unfolding_all rfl):EX X (.Compare a [c1.op,c2.op] [b,c] pos) (m1||(m2||m3)) (mS (gu c1) (gu c2) m2 m3 f g h):=wD (t6 c1) (t6 c2) (t7 c1) (t7 c2) ha hb hc hm
def sy:P2:=fT (mQ (fun _ j=>decide (0≤j)) fun i j=> .int (i / 2 ^ j.toNat))
def pM:P2:=fT (mQ (fun _ _=>true) fun i j=> .int (Builtin.bitAnd i j))
theorem wU (ha:EX X a m1 f) (hb:EX X b m2 g):EX X (.BinOp a .RShift b pos) (m1||m2) (ag sy m2 f g):=lN (r:=An (fun _ j=>decide (0≤j)) fun i j=> .int (i / 2 ^ j.toNat)) (OpR.imp Bc fun x y H Q ⟨i,j,a,b,c,q⟩=>⟨i,j,a,b,of_decide_eq_true c,q⟩) (kX fun _ _=>rfl) ha hb
theorem pN (ha:EX X a m1 f) (hb:EX X b m2 g):EX X (.BinOp a .BitAnd b pos) (m1||m2) (ag pM m2 f g):=lN (r:=An (fun _ _=>true) fun i j=> .int (Builtin.bitAnd i j)) (OpR.imp Bd fun x y H Q ⟨i,j,a,b,_,q⟩=>⟨i,j,a,b,q⟩) (kX fun _ _=>rfl) ha hb
def isInt:PyData→Option Int
  | .int x=>some x
  | _=>none
def gE:List PyData→Option (List Str)
  | []=>some []
  | .str x::ds=>(gE ds).map fun xs=>x::xs
  | _::_=>none
def pO:List PyData→Option (List Int)
  | []=>some []
  | .int x::ds=>(pO ds).map fun xs=>x::xs
  | _::_=>none
theorem iw:∀{ds:List PyData} {xs:List Str},gE ds=some xs→ds=xs.map .str
  | [],xs,h=>by cases h;rfl
  | d::ds,xs,h=>by
    cases d with
    | str x=>
      obtain ⟨ys,e,rfl⟩:=Option.map_eq_some_iff.mp h
      rw [iw e];rfl
    | _=>cases h
theorem lg:∀{ds:List PyData} {xs:List Int},pO ds=some xs→ds=xs.map .int
  | [],xs,h=>by cases h;rfl
  | d::ds,xs,h=>by
    cases d with
    | int x=>
      obtain ⟨ys,e,rfl⟩:=Option.map_eq_some_iff.mp h
      rw [lg e];rfl
    | _=>cases h
theorem jl {H:Hp}:∀{vs:List V} {xs:List Str},RpA K H vs (xs.map .str)→vs=xs.map .str
  | [],[],_=>rfl
  | v::vs,x::xs, .cons h r=>by cases h;rw [jl r];rfl
theorem mZ {H:Hp}:∀{vs:List V} {xs:List Int},RpA K H vs (xs.map .int)→vs=xs.map .int
  | [],[],_=>rfl
  | v::vs,x::xs, .cons h r=>by cases h;rw [mZ r];rfl
def Cl:PyData→PyData→Option Bool
  | .str x, .str y=>some (!(Builtin.Str.occurrences y x 0 y.length 1).isEmpty)
  | .str x, .list ds=>(gE ds).map fun xs=>xs.contains x
  | .str x, .tuple ds=>(gE ds).map fun xs=>xs.contains x
  | .int x, .list ds=>(pO ds).map fun xs=>xs.contains x
  | .int x, .tuple ds=>(pO ds).map fun xs=>xs.contains x
  | _,_=>none
def Di (K:PySem.W.Frag) (neg:Bool):R2:=fun x y H Q=>(∃i j,x= .str i∧y= .str j∧Q (.bl (if neg then !(!(Builtin.Str.occurrences j i 0 j.length 1).isEmpty) else !(Builtin.Str.occurrences j i 0 j.length 1).isEmpty)) H)∨EC K neg x y H Q
theorem qR (x:Str) (xs:List Str):Ck (.str x) (xs.map .str)=xs.contains x:=by
  induction xs with
  | nil=>rfl
  | cons y xs ih=>
    rw [List.contains_cons,←ih]
    show (yn (.str y) (.str x)||Ck (.str x) (xs.map .str))=_
    congr 1
    show (y == x)=(x == y)
    exact BEq.comm
theorem qS (x:Int) (xs:List Int):Ck (.int x) (xs.map .int)=xs.contains x:=by
  induction xs with
  | nil=>rfl
  | cons y xs ih=>
    rw [List.contains_cons,←ih]
    show (yn (.int y) (.int x)||Ck (.int x) (xs.map .int))=_
    congr 1
    show (y == x)=(x == y)
    exact BEq.comm
theorem wV (neg:Bool):u8 K (Di K neg) (fun d1 d2=>(Cl d1 d2).map fun b=> .bool (if neg then !b else b)):=fun d1 d2 d v1 v2 H Q e r1 r2=>by
  obtain ⟨b,e',rfl⟩:=Option.map_eq_some_iff.mp e
  clear e
  have e:=e'
  clear e'
  refine ⟨_,rfl,fun q=>?_⟩
  have hs:∀xs:List Str,(xs.map V.str).all iZ=true:=fun xs=>by simp [List.all_eq_true,iZ]
  have hi:∀xs:List Int,(xs.map V.int).all iZ=true:=fun xs=>by simp [List.all_eq_true,iZ]
  unfold Cl at e
  split at e
  · cases e;cases r1;cases r2
    exact .inl ⟨_,_,rfl,rfl,q⟩
  · obtain ⟨xs,ex,rfl⟩:=Option.map_eq_some_iff.mp e
    cases r1
    cases r2 with
    | lst h1 h2=>
      rw [iw ex] at h2
      rw [jl h2] at h1
      exact .inr ⟨_,_,rfl, .inl h1,rfl,hs _,by rw [qR];exact q⟩
  · obtain ⟨xs,ex,rfl⟩:=Option.map_eq_some_iff.mp e
    cases r1
    cases r2 with
    | tup h1 h2=>
      rw [iw ex] at h2
      rw [jl h2] at h1
      exact .inr ⟨_,_,rfl, .inr h1,rfl,hs _,by rw [qR];exact q⟩
  · obtain ⟨xs,ex,rfl⟩:=Option.map_eq_some_iff.mp e
    cases r1
    cases r2 with
    | lst h1 h2=>
      rw [lg ex] at h2
      rw [mZ h2] at h1
      exact .inr ⟨_,_,rfl, .inl h1,rfl,hi _,by rw [qS];exact q⟩
  · obtain ⟨xs,ex,rfl⟩:=Option.map_eq_some_iff.mp e
    cases r1
    cases r2 with
    | tup h1 h2=>
      rw [lg ex] at h2
      rw [mZ h2] at h1
      exact .inr ⟨_,_,rfl, .inr h1,rfl,hi _,by rw [qS];exact q⟩
  · cases e
def zi (neg:Bool):P2:=fT fun d1 d2=>(Cl d1 d2).map fun b=> .bool (if neg then !b else b)
theorem wW:OpR X (compareOp .In) (Di X.K false):=OpR.or uU uZ
theorem Dj (ha:EX X a m1 f) (hb:EX X b m2 g) (hm:behindInMarks .In b=false:=by with_unfolding_all rfl):EX X (.Compare a [.In] [b] pos) (m1||m2) (ag (zi false) m2 f g):=sq wW (jZ (wV false)) ha hb hm
theorem At (ha:EX X a m1 f) (hb:EX X b m2 g) (hm:behindInMarks .In b=false:=by with_unfolding_all rfl):TX X (.Compare a [.In] [b] pos) (m1||m2) (eI (ag (zi false) m2 f g)):=pG wW (jZ (wV false)) ha hb hm
end
def oF (x:Str):PyData→Option PyData
  | .list ds=>(gE ds).bind fun ys=>if (ys.map (·.length)).sum+ys.length*x.length≤1000000 then some (.str (Txt.join x ys)) else none
  | .tuple ds=>(gE ds).bind fun ys=>if (ys.map (·.length)).sum+ys.length*x.length≤1000000 then some (.str (Txt.join x ys)) else none
  | _=>none
theorem oG {ys:List Str}:∀{us:List Value},Vals (ys.map V.str) us→PyProof.Rows.StrsAre us ys:=by
  induction ys with
  | nil=>intro us h;cases h;exact .nil
  | cons y ys ih=>
    intro us h
    cases h with
    | cons h r=>
      obtain ⟨t,rfl⟩:=h
      exact .cons y t (ih r)
def Dk (K:PySem.W.Frag):V→List V→Hp→VK→Prop:=fun x vs H Q=>∃z p ys,x= .str z∧vs=[.ref p]∧(SqL K H p (ys.map .str)∨SqT K H p (ys.map .str))∧(ys.map (·.length)).sum+ys.length*z.length≤16777216∧Q (.str (Txt.join z ys)) H
theorem zj {X:Cx}:MtR X "str.join" (Dk X.K):=by
  intro pins s σ H x vs v us Q I rx rv h
  obtain ⟨z,p,ys,rfl,rfl,hq,hl,q⟩:=h
  obtain ⟨t,rfl⟩:=rx
  obtain ⟨u,rfl,ru⟩:=rv.one
  cases ru
  rcases hq with hq | hq
  · obtain ⟨its,r,pl,_⟩:=I.list hq
    exact PyProof.Rows.join_list pl.isList (by simpa using oG r) hl fun t' k=>⟨.str _,H,I.tok _,⟨_,rfl⟩,q⟩
  · obtain ⟨its,r,pl,_⟩:=I.tuple hq
    exact PyProof.Rows.join_tuple pl (by simpa using oG r) hl fun t' k=>⟨.str _,H,I.tok _,⟨_,rfl⟩,q⟩
section
variable {X:Cx} {e o:Expr} {m1 m2:Bool} {g:qJ} {f h:bq} {p pos apos cpos:Pos} {K:PySem.W.Frag}
def dQ (x:Str) (f:bq):bq:=kj (oF x) f
theorem iP {x:Str} {j:Nat} {sp:Pos} (he:EX X e m1 f) (hs:starEach [e] X.env=[(false,eval e X.env)]:=by rfl) (hbase:attributeBase (.Constant (.str x) j sp) "join" X.env (eval (.Constant (.str x) j sp) X.env)=eval (.Constant (.str x) j sp) X.env:=by rfl)
    (hfew:((backTo cpos (starEach [e] X.env)).all (fun x=> !x.1)&&(backToKw cpos (keywordEach [] X.env)).all (fun x=>x.1.isSome)
      &&decide (([e]:List Expr).length+([]:List Keyword).length+(if ([]:List Keyword).isEmpty then 0 else 1) < 30))=true:=by rfl) (hline:(apos.endLine == cpos.line)=true:=by rfl):
    EX X (.Call (.Attribute (.Constant (.str x) j sp) "join" apos) [e] [] cpos) m1 (dQ x f):=by
  refine b_ (Aj PySem.F.plainAttrs_str PySem.F.slot_str_join PySem.F.type_str_join zj (v_) (eH he gC hs) hbase hfew hline hs rfl) fun σ H Q z=>?_
  obtain ⟨B,E,xs,Xs,res,E',fr,c,e,q⟩:=z
  obtain ⟨⟨s1,E1⟩,e1,e⟩:=Option.bind_eq_some_iff.mp e
  obtain ⟨d1,e2,e⟩:=Option.bind_eq_some_iff.mp e
  obtain ⟨d,e3,e⟩:=Option.map_eq_some_iff.mp e
  cases e
  refine ⟨rfl,B,E,xs,Xs,s1,E1,fr,c,e1,fun v1 H1 ⟨F,A,fr1⟩=>?_⟩
  have r:=(fr1.look0 e2).1
  obtain ⟨A',fr2⟩:=fr1.pop
  unfold oF at e3
  split at e3
  · obtain ⟨ys,ey,e3⟩:=Option.bind_eq_some_iff.mp e3
    split at e3
    · rename_i hl
      cases e3
      cases r with
      | lst h1 h2=>
        rw [iw ey] at h2
        rw [jl h2] at h1
        exact ⟨x,_,ys,rfl,rfl, .inl h1,by omega,q _ _ ⟨F,A',fr2.push ⟨rfl,_,rfl, .str _⟩⟩⟩
    · cases e3
  · obtain ⟨ys,ey,e3⟩:=Option.bind_eq_some_iff.mp e3
    split at e3
    · rename_i hl
      cases e3
      cases r with
      | tup h1 h2=>
        rw [iw ey] at h2
        rw [jl h2] at h1
        exact ⟨x,_,ys,rfl,rfl, .inr h1,by omega,q _ _ ⟨F,A',fr2.push ⟨rfl,_,rfl, .str _⟩⟩⟩
    · cases e3
  · cases e3
end
theorem gX {X:Cx} {st:Stmt}:SX X st (fun _=>none):=jY wb fun D σ H z=>by
  obtain ⟨B,E,xs,Xs,E',fl,fr,cl,e,q⟩:=z
  cases e
def gY:dH:=fun _=>none
end PL
namespace PL
open PySem L2 Nh
theorem BN {X:Cx}:SlR X (fun x lo hi H Q=>∃z,x= .str z∧z.length≤sizeLine∧Q (.str (Txt.slice z lo hi)) H):=by
  intro pins s σ H x v vl vu lo hi sl Q I rx hs pl pu h
  obtain ⟨z,rfl,hz,q⟩:=h
  obtain ⟨t,rfl⟩:=rx
  cases pl with
  | none=>
    cases pu with
    | none=>exact ⟨"str",_,PySem.F.slot_str_getitem.lookup,typeIs_str _ _ _,wpAny_getItem_str_slice (l:=none) (u:=none) (st:=none) hs rfl (post_val_or_str ⟨Nat.le_trans (Txt.slice_le z _ _) hz,fun t' k=>⟨.str _,H,I.tok _,⟨_,rfl⟩,q⟩⟩)⟩
    | int j uj=>exact ⟨"str",_,PySem.F.slot_str_getitem.lookup,typeIs_str _ _ _,wpAny_getItem_str_slice (l:=none) (u:=some (j,uj)) (st:=none) hs rfl (post_val_or_str ⟨Nat.le_trans (Txt.slice_le z _ _) hz,fun t' k=>⟨.str _,H,I.tok _,⟨_,rfl⟩,q⟩⟩)⟩
  | int i ui=>
    cases pu with
    | none=>exact ⟨"str",_,PySem.F.slot_str_getitem.lookup,typeIs_str _ _ _,wpAny_getItem_str_slice (l:=some (i,ui)) (u:=none) (st:=none) hs rfl (post_val_or_str ⟨Nat.le_trans (Txt.slice_le z _ _) hz,fun t' k=>⟨.str _,H,I.tok _,⟨_,rfl⟩,q⟩⟩)⟩
    | int j uj=>exact ⟨"str",_,PySem.F.slot_str_getitem.lookup,typeIs_str _ _ _,wpAny_getItem_str_slice (l:=some (i,ui)) (u:=some (j,uj)) (st:=none) hs rfl (post_val_or_str ⟨Nat.le_trans (Txt.slice_le z _ _) hz,fun t' k=>⟨.str _,H,I.tok _,⟨_,rfl⟩,q⟩⟩)⟩
def jb (m2:Bool) (f:bq) (lo hi:BA):bq:=fun E=>(f E).bind fun a=>if m2&&a.1.isBr then none else (lo a.2).bind fun b=>(hi b.2).bind fun c=>match look c.2 a.1 with
  | some (.list ds)=>if !gP c.2 a.1||bd (u_ ds b.1 c.1) then some (.ow (u_ ds b.1 c.1),c.2) else none
  | some (.str z)=>if z.length≤1000000 then some (.sh (.str (Txt.slice z b.1 c.1)),c.2) else none
  | _=>none
theorem m4 {X:Cx} {e:Expr} {lo hi:Option Expr} {m1 m2 m3:Bool} {f:bq} {g h:BA} {pos p2:Pos} (he:EX X e m1 f) (hl:OX X lo m2 g) (hh:OX X hi m3 h):EX X (.Subscript e (.Slice lo hi none p2) pos) (m1||(m2||m3)) (jb (m2||m3) f g h):=by
  refine b_ (wn (SlR.or yP BN) he hl hh) fun σ H Q z=>?_
  obtain ⟨B,E,xs,Xs,res,E',fr,cl,e,q⟩:=z
  obtain ⟨⟨s,E1⟩,e1,e⟩:=Option.bind_eq_some_iff.mp e
  by_cases hb:((m2||m3)&&s.isBr)=true
  · rw [if_pos hb] at e;cases e
  rw [if_neg hb] at e
  have n1:(m2||m3)=true→s.isBr=false:=fun z=>by
    cases hs:s.isBr with
    | false=>rfl
    | true=>exact absurd (by rw [z,hs];rfl) hb
  obtain ⟨⟨l,E2⟩,e2,e⟩:=Option.bind_eq_some_iff.mp e
  obtain ⟨⟨u,E3⟩,e3,e⟩:=Option.bind_eq_some_iff.mp e
  refine ⟨B,E,xs,Xs,s,E1,fr,fun z=>cl (by simp [z]),e1,fun v1 H1 fr1=>?_⟩
  refine ⟨B,E1,v1::xs,s::Xs,l,E2,fr1,fun z=>Calm.cons (cl (by simp [z])) (n1 (by simp [z])),e2,fun H2 fr2=>?_⟩
  refine ⟨B,E2,v1::xs,s::Xs,u,E3,fr2,fun z=>Calm.cons (cl (by simp [z])) (n1 (by simp [z])),e3,fun H3 ⟨F,A,fr3⟩=>?_⟩
  simp only at e
  split at e
  · rename_i ds ld
    split at e
    · rename_i hc
      cases e
      obtain ⟨v,ev,r,f0⟩:=fr3.look (k:=0) rfl ld
      cases ev
      obtain ⟨A',fr4⟩:=fr3.pop
      cases hh:gP E' s with
      | false=>
        obtain ⟨a,vs,rfl,h1,h2⟩:=f0 hh
        exact .inl ⟨a,vs,rfl,h1,fun p hp=>q _ _ ⟨F,_,fr4.newl (h2.cut l u) hp⟩⟩
      | true=>
        rw [hh] at hc
        cases r with
        | lst h1 h2=>exact .inl ⟨_,_,rfl,h1,fun p hp=>q _ _ ⟨F,_,fr4.newl (fr3.coldA (h2.cut l u) (by simpa using hc)) hp⟩⟩
    · cases e
  · rename_i z ld
    split at e
    · rename_i hc
      cases e
      have r:=(fr3.look0 ld).1
      cases r
      obtain ⟨A',fr4⟩:=fr3.pop
      exact .inr ⟨_,rfl,gD hc,q _ _ ⟨F,A',fr4.push ⟨rfl,_,rfl, .str _⟩⟩⟩
    · cases e
  · cases e
def qT (scope:Scope) (env:Env):List (Str×Addr):=((scope.names.filter fun p=>p.2 == .free).map fun p=>(p.1,(env.cells.lookup p.1).getD 0)).reverse
theorem eZ {X:Cx} {scope:Scope} {N:List Str} {js:List (Option Nat)} (clos:closureFor scope X.env=pure (qT scope X.env):=by rfl) (nocell:∀y∈scope.names,y.2≠ .cell:=by decide+kernel) (kind:scope.kind= .function:=by rfl)
    (names:∀y∈scope.names,y.2= .local→scope.names.lookup y.1=some .local:=by decide+kernel) (same:(scope.names.filter fun p=>p.2 == .free).all (fun p=>(X.env.cells.lookup p.1).isSome)=true:=by rfl)
    (has:(relabel scope X.env).names.all (fun y=> !(y.2 == .cell||y.2 == .free)||((qT scope X.env).lookup y.1).isSome)=true:=by rfl) (len:js.length=N.length:=by rfl)
    (fr:(js.zip N).all (fun p=>match p.1 with | none=>true | some j=>X.N[j]? == some p.2&&((relabel scope X.env).names.lookup p.2 == some .cell||(relabel scope X.env).names.lookup p.2 == some .free)&&(X.env.kindOf p.2 == some .cell||X.env.kindOf p.2 == some .free))=true:=by rfl):
    CompOk X scope (relabel scope X.env) (qT scope X.env) N js where
  clos:=clos
  rel:=rfl
  nocell:=nocell
  kind:=kind
  names:=names
  same:=fun x c e=>by
    have hm:=PySem.mem_of_lookup e
    unfold qT at hm
    obtain ⟨p,hp,ep⟩:=List.mem_map.mp (List.mem_reverse.mp hm)
    have:=List.all_eq_true.mp same _ hp
    obtain ⟨c',ec⟩:=Option.isSome_iff_exists.mp this
    injection ep with e1 e2
    subst e1
    rw [ec] at e2 ⊢
    exact congrArg some e2
  has:=fun x h=>by
    have key:∀k,(relabel scope X.env).names.lookup x=some k→(k == NameKind.cell||k == NameKind.free)=true→∃c,(qT scope X.env).lookup x=some c:=fun k h hk=>by
      have:=List.all_eq_true.mp has _ (PySem.mem_of_lookup h)
      simp only [hk,Bool.not_true,Bool.false_or] at this
      exact Option.isSome_iff_exists.mp this
    rcases h with h | h
    · exact key _ h rfl
    · exact key _ h rfl
  len:=len
  from_:=fun i j h=>by
    have hi:i < js.length:=(List.getElem?_eq_some_iff.mp h).1
    obtain ⟨x,ex⟩:∃x,N[i]? =some x:=⟨N[i]'(by omega),List.getElem?_eq_getElem (by omega)⟩
    have hz:(js.zip N)[i]? =some (some j,x):=by rw [List.getElem?_zip_eq_some];exact ⟨h,ex⟩
    have:=List.all_eq_true.mp fr _ (List.mem_of_getElem? hz)
    simp only [Bool.and_eq_true,Bool.or_eq_true,beq_iff_eq] at this
    exact ⟨x,ex,this.1.1,this.1.2,this.2⟩
structure Bn (mg:Str→Option Value):Prop where
  len:mg "len"=none
  range:mg "range"=none
  abs:mg "abs"=none
  min:mg "min"=none
  max:mg "max"=none
  reversed:mg "reversed"=none
  enumerate:mg "enumerate"=none
  isinstance:mg "isinstance"=none
  list:mg "list"=none
  tuple:mg "tuple"=none
  str:mg "str"=none
  int:mg "int"=none
  bool:mg "bool"=none
  sorted:mg "sorted"=none
  zip:mg "zip"=none
  sum:mg "sum"=none
  any:mg "any"=none
  all:mg "all"=none
  set:mg "set"=none
  dict:mg "dict"=none
theorem Dl {K:PySem.W.Frag} {h:Heap} {mg:Str→Option Value} (X:K.In h) (G:h.Ns mainGlobals mg)
    (z1:PySem.W.nsIn K mainGlobals "len"=some none) (z2:PySem.W.nsIn K mainGlobals "range"=some none) (z3:PySem.W.nsIn K mainGlobals "abs"=some none) (z4:PySem.W.nsIn K mainGlobals "min"=some none) (z5:PySem.W.nsIn K mainGlobals "max"=some none) (z6:PySem.W.nsIn K mainGlobals "reversed"=some none) (z7:PySem.W.nsIn K mainGlobals "enumerate"=some none) (z8:PySem.W.nsIn K mainGlobals "isinstance"=some none) (z9:PySem.W.nsIn K mainGlobals "list"=some none) (z10:PySem.W.nsIn K mainGlobals "tuple"=some none) (z11:PySem.W.nsIn K mainGlobals "str"=some none) (z12:PySem.W.nsIn K mainGlobals "int"=some none) (z13:PySem.W.nsIn K mainGlobals "bool"=some none) (z14:PySem.W.nsIn K mainGlobals "sorted"=some none) (z15:PySem.W.nsIn K mainGlobals "zip"=some none) (z16:PySem.W.nsIn K mainGlobals "sum"=some none) (z17:PySem.W.nsIn K mainGlobals "any"=some none) (z18:PySem.W.nsIn K mainGlobals "all"=some none) (z19:PySem.W.nsIn K mainGlobals "set"=some none) (z20:PySem.W.nsIn K mainGlobals "dict"=some none):Bn mg:=
  ⟨PySem.W.mg_none_of X G z1,PySem.W.mg_none_of X G z2,PySem.W.mg_none_of X G z3,PySem.W.mg_none_of X G z4,PySem.W.mg_none_of X G z5,PySem.W.mg_none_of X G z6,PySem.W.mg_none_of X G z7,PySem.W.mg_none_of X G z8,PySem.W.mg_none_of X G z9,PySem.W.mg_none_of X G z10,PySem.W.mg_none_of X G z11,PySem.W.mg_none_of X G z12,PySem.W.mg_none_of X G z13,PySem.W.mg_none_of X G z14,PySem.W.mg_none_of X G z15,PySem.W.mg_none_of X G z16,PySem.W.mg_none_of X G z17,PySem.W.mg_none_of X G z18,PySem.W.mg_none_of X G z19,PySem.W.mg_none_of X G z20⟩
end PL
namespace PL
open PySem PySem.Spec L2 Nh PyProof.Rows
def EQ (i:Int):Prop:= -1000000≤i∧i≤1000000
instance (i:Int):Decidable (EQ i):=inferInstanceAs (Decidable (_∧_))
theorem fits {i:Int} (h: -10000000≤i∧i≤10000000):Builtin.Range.rangeFitsLong i=true:=by
  unfold Builtin.Range.rangeFitsLong
  simp only [Bool.and_eq_true,decide_eq_true_eq]
  omega
end PL
namespace PL
open PySem L2 Nh
theorem m5 {P:Program} {w:World} {K:PySem.W.Frag} {mg:Str→Option Value} {base:Heap} {x:Str} {st:Stmt} {N ps:List Str} {k:Nat} (D:Def K mg x st ps) (S:FnScope N ps (ah st)):Own P w K mg base (k+1) x ps (cL K fun _=>none):=by
  refine D.own S (fun vs H Q E h=>?_) (fun f cdv A outer s H vs Q E hr h=>?_)
  · obtain ⟨ds,r,e,_⟩:=h
    cases e
  · obtain ⟨ds,r,e,_⟩:=h
    cases e
end PL
namespace PL
open PySem L2 Nh
def iQ:List PyData→Option (List Bool)
  | []=>some []
  | .bool b::ds=>(iQ ds).map (b:: ·)
  | _=>none
def sC:List PyData→Option PyData
  | [.list ds]=>(iQ ds).map fun bs=> .bool (bs.all id)
  | _=>none
def sD (K:PySem.W.Frag) (f:List Bool→Bool):List V→Hp→VK→Prop:=fun xs H Q=>∃p bs,xs=[.ref p]∧SqL K H p (bs.map V.bl)∧Q (.bl (f bs)) H
theorem qU {K:PySem.W.Frag} {H:Hp}:∀{vs:List V} {ds:List PyData} {bs:List Bool},RpA K H vs ds→iQ ds=some bs→vs=bs.map V.bl
  | _,_,bs, .nil,e=>by cases e;rfl
  | _,_,bs, .cons (d:=d) h t,e=>by
    cases d <;> simp [iQ] at e
    obtain ⟨cs,e,rfl⟩:=e
    cases h
    rw [qU t e]
    rfl
theorem wX {K:PySem.W.Frag} {f:List Bool→Bool}:wI K (sD K f) (fun ds=>match ds with
  | [.list ds]=>(iQ ds).map fun bs=> .bool (f bs)
  | _=>none):=fun ds d vs H Q e r=>by
  simp only at e
  split at e
  · obtain ⟨bs,eb,rfl⟩:=Option.map_eq_some_iff.mp e
    obtain ⟨v,rfl,r1⟩:=r.one
    cases r1 with
    | lst h1 h2=>
      have:=qU h2 eb
      subst this
      exact ⟨_,rfl,fun q=>⟨_,bs,rfl,h1,q⟩⟩
  · cases e
theorem oH:∀bs:List Bool,(List.range bs.length).all (fun i=>bs.getD i false)=bs.all id
  | []=>rfl
  | b::bs=>by
    rw [List.length_cons,List.range_succ_eq_map,List.all_cons,List.all_map,List.all_cons,←oH bs]
    rfl
section
variable {X:Cx} {e:Expr} {es:List Expr} {m1:Bool} {g:qJ} {p pos:Pos}
theorem m7:∀{bs:List Bool} {us:List Value},Vals (bs.map V.bl) us→us=bs.map Value.bool
  | [],_, .nil=>rfl
  | b::bs,_, .cons h t=>by cases h;rw [m7 t];rfl
theorem zk {bs:List Bool} {i:Nat} {v:Value} (h:(bs.map Value.bool).toArray[i]? =some v):v= .bool (bs.getD i false):=by
  rw [List.getElem?_toArray,List.getElem?_map] at h
  obtain ⟨b,e,rfl⟩:=Option.map_eq_some_iff.mp h
  rw [List.getD_eq_getElem?_getD,e]
  rfl
theorem vi (hc:X.calm=true):CallR X (.builtin "all") (sD X.K fun bs=>bs.all id):=by
  intro pins s σ H xs us Q I r h
  obtain ⟨a,bs,rfl,hq,q⟩:=h
  cases r with
  | cons r rr=>
    cases rr
    cases r
    obtain ⟨its,rv,pl,hz⟩:=I.list hq
    have:=m7 rv
    subst this
    obtain ⟨o,n,eo,_⟩:=id pl
    have hlt:a < s.heap.objs.size:=Heap.lt_size eo
    refine call_all_walk (wpAny_pyIter_list pl.isList ?_)
    refine ⟨s.heap.objs.size,_,_,_,_,_,fun i=>bs.getD i false,rfl,Walks.list (A:=X.A.in1) (I.ok.hd hc) s.heap.objs.size a (Nat.ne_of_lt hlt) (bs.map Value.bool).toArray,?_,?_,?_⟩
    · exact ⟨⟨_,Heap.get?_push_size _ rfl,rfl,rfl⟩,pl.isList.at fun o e=>Heap.get?_push_of_some _ e⟩
    · intro i v s Q E hv hQ
      rw [zk hv]
      exact wpAny_truthy_bool hQ
    · intro h' tk hk
      refine ⟨.bl _,H,I.kept (t':=tk) fun b o e=>hk b o (fun z=>?_) (Heap.get?_push_of_some _ e),rfl,?_⟩
      · have:b=s.heap.objs.size:=by simpa using z
        exact Nat.lt_irrefl _ (this▸Heap.lt_size e)
      · rw [show ((bs.map Value.bool).toArray).size=bs.length by simp,oH]
        exact q
theorem wY (hc:X.calm=true) (hg:Gl X "all") (hm:X.mg "all"=none) (ha:AX X [e] m1 g) (he:starEach [e] X.env=[(false,eval e X.env)]:=by rfl):EX X (.Call (.Name "all" p) [e] [] pos) m1 (bB sC g):=kn (r:=sD X.K fun bs=>bs.all id) wX (vi hc) hg hm PyProof.Rows.boot_all ha (by decide) (by decide) he rfl
def oI:List PyData→Option (List Int)
  | []=>some []
  | .int i::ds=>(oI ds).map (i:: ·)
  | _=>none
def pP:List PyData→Option PyData
  | [.list ds]=>(oI ds).map fun ns=> .int ns.sum
  | _=>none
def BO (K:PySem.W.Frag):List V→Hp→VK→Prop:=fun xs H Q=>∃(p:Addr) (ns:List Int),xs=[.ref p]∧SqL K H p (ns.map V.int)∧Q (.int ns.sum) H
theorem t9 {K:PySem.W.Frag} {H:Hp}:∀{vs:List V} {ds:List PyData} {bs:List Int},RpA K H vs ds→oI ds=some bs→vs=bs.map V.int
  | _,_,bs, .nil,e=>by cases e;rfl
  | _,_,bs, .cons (d:=d) h t,e=>by
    cases d <;> simp [oI] at e
    obtain ⟨cs,e,rfl⟩:=e
    cases h
    rw [t9 t e]
    rfl
theorem BP {K:PySem.W.Frag}:wI K (BO K) pP:=fun ds d vs H Q e r=>by
  unfold pP at e
  split at e
  · obtain ⟨bs,eb,rfl⟩:=Option.map_eq_some_iff.mp e
    obtain ⟨v,rfl,r1⟩:=r.one
    cases r1 with
    | lst h1 h2=>
      have:=t9 h2 eb
      subst this
      exact ⟨_,rfl,fun q=>⟨_,bs,rfl,h1,q⟩⟩
  · cases e
theorem io:∀{ns:List Int} {us:List Value},Vals (ns.map V.int) us→us.length=ns.length∧∀(i:Nat) (v:Value),us[i]? =some v→∃t,v=Value.int (ns.getD i 0) t
  | [],_, .nil=>⟨rfl,fun i v h=>by simp at h⟩
  | n::ns,_, .cons h t=>by
    obtain ⟨tk,rfl⟩:=h
    obtain ⟨h1,h2⟩:=io t
    refine ⟨by simp [h1],fun i v h=>?_⟩
    cases i with
    | zero=>simp at h;subst h;exact ⟨tk,rfl⟩
    | succ i=>simpa using h2 i v (by simpa using h)
theorem lT (ns:List Int):∀k,k≤ns.length→preSum (fun i=>ns.getD i 0) k=(ns.take k).sum
  | 0,_=>by simp [preSum]
  | k+1,h=>by
    have hk:k < ns.length:=by omega
    rw [preSum,lT ns k (by omega),List.take_add_one,List.getElem?_eq_getElem hk,List.sum_append]
    simp [List.getD_eq_getElem?_getD,hk]
theorem vj (hc:X.calm=true):CallR X (.builtin "sum") (BO X.K):=by
  intro pins s σ H xs us Q I r h
  obtain ⟨a,ns,rfl,hq,q⟩:=h
  cases r with
  | cons r rr=>
    cases rr
    cases r
    obtain ⟨its,rv,pl,hz⟩:=I.list hq
    obtain ⟨hl,hv⟩:=io rv
    obtain ⟨o,n,eo,_⟩:=id pl
    have hlt:a < s.heap.objs.size:=Heap.lt_size eo
    refine call_sum_walkG (wpAny_pyIter_list pl.isList ?_)
    refine ⟨s.heap.objs.size,_,_,_,_,_,fun i=>ns.getD i 0,rfl,Walks.list (A:=X.A.in1) (I.ok.hd hc) s.heap.objs.size a (Nat.ne_of_lt hlt) its.toArray,?_,?_,?_,?_⟩
    · exact ⟨⟨_,Heap.get?_push_size _ rfl,rfl,rfl⟩,pl.isList.at fun o e=>Heap.get?_push_of_some _ e⟩
    · intro b hb
      have hsz:∀o,(s.heap.push o).objs.size=s.heap.objs.size+1:=fun o=>by simp [Heap.push]
      show b < (s.heap.push _).objs.size
      rw [hsz]
      rcases List.mem_cons.mp hb with rfl | hb
      · exact Nat.lt_succ_self _
      · have:b=a:=by simpa using hb
        subst this
        exact Nat.lt_succ_of_lt hlt
    · intro i v h
      exact hv i v (by simpa using h)
    · intro h' tk t' hk
      refine ⟨.int _,H,I.kept (t':=tk) fun b o e=>hk b o (fun z=>?_) (Heap.get?_push_of_some _ e),⟨t',rfl⟩,?_⟩
      · have:b=s.heap.objs.size:=by simpa using z
        exact Nat.lt_irrefl _ (this▸Heap.lt_size e)
      · rw [show its.toArray.size=ns.length by simpa using hl,lT ns _ (Nat.le_refl _),List.take_length]
        exact q
theorem wZ (hc:X.calm=true) (hg:Gl X "sum") (hm:X.mg "sum"=none) (ha:AX X [e] m1 g) (he:starEach [e] X.env=[(false,eval e X.env)]:=by rfl):EX X (.Call (.Name "sum" p) [e] [] pos) m1 (bB pP g):=kn (r:=BO X.K) BP (vj hc) hg hm PyProof.Rows.boot_sum ha (by decide) (by decide) he rfl
end
end PL
namespace PL
open PySem L2 Nh
def pQ (a b:Str):Bool:=decide (a.cps.toList≤b.cps.toList)
def gv (ss:List Str):List Str:=ss.mergeSort pQ
theorem iy (a b c:Str) (h:pQ a b=true) (k:pQ b c=true):pQ a c=true:=decide_eq_true (List.le_trans (of_decide_eq_true h) (of_decide_eq_true k))
theorem jC (a b:Str):(pQ a b||pQ b a)=true:=by
  rcases List.le_total a.cps.toList b.cps.toList with h | h
  · simp [pQ,h]
  · simp [pQ,h]
theorem kr {a b:Str} (h:pQ a b=true) (k:pQ b a=true):a=b:=by
  have e:=List.le_antisymm (of_decide_eq_true h) (of_decide_eq_true k)
  cases a;cases b
  simp only at e
  rw [Array.toList_inj.mp e]
theorem oJ:∀(p:Str) (l:List Str),PyProof.Rows.risingS p l=true→(p::l).Pairwise (fun a b=>pQ a b=true)
  | p,[],_=>by simp
  | p,x::r,h=>by
    have h':(!PySem.Spec.ltCps x.cps.toList p.cps.toList&&PyProof.Rows.risingS x r)=true:=h
    rw [Bool.and_eq_true,PyProof.Rows.ltCps_eq] at h'
    have ih:=oJ x r h'.2
    have hpx:pQ p x=true:=by
      have:=h'.1
      simp only [Bool.not_eq_true',decide_eq_false_iff_not] at this
      exact decide_eq_true this
    refine List.pairwise_cons.mpr ⟨fun y hy=>?_,ih⟩
    rcases List.mem_cons.mp hy with rfl | hy
    · exact hpx
    · exact iy p x y hpx ((List.pairwise_cons.mp ih).1 y hy)
theorem vk:∀l:List Str,PyProof.Rows.sortedS l=true→l.Pairwise (fun a b=>pQ a b=true)
  | [],_=>List.Pairwise.nil
  | x::r,h=>oJ x r h
theorem j5 {a b:List Str} (p:a.Perm b) (h:PyProof.Rows.sortedS a=true):a=gv b:=
  List.Perm.eq_of_pairwise (fun _ _ _ _ h k=>kr h k) (vk a h) (List.pairwise_mergeSort iy jC b) (p.trans (List.mergeSort_perm b pQ).symm)
theorem jD (ss:List Str):(gv ss).length=ss.length:=(List.mergeSort_perm ss pQ).length_eq
section
variable {X:Cx} {e:Expr} {m1:Bool} {f:bq} {p pos:Pos}
theorem kt:∀{ss:List Str} {us:List Value},Vals (ss.map V.str) us→PyProof.Rows.StrsAre us ss
  | [],_, .nil=> .nil
  | s::ss,_, .cons h t=>by obtain ⟨tk,rfl⟩:=h;exact .cons _ _ (kt t)
theorem ku:∀{ss:List Str} {us:List Value},PyProof.Rows.StrsAre us ss→Vals (ss.map V.str) us
  | [],_, .nil=> .nil
  | _::_,_, .cons y t h=> .cons ⟨t,rfl⟩ (ku h)
theorem pR:CallR X (.builtin "sorted") (fun xs H Q=>∃(p:Addr) (ss:List Str),xs=[.ref p]∧SqL X.K H p (ss.map V.str)∧ss.length < 64∧∀l,H l=none→Q (.ref l) (upd H l (.lst ((gv ss).map V.str)))):=by
  intro pins s σ H xs us Q I r h
  obtain ⟨p,ss,rfl,hq,h64,q⟩:=h
  cases r with
  | cons r rr=>
    cases rr
    cases r
    obtain ⟨its,rv,pl,hz⟩:=I.list hq
    have hS:=kt rv
    have hl:its.length=ss.length:=by have:=rv.length;simpa using this.symm
    refine PyProof.Rows.sorted_strs pl.isList hS (by omega) fun out ss' a1 a2 a3=>?_
    have:=j5 a2 a3
    subst this
    obtain ⟨e,he⟩:=PyProof.Rows.sortedAll_at s.heap its out
    refine ⟨.ref (s.heap.objs.size+1),_,I.laid (t':=s.toks) (fun b o=>PyProof.Rows.sortedAll_old) (Nat.le_succ _) (show ObjOk X.prog X.w _ _ _ (.lst ((gv ss).map V.str)) from ⟨?_,out.toList,e,ku a1,he⟩),rfl,q _ (I.hok.fresh (Nat.le_succ _))⟩
    rw [List.length_map,jD]
    exact gD (by omega)
def i7:List PyData→Option (List Str)
  | []=>some []
  | .str x::ds=>(i7 ds).map (x:: ·)
  | _=>none
theorem kw {K:PySem.W.Frag} {H:Hp}:∀{vs:List V} {ds:List PyData} {bs:List Str},RpA K H vs ds→i7 ds=some bs→vs=bs.map V.str
  | _,_,bs, .nil,e=>by cases e;rfl
  | _,_,bs, .cons (d:=d) h t,e=>by
    cases d <;> simp [i7] at e
    obtain ⟨cs,e,rfl⟩:=e
    cases h
    rw [kw t e]
    rfl
theorem iz {K:PySem.W.Frag} {H:Hp}:∀ss:List Str,RpA K H (ss.map V.str) (ss.map PyData.str)
  | []=> .nil
  | s::ss=> .cons (.str s) (iz ss)
def mF (g:bq):bq:=fun E=>(g E).bind fun a=>match look a.2 a.1 with
  | some (.list ds)=>(i7 ds).bind fun ss=>if ss.length < 64 then some (.ow ((gv ss).map .str),a.2) else none
  | _=>none
theorem vm (hg:Gl X "sorted") (hm:X.mg "sorted"=none) (ha:EX X e m1 f) (he:starEach [e] X.env=[(false,eval e X.env)]:=by rfl):EX X (.Call (.Name "sorted" p) [e] [] pos) m1 (mF f):=by
  refine b_ (jf pR hg hm PyProof.Rows.boot_sorted (eH ha gC he) (by decide) (by decide) he rfl) fun σ H Q z=>?_
  obtain ⟨B,E,xs,Xs,res,E',fr,cl,e,q⟩:=z
  obtain ⟨⟨s,E1⟩,e1,e⟩:=Option.bind_eq_some_iff.mp e
  refine ⟨B,E,xs,Xs,s,E1,fr,cl,e1,fun v1 H1 ⟨F,A,fr1⟩=>?_⟩
  obtain ⟨A',fr2⟩:=fr1.pop
  simp only at e
  split at e
  · rename_i ds ld
    obtain ⟨ss,es,e⟩:=Option.bind_eq_some_iff.mp e
    split at e
    · rename_i hc
      cases e
      have r:=(fr1.look0 ld).1
      cases r with
      | lst h1 h2=>
        have:=kw h2 es
        subst this
        exact ⟨_,ss,rfl,h1,hc,fun l hl=>q _ _ ⟨F,_,fr2.newl (iz _) hl⟩⟩
    · cases e
  · cases e
end
end PL
namespace PL
open PySem L2 Nh
def yq (ks:List Str) (x:Str):List Str:=if x∈ks then ks else ks++[x]
def jc (ss:List Str):List Str:=ss.foldl yq []
def kz (x:Str):List Str:=x.cps.toList.map fun c=>⟨#[c]⟩
def dr (g:bq):bq:=fun E=>(g E).bind fun a=>match look a.2 a.1 with
  | some (.list ds)=>(i7 ds).bind fun ss=>if ss.length < 4000∧(jc ss).length < 64 then some (.ow ((gv (jc ss)).map .str),a.2) else none
  | some (.str x)=>if (kz x).length < 4000∧(jc (kz x)).length < 64 then some (.ow ((gv (jc (kz x))).map .str),a.2) else none
  | _=>none
end PL
namespace NhSet
open PySem PyProof.Rows
structure SS (w:World) (b:Bool) (ks:List Str) (es:Array (Int×Value)) (t:SetTable):Prop where
  perm:(es.toList.map (fun e=>strOf e.2)).Perm ks
  elems:∀e∈es.toList,∃x tk,e=(hashStr w x,Value.str x tk)
  bound:es.size < scanBound
  fits:t.fits es.size=true
  led:t.led=b
  plain:es.size≠0→t.plain=false
abbrev de (es:Array (Int×Value)) (ep:Nat) (t:SetTable):Obj:={cls:= .type "set",dict:=none,data:= .set es ep t}
def StrSet (w:World) (h:Heap) (a:Addr) (b:Bool) (ks:List Str):Prop:=∃es ep t,h.get? a=some (de es ep t)∧SS w b ks es t
theorem StrSet.at' {w:World} {h h':Heap} {a:Addr} {b:Bool} {ks:List Str} (S:StrSet w h a b ks) (e:∀o,h.get? a=some o→h'.get? a=some o):StrSet w h' a b ks:=
  let ⟨es,ep,t,ho,r⟩:=S;⟨es,ep,t,e _ ho,r⟩
theorem StrSet.obj {w:World} {h:Heap} {a:Addr} {b:Bool} {ks:List Str} (S:StrSet w h a b ks):∃o,h.get? a=some o:=let ⟨_,_,_,ho,_⟩:=S;⟨_,ho⟩
theorem StrSet.typeIs {w:World} {s:Shared} {a:Addr} {b:Bool} {ks:List Str} (S:StrSet w s.heap a b ks):s.TypeIs (.ref a) "set":=let ⟨_,_,_,ho,_⟩:=S;⟨_,ho,rfl⟩
theorem SS.elemsOf {prog:Program} {w:World} {b:Bool} {ks:List Str} {es:Array (Int×Value)} {t:SetTable} (S:SS w b ks es t):ElemsOf (strKind prog w) es.toList:=fun e he=>by
  obtain ⟨x,tk,rfl⟩:=S.elems e he
  exact ⟨⟨x,by simp [PySem.strKind,Value.isStrOf],rfl⟩,rfl⟩
theorem SS.len {w:World} {b:Bool} {ks:List Str} {es:Array (Int×Value)} {t:SetTable} (S:SS w b ks es t):es.size=ks.length:=by
  have:=S.perm.length_eq;simpa using this
theorem SS.mem {w:World} {b:Bool} {ks:List Str} {es:Array (Int×Value)} {t:SetTable} (S:SS w b ks es t) (x:Str):x∈ks↔∃e∈es.toList,Value.isStrOf x e.2=true:=by
  rw [←S.perm.mem_iff,List.mem_map]
  constructor
  · rintro ⟨e,he,rfl⟩
    obtain ⟨y,tk,rfl⟩:=S.elems e he
    exact ⟨_,he,by simp [Value.isStrOf,strOf]⟩
  · rintro ⟨e,he,hx⟩
    obtain ⟨y,tk,rfl⟩:=S.elems e he
    have:y=x:=by simpa [Value.isStrOf] using hx
    exact ⟨_,he,by simp [strOf,this]⟩
theorem SetTable.orStandIn_led (t:SetTable) (n:Nat):(t.orStandIn n).led=t.led:=by
  unfold SetTable.orStandIn;split <;> rfl
theorem sE (t:SetTable) (es:Array (Int×Value)) (h:Int) (x:Value):(layNew t es h x).2.1.led=t.led:=by
  unfold layNew
  split
  · exact SetTable.orStandIn_led _ _
  · rfl
theorem sG {mask finger moves:Nat} {led plain:Bool} {hashes:Array Int} {t':SetTable} {order:Array Nat} (h:SetTable.laid mask finger moves led plain hashes=some (t',order)):t'.led=led∧t'.plain=plain:=by
  unfold SetTable.laid at h
  cases hc:SetTable.layClean mask hashes with
  | none=>rw [hc] at h;simp at h
  | some ow=>rw [hc] at h;simp at h;rw [←h.1];exact ⟨rfl,rfl⟩
theorem m8 (t:SetTable) (es:Array (Int×Value)) (wanted:Nat) (hp:t.plain=false):(relayAll t es wanted).2.1.led=t.led∧(relayAll t es wanted).2.1.plain=false:=by
  unfold relayAll
  split
  · rename_i t' order hr
    dsimp only
    split
    · have:=sG hr
      exact ⟨this.1,this.2.trans hp⟩
    · exact ⟨rfl,rfl⟩
  · exact ⟨rfl,rfl⟩
section
variable {prog:Program} {w:World} {A:Around} {E:Value→Shared→Prop} {s:Shared}
theorem nV (es es':Array (Int×Value)) (ep:Nat) (t t':SetTable):Obj.putSet es' t' (de es ep t)=de es' (ep+1) t':=rfl
theorem qV {h:Heap} {a:Addr} {es es':Array (Int×Value)} {ep:Nat} {t t':SetTable} (ho:h.get? a=some (de es ep t)):(h.update a (Obj.putSet es' t')).get? a=some (de es' (ep+1) t'):=
  Heap.get?_update_self (Obj.putSet es' t') ho (by rw [nV];rfl)
theorem t_ {g:Bool→Sem Unit} (hg:∀(b:Bool) (s₁:Shared) (Q':Unit→Shared→Prop),Q' () s₁→wpAny (model prog w) A (g b) Q' E s₁)
    {a:Addr} {es:Array (Int×Value)} {ep:Nat} {t:SetTable} (ho:s.heap.get? a=some (de es ep t))
    {es1:Array (Int×Value)} {t2:SetTable} {b:Bool} {ks:List Str} (S:SS w b ks es1 t2) (hp:t2.plain=false) {wasDummy:Bool} {R:Option Bool→Shared→Prop}
    (h:∀h',Heap.SameBut a s.heap h'→StrSet w h' a b ks→R (some true) {s with heap:=h'}):
    wpAny (model prog w) A (do
        storeSet a es1 t2
        if (!wasDummy&&t2.tooFull)=true then do
            g (relayAll t2 es1 (SetTable.grown es1.size)).2.2
            storeSet a (relayAll t2 es1 (SetTable.grown es1.size)).1 (relayAll t2 es1 (SetTable.grown es1.size)).2.1
            pure (some true)
          else pure (some true)) R E s:=by
  refine wpAny_bind (wpAny_storeSet_of ho rfl ?_ (fits_of_scanBound S.bound))
  have ho1:=qV (es':=es1) (t':=t2) ho
  have hsb1:=Heap.SameBut.update s.heap a (Obj.putSet es1 t2)
  split
  · have hpm:=relayAll_perm t2 es1 (SetTable.grown es1.size)
    have hfr:=relayAll_fits t2 es1 (SetTable.grown es1.size)
    have hmk:=m8 t2 es1 (SetTable.grown es1.size) hp
    generalize hRl:relayAll t2 es1 (SetTable.grown es1.size)=Rl at hpm hfr hmk ⊢
    obtain ⟨es2,t3,gave2⟩:=Rl
    dsimp only at hpm hfr hmk ⊢
    have hsz:es2.size=es1.size:=by rw [←Array.length_toList,hpm.length_eq,Array.length_toList]
    have hb2:es2.size < scanBound:=by rw [hsz];exact S.bound
    have S2:SS w b ks es2 t3:=⟨(hpm.map _).trans S.perm,fun e he=>S.elems e (hpm.mem_iff.mp he),hb2,hfr,hmk.1.trans S.led,fun _=>hmk.2⟩
    refine wpAny_bind (hg _ _ _ ?_)
    refine wpAny_bind (wpAny_storeSet_of ho1 rfl ?_ (fits_of_scanBound hb2))
    exact wpAny_pure (h _ (hsb1.trans (Heap.SameBut.update _ a _)) ⟨es2,_,t3,qV ho1,S2⟩)
  · exact wpAny_pure (h _ hsb1 ⟨es1,_,t2,ho1,S⟩)
def mn (ks:List Str) (x:Str):List Str:=if x∈ks then ks else ks++[x]
theorem lh {a:Addr} {b:Bool} {ks:List Str} {x:Str} {tk:Tok} {Q:Bool→Shared→Prop} (hS:StrSet w s.heap a b ks) (hroom:ks.length+1 < scanBound)
    (h:∀(r:Bool) h',Heap.SameBut a s.heap h'→StrSet w h' a b (mn ks x)→Q r {s with heap:=h'}):
    wpAny (model prog w) A (setAddHashed a (.str x tk) (hashStr w x)) Q E s:=by
  obtain ⟨es,ep,t,ho,S⟩:=hS
  have hb1:es.size+1 < scanBound:=by rw [S.len];exact hroom
  have hel:=S.elemsOf (prog:=prog)
  have hkey:(strKind prog w).is x (.str x tk)=true:=by simp [PySem.strKind,Value.isStrOf]
  unfold setAddHashed setAddHashedIn
  refine wpAny_holding (wpAny_bind (wpAny_setState_of ho rfl S.fits ?_))
  dsimp only
  rw [byScan_of (knd:=strKind prog w) (x:= .str x tk) rfl S.bound hel]
  simp only [↓reduceIte]
  unfold setAddByScan
  refine wpAny_bind ?_
  refine wpAny_bind (wpAny_rule ?_)
  refine wpAny_bind (wpAny_setScan_of (knd:=strKind prog w) hkey ho rfl S.fits hel ?_)
  cases hr:List.findIdx? (fun e=>(strKind prog w).is x e.2) es.toList with
  | some j=>
    dsimp only
    obtain ⟨hj,hpj,_⟩:=List.findIdx?_eq_some_iff_getElem.mp hr
    have hk:x∈ks:=(S.mem x).mpr ⟨es.toList[j],List.getElem_mem hj,hpj⟩
    refine wpAny_pure (wpAny_pure ?_)
    have e:s={s with heap:=s.heap}:=by cases s;rfl
    rw [e]
    exact h _ s.heap (Heap.SameBut.refl a s.heap) (by rw [mn,if_pos hk];exact ⟨es,ep,t,ho,S⟩)
  | none=>
    dsimp only
    have hk:x∉ks:=fun hk=>by
      obtain ⟨e,he,hp⟩:=(S.mem x).mp hk
      have:=List.findIdx?_eq_none_iff.mp hr e he
      rw [show (strKind prog w).is x e.2=true from hp] at this;exact Bool.noConfusion this
    have hgw:∀(b:Bool) {s₁:Shared} {Q':Unit→Shared→Prop},Q' () s₁→wpAny (model prog w) A (match b with | true=>rule "set.scan.the-table-gave-way" | false=>pure ()) Q' E s₁:=
      fun b s₁ Q' hq=>by cases b <;> first | exact wpAny_pure hq | exact wpAny_rule hq
    have hperm:=layNew_perm t es (hashStr w x) (.str x tk)
    have hfits:=layNew_fits t es (hashStr w x) (.str x tk)
    have hled:=sE t es (hashStr w x) (.str x tk)
    generalize hL:layNew t es (hashStr w x) (.str x tk)=L at hperm hfits hled ⊢
    obtain ⟨es1,t1,wasDummy,gave⟩:=L
    dsimp only at hperm hfits hled ⊢
    rw [Array.toList_push] at hperm
    have hb1':es1.size < scanBound:=by rw [←Array.length_toList,hperm.length_eq,List.length_append,Array.length_toList];simpa using hb1
    have hpm:(es1.toList.map (fun e=>strOf e.2)).Perm (ks++[x]):=(hperm.map _).trans (by rw [List.map_append];exact S.perm.append_right _)
    have hel1:∀e∈es1.toList,∃x tk,e=(hashStr w x,Value.str x tk):=fun e he=>by
      rcases List.mem_append.mp (hperm.mem_iff.mp he) with z | z
      · exact S.elems e z
      · exact ⟨x,tk,List.mem_singleton.mp z⟩
    refine wpAny_bind (hgw _ ?_)
    split
    · refine wpAny_bind ?_
      rw [hashByValue_scannable 8 (x:= .str x tk) rfl]
      refine wpAny_pure ?_
      simp only [plainKind,Bool.false_eq_true,↓reduceIte]
      refine t_ ?_ ho (t2:={t1 with plain:=false}) (ks:=mn ks x) (b:=b) ⟨by rw [mn,if_neg hk];exact hpm,hel1,hb1',SetTable.fits_plain_off hfits,hled.trans S.led,fun _=>rfl⟩ rfl ?_
      · intro b s₁ Q' hq;cases b <;> first | exact wpAny_pure hq | exact wpAny_rule hq
      · intro h' hsb hS';dsimp only;exact wpAny_pure (h _ h' hsb hS')
    · rename_i hpl
      refine wpAny_bind (wpAny_pure ?_)
      simp only [↓reduceIte]
      have hpl':t1.plain=false:=by simpa using hpl
      refine t_ ?_ ho (ks:=mn ks x) (b:=b) ⟨by rw [mn,if_neg hk];exact hpm,hel1,hb1',hfits,hled.trans S.led,fun _=>hpl'⟩ hpl' ?_
      · intro b s₁ Q' hq;cases b <;> first | exact wpAny_pure hq | exact wpAny_rule hq
      · intro h' hsb hS';dsimp only;exact wpAny_pure (h _ h' hsb hS')
end
def j6 (val:Nat→Str) (i:Nat):List Str:=((List.range i).map val).foldl mn []
theorem oK (val:Nat→Str) (i:Nat):j6 val (i+1)=mn (j6 val i) (val i):=by
  unfold j6;rw [List.range_succ,List.map_append,List.foldl_append];rfl
theorem w5 (ks:List Str) (x:Str):(mn ks x).length≤ks.length+1:=by
  unfold mn;split
  · omega
  · simp
theorem qW (val:Nat→Str):∀i,(j6 val i).length≤i
  | 0=>Nat.le_refl _
  | i+1=>by rw [oK];have:=qW val i;have:=w5 (j6 val i) (val i);omega
section
variable {prog:Program} {w:World} {A:Around} {R:Result→Shared→Prop} {I:Addr} {fp wr:List Addr} {G:Array GenState→Array GenState→Prop} {n:Nat} {P:Nat→Value→Prop} {St:Nat→Shared→Prop}
theorem lU (W:WalksS prog w A.in1 I fp wr G n P St) (S:Addr) (hSf:S∉fp) (b:Bool)
    (val:Nat→Str) (hval:∀i v,P i v→∃t,v= .str (val i) t) (hb:n+1 < scanBound):
    ∀(k i:Nat) (s:Shared),n - i=k→i≤n→St i s→StrSet w s.heap S b (j6 val i)→
      (∀s',Moved (S::wr) G s s'→StrSet w s'.heap S b (j6 val n)→R (.ok (.ret .none)) s')→
      codeAny (model prog w) A (.builtin "set.update.loop" ⟨[.ref S, .ref I],[]⟩) R s:=by
  have hSw:S∉wr:=fun h=>hSf (W.sub _ h)
  have hsub:∀b∈wr,b∈S::wr:=fun b hb=>List.mem_cons_of_mem _ hb
  intro k
  induction k with
  | zero=>
    intro i s hk hi hst hS hR
    have hin:i=n:=by omega
    subst hin
    refine codeAny_builtin PyProof.Rows.F.entry_set_update_loop ?_
    rw [Around.under_plainId PyProof.Rows.F.plain_set_update_loop _]
    show wpAny _ A.in1 (pyNext (.ref I) >>= _) _ _ s
    refine wpAny_bind (W.done s _ _ hst fun s' hm=>?_)
    show wpAny _ A.in1 (ret Value.none) _ _ s'
    exact wpAny_pure (hR s' (hm.mono hsub) (hS.at' fun o e=>hm.heap S o hSw e))
  | succ k ih=>
    intro i s hk hi hst hS hR
    have hlt:i < n:=by omega
    refine codeAny_builtin PyProof.Rows.F.entry_set_update_loop ?_
    rw [Around.under_plainId PyProof.Rows.F.plain_set_update_loop _]
    show wpAny _ A.in1 (pyNext (.ref I) >>= _) _ _ s
    refine wpAny_bind (W.item i s _ _ hlt hst fun v s' hP hst' hm=>?_)
    obtain ⟨t,rfl⟩:=hval i v hP
    have hS':StrSet w s'.heap S b (j6 val i):=hS.at' fun o e=>hm.heap S o hSw e
    show wpAny _ A.in1 (holding [Value.str (val i) t] (setAdd S (.str (val i) t)) >>= _) _ _ s'
    refine wpAny_bind (wpAny_holding ?_)
    unfold setAdd
    refine wpAny_holding ?_
    refine wpAny_bind (wpAny_pyHash_str ?_)
    have hroom:(j6 val i).length+1 < scanBound:=by have:=qW val i;omega
    refine lh (s:={s' with toks:=s'.toks+1}) hS' hroom fun r h' hsb hS2=>?_
    refine wpAny_pure ⟨plainId_quiet PyProof.Rows.F.plain_set_update_loop _,ih (i+1) _ (by omega) hlt (W.frame _ s' _ _ hst' (Nat.le_succ _) fun b hb o e=>?_) (by rw [oK];exact hS2) fun s'' hm'' hS''=>?_⟩
    · rw [hsb.2 b (fun h:b=S=>hSf (by rw [←h];exact hb))];exact e
    · refine hR s'' (Moved.trans W.gtrans ((hm.mono hsub).then_heap (Nat.le_succ _) fun b o hb e=>?_) hm'') hS''
      rw [hsb.2 b (fun h:b=S=>hb (by rw [h];exact List.mem_cons_self))];exact e
end
theorem kA (w:World) (led:Bool):SS w led [] #[] (.fresh 0 0 led):=⟨by simp,fun e he=>by simp at he,by decide,by rfl,rfl,fun h=>absurd rfl h⟩
def jN (w:World):Bool:= !w.params.followText "set-order"
section
variable {prog:Program} {w:World} {A:Around} {E:Value→Shared→Prop} {s:Shared}
theorem qX (a:Value) {Q₁:Value→Shared→Prop}
    (h:Q₁ (.ref s.heap.objs.size) {s with heap:=s.heap.push (de #[] 0 (.fresh 0 0 (jN w)))}):
    codeAny (model prog w) A (.call (.builtin "set.__new__") ⟨[.type "set",a],[]⟩) (wants Q₁ E) s:=by
  refine codeAny_of_tree ?_
  show wpAny _ A.in1 (do checkBuiltinCall "set.__new__" ⟨[.type "set",a],[]⟩;again (.builtin "set.__new__" ⟨[.type "set",a],[]⟩)) _ _ s
  refine wpAny_bind (wpAny_of_eq (PySem.F.newCall_set_1 a) (wpAny_pure ⟨plainId_quiet PySem.F.plain_set_new _,codeAny_builtin PySem.F.entry_set_new ?_⟩))
  rw [Around.under_plainId PySem.F.plain_set_new _]
  unfold Builtin.«set.__new__» Builtin.Frozenset.newClass
  have hsub:=sub_set_self
  obtain ⟨hp,g,d,tk,os⟩:=s
  dsimp only
  wp_walk
  refine wpAny_askSetting (wpAny_pure ?_)
  dsimp only
  simp only [newObj]
  refine wpAny_bind (wpAny_alloc (wpAny_pure ?_))
  exact wpAny_pure h
end
end NhSet
namespace NhSet
open PySem PyProof.Rows
namespace F
theorem qY:isSubtype (.type "str") (.type "set")=pure false:=by rw [isSubtype_type];kernel_rfl
theorem kB:isSubtype (.type "str") (.type "frozenset")=pure false:=by rw [isSubtype_type];kernel_rfl
end F
section
variable {prog:Program} {w:World} {A:Around} {E:Value→Shared→Prop} {s:Shared}
theorem ua:∀{vs:List Value} {ns:List Str},StrsAre vs ns→∀(i:Nat) (v:Value),vs[i]? =some v→∃t,v= .str (ns.getD i ⟨#[]⟩) t
  | _,_, .nil,i,v,h=>by simp at h
  | _,_, .cons n t hr,0,v,h=>by simp at h;exact ⟨t,by rw [←h];rfl⟩
  | _,_, .cons n t hr,i+1,v,h=>by
    simp only [List.getElem?_cons_succ] at h
    obtain ⟨t',e⟩:=ua hr i v h
    exact ⟨t',by rw [e];rfl⟩
set_option maxHeartbeats 4000000 in
theorem vn {l:Addr} {items:Array Value} {ns:List Str} {Q:Value→Shared→Prop}
    (hh:A.handled=none) (hl:s.heap.IsList l items) (hi:StrsAre items.toList ns) (hb:items.size+1 < scanBound)
    (h:∀(h':Heap) (tk:Nat),StrSet w h' s.heap.objs.size (jN w) (j6 (fun i=>ns.getD i ⟨#[]⟩) items.size)→
      (∀b o,b < s.heap.objs.size→s.heap.get? b=some o→h'.get? b=some o)→Q (.ref s.heap.objs.size) {s with heap:=h',toks:=tk}):
    wpAny (model prog w) A (call (.type "set") [.ref l]) Q E s:=by
  obtain ⟨c,tl,hmro⟩:=PySem.F.called_set.mro
  have hmade:=PySem.F.called_set.made
  have hsub:=PySem.F.called_set.sub
  refine wpAny_call (codeAny_of_tree ?_)
  show wpAny _ _ (callAny (.type "set") _) _ _ _
  refine wpAny_pure ⟨Code.quiet_builtin _ (by decide+kernel),codeAny_builtin PySem.F.entry_type_call ?_⟩
  rw [Around.under_plain (weight_type_call_type "set" [.ref l] []) rfl]
  have h1:=PySem.F.called_set.notType
  have h2:=PySem.F.called_set.canCreate
  have hct:=PySem.F.typeCall_set_1 (.ref l)
  repeat (any_goals (first | assumption | wp_step))
  generalize hled:jN w=led at h
  refine codeAny_mono (qX (w:=w) (.ref l) (E:=E) (Q₁:=fun obj s₁=>obj= .ref s.heap.objs.size∧s₁={s with heap:=s.heap.push {cls:= .type "set",dict:=none,data:= .set #[] 0 (.fresh 0 0 led)}}) (by rw [hled];exact ⟨rfl,rfl⟩)) fun r s₁ hr=>?_
  cases r with
  | error e=>exact hr
  | ok fl=>
    cases fl with
    | ret obj=>
      obtain ⟨rfl,rfl⟩:=hr
      have hS:(s.heap.push {cls:= .type "set",dict:=none,data:= .set #[] 0 (.fresh 0 0 led)}).get? s.heap.objs.size=some {cls:= .type "set",dict:=none,data:= .set #[] 0 (.fresh 0 0 led)}:=Heap.get?_push_size _ rfl
      have hT:Shared.TypeIs {s with heap:=s.heap.push {cls:= .type "set",dict:=none,data:= .set #[] 0 (.fresh 0 0 led)}} (.ref s.heap.objs.size) "set":=⟨_,hS,rfl⟩
      have hli:=PySem.F.called_set.init.lookup
      have hbi:=PySem.F.called_set.init.bind (.ref s.heap.objs.size)
      repeat (any_goals (first | assumption | wp_step))
      refine codeAny_mono (codeAny_call_builtin (R:=wants (fun r s₂=>r= .none∧∃h' tk,s₂={s with heap:=h',toks:=tk}∧
          StrSet w h' s.heap.objs.size led (j6 (fun i=>ns.getD i ⟨#[]⟩) items.size)∧
          (∀b o,b < s.heap.objs.size→s.heap.get? b=some o→h'.get? b=some o)) E) PySem.F.called_set.init.plain PySem.F.entry_set_init (check_set_init_1 hT ?_)) fun r₂ s₂ hr₂=>?_
      · obtain ⟨ol,hol,hcl,nl,hdl⟩:=hl
        obtain ⟨ocls,odict,odata,oslots⟩:=ol
        simp only at hcl hdl
        subst hcl;subst hdl
        have hol':(s.heap.push {cls:= .type "set",dict:=none,data:= .set #[] 0 (.fresh 0 0 led)}).get? l=some {cls:= .type "list",dict:=odict,data:= .seq items nl,slots:=oslots}:=Heap.get?_push_of_some _ hol
        have hsls:=PySem.F.sub_list_set
        have hslf:=PySem.F.sub_list_frozenset
        have hne:(Value.type "list" == Value.type "dict")=false:=by decide
        have hl1:(s.heap.push {cls:= .type "set",dict:=none,data:= .set #[] 0 (.fresh 0 0 led)}).IsList l items:=⟨_,hol',rfl,nl,rfl⟩
        unfold Builtin.«set.__init__» noKeywords Builtin.Frozenset.updateFrom
        generalize hPI:pyIter=PI
        wp_walk
        subst hPI
        refine wpAny_pyIter_list hl1 ?_
        refine wpAny_bind (wpAny_runValue ?_)
        have hlS:l < s.heap.objs.size:=Heap.lt_size hol
        have hh3:A.in1.in1.in1.handled=none:=by simp [hh]
        have hneI:l≠(s.heap.push {cls:= .type "set",dict:=none,data:= .set #[] 0 (.fresh 0 0 led)}).objs.size:=by
          rw [Heap.size_push];exact Nat.ne_of_lt (Nat.lt_succ_of_lt hlS)
        have hSf:s.heap.objs.size∉[(s.heap.push {cls:= .type "set",dict:=none,data:= .set #[] 0 (.fresh 0 0 led)}).objs.size,l]:=by
          rw [Heap.size_push];simp only [List.mem_cons,List.mem_singleton,List.not_mem_nil,or_false,not_or]
          exact ⟨Nat.ne_of_lt (Nat.lt_succ_self _),Nat.ne_of_gt hlS⟩
        have hval:∀(i:Nat) (v:Value),items[i]? =some v→∃t,v= .str ((fun i=>ns.getD i ⟨#[]⟩) i) t:=fun i v hv=>
          ua hi i v (by rw [Array.getElem?_toList];exact hv)
        refine lU ((Walks.list hh3 _ l hneI items).toS) s.heap.objs.size
          hSf led (fun i=>ns.getD i ⟨#[]⟩) hval hb (items.size - 0) 0 _ (by omega) (Nat.zero_le _)
          ⟨⟨_,Heap.get?_push_size _ rfl,rfl,rfl⟩,(hl1.push _)⟩ ?hS0 ?hR
        case hS0=>
          have hget:((s.heap.push {cls:= .type "set",dict:=none,data:= .set #[] 0 (.fresh 0 0 led)}).push {cls:= .type "list_iterator",data:= .fields #[.ref l, .int 0 0]}).get? s.heap.objs.size
              =some {cls:= .type "set",dict:=none,data:= .set #[] 0 (.fresh 0 0 led)}:=Heap.get?_push_of_some _ hS
          exact ⟨_,_,_,hget,kA w led⟩
        case hR=>
          intro s' hm hS'
          obtain ⟨h',g',d',tk',os'⟩:=s'
          have eg:g'=s.gens:=hm.gens
          have ed:d'=s.drawn:=hm.drawn
          have eo:os'=s.os:=hm.os
          subst eg;subst ed;subst eo
          show wpAny _ _ _ _ _ _
          refine wpAny_pure ?_
          show wpAny _ _ (ret Value.none) _ _ _
          refine wpAny_pure ⟨rfl,h',tk',rfl,hS',fun b o hb e=>?_⟩
          have hb1:b≠s.heap.objs.size:=Nat.ne_of_lt hb
          have hb2:b≠(s.heap.push {cls:= .type "set",dict:=none,data:= .set #[] 0 (.fresh 0 0 led)}).objs.size:=by
            rw [Heap.size_push];exact Nat.ne_of_lt (Nat.lt_succ_of_lt hb)
          exact hm.heap b o (by simp only [List.mem_cons,List.mem_singleton,List.not_mem_nil,or_false,not_or];exact ⟨hb1,hb2⟩) (Heap.get?_push_of_some _ (Heap.get?_push_of_some _ e))
      · cases r₂ with
        | error e=>exact hr₂
        | ok fl₂=>
          cases fl₂ with
          | ret r=>
            obtain ⟨rfl,h',tk,rfl,hS',hk'⟩:=hr₂
            repeat (any_goals (first | assumption | wp_step))
            exact h _ _ hS' hk'
          | _=>exact hr₂.elim
    | _=>exact hr.elim
def iR (x:Str) (i:Nat):Str:=⟨#[x.cps.getD i 0]⟩
set_option maxHeartbeats 4000000 in
theorem w6 {x:Str} {t:Tok} {Q:Value→Shared→Prop}
    (hh:A.handled=none) (hb:x.cps.size+1 < scanBound)
    (h:∀(h':Heap) (tk:Nat),StrSet w h' s.heap.objs.size (jN w) (j6 (iR x) x.cps.size)→
      (∀b o,b < s.heap.objs.size→s.heap.get? b=some o→h'.get? b=some o)→Q (.ref s.heap.objs.size) {s with heap:=h',toks:=tk}):
    wpAny (model prog w) A (call (.type "set") [.str x t]) Q E s:=by
  obtain ⟨c,tl,hmro⟩:=PySem.F.called_set.mro
  have hmade:=PySem.F.called_set.made
  have hsub:=PySem.F.called_set.sub
  refine wpAny_call (codeAny_of_tree ?_)
  show wpAny _ _ (callAny (.type "set") _) _ _ _
  refine wpAny_pure ⟨Code.quiet_builtin _ (by decide+kernel),codeAny_builtin PySem.F.entry_type_call ?_⟩
  rw [Around.under_plain (weight_type_call_type "set" [.str x t] []) rfl]
  have h1:=PySem.F.called_set.notType
  have h2:=PySem.F.called_set.canCreate
  have hct:=PySem.F.typeCall_set_1 (.str x t)
  repeat (any_goals (first | assumption | wp_step))
  generalize hled:jN w=led at h
  refine codeAny_mono (qX (w:=w) (.str x t) (E:=E) (Q₁:=fun obj s₁=>obj= .ref s.heap.objs.size∧s₁={s with heap:=s.heap.push {cls:= .type "set",dict:=none,data:= .set #[] 0 (.fresh 0 0 led)}}) (by rw [hled];exact ⟨rfl,rfl⟩)) fun r s₁ hr=>?_
  cases r with
  | error e=>exact hr
  | ok fl=>
    cases fl with
    | ret obj=>
      obtain ⟨rfl,rfl⟩:=hr
      have hS:(s.heap.push {cls:= .type "set",dict:=none,data:= .set #[] 0 (.fresh 0 0 led)}).get? s.heap.objs.size=some {cls:= .type "set",dict:=none,data:= .set #[] 0 (.fresh 0 0 led)}:=Heap.get?_push_size _ rfl
      have hT:Shared.TypeIs {s with heap:=s.heap.push {cls:= .type "set",dict:=none,data:= .set #[] 0 (.fresh 0 0 led)}} (.ref s.heap.objs.size) "set":=⟨_,hS,rfl⟩
      have hli:=PySem.F.called_set.init.lookup
      have hbi:=PySem.F.called_set.init.bind (.ref s.heap.objs.size)
      repeat (any_goals (first | assumption | wp_step))
      refine codeAny_mono (codeAny_call_builtin (R:=wants (fun r s₂=>r= .none∧∃h' tk,s₂={s with heap:=h',toks:=tk}∧
          StrSet w h' s.heap.objs.size led (j6 (iR x) x.cps.size)∧
          (∀b o,b < s.heap.objs.size→s.heap.get? b=some o→h'.get? b=some o)) E) PySem.F.called_set.init.plain PySem.F.entry_set_init (check_set_init_1 hT ?_)) fun r₂ s₂ hr₂=>?_
      · have hsls:=F.qY
        have hslf:=F.kB
        have hne:(Value.type "str" == Value.type "dict")=false:=by decide
        have hTx:Shared.TypeIs {s with heap:=s.heap.push {cls:= .type "set",dict:=none,data:= .set #[] 0 (.fresh 0 0 led)}} (.str x t) "str":=rfl
        unfold Builtin.«set.__init__» noKeywords Builtin.Frozenset.updateFrom
        generalize hPI:pyIter=PI
        wp_walk
        subst hPI
        refine wpAny_pyIter_str fun o St W hst=>?_
        refine wpAny_bind (wpAny_runValue ?_)
        have hh3:A.in1.in1.in1.handled=none:=by simp [hh]
        have hSf:s.heap.objs.size∉[(s.heap.push {cls:= .type "set",dict:=none,data:= .set #[] 0 (.fresh 0 0 led)}).objs.size]:=by
          rw [Heap.size_push];simp only [List.mem_cons,List.mem_singleton,List.not_mem_nil,or_false,not_or]
          exact Nat.ne_of_lt (Nat.lt_succ_self _)
        have hval:∀(i:Nat) (v:Value),SignAt x i v→∃t,v= .str (iR x i) t:=fun i v ⟨c,u,hc,hv⟩=>⟨u,by rw [hv];simp [iR,Array.getD_eq_getD_getElem?,hc]⟩
        refine lU ((W _ hh3).toS) s.heap.objs.size
          hSf led (iR x) hval hb (x.cps.size - 0) 0 _ (by omega) (Nat.zero_le _) hst ?hS0 ?hR
        case hS0=>exact ⟨_,_,_,Heap.get?_push_of_some _ hS,kA w led⟩
        case hR=>
          intro s' hm hS'
          obtain ⟨h',g',d',tk',os'⟩:=s'
          have eg:g'=s.gens:=hm.gens
          have ed:d'=s.drawn:=hm.drawn
          have eo:os'=s.os:=hm.os
          subst eg;subst ed;subst eo
          show wpAny _ _ _ _ _ _
          refine wpAny_pure ?_
          show wpAny _ _ (ret Value.none) _ _ _
          refine wpAny_pure ⟨rfl,h',tk',rfl,hS',fun b o hb e=>?_⟩
          have hb1:b≠s.heap.objs.size:=Nat.ne_of_lt hb
          have hb2:b≠(s.heap.push {cls:= .type "set",dict:=none,data:= .set #[] 0 (.fresh 0 0 led)}).objs.size:=by
            rw [Heap.size_push];exact Nat.ne_of_lt (Nat.lt_succ_of_lt hb)
          exact hm.heap b o (by simp only [List.mem_cons,List.mem_singleton,List.not_mem_nil,or_false,not_or];exact ⟨hb1,hb2⟩) (Heap.get?_push_of_some _ (Heap.get?_push_of_some _ e))
      · cases r₂ with
        | error e=>exact hr₂
        | ok fl₂=>
          cases fl₂ with
          | ret r=>
            obtain ⟨rfl,h',tk,rfl,hS',hk'⟩:=hr₂
            repeat (any_goals (first | assumption | wp_step))
            exact h _ _ hS' hk'
          | _=>exact hr₂.elim
    | _=>exact hr.elim
end
end NhSet
namespace NhSet
open PySem PyProof.Rows
theorem j7 {α:Type}:∀{l:List α} {i:Nat} (h:i < l.length),(l[i]::l.eraseIdx i).Perm l
  | x::xs,0,h=>List.Perm.refl _
  | x::xs,i+1,h=>by
    have:=j7 (l:=xs) (i:=i) (by simpa using h)
    simp only [List.getElem_cons_succ,List.eraseIdx_cons_succ]
    exact (List.Perm.swap x _ _).trans (this.cons x)
theorem oM {α:Type} (next:Nat→Nat):∀(fuel k:Nat) (left:List α) (out:Array α),left.length=fuel→(pickOrder.go next fuel k left out).toList.Perm (out.toList++left)
  | 0,k,left,out,h=>by
    have:left=[]:=List.length_eq_zero_iff.mp h
    subst this;simp [pickOrder.go]
  | fuel+1,k,left,out,h=>by
    unfold pickOrder.go
    have hlt:next k % left.length < left.length:=Nat.mod_lt _ (by omega)
    rw [List.getElem?_eq_getElem hlt]
    dsimp only
    refine (oM next fuel (k+1) _ _ (by rw [List.length_eraseIdx_of_lt hlt];omega)).trans ?_
    rw [Array.toList_push,List.append_assoc]
    exact (j7 hlt).append_left _
theorem m9 {α:Type} (next:Nat→Nat) (xs:Array α):(pickOrder next xs).toList.Perm xs.toList:=by
  have:=oM next xs.size 0 xs.toList #[] (by simp)
  simpa [pickOrder] using this
section
variable {M:Model} {A:Around} {E:Value→Shared→Prop}
theorem pS {src:Source} {n:Nat} {s:Shared} {Q:Nat→Shared→Prop} (hn:n≠0) (h:∀i d,i < n→Q i {s with drawn:=d}):wpAny M A (choose src n) Q E s:=fun Γ p hΓ=>by
  show Sem.wp M Γ (.choose src n .pure) _ _ p s
  rw [Sem.wp_choose]
  exact ⟨hn,by rw [Sem.wp_pure];exact h _ _ (Nat.mod_lt _ (Nat.pos_of_ne_zero hn))⟩
theorem i9 {α:Type}:∀(n:Nat) (xs:List α) (s:Shared) {Q:List α→Shared→Prop},xs.length=n→(∀ys d,ys.Perm xs→Q ys {s with drawn:=d})→wpAny M A (drawOrder n xs) Q E s
  | 0,xs,s,Q,hl,h=>by
    have:xs=[]:=List.length_eq_zero_iff.mp hl
    subst this
    exact wpAny_pure (h [] s.drawn (List.Perm.refl _))
  | n+1,[],s,Q,hl,h=>by simp at hl
  | n+1,x::xs,s,Q,hl,h=>by
    show wpAny M A (choose .order (x::xs).length >>= _) Q E s
    refine wpAny_bind (pS (by simp) fun i d hi=>?_)
    rw [List.getElem?_eq_getElem hi]
    dsimp only
    refine wpAny_bind (i9 n _ _ (by rw [List.length_eraseIdx_of_lt hi];simpa using hl) fun ys d' hp=>?_)
    exact wpAny_pure (h _ d' ((hp.cons _).trans (j7 hi)))
end
namespace F
theorem m_:entryFor table "set.__iter__"=some Builtin.«frozenset.__iter__»:=
  entryFor_alias (id':="frozenset.__iter__") (by kernel_rfl) rfl (by decide+kernel) (by kernel_rfl)
theorem slot_next:Slot "set_iterator" "__next__" "set_iterator.__next__":=
  .of (owner:="set_iterator") (n:="__next__") (by rw [typeLookup_type,builtinLookup_eq_fast];kernel_rfl) (by decide+kernel) (by decide+kernel) (by decide+kernel)
    (by first | exact .inl (by decide+kernel) | exact .inr (by decide+kernel)) (by rw [isSubtype_type];kernel_rfl)
theorem sH:entryFor table "set_iterator.__next__"=some Builtin.«set_iterator.__next__»:=entryFor_of_fast (by kernel_rfl)
theorem vo (a:Value):argsOk "set_iterator.__next__" ⟨[a],[]⟩:=by unfold argsOk;kernel_rfl
theorem oN:Slot "set_iterator" "__iter__" "set_iterator.__iter__":=
  .of (owner:="set_iterator") (n:="__iter__") (by rw [typeLookup_type,builtinLookup_eq_fast];kernel_rfl) (by decide+kernel) (by decide+kernel) (by decide+kernel)
    (by first | exact .inl (by decide+kernel) | exact .inr (by decide+kernel)) (by rw [isSubtype_type];kernel_rfl)
theorem sI:entryFor table "set_iterator.__iter__"=some Builtin.«dict_keyiterator.__iter__»:=
  entryFor_alias (id':="dict_keyiterator.__iter__") (by kernel_rfl) rfl (by decide+kernel) (by kernel_rfl)
theorem vp (a:Value):argsOk "set_iterator.__iter__" ⟨[a],[]⟩:=by unfold argsOk;kernel_rfl
end F
abbrev qZ (first:Value) (i:Nat) (a:Addr) (n ep:Nat):Obj:={cls:= .type "set_iterator",data:= .fields #[first, .int i 0, .ref a, .int n 0, .int ep 0]}
section
variable {prog:Program} {w:World} {A:Around} {E:Value→Shared→Prop} {s:Shared}
theorem pT {I:Addr} {first:Value} {i:Nat} {a:Addr} {n ep:Nat} {Q:Value→Shared→Prop} (ho:s.heap.get? I=some (qZ first i a n ep)) (h:Q (.ref I) s):wpAny (model prog w) A (pyIter (.ref I)) Q E s:=by
  have hT:s.TypeIs (.ref I) "set_iterator":=⟨_,ho,rfl⟩
  refine wpAny_pyIter_slot hT F.oN (wpAny_call_entry F.oN hT F.sI ?_ (F.vp _))
  show wpAny _ _ (ret (.ref I)) _ _ s
  exact wpAny_pure ⟨_,rfl,"set_iterator",_,hT,F.slot_next.lookup,h⟩
theorem q9 {a:Addr} {es:Array (Int×Value)} {ep:Nat} {t:SetTable} {Q:Bool→Shared→Prop} (ho:s.heap.get? a=some (de es ep t)) (hf:t.fits es.size=true)
    (h:Q (!(w.params.followText "set-order")&&(!t.plain&&decide (es.size > 1))) s):wpAny (model prog w) A (setDrawn a) Q E s:=by
  unfold setDrawn setsByText
  refine wpAny_bind (wpAny_setState_of ho rfl hf ?_)
  dsimp only
  refine wpAny_bind (wpAny_bind (wpAny_askSetting (wpAny_pure ?_)))
  exact wpAny_pure h
theorem pU {I:Addr} {Q:Option Value→Shared→Prop} (hh:A.handled=none) {o:Obj} (hQ:∀h',Heap.ExtBut I s.heap h'→Q none {s with heap:=h'}) {h1:Heap} (k:Heap.ExtBut I s.heap h1):
    wpAny (model prog w) A.in1 (newExc (.type "StopIteration") [] >>= fun e=>raiseNew e) (fun (fin:Fin) s'=>∃r,fin= .done (.ret r)∧wpAny (model prog w) A (pure (some r)) Q E s')
      (fun e s'=>wpAny (model prog w) A (isInstance e (.type "StopIteration") >>= fun b=>if b=true then pure none else throw e) Q E s') {s with heap:=h1}:=by
  refine wpAny_bind ?_
  simp only [newExc,newTuple]
  refine wpAny_bind (wpAny_newObj_type ?_ (by size_fits))
  refine wpAny_bind (m:=firstArgMember _ _) (wpAny_of_eq (a:=Value.none) (by first | rfl | (simp only [firstArgMember];rfl)) ?_)
  refine wpAny_newObj_type ?_ (by size_fits)
  simp only [raiseNew]
  refine wpAny_bind (wpAny_handled ?_)
  rw [show A.in1.handled=none from hh]
  refine wpAny_bind (wpAny_pure (wpAny_throw ?_))
  refine wpAny_bind (wpAny_isInstance (T:="StopIteration") (b:=true) ⟨_,Heap.get?_push_size _ rfl,rfl⟩ isSubtype_stop ?_)
  exact wpAny_pure (hQ _ ((k.push _).push _))
end
end NhSet
namespace NhSet
open PySem PyProof.Rows
section
variable {prog:Program} {w:World} {A:Around} {E:Value→Shared→Prop} {s:Shared}
theorem ga {I:Addr} {first:Value} {i:Nat} {a:Addr} {n ep:Nat} {Q:Option Value→Shared→Prop} (hI:s.heap.get? I=some (qZ first i a n ep)) {es:Array (Int×Value)} {t:SetTable} (ha:s.heap.get? a=some (de es ep t)) (hf:t.fits es.size=true) (hn:es.size=n)
    (h:wpAny (model prog w) A.in1 (if let .int slot _:=first then do
        match ←setNext a slot.toNat i ep with
        | some (x,next)=>do
          setField (.ref I) 0 (rawInt next)
          setField (.ref I) 1 (rawInt (i+1))
          ret x
        | none=>do setField (.ref I) 2 .none;raiseNew (←newExc (.type "StopIteration") [])
      else do
        let some places ←seqItems? first | unsupported "internal:set_iterator"
        match places[i]? with
        | some (.int place _)=>do
          let x ←setNextDrawn a place.toNat ep
          setField (.ref I) 1 (rawInt (i+1))
          ret x
        | some _=>unsupported "internal:set_iterator"
        | none=>do setField (.ref I) 0 (rawInt 0);setField (.ref I) 2 .none;raiseNew (←newExc (.type "StopIteration") []))
      (fun (fin:Fin) s'=>∃r,fin= .done (.ret r)∧wpAny (model prog w) A (pure (some r)) Q E s')
      (fun e s'=>wpAny (model prog w) A (isInstance e (.type "StopIteration") >>= fun b=>if b=true then pure none else throw e) Q E s') s):
    wpAny (model prog w) A (pyNext (.ref I)) Q E s:=by
  have hT':s.TypeIs (.ref I) "set_iterator":=⟨_,hI,rfl⟩
  unfold pyNext
  refine wpAny_bind (wpAny_attempt (wpAny_callSpecial?_slot (name:=Str.ofString "__next__") hT' F.slot_next (wpAny_call_entry F.slot_next hT' F.sH ?_ (F.vo _))))
  unfold Builtin.«set_iterator.__next__»
  refine wpAny_bind (m:=slotArgs _ _ _) (wpAny_pure ?_)
  refine wpAny_bind (wpAny_fieldsOf hI rfl ?_)
  dsimp only
  refine wpAny_bind (wpAny_setEntries_of ha rfl hf ?_)
  rw [if_neg (by simp [hn])]
  exact h
abbrev Au (es:Array (Int×Value)) (j:Nat):Value:=(es.getD j (0, .none)).2
theorem cX {I:Addr} {o:Obj} {vs:Array Value} {k:Nat} {x:Value} {Q:Unit→Shared→Prop} (ho:s.heap.get? I=some o) (hd:o.data= .fields vs) (hk:k < vs.size) (hQ:∀h',Heap.SameBut I s.heap h'→h'.get? I=some {o with data:= .fields (vs.setIfInBounds k x)}→Q () {s with heap:=h'}):wpAny (model prog w) A (setField (.ref I) k x) Q E s:=by
  refine wpAny_setField ho hd hk (hQ _ (Heap.SameBut.update ..) ?_)
  have:=Heap.get?_update_self (Obj.mapFields fun vs=>vs.setIfInBounds k x) ho (Obj.isFreed_of_fields (Obj.data_mapFields hd _))
  rw [this]
  obtain ⟨c,d,dt,sl⟩:=o
  simp only at hd
  subst hd
  rfl
theorem sJ (hh:A.handled=none) {I T a:Addr} {es:Array (Int×Value)} {ep:Nat} {t:SetTable} (π:List Nat) (hp:∀j∈π,j < es.size) (hl:π.length=es.size) (hf:t.fits es.size=true) (hTI:T≠I) (haI:a≠I):
    Walks prog w A I [I,T,a] [I] (π.map (Au es)).length (fun i v=>(π.map (Au es))[i]? =some v)
      (fun i h=>h.get? I=some (qZ (.ref T) i a es.size ep)∧h.get? T=some {cls:= .type "tuple",data:= .seq (π.map fun (i:Nat)=>rawInt i).toArray}∧h.get? a=some (de es ep t)) where
  sub:=fun b hb=>by simp at hb;simp [hb]
  frame:=fun _ _ _ st hk=>⟨hk I (by simp) _ st.1,hk T (by simp) _ st.2.1,hk a (by simp) _ st.2.2⟩
  self:=fun _ _ _ _ st hQ=>pT st.1 hQ
  item:=fun i s Q E hi st hQ=>by
    obtain ⟨hI,hT,ha⟩:=st
    rw [List.length_map] at hi
    refine ga hI ha hf rfl ?_
    dsimp only
    refine wpAny_bind (wpAny_seqItems hT rfl ?_)
    dsimp only
    have e:(π.map fun (i:Nat)=>rawInt i).toArray[i]? =some (.int (π[i]:Nat) 0):=by
      simp [hi,rawInt]
    rw [e]
    dsimp only
    have hj:=hp π[i] (List.getElem_mem hi)
    unfold setNextDrawn
    refine wpAny_bind (wpAny_bind (wpAny_setState_of ha rfl hf ?_))
    dsimp only
    rw [if_neg (by simp)]
    have e2:es[((π[i]:Nat):Int).toNat]? =some (es[π[i]]):=by simp [hj]
    rw [e2]
    refine wpAny_pure ?_
    refine wpAny_bind (cX hI rfl (by simp) fun h' hs' ho'=>?_)
    refine wpAny_pure ⟨_,rfl,wpAny_pure (hQ _ h' s.toks ?_ ⟨?_,?_,?_⟩ fun b o hb e=>hs'.extBut b o (fun z=>hb (by simp [z])) e)⟩
    · simp [hi,Au,hj]
    · rw [ho'];simp [rawInt]
    · exact hs'.extBut T _ hTI hT
    · exact hs'.extBut a _ haI ha
  done:=fun s Q E st hQ=>by
    obtain ⟨hI,hT,ha⟩:=st
    refine ga hI ha hf rfl ?_
    dsimp only
    refine wpAny_bind (wpAny_seqItems hT rfl ?_)
    dsimp only
    have e:(π.map fun (i:Nat)=>rawInt i).toArray[(π.map (Au es)).length]? =none:=by simp
    rw [e]
    dsimp only
    refine wpAny_bind (cX hI rfl (by simp) fun h' hs' ho'=>?_)
    refine wpAny_bind (cX (s:={s with heap:=h'}) ho' rfl (by simp) fun h2 hs2 _=>?_)
    exact pU (I:=I) (o:=de es ep t) hh (fun h3 k=>hQ h3 s.toks fun b o hb e=>k b o (fun z=>hb (by simp [z])) e) (hs'.trans hs2).extBut
theorem kC {a:Addr} {es:Array (Int×Value)} {ep:Nat} {t:SetTable} {slot given:Nat} {Q:Option (Value×Nat)→Shared→Prop} (hb:w.params.followText "set-order"=true) (ha:s.heap.get? a=some (de es ep t)) (hf:t.fits es.size=true)
    (h:Q (((pickOrder (w.params.setOrder a ep) es)[given]?).map fun e=>(e.2,slot)) s):wpAny (model prog w) A (setNext a slot given ep) Q E s:=by
  unfold setNext setsByText
  refine wpAny_bind (wpAny_setState_of ha rfl hf ?_)
  dsimp only
  refine wpAny_bind (wpAny_bind (wpAny_askSetting (wpAny_pure ?_)))
  rw [if_pos (show (model prog w).w.params.followText "set-order"=true from hb)]
  rw [if_neg (by simp)]
  refine wpAny_bind ?_
  unfold setWalk setsByText
  refine wpAny_bind (wpAny_setState_of ha rfl hf ?_)
  dsimp only
  refine wpAny_bind (wpAny_bind (wpAny_askSetting (wpAny_pure ?_)))
  rw [if_pos (show (model prog w).w.params.followText "set-order"=true from hb)]
  refine wpAny_bind (wpAny_askSetting (wpAny_pure ?_))
  exact wpAny_pure h
theorem lV {a:Addr} {es:Array (Int×Value)} {ep:Nat} {t:SetTable} {slot given:Nat} {Q:Option (Value×Nat)→Shared→Prop} (hb:w.params.followText "set-order"=false) (hsz:es.size≤1) (hled:t.led=true) (ha:s.heap.get? a=some (de es ep t)) (hf:t.fits es.size=true)
    (h:Q (match es[SetTable.below t.place slot]?,t.place[SetTable.below t.place slot]? with | some (_,x),some j=>some (x,j+1) | _,_=>none) s):wpAny (model prog w) A (setNext a slot given ep) Q E s:=by
  unfold setNext setsByText
  refine wpAny_bind (wpAny_setState_of ha rfl hf ?_)
  dsimp only
  refine wpAny_bind (wpAny_bind (wpAny_askSetting (wpAny_pure ?_)))
  rw [if_neg (show ¬((model prog w).w.params.followText "set-order"=true) by show ¬(w.params.followText "set-order"=true);rw [hb];decide)]
  have hd:(!t.plain&&decide (es.size > 1))=false:=by rw [decide_eq_false (by omega)];simp
  show wpAny _ _ (if (!t.plain&&decide (es.size > 1))=true then _ else _) _ _ _
  rw [hd,if_neg (by decide)]
  show wpAny _ _ ((if (!t.led&& !es.isEmpty)=true then unsupported "set:maker-not-led" else pure PUnit.unit) >>= _) _ _ _
  rw [hled,if_neg (by simp)]
  refine wpAny_bind (wpAny_pure ?_)
  exact wpAny_pure h
theorem vq (hh:A.handled=none) {I a:Addr} {es:Array (Int×Value)} {ep:Nat} {t:SetTable} (hb:w.params.followText "set-order"=true) (hf:t.fits es.size=true) (haI:a≠I):
    Walks prog w A I [I,a] [I] ((pickOrder (w.params.setOrder a ep) es).toList.map (·.2)).length (fun i v=>((pickOrder (w.params.setOrder a ep) es).toList.map (·.2))[i]? =some v)
      (fun i h=>h.get? I=some (qZ (.int 0 0) i a es.size ep)∧h.get? a=some (de es ep t)) where
  sub:=fun b hb=>by simp at hb;simp [hb]
  frame:=fun _ _ _ st hk=>⟨hk I (by simp) _ st.1,hk a (by simp) _ st.2⟩
  self:=fun _ _ _ _ st hQ=>pT st.1 hQ
  item:=fun i s Q E hi st hQ=>by
    obtain ⟨hI,ha⟩:=st
    have hi':i < (pickOrder (w.params.setOrder a ep) es).size:=by simpa using hi
    refine ga hI ha hf rfl ?_
    dsimp only
    refine wpAny_bind (kC hb ha hf ?_)
    rw [Array.getElem?_eq_getElem hi']
    dsimp only [Option.map_some]
    refine wpAny_bind (cX hI rfl (by simp) fun h' hs' ho'=>?_)
    refine wpAny_bind (cX (s:={s with heap:=h'}) ho' rfl (by simp) fun h2 hs2 ho2=>?_)
    refine wpAny_pure ⟨_,rfl,wpAny_pure (hQ _ h2 s.toks ?_ ⟨?_,?_⟩ fun b o hb e=>(hs'.trans hs2).extBut b o (fun z=>hb (by simp [z])) e)⟩
    · simp [hi']
    · rw [ho2];simp [rawInt]
    · exact (hs'.trans hs2).extBut a _ haI ha
  done:=fun s Q E st hQ=>by
    obtain ⟨hI,ha⟩:=st
    refine ga hI ha hf rfl ?_
    dsimp only
    refine wpAny_bind (kC hb ha hf ?_)
    rw [show (pickOrder (w.params.setOrder a ep) es)[((pickOrder (w.params.setOrder a ep) es).toList.map (·.2)).length]? =none by simp]
    dsimp only [Option.map_none]
    refine wpAny_bind (cX hI rfl (by simp) fun h' hs' ho'=>?_)
    exact pU (I:=I) (o:=de es ep t) hh (fun h3 k=>hQ h3 s.toks fun b o hb e=>k b o (fun z=>hb (by simp [z])) e) hs'.extBut
theorem nh {xs:Array Nat} (h:xs.size≤1):SetTable.below xs 0=0:=by
  obtain ⟨l⟩:=xs
  match l,h with
  | [],_=>rfl
  | [p],_=>simp [SetTable.below,SetTable.below.go]
theorem sK {p:Nat}:SetTable.below #[p] (p+1)=1:=by simp [SetTable.below,SetTable.below.go]
theorem w_ (hh:A.handled=none) {I a:Addr} {es:Array (Int×Value)} {ep:Nat} {t:SetTable} (hb:w.params.followText "set-order"=false) (hsz:es.size≤1) (hled:t.led=true) (hf:t.fits es.size=true) (haI:a≠I):
    Walks prog w A I [I,a] [I] (es.toList.map (·.2)).length (fun i v=>(es.toList.map (·.2))[i]? =some v)
      (fun i h=>h.get? I=some (qZ (.int (if i=0 then 0 else (t.place.getD 0 0+1:Nat)) 0) i a es.size ep)∧h.get? a=some (de es ep t)) where
  sub:=fun b hb=>by simp at hb;simp [hb]
  frame:=fun _ _ _ st hk=>⟨hk I (by simp) _ st.1,hk a (by simp) _ st.2⟩
  self:=fun _ _ _ _ st hQ=>pT st.1 hQ
  item:=fun i s Q E hi st hQ=>by
    obtain ⟨hI,ha⟩:=st
    have hi':i < es.size:=by simpa using hi
    have hi0:i=0:=by omega
    subst hi0
    rw [if_pos rfl] at hI
    have hps:t.place.size=es.size:=by
      have:=hf;simp only [SetTable.fits,Bool.and_eq_true,beq_iff_eq] at this;exact this.1
    refine ga hI ha hf rfl ?_
    dsimp only
    refine wpAny_bind (lV hb hsz hled ha hf ?_)
    rw [show ((0:Int)).toNat=0 from rfl,nh (by omega),Array.getElem?_eq_getElem hi',Array.getElem?_eq_getElem (show 0 < t.place.size by omega)]
    dsimp only
    refine wpAny_bind (cX hI rfl (by simp) fun h' hs' ho'=>?_)
    refine wpAny_bind (cX (s:={s with heap:=h'}) ho' rfl (by simp) fun h2 hs2 ho2=>?_)
    refine wpAny_pure ⟨_,rfl,wpAny_pure (hQ _ h2 s.toks ?_ ⟨?_,?_⟩ fun b o hb e=>(hs'.trans hs2).extBut b o (fun z=>hb (by simp [z])) e)⟩
    · simp [hi']
    · rw [ho2]
      have:t.place.getD 0 0=t.place[0]:=by simp [Array.getD,show 0 < t.place.size by omega]
      simp [rawInt,this]
    · exact (hs'.trans hs2).extBut a _ haI ha
  done:=fun s Q E st hQ=>by
    obtain ⟨hI,ha⟩:=st
    have hps:t.place.size=es.size:=by
      have:=hf;simp only [SetTable.fits,Bool.and_eq_true,beq_iff_eq] at this;exact this.1
    have hlen:(es.toList.map (·.2)).length=es.size:=by simp
    rw [hlen] at hI
    refine ga hI ha hf rfl ?_
    dsimp only
    refine wpAny_bind (lV hb hsz hled ha hf ?_)
    have hno:(match es[SetTable.below t.place (if es.size=0 then (0:Int) else ((t.place.getD 0 0+1:Nat):Int)).toNat]?,t.place[SetTable.below t.place (if es.size=0 then (0:Int) else ((t.place.getD 0 0+1:Nat):Int)).toNat]? with | some (_,x),some j=>some (x,j+1) | _,_=>(none:Option (Value×Nat)))=none:=by
      by_cases z:es.size=0
      · rw [if_pos z,show ((0:Int)).toNat=0 from rfl,nh (by omega),Array.getElem?_eq_none (by omega)]
      · rw [if_neg z]
        obtain ⟨⟨p⟩,hp⟩:∃q:{p:Nat // t.place=#[p]},True:=by
          generalize t.place=pl at hps
          obtain ⟨l⟩:=pl
          match l,hps with
          | [],h=>simp at h;omega
          | [p],h=>exact ⟨⟨p,rfl⟩,trivial⟩
          | _::_::_,h=>simp at h;omega
        rename_i hpl
        rw [hpl]
        simp only [Int.toNat_natCast]
        have:(#[p]:Array Nat).getD 0 0=p:=rfl
        rw [this,sK,Array.getElem?_eq_none (show es.size≤1 by omega)]
    rw [hno]
    dsimp only
    refine wpAny_bind (cX hI rfl (by simp) fun h' hs' ho'=>?_)
    exact pU (I:=I) (o:=de es ep t) hh (fun h3 k=>hQ h3 s.toks fun b o hb e=>k b o (fun z=>hb (by simp [z])) e) hs'.extBut
theorem xa {a:Addr} {es:Array (Int×Value)} {ep:Nat} {t:SetTable} {ks:List Str} {Q:Value→Shared→Prop} (ha:s.heap.get? a=some (de es ep t)) (S:SS w (jN w) ks es t)
    (hQ:∀(s':Shared) (I:Addr) (fp:List Addr) (St:Nat→Heap→Prop) (items:List Value),(∀b o,s.heap.get? b=some o→s'.heap.get? b=some o)→s.heap.objs.size≤s'.heap.objs.size→s'.gens=s.gens→s'.os=s.os→s'.toks=s.toks→(∀b∈fp,b=a∨s.heap.objs.size≤b)→s.heap.objs.size≤I→
      (∀A':Around,A'.handled=none→Walks prog w A' I fp [I] items.length (fun i v=>items[i]? =some v) St)→St 0 s'.heap→items.Perm (es.toList.map (·.2))→Q (.ref I) s'):
    wpAny (model prog w) A (pyIter (.ref a)) Q E s:=by
  have hT:s.TypeIs (.ref a) "set":=⟨_,ha,rfl⟩
  have hlt:a < s.heap.objs.size:=Heap.lt_size ha
  refine wpAny_pyIter_slot hT PySem.F.slot_set_iter (wpAny_call_entry PySem.F.slot_set_iter hT F.m_ ?_ (PySem.F.args_set_iter_1 _))
  unfold Builtin.«frozenset.__iter__» Builtin.Frozenset.slot0 slotArgs
  simp only [List.isEmpty_nil,Bool.not_true,Bool.false_eq_true,↓reduceIte,bind_assoc,List.length_nil,bne_self_eq_false]
  unfold Builtin.Frozenset.addrOf Builtin.Frozenset.sizeOf
  refine wpAny_bind (wpAny_pure ?_)
  try dsimp only
  refine wpAny_bind (wpAny_pure ?_)
  refine wpAny_bind (wpAny_bind (wpAny_setEntries_of ha rfl S.fits (wpAny_pure ?_)))
  refine wpAny_bind (q9 ha S.fits ?_)
  cases hd:(!(w.params.followText "set-order")&&(!t.plain&&decide (es.size > 1))) with
  | true=>
    simp only [↓reduceIte]
    refine wpAny_bind (i9 es.size (List.range es.size) s (by simp) fun π d hp=>?_)
    have hl:π.length=es.size:=by rw [hp.length_eq,List.length_range]
    have hm:∀j∈π,j < es.size:=fun j hj=>List.mem_range.mp (hp.mem_iff.mp hj)
    refine wpAny_bind (wpAny_newTuple (s:={s with drawn:=d}) ?_ (by rw [List.length_map,hl];exact fits_of_scanBound S.bound))
    have ha2:(s.heap.push {cls:= .type "tuple",data:= .seq (π.map fun (i:Nat)=>rawInt i).toArray}).get? a=some (de es ep t):=Heap.get?_push_of_some _ ha
    refine wpAny_bind (wpAny_setEpoch_of (s:={s with drawn:=d,heap:=s.heap.push {cls:= .type "tuple",data:= .seq (π.map fun (i:Nat)=>rawInt i).toArray}}) ha2 rfl S.fits ?_)
    refine wpAny_bind (wpAny_newObj_type ?_)
    have hs1:(s.heap.push {cls:= .type "tuple",data:= .seq (π.map fun (i:Nat)=>rawInt i).toArray}).objs.size=s.heap.objs.size+1:=by rw [Heap.size_push]
    refine wpAny_pure ⟨_,rfl,"set_iterator",_,⟨_,Heap.get?_push_size _ rfl,rfl⟩,F.slot_next.lookup,?_⟩
    refine hQ _ _ _ _ (π.map (Au es)) (fun b o e=>Heap.get?_push_of_some _ (Heap.get?_push_of_some _ e)) (by rw [Heap.size_push,Heap.size_push];omega) rfl rfl rfl ?_ (by dsimp only;rw [hs1];omega)
      (fun A' hA=>sJ hA (T:=s.heap.objs.size) (a:=a) (ep:=ep) (t:=t) π hm hl S.fits (by dsimp only;rw [hs1];exact Nat.ne_of_lt (Nat.lt_succ_self _)) (by dsimp only;rw [hs1];exact Nat.ne_of_lt (Nat.lt_succ_of_lt hlt)))
      ⟨Heap.get?_push_size _ rfl,Heap.get?_push_of_some _ (Heap.get?_push_size _ rfl),Heap.get?_push_of_some _ ha2⟩ ?_
    · intro b hb
      rcases List.mem_cons.mp hb with rfl | hb
      · right;dsimp only;rw [hs1];omega
      rcases List.mem_cons.mp hb with rfl | hb
      · right;exact Nat.le_refl _
      · left;exact List.mem_singleton.mp hb
    · refine (hp.map (Au es)).trans ?_
      rw [show (List.range es.size).map (Au es)=es.toList.map (·.2) from ?_]
      refine List.ext_getElem (by simp) fun i h1 h2=>?_
      have hi:i < es.size:=by simpa using h1
      simp [Au,hi]
  | false=>
    simp only [Bool.false_eq_true,↓reduceIte]
    refine wpAny_bind (wpAny_pure ?_)
    refine wpAny_bind (wpAny_setEpoch_of ha rfl S.fits ?_)
    refine wpAny_bind (wpAny_newObj_type ?_)
    refine wpAny_pure ⟨_,rfl,"set_iterator",_,⟨_,Heap.get?_push_size _ rfl,rfl⟩,F.slot_next.lookup,?_⟩
    have hfp:∀b∈[s.heap.objs.size,a],b=a∨s.heap.objs.size≤b:=fun b hb=>by
      rcases List.mem_cons.mp hb with rfl | hb
      · right;exact Nat.le_refl _
      · left;exact List.mem_singleton.mp hb
    cases hb:w.params.followText "set-order" with
    | true=>
      exact hQ _ _ _ _ ((pickOrder (w.params.setOrder a ep) es).toList.map (·.2)) (fun b o e=>Heap.get?_push_of_some _ e) (by rw [Heap.size_push];omega) rfl rfl rfl hfp (Nat.le_refl _)
        (fun A' hA=>vq hA (t:=t) hb S.fits (Nat.ne_of_lt hlt)) ⟨Heap.get?_push_size _ rfl,Heap.get?_push_of_some _ ha⟩ ((m9 _ es).map _)
    | false=>
      have hled:t.led=true:=by rw [S.led,jN,hb];rfl
      have hsz:es.size≤1:=by
        rw [hb] at hd
        by_cases z:es.size=0
        · omega
        · rw [S.plain z] at hd
          simp at hd
          omega
      exact hQ _ _ _ _ (es.toList.map (·.2)) (fun b o e=>Heap.get?_push_of_some _ e) (by rw [Heap.size_push];omega) rfl rfl rfl hfp (Nat.le_refl _)
        (fun A' hA=>w_ hA (t:=t) hb hsz hled S.fits (Nat.ne_of_lt hlt)) ⟨Heap.get?_push_size _ rfl,Heap.get?_push_of_some _ ha⟩ (List.Perm.refl _)
end
end NhSet
namespace NhSet
open PySem PyProof.Rows
namespace F
theorem zl:typeLookup (.type "set") "__len__"=pure (some (.builtin "set.__len__")):=by rw [typeLookup_type,builtinLookup_eq_fast];kernel_rfl
end F
section
variable {prog:Program} {w:World} {A:Around} {E:Value→Shared→Prop} {s:Shared}
theorem q_ {a:Addr} {es:Array (Int×Value)} {ep:Nat} {t:SetTable} {ks:List Str} {Q:List Value→Shared→Prop} (hh:A.handled=none) (ha:s.heap.get? a=some (de es ep t)) (S:SS w (jN w) ks es t)
    (hQ:∀(s':Shared) (items:List Value),(∀b o,s.heap.get? b=some o→s'.heap.get? b=some o)→s'.gens=s.gens→s'.os=s.os→s.heap.objs.size≤s'.heap.objs.size→items.Perm (es.toList.map (·.2))→Q items s'):
    wpAny (model prog w) A (collect (.ref a)) Q E s:=by
  have hlt:a < s.heap.objs.size:=Heap.lt_size ha
  unfold collect
  refine wpAny_bind (wpAny_runValue (codeAny_builtin PySem.F.entry_proto_collect ?_))
  rw [Around.under_plainId PySem.F.plain_proto_collect _]
  show wpAny _ A.in1 (newList [] >>= fun l=>again (.builtin "list.__iadd__" ⟨[l, .ref a],[]⟩)) _ _ s
  refine wpAny_bind (wpAny_newObj_type ?_)
  refine wpAny_pure ⟨plainId_quiet PySem.F.plain_list_iadd _,codeAny_builtin PySem.F.entry_list_iadd ?_⟩
  rw [Around.under_plainId PySem.F.plain_list_iadd _]
  show wpAny _ A.in1 (Builtin.List.listExtendWith (.ref s.heap.objs.size) (.ref a) (.ref s.heap.objs.size)) _ _ _
  unfold Builtin.List.listExtendWith
  have ha1:(s.heap.push {cls:= .type "list",data:= .seq ([]:List Value).toArray}).get? a=some (de es ep t):=Heap.get?_push_of_some _ ha
  have hT1:Shared.TypeIs {s with heap:=s.heap.push {cls:= .type "list",data:= .seq ([]:List Value).toArray}} (.ref a) "set":=⟨_,ha1,rfl⟩
  refine wpAny_bind (wpAny_typeOf hT1 ?_)
  have h1:Builtin.List.listSameRef (.ref s.heap.objs.size) (.ref a)=false:=by simp [Builtin.List.listSameRef];exact Nat.ne_of_gt hlt
  have h2:(Value.type "set" == Value.type "list")=false:=by decide
  have h3:(Value.type "set" == Value.type "tuple")=false:=by decide
  simp only [h1,h2,h3,Bool.or_false,Bool.false_eq_true,if_false]
  refine wpAny_bind (xa ha1 S fun s2 I fp St items k2 z2 g2 o2 t2 hfp hI W hst hp=>?_)
  have hT2:s2.TypeIs (.ref a) "set":=⟨_,k2 a _ ha1,rfl⟩
  refine wpAny_bind (wpAny_holding ?_)
  unfold Builtin.List.listLengthHint
  refine wpAny_bind (wpAny_specialOf hT2 F.zl ?_)
  wp_delta
  refine wpAny_bind (wpAny_isInstance (T:="set") (b:=true) hT2 sub_set_self ?_)
  show wpAny _ A.in1 (typeOf (Value.ref a) >>= _) _ _ _
  refine wpAny_bind (wpAny_typeOf hT2 ?_)
  refine wpAny_pure ?_
  rw [if_pos (by decide)]
  refine wpAny_bind (wpAny_rule ?_)
  have hS0:s2.heap.get? s.heap.objs.size=some {cls:= .type "list",data:= .seq ([]:List Value).toArray}:=k2 _ _ (Heap.get?_push_size _ rfl)
  refine wpAny_bind ?_
  show wpAny _ A.in1 (updateSeq s.heap.objs.size (·.push .none) >>= fun _=>updateSeq s.heap.objs.size (·.pop)) _ _ _
  refine wpAny_bind (wpAny_updateSeq hS0 rfl ?_)
  have hS2:=Heap.get?_update_self (Obj.mapSeq (·.push Value.none)) hS0 rfl
  refine wpAny_updateSeq hS2 rfl ?_
  have hS3:=Heap.get?_update_self (Obj.mapSeq (·.pop)) hS2 rfl
  have oth:∀b o,b≠s.heap.objs.size→s2.heap.get? b=some o→
      ((s2.heap.update s.heap.objs.size (Obj.mapSeq (·.push Value.none))).update s.heap.objs.size (Obj.mapSeq (·.pop))).get? b=some o:=
    fun b o hb e=>(Heap.get?_update_other _ _ (Ne.symm hb)).trans ((Heap.get?_update_other _ _ (Ne.symm hb)).trans e)
  have hz1:(s.heap.push {cls:= .type "list",data:= .seq ([]:List Value).toArray}).objs.size=s.heap.objs.size+1:=by rw [Heap.size_push]
  have hnS:∀b,(s.heap.push {cls:= .type "list",data:= .seq ([]:List Value).toArray}).objs.size≤b→b≠s.heap.objs.size:=fun b hb e=>by
    rw [hz1,e] at hb;exact Nat.not_succ_le_self _ hb
  have hSf:s.heap.objs.size∉fp:=fun hm=>by
    rcases hfp _ hm with e | e
    · exact absurd e (Nat.ne_of_gt hlt)
    · exact hnS _ e rfl
  have hlen:items.length≤sizeLine:=by
    rw [hp.length_eq];simpa using fits_of_scanBound S.bound
  refine wpAny_pure ⟨plainId_quiet PySem.F.plain_extend_loop _,codeAny_extend_loopS (W A.in1 (by simp [hh])).toS hlen _ hSf _ items.length 0 _ _ _ rfl (Nat.zero_le _)
    ((W A.in1 (by simp [hh])).frame 0 s2.heap _ hst fun b hb o e=>oth b o (fun z=>hSf (z▸hb)) e) hS3 (ItemsOf.nil _) fun s' acc' c' hm hS' hacc=>?_⟩
  show wpAny _ A (load s.heap.objs.size >>= _) _ _ s'
  refine wpAny_bind (wpAny_load hS' ?_)
  have hacc':acc'.toList=items:=by
    refine List.ext_getElem? fun i=>?_
    rw [Array.getElem?_toList]
    by_cases hi:i < acc'.size
    · rw [Array.getElem?_eq_getElem hi]
      exact (hacc.2 i _ (Array.getElem?_eq_getElem hi)).symm
    · rw [Array.getElem?_eq_none (by omega),List.getElem?_eq_none (by rw [←hacc.1];omega)]
  refine wpAny_pure ?_
  rw [hacc']
  refine hQ s' items (fun b o e=>?_) (hm.gens.trans g2) (hm.os.trans o2) (Nat.le_of_lt (Heap.lt_size hS')) hp
  have hb:b < s.heap.objs.size:=Heap.lt_size e
  refine hm.heap b o (fun z=>?_) (oth b o (Nat.ne_of_lt hb) (k2 b o (Heap.get?_push_of_some _ e)))
  rcases List.mem_cons.mp z with z | z
  · exact absurd z (Nat.ne_of_lt hb)
  · rw [List.mem_singleton.mp z] at hb
    have hI':s.heap.objs.size+1≤I:=by rw [←hz1];exact hI
    exact absurd (Nat.lt_of_lt_of_le (Nat.lt_succ_self _) hI') (Nat.lt_asymm hb)
theorem sL {a:Addr} {ks:List Str} {Q:Value→Shared→Prop} (hh:A.handled=none) (hS:StrSet w s.heap a (jN w) ks) (h64:ks.length < 64)
    (h:∀(s':Shared) (l:Addr) (out:Array Value) (e:Nat) (ss':List Str),(∀b o,s.heap.get? b=some o→s'.heap.get? b=some o)→s'.gens=s.gens→s'.os=s.os→s.heap.objs.size≤l→s'.heap.get? l=some (seqObj "list" out e)→StrsAre out.toList ss'→ss'.Perm ks→sortedS ss'=true→Q (.ref l) s'):
    wpAny (model prog w) A (call (.builtin "sorted") [.ref a]) Q E s:=by
  obtain ⟨es,ep,t,ha,S⟩:=hS
  refine Calls.call_function_entry kind_sorted plain_sorted entry_sorted (args_sorted1 _) ?_
  unfold Builtin.«sorted»
  refine wpAny_bind (m:=checkCount "sorted" 1 1 _) (wpAny_pure ?_)
  refine wpAny_bind (q_ (by simp [hh]) ha S fun s1 items k1 g1 o1 hsz hp=>?_)
  have hpk:(items.map strOf).Perm ks:=(hp.map strOf).trans (by rw [List.map_map];exact S.perm)
  have hst:∀v∈items,∃x tk,v= .str x tk:=fun v hv=>by
    obtain ⟨e,he,rfl⟩:=List.mem_map.mp (hp.mem_iff.mp hv)
    obtain ⟨x,tk,rfl⟩:=S.elems e he
    exact ⟨x,tk,rfl⟩
  have hSA:=strsAre_map items hst
  have hl64:items.length < 64:=by have:=hpk.length_eq;rw [List.length_map] at this;omega
  refine wpAny_bind (wpAny_newList ?_)
  have hoL:(s1.heap.push (seqObj "list" items.toArray 0)).get? s1.heap.objs.size=some (seqObj "list" items.toArray 0):=Heap.get?_push_size _ rfl
  refine wpAny_bind (wpAny_holding (wpAny_call_entry slot_list_sort ⟨_,hoL,rfl⟩ entry_list_sort (list_sort_treeK (s:={s1 with heap:=s1.heap.push (seqObj "list" items.toArray 0)}) strKind_oneLt hoL hSA.keysOf (fun v₁ v₂ gr e=>keyKind_strs (by rw [←e];exact hSA)) hl64 fun st' a1 a2=>⟨_,rfl,?_⟩) (args_list_sort _)))
  obtain ⟨ss',b1,b2,b3⟩:=sorted_out_str hSA a1 a2
  obtain ⟨e,he⟩:=sortedHeap_at (out:=(arrOf st').map (·.2)) hoL
  refine wpAny_pure ⟨_,rfl,h _ s1.heap.objs.size _ e ss' (fun b o hb=>?_) g1 o1 hsz he b1 (b2.trans hpk) b3⟩
  have hb1:=k1 b o hb
  have hlt:=Heap.lt_size hb1
  dsimp only
  rw [sortedHeap_old (Nat.ne_of_lt hlt) (by rw [size_push'];exact Nat.lt_succ_of_lt hlt),Heap.get?_push_ne _ _ _ (Nat.ne_of_lt hlt)]
  exact hb1
end
end NhSet
namespace PL
open PySem L2 Nh
def vt (w:World) (a:Addr) (ks:List Str):HO:= .ext fun h=>NhSet.StrSet w h a (NhSet.jN w) ks
theorem xb (ns:List Str) (n:Nat) (h:n=ns.length):NhSet.j6 (fun i=>ns.getD i ⟨#[]⟩) n=jc ns:=by
  have e:(List.range n).map (fun i=>ns.getD i ⟨#[]⟩)=ns:=by
    subst h
    refine List.ext_getElem (by simp) fun i h1 h2=>?_
    simp [h2]
  show ((List.range n).map (fun i=>ns.getD i ⟨#[]⟩)).foldl NhSet.mn []=ns.foldl yq []
  rw [e]
  rfl
theorem vv (x:Str):NhSet.j6 (NhSet.iR x) x.cps.size=jc (kz x):=by
  have e:(List.range x.cps.size).map (NhSet.iR x)=kz x:=by
    refine List.ext_getElem (by simp [kz]) fun i h1 h2=>?_
    have hi:i < x.cps.size:=by simpa using h1
    simp [kz,NhSet.iR,hi]
  show ((List.range x.cps.size).map (NhSet.iR x)).foldl NhSet.mn []=(kz x).foldl yq []
  rw [e]
  rfl
section
variable {X:Cx} {e:Expr} {m1:Bool} {f:bq} {p p2 pos pos2:Pos}
def En (K:PySem.W.Frag) (w:World):List V→Hp→VK→Prop:=fun xs H Q=>
  (∃(p:Addr) (ss:List Str),xs=[.ref p]∧SqL K H p (ss.map V.str)∧ss.length < 4000∧∀a,H a=none→Q (.ref a) (upd H a (vt w a (jc ss))))∨
  ∃x:Str,xs=[.str x]∧(kz x).length < 4000∧∀a,H a=none→Q (.ref a) (upd H a (vt w a (jc (kz x))))
theorem vw (hc:X.calm=true):CallR X (.type "set") (En X.K X.w):=by
  intro pins s σ H xs us Q I r h
  rcases h with ⟨p,ss,rfl,hq,hl,q⟩ | ⟨x,rfl,hl,q⟩
  · cases r with
    | cons r rr=>
      cases rr
      cases r
      obtain ⟨its,rv,pl,hz⟩:=I.list hq
      have hS:=kt rv
      have hlen:its.length=ss.length:=by have:=rv.length;simpa using this.symm
      refine NhSet.vn (I.ok.hd hc) pl.isList (by simpa using hS) (by simp only [List.size_toArray,scanBound];omega) fun h' tk S k=>?_
      rw [xb ss its.toArray.size (by simpa using hlen)] at S
      exact ⟨.ref s.heap.objs.size,_,I.laid (fun b o e=>k b o (Heap.lt_size e) e) (Nat.le_refl _) (show ObjOk X.prog X.w _ _ _ (vt X.w s.heap.objs.size (jc ss)) from ⟨S,S.obj,fun h1 h2 T kk=>T.at' kk⟩),rfl,q _ (I.hok.fresh (Nat.le_refl _))⟩
  · cases r with
    | cons r rr=>
      cases rr
      obtain ⟨t,rfl⟩:=r
      have hl2:x.cps.size < 4000:=by simpa [kz] using hl
      refine NhSet.w6 (I.ok.hd hc) (by simp only [scanBound];omega) fun h' tk S k=>?_
      rw [vv] at S
      exact ⟨.ref s.heap.objs.size,_,I.laid (fun b o e=>k b o (Heap.lt_size e) e) (Nat.le_refl _) (show ObjOk X.prog X.w _ _ _ (vt X.w s.heap.objs.size (jc (kz x))) from ⟨S,S.obj,fun h1 h2 T kk=>T.at' kk⟩),rfl,q _ (I.hok.fresh (Nat.le_refl _))⟩
def xc (w:World):List V→Hp→VK→Prop:=fun xs H Q=>∃(a:Addr) (ks:List Str),xs=[.ref a]∧H a=some (vt w a ks)∧ks.length < 64∧∀l,H l=none→Q (.ref l) (upd H l (.lst ((gv ks).map V.str)))
theorem pV (hc:X.calm=true):CallR X (.builtin "sorted") (xc X.w):=by
  intro pins s σ H xs us Q I r h
  obtain ⟨a,ks,rfl,ha,h64,q⟩:=h
  cases r with
  | cons r rr=>
    cases rr
    cases r
    obtain ⟨S,_,_⟩:ObjOk X.prog X.w H s.heap a (vt X.w a ks):=I.hok a _ ha
    refine NhSet.sL (I.ok.hd hc) S h64 fun s' l out e ss' k g o hl he b1 b2 b3=>?_
    have:=j5 b2 b3
    subst this
    have new:ObjOk X.prog X.w (upd H l (.lst ((gv ks).map V.str))) s'.heap l (.lst ((gv ks).map V.str)):=⟨by rw [List.length_map,jD];exact gD (by omega),out.toList,e,ku b1,he⟩
    exact ⟨.ref l,_,I.call' (ch:=[]) o (Un.laid k hl (I.hok.fresh hl)) (I.hok.laid k hl new) (by rw [g];exact I.bare) (fun _ z=>nomatch z),rfl,q _ (I.hok.fresh hl)⟩
theorem j8 (hc:X.calm=true) (hg:Gl X "sorted") (hm:X.mg "sorted"=none) (hg2:Gl X "set") (hm2:X.mg "set"=none) (ha:EX X e m1 f) (he:starEach [e] X.env=[(false,eval e X.env)]:=by rfl)
    (he2:starEach [.Call (.Name "set" p2) [e] [] pos2] X.env=[(false,eval (.Call (.Name "set" p2) [e] [] pos2) X.env)]:=by rfl):EX X (.Call (.Name "sorted" p) [.Call (.Name "set" p2) [e] [] pos2] [] pos) m1 (dr f):=by
  refine b_ (jf (pV hc) hg hm PyProof.Rows.boot_sorted (eH (ou (vw hc) hg2 hm2 PyProof.Rows.boot_set (eH ha gC he) (by decide) (by decide) he rfl) gC he2) (by decide) (by decide) he2 rfl) fun σ H Q z=>?_
  obtain ⟨B,E,xs,Xs,res,E',fr,cl,e,q⟩:=z
  obtain ⟨⟨s,E1⟩,e1,e⟩:=Option.bind_eq_some_iff.mp e
  refine ⟨B,E,xs,Xs,s,E1,fr,cl,e1,fun v1 H1 ⟨F,A,fr1⟩=>?_⟩
  obtain ⟨A',fr2⟩:=fr1.pop
  simp only at e
  split at e
  · rename_i ds ld
    obtain ⟨ss,es,e⟩:=Option.bind_eq_some_iff.mp e
    split at e
    · rename_i hc
      cases e
      have r:=(fr1.look0 ld).1
      cases r with
      | lst h1 h2=>
        have:=kw h2 es
        subst this
        exact .inl ⟨_,ss,rfl,h1,hc.1,fun a ha=>⟨a,_,rfl,cy,hc.2,fun l hl=>q _ _ ⟨_,_,(fr2.grow (ip ha _)).newl (iz _) hl⟩⟩⟩
    · cases e
  · rename_i x ld
    split at e
    · rename_i hc
      cases e
      have r:=(fr1.look0 ld).1
      cases r
      exact .inr ⟨x,rfl,hc.1,fun a ha=>⟨a,_,rfl,cy,hc.2,fun l hl=>q _ _ ⟨_,_,(fr2.grow (ip ha _)).newl (iz _) hl⟩⟩⟩
    · cases e
  · cases e
end
end PL
namespace PL
open PySem L2 Nh
theorem ub {X:Cx} {x:Str} {i:Int} {t:Tok} {pos:Pos} (hg:Gl X x) (hm:X.mg x=some (.int i t)) (hd:(x == ("__debug__":Str))=false:=by decide):EX X (.Name x pos) false (pC (.int i)):=by
  refine b_ (tF (v:= .int i) hg hm ⟨t,rfl⟩ hd) fun σ H Q z=>?_
  obtain ⟨B,E,xs,Xs,res,E',⟨F,A,fr⟩,cl,e,q⟩:=z
  cases e
  exact q _ _ ⟨F,A,fr.push ⟨rfl,_,rfl, .int _⟩⟩
theorem zn {X:Cx} {x y:Str} {t:Tok} {pos:Pos} (hg:Gl X x) (hm:X.mg x=some (.str y t)) (hd:(x == ("__debug__":Str))=false:=by decide):EX X (.Name x pos) false (pC (.str y)):=by
  refine b_ (tF (v:= .str y) hg hm ⟨t,rfl⟩ hd) fun σ H Q z=>?_
  obtain ⟨B,E,xs,Xs,res,E',⟨F,A,fr⟩,cl,e,q⟩:=z
  cases e
  exact q _ _ ⟨F,A,fr.push ⟨rfl,_,rfl, .str _⟩⟩
end PL
namespace Nh
open PySem L2
theorem NailsOk.stp {r:List Pc} {p:Pc} (h:NailsOk r) (hp:p.1 < 128):NailsOk (NH.stp r p):=by
  cases r with
  | nil=>
    show NailsOk (if p.2=0 then [] else [p])
    split
    · exact h
    · intro q hq;rw [List.mem_singleton.mp hq];exact hp
  | cons x r=>
    rw [NH.kh]
    intro q hq
    rcases List.mem_append.mp hq with h1 | h1
    · unfold NH.Ak at h1
      split at h1
      · split at h1
        · cases h1
        · rw [List.mem_singleton.mp h1];exact hp
      · split at h1
        · rw [List.mem_singleton.mp h1];exact h x (List.mem_cons_self ..)
        · rcases List.mem_cons.mp h1 with h2 | h2
          · rw [h2];exact hp
          · rw [List.mem_singleton.mp h2];exact h x (List.mem_cons_self ..)
    · exact h q (List.mem_cons_of_mem _ h1)
theorem NailsOk.foldl:∀(c:List Pc) {r:List Pc},NailsOk r→NailsOk c→NailsOk (c.foldl NH.stp r)
  | [],_,h,_=>h
  | p::c,_,h,hc=>NailsOk.foldl c (h.stp (hc p (List.mem_cons_self ..))) fun q hq=>hc q (List.mem_cons_of_mem _ hq)
theorem NailsOk.take {c:List Pc} (h:NailsOk c) (i:Nat):NailsOk (c.take i):=fun p hp=>h p (List.mem_of_mem_take hp)
theorem NailsOk.drop {c:List Pc} (h:NailsOk c) (i:Nat):NailsOk (c.drop i):=fun p hp=>h p (List.mem_of_mem_drop hp)
theorem NailsOk.reverse {c:List Pc} (h:NailsOk c):NailsOk c.reverse:=fun p hp=>h p (List.mem_reverse.mp hp)
theorem NailsOk.append {c d:List Pc} (h:NailsOk c) (h':NailsOk d):NailsOk (c++d):=fun p hp=>(List.mem_append.mp hp).elim (h p) (h' p)
theorem NailsOk.contr {c:List Pc} (h:NailsOk c):NailsOk (NH.contr c):=fun p hp=>by
  obtain ⟨q,hq,e⟩:=List.mem_map.mp hp
  subst e
  exact h q (List.mem_reverse.mp hq)
theorem NailsOk.short {c:List Pc} (h:NailsOk c):NailsOk (NH.short c):=(NailsOk.foldl c (fun _ z=>by cases z) h).reverse
end Nh
namespace Nh
open PySem L2 PL
theorem NailsOk.rep {c:List Pc} (h:NailsOk c) (k:Nat):NailsOk (List.replicate k c).flatten:=fun p hp=>by
  obtain ⟨l,hl,hpl⟩:=List.mem_flatten.mp hp
  rw [(List.mem_replicate.mp hl).2] at hpl
  exact h p hpl
theorem NailsOk.cutL {c:List Pc} (h:NailsOk c) (lo hi:Option Int):NailsOk (cutL c lo hi):=fun p hp=>h p (qQ hp)
def l4 (i:Int):Nat:=[97,98,99,122].getD i.toNat 97
theorem Dm:∀j,j < 26→(Str.ofString "abcdefghijklmnopqrstuvwxyz").cps.toList[j]? =some (97+j):=by decide+kernel
theorem Do (v:Int):atI (Str.ofString "abcdefghijklmnopqrstuvwxyz").cps.toList (v % 26)=some (97+(v % 26).toNat):=by
  have h0:=Int.emod_nonneg v (show (26:Int)≠0 by decide)
  have h1:=Int.emod_lt_of_pos v (show (0:Int) < 26 by decide)
  rw [BL h0]
  exact Dm _ (by omega)
theorem xg:(Str.ofString "abcdefghijklmnopqrstuvwxyz").length≤1000000:=by decide+kernel
theorem mG {i j:Int} (h1: -(2 ^ 64) < j) (h2:j < 2 ^ 64):fA i j=true:=by
  simp only [fA,Bool.or_eq_true,decide_eq_true_eq]
  exact .inl (.inr ⟨h1,h2⟩)
theorem hW {i j:Int} (h1: -(2 ^ 64) < i) (h2:i < 2 ^ 64):fA i j=true:=by
  simp only [fA,Bool.or_eq_true,decide_eq_true_eq]
  exact .inl (.inl ⟨h1,h2⟩)
theorem fk (i j:Int):yo (.int i) (.int j)=some (decide (i=j)):=rfl
theorem zo (i j:Str):yo (.str i) (.str j)=some (decide (i=j)):=rfl
end Nh
namespace L2
open PySem PySem.Spec PyProof.Rows
def uc (K:PySem.W.Frag) (h:Heap):Prop:=∀b q,mi K b=some q→h.get? b=some (PySem.W.tabObj #[])∧(∃c,PySem.W.CodeHd h c b)∧K.lookup b=none
def d0 (K:PySem.W.Frag) (a:Addr) (so:Option HO):Hp:=fun b=>match mi K b with
  | some q=>some (.tbl q)
  | none=>if b=a then so else none
theorem sM {K:PySem.W.Frag} {a b:Addr} {so:Option HO} {q:Str} (e:mi K b=some q):d0 K a so b=some (.tbl q):=by unfold d0;rw [e]
theorem vx {K:PySem.W.Frag} {a:Addr} {so:Option HO} (e:mi K a=none):d0 K a so a=so:=by unfold d0;rw [e];exact if_pos rfl
theorem gw {K:PySem.W.Frag} {a b:Addr} {so:Option HO} {u:HO} (e:d0 K a so b=some u):(∃q,mi K b=some q∧u= .tbl q)∨(b=a∧so=some u):=by
  unfold d0 at e
  split at e
  · rename_i q h;cases e;exact .inl ⟨q,h,rfl⟩
  · by_cases hb:b=a
    · rw [if_pos hb] at e;exact .inr ⟨hb,e⟩
    · rw [if_neg hb] at e;cases e
section
variable {P:Program} {w:World} {K:PySem.W.Frag} {mg mb:Str→Option Value} {CX:v7} {k:Nat} {fa a:Addr} {fd:FuncData} {x:Str} {sp:Sp} {s₁:Shared} {vs:List Value} {ns:List Int}
theorem zp (KX:K.In s₁.heap) (hns:s₁.heap.Ns mainGlobals mg) (hb:s₁.heap.Ns builtinsNs mb) (hbb:∀x:Str,x≠"__name__"→mb x=bootBuiltins x) (hlim:s₁.heap.NoLimit) (hg:s₁.gens=#[]) (hbm:∃bm ob,mg "__builtins__"=some (.ref bm)∧bm≠builtinsNs∧s₁.heap.get? bm=some ob∧ob.cls= .type "module"∧ob.dict=some builtinsNs∧ob.data= .plain) (hT:uc K s₁.heap)
    (ha:s₁.heap.get? a=some {cls:= .type "list",data:= .seq vs.toArray}) (hi:IntsAre vs ns) (hl:ns.length≤sizeLine) (hr:Room k callerA)
    (F:∀base:Heap,K.In base→base.Ns mainGlobals mg→FnOk P w K mg base CX k fa fd [x] sp) (hbind:∀(s:Shared) (u:Value),BindsTo s fd ⟨[u],[]⟩ [(x,u)])
    (hsp:∀H:Hp,SqL K H a (ns.map V.int)→sp [.ref a] H (fun v _=>v= .bl true) fun _ _ _=>False)
    (hCX:∀H e s',CX [] H s₁ (fun _ _ _=>False) e s'→False):
    codeAny (model P w) callerA (.call (.ref fa) ⟨[.ref a],[]⟩) (fun r s'=>r= .ok (.ret (.bool true))∧OldK s₁.heap s'.heap∧s'.os=s₁.os∧AllBare s'.gens) s₁:=by
  have rv:=io hi
  have lenV:=hi.length
  have tabA:mi K a=none:=by
    cases q:mi K a with
    | none=>rfl
    | some z=>
      have e:=(hT a z q).1
      rw [ha] at e
      cases e
  have main:∀so:Option HO,(so=none∨(so=some (.frz {cls:= .type "list",data:= .seq vs.toArray} (.lst (ns.map V.int)))∧K.lookup a=none))→SqL K (d0 K a so) a (ns.map V.int)→
      codeAny (model P w) callerA (.call (.ref fa) ⟨[.ref a],[]⟩) (fun r s'=>r= .ok (.ret (.bool true))∧OldK s₁.heap s'.heap∧s'.os=s₁.os∧AllBare s'.gens) s₁:=by
    intro so hso hS
    have hok:HOk P w (d0 K a so) s₁.heap:=fun b u e=>by
      rcases gw e with ⟨q,e1,rfl⟩ | ⟨rfl,e1⟩
      · exact ObjOk.tbl0 (hT b q e1).1
      · rcases hso with z | ⟨z,_⟩
        · rw [z] at e1;cases e1
        · rw [z] at e1;cases e1
          exact ⟨ha,by rw [List.length_map];exact hl,vs,_,rv,ha⟩
    have free:∀{b:Addr} {o:Obj} {es:Array DictEntry} {ep:Nat},s₁.heap.get? b=some o→o.data= .dict es ep→d0 K a so b=none:=fun {b o es ep} e d=>by
      cases q:d0 K a so b with
      | none=>rfl
      | some u=>
        rcases gw q with ⟨z,e1,_⟩ | ⟨rfl,_⟩
        · rw [(hT b z e1).1] at e;cases e;cases d
        · rw [ha] at e;cases e;cases d
    have nsK:∀{b:Addr} {m:Str→Option Value},s₁.heap.Ns b m→(qw s₁.heap (d0 K a so)).Ns b m:=fun {b m} ⟨o,es,ep,e,d,r⟩=>⟨o,es,ep,mJ e (free e d),d,r⟩
    have kin:K.In (qw s₁.heap (d0 K a so)):=fun b o e=>mJ (KX b o e) (by
      cases q:d0 K a so b with
      | none=>rfl
      | some u=>
        rcases gw q with ⟨z,e1,_⟩ | ⟨rfl,e1⟩
        · rw [(hT b z e1).2.2] at e;cases e
        · rcases hso with z | ⟨_,z⟩
          · rw [z] at e1;cases e1
          · rw [z] at e;cases e)
    have bmK:∃bm ob,mg "__builtins__"=some (.ref bm)∧bm≠builtinsNs∧(qw s₁.heap (d0 K a so)).get? bm=some ob∧ob.cls= .type "module"∧ob.dict=some builtinsNs∧ob.data= .plain:=by
      obtain ⟨bm,ob,c1,c2,c3,c4,c5⟩:=hbm
      refine ⟨bm,ob,c1,c2,mJ c3 ?_,c4,c5⟩
      cases q:d0 K a so bm with
      | none=>rfl
      | some u=>
        rcases gw q with ⟨z,e1,_⟩ | ⟨rfl,_⟩
        · rw [(hT bm z e1).1] at c3;cases c3;cases c4
        · rw [ha] at c3
          cases c3
          injection c4 with c6
          exact absurd c6 (by decide)
    have e0:Env0 P w K mg (qw s₁.heap (d0 K a so)) callerA [] s₁ (d0 K a so):=
      ⟨rfl,⟨kin,nsK hns,⟨mb,nsK hb,hbb⟩,let ⟨mc,h1,h2⟩:=hlim;⟨mc,nsK h1,h2⟩,bmK⟩,fun b o e=>yt e,Nat.le_of_eq (uN _ _),trivial,fun b hb=>absurd (show b∈([]:List Addr) from hb) (by simp),hok, .of_eq hg,fun b q e=>sM e⟩
    refine codeAny_mono ((F _ kin (nsK hns)).run callerA [] s₁ _ ⟨[.ref a],[]⟩ [.ref a] [.ref a] _ _ hr e0 (hbind s₁ (.ref a)) (.cons rfl .nil) (hsp _ hS)) fun r s' h=>?_
    cases r with
    | error e=>exact (hCX _ e s' h).elim
    | ok fl=>
      cases fl with
      | next=>exact False.elim h
      | brk=>exact False.elim h
      | cont=>exact False.elim h
      | ret u=>
        obtain ⟨v,H',os,bare,un,hok',r',q⟩:=h
        have q':v= .bl true:=q
        subst q'
        obtain rfl:u=Value.bool true:=r'
        have nofs:∀b,b∉v6 ([]:List Env):=fun b z=>absurd (show b∈([]:List Addr) from z) (by simp)
        have step:∀b o,s₁.heap.get? b=some o→asItWas s₁.heap s'.heap b o∧∃o',s'.heap.get? b=some o':=fun b o e=>by
          cases q:d0 K a so b with
          | none=>exact ⟨.inl (un.keep b o e q (nofs b) (by simp)),_,un.keep b o e q (nofs b) (by simp)⟩
          | some u=>
            rcases gw q with ⟨z,e1,rfl⟩ | ⟨rfl,e1⟩
            · obtain ⟨t1,⟨c,t2⟩,_⟩:=hT b z e1
              obtain ⟨ps,p1,_⟩:=hok' b _ (un.tbls b z q)
              rw [t1] at e
              cases e
              exact ⟨.inr (.inl ⟨(t2.tab t1).isCodeTable,rfl,#[],ps,rfl,by simpa using p1⟩),_,p1⟩
            · rcases hso with z | ⟨z,_⟩
              · rw [z] at e1;cases e1
              · rw [z] at e1;cases e1
                have z2:=un.frzs b _ _ q
                obtain ⟨e2,_⟩:=hok' b _ z2
                rw [ha] at e;cases e
                exact ⟨.inl e2,_,e2⟩
        exact ⟨rfl,⟨fun b o e=>(step b o e).1,fun b o e=>(step b o e).2⟩,os,bare⟩
  cases hk:K.lookup a with
  | some o=>
    have e:=KX a o hk
    rw [ha] at e
    cases e
    exact main none (.inl rfl) (.inr ⟨_,vs.toArray,_,hk,rfl,rfl,rfl,by rw [List.size_toArray,lenV];exact hl,by simpa using rv⟩)
  | none=>exact main _ (.inr ⟨rfl,hk⟩) (.inl (.inr ⟨_,vx tabA⟩))
end
theorem xh {l:PySem.W.OpenLaw} {n k:Nat} {q:Program} {loose:List Str} {XP:(Str→Option Value)→Heap→Prop} {YP:World→Heap→Prop} {d:DefRec} {K:Params→PySem.W.Frag} {CX:World→v7} {sp:World→Sp} {x:Str}
    (hn:l.most=some n) (hn2:n≤sizeLine) (hdf:d.params.defaults=[]) (hr:Room k callerA)
    (hY:∀(w:World) (h:Heap),YP w h→(K w.params).In h∧uc (K w.params) h)
    (F:∀(w:World) (mg:Str→Option Value) (fa:Addr) (h:Heap),(K w.params).In h→h.Ns mainGlobals mg→mg d.name=some (.ref fa)→
      ∃fd:FuncData,(∀(s:Shared) (u:Value),BindsTo s fd ⟨[u],[]⟩ [(x,u)])∧
        ∀base:Heap,(K w.params).In base→base.Ns mainGlobals mg→FnOk l.prog w (K w.params) mg base (CX w) k fa fd [x] (sp w))
    (hsp:∀(w:World) (H:Hp) (a:Addr) (ns:List Int),ns.length≤n→SqL (K w.params) H a (ns.map V.int)→sp w [.ref a] H (fun v _=>v= .bl true) fun _ _ _=>False)
    (hCX:∀(w:World) (H:Hp) (s:Shared) (e:Value) (s':Shared),CX w [] H s (fun _ _ _=>False) e s'→False):
    PySem.W.WalkO q loose XP YP l.row.toRowW d [] (fun f vs=>PySem.call f vs):=by
  refine Att.qE hn hdf fun w s₀ s₁ mg mb fa o pm cd doc a vs ns G Y ho hd hcd hmg hobj hints hlen hg=>?_
  obtain ⟨KX,KT⟩:=hY w _ Y
  obtain ⟨fd,hb,hF⟩:=F w mg fa _ KX G.T.g hmg
  exact zp KX G.T.g G.T.b G.T.builtins G.T.nolimit hg G.T.bmain KT hobj hints (Nat.le_trans hlen hn2) hr hF hb (fun H hS=>hsp w H a ns hlen hS) fun H e s'=>hCX w H s₁ e s'
end L2
namespace NH
variable {α:Type} [DecidableEq α]
end NH
namespace Nh
open PySem L2 PL
theorem xi {α:Type} {l a m b:List α} {i j:Int} (h:l=a++m++b) (hi:i=a.length) (hj:j=a.length+m.length):cutL l (some i) (some j)=m:=by
  subst h hi
  unfold cutL
  rw [hj,show ((a.length:Int)+m.length)=((a.length+m.length:Nat):Int) by omega,HT.pf,HT.pf]
  simp
end Nh
namespace NH
variable {α:Type} [DecidableEq α]
end NH
namespace Nh
open PySem L2 PL
def CordOk (c:List Pc):Prop:=∀p∈c,p.1 < 128∧p.2.natAbs < 2 ^ 100
theorem CordOk.n {c:List Pc} (h:CordOk c):NailsOk c:=fun p hp=>(h p hp).1
theorem CordOk.append {c d:List Pc} (h:CordOk c) (h':CordOk d):CordOk (c++d):=fun p hp=>(List.mem_append.mp hp).elim (h p) (h' p)
theorem CordOk.contr {c:List Pc} (h:CordOk c):CordOk (NH.contr c):=fun p hp=>by
  obtain ⟨q,hq,e⟩:=List.mem_map.mp hp
  subst e
  have:=h q (List.mem_reverse.mp hq)
  exact ⟨this.1,by simpa using this.2⟩
theorem CordOk.cutL {c:List Pc} (h:CordOk c) (lo hi:Option Int):CordOk (cutL c lo hi):=fun p hp=>h p (qQ hp)
end Nh
namespace NH
def dL (w:List Nat):Nat→Nat
  | 0=>0
  | n+1=>dL w n+if 97+n∈w then 2 ^ n else 0
theorem oO (w:List Nat):∀n,dL w n < 2 ^ n
  | 0=>by simp [dL]
  | n+1=>by
    have:=oO w n
    rw [dL,Nat.pow_succ]
    split <;> omega
theorem gb (w:List Nat):∀n i,(dL w n).testBit i=(decide (i < n)&&decide (97+i∈w))
  | 0,i=>by simp [dL]
  | n+1,i=>by
    have ih:=gb w n i
    have lt:=oO w n
    rw [dL]
    by_cases h:97+n∈w
    · rw [if_pos h,Nat.add_comm]
      by_cases e:i=n
      · subst e
        rw [Nat.testBit_two_pow_add_eq,ih]
        simp [h]
      · by_cases l:i < n
        · rw [Nat.testBit_two_pow_add_gt l,ih]
          simp [l,show i < n+1 by omega]
        · have big:2 ^ n+dL w n < 2 ^ i:=by
            have:2 ^ (n+1)≤2 ^ i:=Nat.pow_le_pow_right (by decide) (by omega)
            rw [Nat.pow_succ] at this
            omega
          rw [Nat.testBit_lt_two_pow big]
          simp [show ¬i < n+1 by omega]
    · rw [if_neg h,Nat.add_zero,ih]
      by_cases e:i=n
      · subst e;simp [h]
      · by_cases l:i < n
        · simp [l,show i < n+1 by omega]
        · simp [l,show ¬i < n+1 by omega]
def bK (w:List Nat):Nat:=dL w 26
def nW (w:List Nat):Prop:=∀a∈w,97≤a∧a < 97+26
theorem vy {a b:List Nat} (ha:nW a):bK a &&& bK b=bK a↔∀x∈a,x∈b:=by
  unfold bK
  constructor
  · intro h x hx
    have l:=ha x hx
    have:=congrArg (fun n=>n.testBit (x - 97)) h
    simp only [Nat.testBit_and,gb,show 97+(x - 97)=x by omega,show x - 97 < 26 by omega,hx] at this
    simpa using this
  · intro h
    refine Nat.eq_of_testBit_eq fun i=>?_
    rw [Nat.testBit_and,gb,gb]
    by_cases m:97+i∈a
    · simp [m,h _ m]
    · simp [m]
theorem vz {a b:List Nat} (ha:nW a):bK a &&& bK b=0↔∀x∈a,x∉b:=by
  unfold bK
  constructor
  · intro h x hx hb
    have l:=ha x hx
    have:=congrArg (fun n=>n.testBit (x - 97)) h
    simp only [Nat.testBit_and,gb,show 97+(x - 97)=x by omega,show x - 97 < 26 by omega,hx,hb] at this
    simp at this
  · intro h
    refine Nat.eq_of_testBit_eq fun i=>?_
    rw [Nat.testBit_and,gb,gb,Nat.zero_testBit]
    by_cases m:97+i∈a
    · simp [m,h _ m]
    · simp [m]
end NH
namespace NhLS
set_option autoImplicit false
open PySem PyProof.Rows
def zq:Bool→Keyed→Array Keyed→Nat→Nat→Nat→StateT SortSt Sem (Option Nat):=sortPriv% PySem.Builtin.gallop
def xj:Array Keyed→Array Keyed→StateT SortSt Sem (Array Keyed):=sortPriv% PySem.Builtin.mergeLo
def xk:Array Keyed→Array Keyed→StateT SortSt Sem (Array Keyed):=sortPriv% PySem.Builtin.mergeHi
def zr:Keyed:=(Value.none,Value.none)
def at' (a:Array Keyed) (i:Nat):Keyed:=a.getD i zr
theorem Dp {a:Array Keyed} {i:Nat} (h:i < a.size):a[i]? =some (at' a i):=by simp [at',Array.getD,h]
structure Cmp (prog:Program) (w:World) (A:Around) (s:Shared) (κ:SortKind) (O:KeyOrd) (key:Keyed→O.α) (dom:Keyed→Prop):Prop where
  ask:∀(E:Value→Shared→Prop) (x y:Keyed) (Q:Bool→Shared→Prop),dom x→dom y→Q (O.blt (key x) (key y)) s→wpAny (model prog w) A (keyLt' κ x.1 y.1) Q E s
section
variable {prog:Program} {w:World} {A:Around} {E:Value→Shared→Prop} {s:Shared} {κ:SortKind} {O:KeyOrd} {key:Keyed→O.α} {dom:Keyed→Prop} {st:SortSt}
theorem xl (C:Cmp prog w A s κ O key dom) {x y:Keyed} {Q:Option Bool→SortSt→Prop} (hk:kindOf st=κ) (dx:dom x) (dy:dom y) (h:Q (some (O.blt (key x) (key y))) st):wpS (model prog w) A E s (lt' x y) Q st:=by
  rw [lt'_eq]
  refine wpS_bind (wpS_get ?_)
  rw [hk]
  refine wpS_bind (wpS_lift (wpAny_attempt (C.ask _ _ _ _ dx dy ⟨rfl,?_⟩)))
  exact wpS_pure h
theorem gZ {arr:Array Keyed} {i:Nat} {Q:Keyed→SortSt→Prop} (hi:i < arr.size) (h:Q (at' arr i) st):wpS (model prog w) A E s (elem' arr i) Q st:=by
  rw [elem'_eq,Dp hi]
  exact wpS_pure h
def hM (O:KeyOrd) (key:Keyed→O.α) (left:Bool) (k:Keyed) (arr:Array Keyed) (base i:Nat):Bool:=if left then O.blt (key (at' arr (base+i))) (key k) else !O.blt (key k) (key (at' arr (base+i)))
theorem iA (C:Cmp prog w A s κ O key dom) {left:Bool} {k:Keyed} {arr:Array Keyed} {base n hint:Nat} {Q:Option Nat→SortSt→Prop} (hk:kindOf st=κ) (hh:hint < n) (hb:base+n≤arr.size) (dk:dom k) (da:∀i,i < arr.size→dom (at' arr i))
    (mono:∀i j,i < j→j < n→hM O key left k arr base j=true→hM O key left k arr base i=true)
    (h:∀m,m≤n→(∀i,i < m→hM O key left k arr base i=true)→(∀i,m≤i→i < n→hM O key left k arr base i=false)→Q (some m) st):wpS (model prog w) A E s (zq left k arr base n hint) Q st:=by
  have bey:∀{i:Nat} {Q':Option Bool→SortSt→Prop},i < n→Q' (some (hM O key left k arr base i)) st→wpS (model prog w) A E s (elem' arr (base+i) >>= fun x=>if left=true then lt' x k else (lt' k x >>= fun r=>pure (r.map (!·)))) Q' st:=by
    intro i Q' hi hq
    refine wpS_bind (gZ (by lia) ?_)
    have dx:=da (base+i) (by lia)
    cases left with
    | true=>exact xl C hk dx dk hq
    | false=>exact wpS_bind (xl C hk dk dx (wpS_pure hq))
  refine wpS_bind (bey hh ?_)
  have up:∀i j,i≤j→j < n→hM O key left k arr base j=true→hM O key left k arr base i=true:=fun i j hij hj e=>by
    by_cases z:i=j
    · rw [z];exact e
    · exact mono i j (by exact Nat.lt_of_le_of_ne ‹_› ‹_›) hj e
  have dn:∀i j,i≤j→j < n→hM O key left k arr base i=false→hM O key left k arr base j=false:=fun i j hij hj e=>by
    cases z:hM O key left k arr base j with
    | false=>rfl
    | true=>rw [up i j hij hj z] at e;cases e
  have fin:∀{body:Nat→Option (Option Nat)×Nat×Nat→StateT SortSt Sem (ForInStep (Option (Option Nat)×Nat×Nat))} {cont:Option (Option Nat)×Nat×Nat→StateT SortSt Sem (Option Nat)},
      (∀lo,Q (some lo) st→wpS (model prog w) A E s (cont (none,lo,lo)) Q st)→
      (∀x lo hi (R:ForInStep (Option (Option Nat)×Nat×Nat)→SortSt→Prop),lo≥hi→R (.done (none,lo,hi)) st→wpS (model prog w) A E s (body x (none,lo,hi)) R st)→
      (∀x lo hi (R:ForInStep (Option (Option Nat)×Nat×Nat)→SortSt→Prop),lo < hi→hi≤n→R (.yield (if hM O key left k arr base (lo+(hi - lo) / 2)=true then (none,lo+(hi - lo) / 2+1,hi) else (none,lo,lo+(hi - lo) / 2))) st→wpS (model prog w) A E s (body x (none,lo,hi)) R st)→
      ∀lo hi,lo≤hi→hi≤n→(∀i,i < lo→hM O key left k arr base i=true)→(∀i,hi≤i→i < n→hM O key left k arr base i=false)→
      wpS (model prog w) A E s (forIn [0:n] (none,lo,hi) body >>= cont) Q st:=by
    intro body cont b3 b1 b2 lo hi f1 f2 f3 f4
    refine wpS_bind (wpS_mono (wpS_forRange (I:=fun x c st'=>st'=st∧∃lo hi,c=(none,lo,hi)∧lo≤hi∧hi≤n∧hi+x≤n+lo∧(∀i,i < lo→hM O key left k arr base i=true)∧(∀i,hi≤i→i < n→hM O key left k arr base i=false))
      (Q:=fun c st'=>st'=st∧∃lo,c=(none,lo,lo)∧lo≤n∧(∀i,i < lo→hM O key left k arr base i=true)∧(∀i,lo≤i→i < n→hM O key left k arr base i=false)) ?s1 ?s2 ⟨rfl,lo,hi,rfl,f1,f2,by exact Nat.le_add_right_of_le ‹_›,f3,f4⟩) ?s3)
    case s2=>
      rintro c st' ⟨rfl,l,o,rfl,h1,h2,h3,h4,h5⟩
      have:l=o:=by lia
      subst this
      exact ⟨rfl,l,rfl,h2,h4,h5⟩
    case s3=>
      rintro c st' ⟨rfl,l,rfl,h2,h4,h5⟩
      exact b3 l (h l h2 h4 h5)
    case s1=>
      rintro x c st' - hx ⟨rfl,l,o,rfl,h1,h2,h3,h4,h5⟩
      by_cases z:l≥o
      · have:l=o:=by exact Nat.le_antisymm ‹_› ‹_›
        subst this
        exact b1 x l l _ z ⟨rfl,l,rfl,h2,h4,h5⟩
      · refine b2 x l o _ (by exact Nat.lt_of_not_le ‹_›) h2 ?_
        cases e:hM O key left k arr base (l+(o - l) / 2) with
        | true=>exact ⟨rfl,_,_,rfl,by lia,by assumption,by lia,fun i hi=>up i _ (by exact Nat.le_of_lt_succ ‹_›) (by lia) e,h5⟩
        | false=>exact ⟨rfl,_,_,rfl,by exact Nat.le_add_right _ _,by lia,by lia,h4,fun i hi hn=>dn _ i hi hn e⟩
  cases eh:hM O key left k arr base hint with
  | true=>
    dsimp only
    rw [if_pos rfl]
    refine wpS_bind (wpS_mono (wpS_forRange (I:=fun x c st'=>st'=st∧∃l o,c=(none,l,o)∧l < o∧x < o∧hint+l < n∧hM O key left k arr base (hint+l)=true)
      (Q:=fun c st'=>st'=st∧∃l o,c=(none,l,o)∧l < o∧hint+l < n∧hM O key left k arr base (hint+l)=true∧(n - hint≤o∨hM O key left k arr base (hint+o)=false)) ?s1 ?s2 ⟨rfl,0,1,rfl,by exact Nat.lt_succ_self _,by exact Nat.lt_succ_self _,by assumption,eh⟩) ?s3)
    case s2=>
      rintro c st' ⟨rfl,l,o,rfl,h1,h2,h3,h4⟩
      exact ⟨rfl,l,o,rfl,h1,h3,h4, .inl (by lia)⟩
    case s1=>
      rintro x c st' - hx ⟨rfl,l,o,rfl,h1,h2,h3,h4⟩
      dsimp only
      by_cases z:o≥n - hint
      · rw [if_pos z]
        exact wpS_pure ⟨rfl,l,o,rfl,h1,h3,h4, .inl z⟩
      · rw [if_neg z]
        refine wpS_bind (bey (by lia) ?_)
        cases e:hM O key left k arr base (hint+o) with
        | true=>exact wpS_pure ⟨rfl,o,2*o+1,rfl,by lia,by lia,by lia,e⟩
        | false=>exact wpS_pure ⟨rfl,l,o,rfl,h1,h3,h4, .inr e⟩
    case s3=>
      rintro c st' ⟨rfl,l,o,rfl,h1,h3,h4,h5⟩
      dsimp only
      have f1:hint+l+1≤hint+min o (n - hint):=by lia
      have f2:hint+min o (n - hint)≤n:=by lia
      have f3:∀i,i < hint+l+1→hM O key left k arr base i=true:=fun i hi=>up i _ (by exact Nat.le_of_lt_succ ‹_›) h3 h4
      have f4:∀i,hint+min o (n - hint)≤i→i < n→hM O key left k arr base i=false:=fun i hi hn=>by
        rcases h5 with h5 | h5
        · lia
        · exact dn (hint+o) i (by lia) hn h5
      revert f1 f2 f3 f4
      generalize hint+l+1=lo
      generalize hint+min o (n - hint)=hi
      refine fin (fun lo hq=>wpS_pure hq) (fun x lo hi R hz hR=>?_) (fun x lo hi R hz hn hR=>?_) lo hi
      · dsimp only
        rw [if_pos hz]
        exact wpS_pure hR
      · dsimp only
        rw [if_neg (by exact Nat.not_le.mpr ‹_›)]
        refine wpS_bind (bey (by lia) ?_)
        cases e:hM O key left k arr base (lo+(hi - lo) / 2) with
        | true=>rw [e] at hR;exact wpS_pure hR
        | false=>rw [e] at hR;exact wpS_pure hR
  | false=>
    dsimp only
    rw [if_neg (by simp)]
    refine wpS_bind (wpS_mono (wpS_forRange (I:=fun x c st'=>st'=st∧∃l o,c=(none,l,o)∧l < o∧x < o∧l≤hint∧hM O key left k arr base (hint - l)=false)
      (Q:=fun c st'=>st'=st∧∃l o,c=(none,l,o)∧l < o∧l≤hint∧hM O key left k arr base (hint - l)=false∧(hint+1≤o∨hM O key left k arr base (hint - o)=true)) ?s1 ?s2 ⟨rfl,0,1,rfl,by exact Nat.lt_succ_self _,by exact Nat.lt_succ_self _,by exact Nat.zero_le _,eh⟩) ?s3)
    case s2=>
      rintro c st' ⟨rfl,l,o,rfl,h1,h2,h3,h4⟩
      exact ⟨rfl,l,o,rfl,h1,h3,h4, .inl (by lia)⟩
    case s1=>
      rintro x c st' - hx ⟨rfl,l,o,rfl,h1,h2,h3,h4⟩
      dsimp only
      by_cases z:o≥hint+1
      · rw [if_pos z]
        exact wpS_pure ⟨rfl,l,o,rfl,h1,h3,h4, .inl z⟩
      · rw [if_neg z]
        refine wpS_bind (bey (by exact Nat.lt_of_le_of_lt (Nat.sub_le _ _) ‹_›) ?_)
        cases e:hM O key left k arr base (hint - o) with
        | false=>exact wpS_pure ⟨rfl,o,2*o+1,rfl,by lia,by lia,by exact Nat.le_of_not_lt ‹_›,e⟩
        | true=>exact wpS_pure ⟨rfl,l,o,rfl,h1,h3,h4, .inr e⟩
    case s3=>
      rintro c st' ⟨rfl,l,o,rfl,h1,h3,h4,h5⟩
      dsimp only
      have f1:hint+1 - min o (hint+1)≤hint - l:=by omega
      have f2:hint - l≤n:=by lia
      have f3:∀i,i < hint+1 - min o (hint+1)→hM O key left k arr base i=true:=fun i hi=>by
        rcases h5 with h5 | h5
        · lia
        · exact up i (hint - o) (by lia) (by exact Nat.lt_of_le_of_lt (Nat.sub_le _ _) ‹_›) h5
      have f4:∀i,hint - l≤i→i < n→hM O key left k arr base i=false:=fun i hi hn=>dn _ i hi hn h4
      revert f1 f2 f3 f4
      generalize hint+1 - min o (hint+1)=lo
      generalize hint - l=hi
      refine fin (fun lo hq=>wpS_pure hq) (fun x lo hi R hz hR=>?_) (fun x lo hi R hz hn hR=>?_) lo hi
      · dsimp only
        rw [if_pos hz]
        exact wpS_pure hR
      · dsimp only
        rw [if_neg (by exact Nat.not_le.mpr ‹_›)]
        refine wpS_bind (bey (by lia) ?_)
        cases e:hM O key left k arr base (lo+(hi - lo) / 2) with
        | true=>rw [e] at hR;exact wpS_pure hR
        | false=>rw [e] at hR;exact wpS_pure hR
end
end NhLS
namespace NhLS
set_option autoImplicit false
open PySem PyProof.Rows
def Le (O:KeyOrd) (key:Keyed→O.α) (x y:Keyed):Prop:=O.blt (key y) (key x)=false
structure G (le:Keyed→Keyed→Prop) (T out ra rb:List Keyed):Prop where
  perm:(out++(ra++rb)).Perm T
  pa:(out++ra).Pairwise le
  pb:(out++rb).Pairwise le
def ii (le:Keyed→Keyed→Prop) (T l:List Keyed):Prop:=l.Perm T∧l.Pairwise le
section
variable {le:Keyed→Keyed→Prop} {T out ra rb p:List Keyed}
theorem G.takeA (g:G le T out (p++ra) rb) (h:∀x∈p,∀y∈rb,le x y):G le T (out++p) ra rb where
  perm:=by have:=g.perm;simpa [List.append_assoc] using this
  pa:=by have:=g.pa;simpa [List.append_assoc] using this
  pb:=by
    have h1:=g.pa
    have h2:=g.pb
    simp only [List.pairwise_append,List.mem_append] at h1 h2 ⊢
    refine ⟨⟨h1.1,h1.2.1.1,fun x hx y hy=>h1.2.2 x hx y (.inl hy)⟩,h2.2.1,fun x hx y hy=>?_⟩
    rcases hx with hx | hx
    · exact h2.2.2 x hx y hy
    · exact h x hx y hy
theorem G.takeB (g:G le T out ra (p++rb)) (h:∀x∈p,∀y∈ra,le x y):G le T (out++p) ra rb where
  perm:=by
    refine List.Perm.trans ?_ g.perm
    rw [List.append_assoc]
    refine List.Perm.append_left _ ?_
    rw [←List.append_assoc,←List.append_assoc]
    exact List.Perm.append_right _ List.perm_append_comm
  pb:=by have:=g.pb;simpa [List.append_assoc] using this
  pa:=by
    have h1:=g.pa
    have h2:=g.pb
    simp only [List.pairwise_append,List.mem_append] at h1 h2 ⊢
    refine ⟨⟨h2.1,h2.2.1.1,fun x hx y hy=>h2.2.2 x hx y (.inl hy)⟩,h1.2.1,fun x hx y hy=>?_⟩
    rcases hx with hx | hx
    · exact h1.2.2 x hx y hy
    · exact h x hx y hy
theorem G.endA (g:G le T out ra []):ii le T (out++ra):=⟨by have:=g.perm;simpa using this,g.pa⟩
theorem G.endB (g:G le T out [] rb):ii le T (out++rb):=⟨by have:=g.perm;simpa using this,g.pb⟩
end
section
variable {O:KeyOrd} {key:Keyed→O.α} {a b:Array Keyed} {T:List Keyed} {out:Array Keyed} {i j ia ib k:Nat} {x y z:Keyed}
theorem Le.refl (x:Keyed):Le O key x x:=O.irrefl _
theorem Le.trans (h1:Le O key x y) (h2:Le O key y z):Le O key x z:=KeyOrd.kle_trans (O:=O) (a:=key x) (b:=key y) (c:=key z) h1 h2
theorem Le.of (h:O.blt (key x) (key y)=true):Le O key x y:=KeyOrd.klt_asymm (O:=O) h
theorem iB (h:i < a.toList.length):a.toList[i]=at' a i:=by
  have h':i < a.size:=by simpa using h
  simp [at',Array.getD,h']
theorem pW (h:y∈a.toList.drop i):∃j,i≤j∧j < a.size∧y=at' a j:=by
  obtain ⟨j,hj,e⟩:=List.mem_iff_getElem.mp h
  rw [List.length_drop,Array.length_toList] at hj
  refine ⟨i+j,by exact Nat.le_add_right _ _,by exact Nat.add_lt_of_lt_sub' ‹_›,?_⟩
  rw [List.getElem_drop] at e
  rw [←e,iB]
theorem j9 (h:i < a.size):at' a i∈a.toList:=by
  rw [←iB (by simpa using h)]
  exact List.getElem_mem _
theorem oP (pa:a.toList.Pairwise (Le O key)) (h:i≤j) (hj:j < a.size):Le O key (at' a i) (at' a j):=by
  by_cases e:i=j
  · rw [e];exact Le.refl _
  · have:=List.pairwise_iff_getElem.mp pa i j (by simp;exact Nat.lt_of_le_of_lt ‹_› ‹_›) (by simpa using hj) (by exact Nat.lt_of_le_of_ne ‹_› ‹_›)
    rw [iB,iB] at this
    exact this
theorem rc (pa:a.toList.Pairwise (Le O key)) (h:y∈a.toList.drop i):Le O key (at' a i) y:=by
  obtain ⟨j,h1,h2,rfl⟩:=pW h
  exact oP pa h1 h2
theorem ud (h:i < a.size):a.toList.drop i=[at' a i]++a.toList.drop (i+1):=by
  rw [List.drop_eq_getElem_cons (by simpa using h),iB]
  rfl
theorem ue (k:Nat):a.toList.drop i=(a.extract i (i+k)).toList++a.toList.drop (i+k):=by
  rw [Array.toList_extract,List.extract_eq_take_drop,Nat.add_sub_cancel_left,←List.drop_drop,List.take_append_drop]
theorem lj:(a.extract i).toList=a.toList.drop i:=by
  rw [Array.toList_extract,List.extract_eq_take_drop]
  exact List.take_of_length_le (by simp)
theorem pX (h:a.size≤i):a.toList.drop i=[]:=List.drop_eq_nil_of_le (by simpa using h)
theorem xm (h:x∈(a.extract i (i+k)).toList):∃j,j < k∧i+j < a.size∧x=at' a (i+j):=by
  rw [Array.toList_extract,List.extract_eq_take_drop,Nat.add_sub_cancel_left] at h
  obtain ⟨j,hj,e⟩:=List.mem_iff_getElem.mp h
  rw [List.length_take,List.length_drop,Array.length_toList] at hj
  refine ⟨j,by lia,by lia,?_⟩
  rw [List.getElem_take,List.getElem_drop] at e
  rw [←e,iB]
theorem G.pushA (g:G (Le O key) T out.toList (a.toList.drop ia) (b.toList.drop ib)) (h:ia < a.size) (hl:∀y∈b.toList.drop ib,Le O key (at' a ia) y):G (Le O key) T (out.push (at' a ia)).toList (a.toList.drop (ia+1)) (b.toList.drop ib):=by
  rw [ud h] at g
  rw [Array.toList_push]
  exact g.takeA fun x hx y hy=>by rw [List.mem_singleton.mp hx];exact hl y hy
theorem G.pushB (g:G (Le O key) T out.toList (a.toList.drop ia) (b.toList.drop ib)) (h:ib < b.size) (hl:∀y∈a.toList.drop ia,Le O key (at' b ib) y):G (Le O key) T (out.push (at' b ib)).toList (a.toList.drop ia) (b.toList.drop (ib+1)):=by
  rw [ud h] at g
  rw [Array.toList_push]
  exact g.takeB fun x hx y hy=>by rw [List.mem_singleton.mp hx];exact hl y hy
theorem G.blkA (g:G (Le O key) T out.toList (a.toList.drop ia) (b.toList.drop ib)) (k:Nat) (hl:∀j,j < k→ia+j < a.size→∀y∈b.toList.drop ib,Le O key (at' a (ia+j)) y):G (Le O key) T (out++a.extract ia (ia+k)).toList (a.toList.drop (ia+k)) (b.toList.drop ib):=by
  rw [ue k] at g
  rw [Array.toList_append]
  exact g.takeA fun x hx y hy=>by obtain ⟨j,h1,h2,rfl⟩:=xm hx;exact hl j h1 h2 y hy
theorem G.blkB (g:G (Le O key) T out.toList (a.toList.drop ia) (b.toList.drop ib)) (k:Nat) (hl:∀j,j < k→ib+j < b.size→∀y∈a.toList.drop ia,Le O key (at' b (ib+j)) y):G (Le O key) T (out++b.extract ib (ib+k)).toList (a.toList.drop ia) (b.toList.drop (ib+k)):=by
  rw [ue (a:=b) k] at g
  rw [Array.toList_append]
  exact g.takeB fun x hx y hy=>by obtain ⟨j,h1,h2,rfl⟩:=xm hx;exact hl j h1 h2 y hy
theorem G.doneB (g:G (Le O key) T out.toList (a.toList.drop ia) (b.toList.drop ib)) (h:b.size≤ib):ii (Le O key) T (out++a.extract ia++b.extract ib).toList:=by
  rw [Array.toList_append,Array.toList_append,lj,lj,pX h,List.append_nil]
  rw [pX h] at g
  exact g.endA
theorem G.doneA (g:G (Le O key) T out.toList (a.toList.drop ia) (b.toList.drop ib)) (h:a.size≤ia):ii (Le O key) T (out++a.extract ia++b.extract ib).toList:=by
  rw [Array.toList_append,Array.toList_append,lj,lj,pX h,List.append_nil]
  rw [pX h] at g
  exact g.endB
theorem G.lastA (g:G (Le O key) T out.toList (a.toList.drop ia) (b.toList.drop ib)) (h:ia+1=a.size) (h1:∀y∈b.toList,Le O key y (at' a (a.size - 1))):ii (Le O key) T (out++b.extract ib++a.extract ia).toList:=by
  rw [Array.toList_append,Array.toList_append,lj,lj]
  have g':G (Le O key) T out.toList (a.toList.drop ia) (b.toList.drop ib++[]):=by rw [List.append_nil];exact g
  refine (g'.takeB fun x hx y hy=>?_).endA
  obtain ⟨j,q1,q2,rfl⟩:=pW hy
  rw [show j=a.size - 1 by lia]
  exact h1 x (List.mem_of_mem_drop hx)
end
def SS (st st':SortSt):Prop:=∃g,st'=SortSt.mk' (kindOf st) (arrOf st) (pendingOf st) g (failedOf st)
theorem SS.refl (st:SortSt):SS st st:=⟨gallopOf st,rfl⟩
theorem SS.kind {st st':SortSt} (h:SS st st'):kindOf st'=kindOf st:=by obtain ⟨g,rfl⟩:=h;rfl
section
variable {prog:Program} {w:World} {A:Around} {E:Value→Shared→Prop} {s:Shared} {κ:SortKind} {O:KeyOrd} {key:Keyed→O.α} {dom:Keyed→Prop} {st:SortSt}
def Dq:Nat→StateT SortSt Sem Unit:=sortPriv% PySem.Builtin.setMinGallop
theorem pY {st':SortSt} {g:Nat} {Q:Unit→SortSt→Prop} (hs:SS st st') (h:∀st2,SS st st2→Q () st2):wpS (model prog w) A E s (Dq g) Q st':=
  wpS_modify (h _ (by obtain ⟨g',rfl⟩:=hs;exact ⟨g,rfl⟩))
theorem bg {α:Type} {c:Prop} [Decidable c] {x y:StateT SortSt Sem α} {Q:α→SortSt→Prop} (hc:c) (h:wpS (model prog w) A E s x Q st):wpS (model prog w) A E s (if c then x else y) Q st:=by rw [if_pos hc];exact h
theorem a_ {α:Type} {c:Prop} [Decidable c] {x y:StateT SortSt Sem α} {Q:α→SortSt→Prop} (hc:¬c) (h:wpS (model prog w) A E s y Q st):wpS (model prog w) A E s (if c then x else y) Q st:=by rw [if_neg hc];exact h
theorem BQ {α:Type} {m:StateT SortSt Sem α} {Q:α→SortSt→Prop} (h:∀R,R=Q→wpS (model prog w) A E s m R st):wpS (model prog w) A E s m Q st:=h Q rfl
theorem Dr {α:Type} {c:Prop} [Decidable c] (f:Nat→StateT SortSt Sem α) {x y:Nat} {Q:α→SortSt→Prop} (h:∀m,wpS (model prog w) A E s (f m) Q st):wpS (model prog w) A E s (if c then f x else f y) Q st:=by
  split <;> exact h _
theorem vA (C:Cmp prog w A s κ O key dom) {a b:Array Keyed} {Q:Array Keyed→SortSt→Prop} (hk:kindOf st=κ) (da:∀x∈a.toList,dom x) (db:∀x∈b.toList,dom x) (ha:0 < a.size) (hb:0 < b.size)
    (pa:a.toList.Pairwise (Le O key)) (pb:b.toList.Pairwise (Le O key)) (h0:O.blt (key (at' b 0)) (key (at' a 0))=true) (h1:∀y∈b.toList,Le O key y (at' a (a.size - 1)))
    (h:∀r st',SS st st'→ii (Le O key) (a.toList++b.toList) r.toList→Q r st'):wpS (model prog w) A E s (xj a b) Q st:=by
  refine wpS_bind (wpS_lift (wpAny_rule ⟨rfl,?_⟩))
  refine wpS_bind (gZ hb ?_)
  obtain ⟨T,hT⟩:∃T,T=a.toList++b.toList:=⟨_,rfl⟩
  rw [←hT] at h
  have g0:G (Le O key) T (#[at' b 0]:Array Keyed).toList (a.toList.drop 0) (b.toList.drop 1):=by
    have q:G (Le O key) T (#[]:Array Keyed).toList (a.toList.drop 0) (b.toList.drop 0):=⟨by simp [hT],by simpa using pa,by simpa using pb⟩
    exact q.pushB hb fun y hy=>(Le.of h0).trans (rc pa hy)
  have dA:∀i,i < a.size→dom (at' a i):=fun i hi=>da _ (j9 hi)
  have dB:∀i,i < b.size→dom (at' b i):=fun i hi=>db _ (j9 hi)
  extract_lets o0 i0 i1
  by_cases e1:(1 == b.size)=true
  · refine bg e1 ?_
    exact wpS_pure (h _ st (SS.refl _) (g0.doneB (by simp at e1;exact Nat.le_of_eq (Eq.symm ‹_›))))
  refine a_ e1 ?_
  by_cases e2:(0+1 == a.size)=true
  · refine bg e2 ?_
    exact wpS_pure (h _ st (SS.refl _) (g0.lastA (by simpa using e2) h1))
  refine a_ e2 ?_
  refine wpS_bind (wpS_get ?_)
  refine wpS_bind (wpS_mono (wpS_forRange (I:=fun x c st'=>SS st st'∧∃out ia ib mg,c=(none,out,ia,ib,mg)∧ia+1 < a.size∧ib < b.size∧x < ia+ib∧G (Le O key) T out.toList (a.toList.drop ia) (b.toList.drop ib))
    (Q:=fun c st'=>SS st st'∧∃r o,c=(some r,o)∧ii (Le O key) T r.toList) ?s1 ?s2 ⟨SS.refl _,_,0,1,_,rfl,by simp at e2;exact Nat.lt_of_le_of_ne ‹_› ‹_›,by simp at e1;exact Nat.lt_of_le_of_ne ‹_› ‹_›,by exact Nat.lt_succ_self _,g0⟩) ?s3)
  case s3=>
    rintro c st' ⟨hs,r,o,rfl,hg⟩
    exact wpS_pure (h r st' hs hg)
  case s2=>
    rintro c st' ⟨hs,out,ia,ib,mg,rfl,q1,q2,q3,g⟩
    lia
  case s1=>
    rintro x c st1 - hx ⟨hs,out,ia,ib,mg,rfl,q1,q2,q3,g⟩
    refine wpS_bind (wpS_mono (wpS_forRange (I:=fun y c st'=>SS st st'∧∃out ia ib ac bc,c=(none,out,ia,ib,ac,bc)∧ia+1 < a.size∧ib < b.size∧x < ia+ib∧(y=0∨x+1 < ia+ib)∧G (Le O key) T out.toList (a.toList.drop ia) (b.toList.drop ib))
      (Q:=fun c st'=>SS st st'∧((∃r o,c=(some r,o)∧ii (Le O key) T r.toList)∨∃out ia ib ac bc,c=(none,out,ia,ib,ac,bc)∧ia+1 < a.size∧ib < b.size∧x+1 < ia+ib∧G (Le O key) T out.toList (a.toList.drop ia) (b.toList.drop ib))) ?t1 ?t2 ⟨hs,out,ia,ib,0,0,rfl,q1,q2,q3, .inl rfl,g⟩) ?t3)
    case t2=>
      rintro c st' ⟨hs,out,ia,ib,ac,bc,rfl,q1,q2,q3,q4,g⟩
      exact ⟨hs, .inr ⟨out,ia,ib,ac,bc,rfl,q1,q2,by lia,g⟩⟩
    case t1=>
      rintro y c st2 - hy ⟨hs,out,ia,ib,ac,bc,rfl,q1,q2,q3,q4,g⟩
      have q0:ia < a.size:=by exact Nat.lt_of_succ_lt ‹_›
      refine wpS_bind (gZ q2 ?_)
      refine wpS_bind (gZ q0 ?_)
      refine wpS_bind (xl C (hs.kind.trans hk) (dB _ q2) (dA _ q0) ?_)
      cases e:O.blt (key (at' b ib)) (key (at' a ia)) with
      | true=>
        refine wpS_bind (gZ q2 ?_)
        have g':=g.pushB q2 (fun y hy=>(Le.of e).trans (rc pa hy))
        by_cases z:(ib+1 == b.size)=true
        · exact bg z (wpS_pure ⟨hs, .inl ⟨_,_,rfl,g'.doneB (by simp at z;exact Nat.le_of_eq (Eq.symm ‹_›))⟩⟩)
        · refine a_ z ?_
          have z':ib+1 < b.size:=by simp at z;exact Nat.lt_of_le_of_ne ‹_› ‹_›
          dsimp only
          split
          · exact wpS_pure ⟨hs, .inr ⟨_,_,_,_,_,rfl,q1,z',by exact Nat.succ_lt_succ ‹_›,g'⟩⟩
          · exact wpS_pure ⟨hs,_,_,_,_,_,rfl,q1,z',by exact Nat.lt_succ_of_lt ‹_›, .inr (by exact Nat.succ_lt_succ ‹_›),g'⟩
      | false=>
        refine wpS_bind (gZ q0 ?_)
        have g':=g.pushA (by assumption) (fun y hy=>Le.trans e (rc pb hy))
        by_cases z:(ia+1+1 == a.size)=true
        · exact bg z (wpS_pure ⟨hs, .inl ⟨_,_,rfl,g'.lastA (by simpa using z) h1⟩⟩)
        · refine a_ z ?_
          have z':ia+1+1 < a.size:=by simp at z;exact Nat.lt_of_le_of_ne ‹_› ‹_›
          dsimp only
          split
          · exact wpS_pure ⟨hs, .inr ⟨_,_,_,_,_,rfl,z',q2,by lia,g'⟩⟩
          · exact wpS_pure ⟨hs,_,_,_,_,_,rfl,z',q2,by lia, .inr (by lia),g'⟩
    case t3=>
      rintro c st2 ⟨hs,⟨r,o,rfl,hg⟩ | ⟨out,ia,ib,ac,bc,rfl,q1,q2,q3,g⟩⟩
      · exact wpS_pure ⟨hs,r,_,rfl,hg⟩
      · refine wpS_bind (wpS_lift (wpAny_rule ⟨rfl,?_⟩))
        refine wpS_bind (wpS_mono (wpS_forRange (I:=fun y c st'=>SS st st'∧∃out ia ib mg ac bc,c=(none,out,ia,ib,mg,ac,bc)∧ia+1 < a.size∧ib < b.size∧x+1 < ia+ib∧G (Le O key) T out.toList (a.toList.drop ia) (b.toList.drop ib))
          (Q:=fun c st'=>SS st st'∧((∃r o,c=(some r,o)∧ii (Le O key) T r.toList)∨∃out ia ib mg ac bc,c=(none,out,ia,ib,mg,ac,bc)∧ia+1 < a.size∧ib < b.size∧x+1 < ia+ib∧G (Le O key) T out.toList (a.toList.drop ia) (b.toList.drop ib))) ?u1 ?u2 ⟨hs,out,ia,ib,_,ac,bc,rfl,q1,q2,q3,g⟩) ?u3)
        case u2=>
          rintro c st' ⟨hs,out,ia,ib,mg,ac,bc,rfl,q1,q2,q3,g⟩
          exact ⟨hs, .inr ⟨out,ia,ib,mg,ac,bc,rfl,q1,q2,by assumption,g⟩⟩
        case u3=>
          rintro c st3 ⟨hs,⟨r,o,rfl,hg⟩ | ⟨out,ia,ib,mg,ac,bc,rfl,q1,q2,q3,g⟩⟩
          · exact wpS_pure ⟨hs,r,_,rfl,hg⟩
          · exact wpS_bind (pY hs fun st4 h4=>wpS_pure ⟨h4,out,ia,ib,_,rfl,q1,q2,q3,g⟩)
        case u1=>
          rintro y c st3 - hy ⟨hs,out,ia,ib,mg,ac,bc,rfl,q1,q2,q3,g⟩
          refine BQ fun R hR=>?_
          have Rd:∀r o st',SS st st'→ii (Le O key) T r.toList→R (.done (some r,o)) st':=fun r o st' a1 a2=>by rw [hR];exact ⟨a1, .inl ⟨r,o,rfl,a2⟩⟩
          have Rn:∀out ia ib mg ac bc st',SS st st'→ia+1 < a.size→ib < b.size→x+1 < ia+ib→G (Le O key) T out.toList (a.toList.drop ia) (b.toList.drop ib)→R (.done (none,out,ia,ib,mg,ac,bc)) st':=
            fun out ia ib mg ac bc st' a1 a2 a3 a4 a5=>by rw [hR];exact ⟨a1, .inr ⟨_,_,_,_,_,_,rfl,a2,a3,a4,a5⟩⟩
          have Ry:∀out ia ib mg ac bc st',SS st st'→ia+1 < a.size→ib < b.size→x+1 < ia+ib→G (Le O key) T out.toList (a.toList.drop ia) (b.toList.drop ib)→R (.yield (none,out,ia,ib,mg,ac,bc)) st':=
            fun out ia ib mg ac bc st' a1 a2 a3 a4 a5=>by rw [hR];exact ⟨a1,_,_,_,_,_,_,rfl,a2,a3,a4,a5⟩
          clear hR
          extract_lets
          rename Unit→Nat→_=>jp
          refine Dr (jp ()) fun mg'=>?_
          refine wpS_bind (pY hs fun st4 h4=>?_)
          refine wpS_bind (gZ q2 ?_)
          refine wpS_bind (iA C (base:=ia) (n:=a.size - ia) (hint:=0) (h4.kind.trans hk) (by exact Nat.sub_pos_of_lt (Nat.lt_of_succ_lt ‹_›)) (by exact Nat.le_of_eq (Nat.add_sub_of_le (Nat.le_of_lt (Nat.lt_of_succ_lt ‹_›)))) (dB _ q2) dA ?m1 fun k hk1 hk2 hk3=>?_)
          case m1=>
            intro i j hij hj e
            simp only [hM,Bool.false_eq_true,if_false,Bool.not_eq_true'] at e ⊢
            exact (oP pa (by lia) (by exact Nat.add_lt_of_lt_sub' ‹_›):Le O key (at' a (ia+i)) (at' a (ia+j))).trans e
          simp only [hM,Bool.false_eq_true,if_false,Bool.not_eq_true',Bool.not_eq_false'] at hk2 hk3
          dsimp -zeta only
          extract_lets
          rename Unit→Array Keyed→Nat→_=>jp1
          have J1:∀(out:Array Keyed) (ia:Nat),ia+1 < a.size→x+1 < ia+ib→G (Le O key) T out.toList (a.toList.drop ia) (b.toList.drop ib)→(∀y∈a.toList.drop ia,Le O key (at' b ib) y)→wpS (model prog w) A E s (jp1 () out ia) R st4:=by
            intro out ia q1 q3 g hl
            have q0:ia < a.size:=by exact Nat.lt_of_succ_lt ‹_›
            refine wpS_bind (gZ q2 ?_)
            have g':=g.pushB q2 hl
            by_cases z:(ib+1 == b.size)=true
            · exact bg z (wpS_pure (Rd _ _ _ h4 (g'.doneB (by simp at z;exact Nat.le_of_eq (Eq.symm ‹_›)))))
            refine a_ z ?_
            have z':ib+1 < b.size:=by simp at z;exact Nat.lt_of_le_of_ne ‹_› ‹_›
            refine wpS_bind (gZ q0 ?_)
            refine wpS_bind (iA C (base:=ib+1) (n:=b.size - (ib+1)) (hint:=0) (h4.kind.trans hk) (by exact Nat.sub_pos_of_lt ‹_›) (by exact Nat.le_of_eq (Nat.add_sub_of_le ‹_›)) (dA _ q0) dB ?m2 fun k' hk1' hk2' hk3'=>?_)
            case m2=>
              intro i j hij hj e
              simp only [hM,if_true] at e ⊢
              exact KeyOrd.klt_of_kle_of_klt (O:=O) (oP pb (by lia) (by exact Nat.add_lt_of_lt_sub' ‹_›):Le O key (at' b (ib+1+i)) (at' b (ib+1+j))) e
            simp only [hM,if_true] at hk2' hk3'
            dsimp -zeta only
            extract_lets
            rename Unit→Array Keyed→Nat→_=>jp2
            have J2:∀(out:Array Keyed) (ib':Nat),ib' < b.size→x+1 < ia+ib'→G (Le O key) T out.toList (a.toList.drop ia) (b.toList.drop ib')→(∀y∈b.toList.drop ib',Le O key (at' a ia) y)→wpS (model prog w) A E s (jp2 () out ib') R st4:=by
              intro out ib' p2 p3 g hl
              refine wpS_bind (gZ q0 ?_)
              have g':=g.pushA q0 hl
              by_cases z:(ia+1+1 == a.size)=true
              · exact bg z (wpS_pure (Rd _ _ _ h4 (g'.lastA (by simpa using z) h1)))
              refine a_ z ?_
              have z':ia+1+1 < a.size:=by simp at z;exact Nat.lt_of_le_of_ne ‹_› ‹_›
              by_cases z2:(decide (k < 7)&&decide (k' < 7))=true
              · exact bg z2 (wpS_pure (Rn _ _ _ _ _ _ _ h4 z' p2 (by lia) g'))
              · exact a_ z2 (wpS_pure (Ry _ _ _ _ _ _ _ h4 z' p2 (by lia) g'))
            clear_value jp2
            have tl:∀y∈b.toList.drop (ib+1+k'),Le O key (at' a ia) y:=fun y hy=>by
              obtain ⟨j,r1,r2,rfl⟩:=pW hy
              have:=hk3' (j - (ib+1)) (by exact Nat.le_sub_of_add_le' ‹_›) (by exact Nat.sub_lt_sub_right (Nat.le_trans (Nat.le_add_right _ _) ‹_›) ‹_›)
              rwa [show ib+1+(j - (ib+1))=j by exact Nat.add_sub_of_le (Nat.le_trans (Nat.le_add_right _ _) ‹_›)] at this
            by_cases z2:k' > 0
            · refine bg z2 ?_
              have g2:=g'.blkB k' fun j j1 j2 y hy=>(Le.of (hk2' j j1)).trans (rc pa hy)
              by_cases z3:(ib+1+k' == b.size)=true
              · exact bg z3 (wpS_pure (Rd _ _ _ h4 (g2.doneB (by simp at z3;exact Nat.le_of_eq (Eq.symm ‹_›)))))
              · exact a_ z3 (J2 _ (ib+1+k') (by simp at z3;lia) (by lia) g2 tl)
            · have k0:k'=0:=by exact Nat.eq_zero_of_not_pos ‹_›
              subst k0
              exact a_ z2 (J2 _ (ib+1) z' (by exact Nat.lt_succ_of_lt ‹_›) g' tl)
          clear_value jp1
          have tl:∀y∈a.toList.drop (ia+k),Le O key (at' b ib) y:=fun y hy=>by
            obtain ⟨j,r1,r2,rfl⟩:=pW hy
            have:=hk3 (j - ia) (by exact Nat.le_sub_of_add_le' ‹_›) (by exact Nat.sub_lt_sub_right (Nat.le_trans (Nat.le_add_right _ _) ‹_›) ‹_›)
            rw [show ia+(j - ia)=j by exact Nat.add_sub_of_le (Nat.le_trans (Nat.le_add_right _ _) ‹_›)] at this
            exact Le.of this
          by_cases z2:k > 0
          · refine bg z2 ?_
            have g2:=g.blkA k fun j j1 j2 y hy=>Le.trans (hk2 j j1) (rc pb hy)
            by_cases z3:(ia+k+1 == a.size)=true
            · exact bg z3 (wpS_pure (Rd _ _ _ h4 (g2.lastA (by simpa using z3) h1)))
            refine a_ z3 ?_
            by_cases z4:(ia+k == a.size)=true
            · exact bg z4 (wpS_pure (Rd _ _ _ h4 (g2.doneA (by simp at z4;exact Nat.le_of_eq (Eq.symm ‹_›)))))
            · exact a_ z4 (J1 _ (ia+k) (by simp at z3 z4;lia) (by lia) g2 tl)
          · have k0:k=0:=by exact Nat.eq_zero_of_not_pos ‹_›
            subst k0
            exact a_ z2 (J1 _ ia q1 q3 g tl)
end
end NhLS
namespace NhLS
set_option autoImplicit false
open PySem PyProof.Rows
structure H (le:Keyed→Keyed→Prop) (T ra rb out:List Keyed):Prop where
  perm:(ra++rb++out).Perm T
  pa:(ra++out).Pairwise le
  pb:(rb++out).Pairwise le
section
variable {le:Keyed→Keyed→Prop} {T out ra rb p:List Keyed}
theorem H.takeA (g:H le T (ra++p) rb out) (h:∀x∈p,∀y∈rb,le y x):H le T ra rb (p++out) where
  perm:=by
    refine List.Perm.trans ?_ g.perm
    rw [←List.append_assoc]
    refine List.Perm.append_right _ ?_
    rw [List.append_assoc,List.append_assoc]
    exact List.Perm.append_left _ List.perm_append_comm
  pa:=by have:=g.pa;simpa [List.append_assoc] using this
  pb:=by
    have h1:=g.pa
    have h2:=g.pb
    simp only [List.pairwise_append,List.mem_append] at h1 h2 ⊢
    refine ⟨h2.1,⟨h1.1.2.1,h1.2.1,fun x hx y hy=>h1.2.2 x (.inr hx) y hy⟩,fun x hx y hy=>?_⟩
    rcases hy with hy | hy
    · exact h y hy x hx
    · exact h2.2.2 x hx y hy
theorem H.takeB (g:H le T ra (rb++p) out) (h:∀x∈p,∀y∈ra,le y x):H le T ra rb (p++out) where
  perm:=by have:=g.perm;simpa [List.append_assoc] using this
  pb:=by have:=g.pb;simpa [List.append_assoc] using this
  pa:=by
    have h1:=g.pa
    have h2:=g.pb
    simp only [List.pairwise_append,List.mem_append] at h1 h2 ⊢
    refine ⟨h1.1,⟨h2.1.2.1,h2.2.1,fun x hx y hy=>h2.2.2 x (.inr hx) y hy⟩,fun x hx y hy=>?_⟩
    rcases hy with hy | hy
    · exact h y hy x hx
    · exact h1.2.2 x hx y hy
theorem H.endA (g:H le T ra [] out):ii le T (ra++out):=⟨by have:=g.perm;simpa using this,g.pa⟩
theorem H.endB (g:H le T [] rb out):ii le T (rb++out):=⟨by have:=g.perm;simpa using this,g.pb⟩
end
section
variable {O:KeyOrd} {key:Keyed→O.α} {a b:Array Keyed} {T:List Keyed} {out:Array Keyed} {i j na nb k:Nat} {x y z:Keyed}
theorem pZ (h:y∈a.toList.take i):∃j,j < i∧j < a.size∧y=at' a j:=by
  obtain ⟨j,hj,e⟩:=List.mem_iff_getElem.mp h
  rw [List.length_take,Array.length_toList] at hj
  refine ⟨j,by lia,by lia,?_⟩
  rw [List.getElem_take] at e
  rw [←e,iB]
theorem uf (pa:a.toList.Pairwise (Le O key)) (hi:i < a.size) (h:y∈a.toList.take (i+1)):Le O key y (at' a i):=by
  obtain ⟨j,h1,h2,rfl⟩:=pZ h
  exact oP pa (by exact Nat.le_of_lt_succ ‹_›) hi
theorem ug (h:i < a.size):a.toList.take (i+1)=a.toList.take i++[at' a i]:=by
  rw [List.take_succ_eq_append_getElem (by simpa using h),iB]
theorem p7 (h:i≤j):a.toList.take j=a.toList.take i++(a.extract i j).toList:=by
  rw [Array.toList_extract,List.extract_eq_take_drop,←List.take_add]
  congr 1
  lia
theorem lq:(a.extract 0 i).toList=a.toList.take i:=by
  rw [Array.toList_extract,List.extract_eq_take_drop]
  rfl
theorem p9 (h:x∈(a.extract i j).toList):∃k,i≤k∧k < j∧k < a.size∧x=at' a k:=by
  rw [Array.toList_extract,List.extract_eq_take_drop] at h
  obtain ⟨k,hk,e⟩:=List.mem_iff_getElem.mp h
  rw [List.length_take,List.length_drop,Array.length_toList] at hk
  refine ⟨i+k,by exact Nat.le_add_right _ _,by lia,by lia,?_⟩
  rw [List.getElem_take,List.getElem_drop] at e
  rw [←e,iB]
theorem H.pushA (g:H (Le O key) T (a.toList.take (na+1)) (b.toList.take nb) out.toList.reverse) (h:na < a.size) (hl:∀y∈b.toList.take nb,Le O key y (at' a na)):H (Le O key) T (a.toList.take na) (b.toList.take nb) (out.push (at' a na)).toList.reverse:=by
  rw [ug h] at g
  rw [Array.toList_push,List.reverse_append]
  exact g.takeA fun x hx y hy=>by rw [List.mem_singleton.mp hx];exact hl y hy
theorem H.pushB (g:H (Le O key) T (a.toList.take na) (b.toList.take (nb+1)) out.toList.reverse) (h:nb < b.size) (hl:∀y∈a.toList.take na,Le O key y (at' b nb)):H (Le O key) T (a.toList.take na) (b.toList.take nb) (out.push (at' b nb)).toList.reverse:=by
  rw [ug h] at g
  rw [Array.toList_push,List.reverse_append]
  exact g.takeB fun x hx y hy=>by rw [List.mem_singleton.mp hx];exact hl y hy
theorem H.blkA (g:H (Le O key) T (a.toList.take na) (b.toList.take nb) out.toList.reverse) (h:i≤na) (hl:∀j,i≤j→j < na→j < a.size→∀y∈b.toList.take nb,Le O key y (at' a j)):H (Le O key) T (a.toList.take i) (b.toList.take nb) (out++(a.extract i na).reverse).toList.reverse:=by
  rw [p7 h] at g
  rw [Array.toList_append,List.reverse_append,Array.toList_reverse,List.reverse_reverse]
  exact g.takeA fun x hx y hy=>by obtain ⟨j,h1,h2,h3,rfl⟩:=p9 hx;exact hl j h1 h2 h3 y hy
theorem H.blkB (g:H (Le O key) T (a.toList.take na) (b.toList.take nb) out.toList.reverse) (h:i≤nb) (hl:∀j,i≤j→j < nb→j < b.size→∀y∈a.toList.take na,Le O key y (at' b j)):H (Le O key) T (a.toList.take na) (b.toList.take i) (out++(b.extract i nb).reverse).toList.reverse:=by
  rw [p7 (a:=b) h] at g
  rw [Array.toList_append,List.reverse_append,Array.toList_reverse,List.reverse_reverse]
  exact g.takeB fun x hx y hy=>by obtain ⟨j,h1,h2,h3,rfl⟩:=p9 hx;exact hl j h1 h2 h3 y hy
theorem H.doneA (g:H (Le O key) T (a.toList.take na) (b.toList.take nb) out.toList.reverse) (h:na=0):ii (Le O key) T (a.extract 0 na++b.extract 0 nb++out.reverse).toList:=by
  subst h
  rw [Array.toList_append,Array.toList_append,lq,lq,Array.toList_reverse]
  exact g.endB
theorem H.doneB (g:H (Le O key) T (a.toList.take na) (b.toList.take nb) out.toList.reverse) (h:nb=0):ii (Le O key) T (a.extract 0 na++b.extract 0 nb++out.reverse).toList:=by
  subst h
  rw [Array.toList_append,Array.toList_append,lq,lq,Array.toList_reverse,List.take_zero,List.append_nil]
  exact g.endA
theorem H.firstB (g:H (Le O key) T (a.toList.take na) (b.toList.take nb) out.toList.reverse) (h:nb=1) (h1:∀y∈a.toList,Le O key (at' b 0) y):ii (Le O key) T (b.extract 0 nb++a.extract 0 na++out.reverse).toList:=by
  rw [Array.toList_append,Array.toList_append,lq,lq,Array.toList_reverse,List.append_assoc]
  have g':H (Le O key) T ([]++a.toList.take na) (b.toList.take nb) out.toList.reverse:=g
  refine (g'.takeA fun x hx y hy=>?_).endB
  obtain ⟨j,q1,q2,rfl⟩:=pZ hy
  rw [show j=0 by lia]
  exact h1 x (List.mem_of_mem_take hx)
end
section
variable {prog:Program} {w:World} {A:Around} {E:Value→Shared→Prop} {s:Shared} {κ:SortKind} {O:KeyOrd} {key:Keyed→O.α} {dom:Keyed→Prop} {st:SortSt}
theorem ij {α:Type} {c:Prop} [Decidable c] {x y:StateT SortSt Sem α} {Q:α→SortSt→Prop} (h1:c→wpS (model prog w) A E s x Q st) (h2:¬c→wpS (model prog w) A E s y Q st):wpS (model prog w) A E s (if c then x else y) Q st:=by
  split
  · rename_i z;exact h1 z
  · rename_i z;exact h2 z
theorem vB (C:Cmp prog w A s κ O key dom) {a b:Array Keyed} {Q:Array Keyed→SortSt→Prop} (hk:kindOf st=κ) (da:∀x∈a.toList,dom x) (db:∀x∈b.toList,dom x) (ha:0 < a.size) (hb:0 < b.size)
    (pa:a.toList.Pairwise (Le O key)) (pb:b.toList.Pairwise (Le O key)) (h0:∀y∈b.toList,Le O key y (at' a (a.size - 1))) (h1:∀y∈a.toList,Le O key (at' b 0) y)
    (h:∀r st',SS st st'→ii (Le O key) (a.toList++b.toList) r.toList→Q r st'):wpS (model prog w) A E s (xk a b) Q st:=by
  refine wpS_bind (wpS_lift (wpAny_rule ⟨rfl,?_⟩))
  have ha':a.size - 1 < a.size:=by exact Nat.sub_lt ‹_› Nat.one_pos
  refine wpS_bind (gZ ha' ?_)
  obtain ⟨T,hT⟩:∃T,T=a.toList++b.toList:=⟨_,rfl⟩
  rw [←hT] at h
  have g0:H (Le O key) T (a.toList.take (a.size - 1)) (b.toList.take b.size) (#[at' a (a.size - 1)]:Array Keyed).toList.reverse:=by
    have q:H (Le O key) T (a.toList.take (a.size - 1+1)) (b.toList.take b.size) (#[]:Array Keyed).toList.reverse:=by
      have e1:a.toList.take (a.size - 1+1)=a.toList:=List.take_of_length_le (by simp;lia)
      have e2:b.toList.take b.size=b.toList:=List.take_of_length_le (by simp)
      rw [e1,e2]
      exact ⟨by simp [hT],by simpa using pa,by simpa using pb⟩
    exact q.pushA ha' fun y hy=>h0 y (List.mem_of_mem_take hy)
  have dA:∀i,i < a.size→dom (at' a i):=fun i hi=>da _ (j9 hi)
  have dB:∀i,i < b.size→dom (at' b i):=fun i hi=>db _ (j9 hi)
  by_cases e1:(a.size - 1 == 0)=true
  · refine bg e1 ?_
    exact wpS_pure (h _ st (SS.refl _) (g0.doneA (by simpa using e1)))
  refine a_ e1 ?_
  by_cases e2:(b.size == 1)=true
  · refine bg e2 ?_
    exact wpS_pure (h _ st (SS.refl _) (g0.firstB (by simpa using e2) h1))
  refine a_ e2 ?_
  refine wpS_bind (wpS_get ?_)
  refine wpS_bind (wpS_mono (wpS_forRange (I:=fun x c st'=>SS st st'∧∃na nb out mg,c=(none,na,nb,out,mg)∧na≤a.size∧1≤na∧nb≤b.size∧2≤nb∧na+nb+x < a.size+b.size∧H (Le O key) T (a.toList.take na) (b.toList.take nb) out.toList.reverse)
    (Q:=fun c st'=>SS st st'∧∃r o,c=(some r,o)∧ii (Le O key) T r.toList) ?s1 ?s2 ⟨SS.refl _,a.size - 1,b.size,_,_,rfl,by exact Nat.sub_le _ _,by simp at e1;exact Nat.pos_of_ne_zero ‹_›,by exact Nat.le_refl _,by simp at e2;lia,by lia,g0⟩) ?s3)
  case s3=>
    rintro c st' ⟨hs,r,o,rfl,hg⟩
    exact wpS_pure (h r st' hs hg)
  case s2=>
    rintro c st' ⟨hs,na,nb,out,mg,rfl,p1,q1,p2,q2,q3,g⟩
    lia
  case s1=>
    rintro x c st1 - hx ⟨hs,na,nb,out,mg,rfl,p1,q1,p2,q2,q3,g⟩
    refine wpS_bind (wpS_mono (wpS_forRange (I:=fun y c st'=>SS st st'∧∃na nb out ac bc,c=(none,na,nb,out,ac,bc)∧na≤a.size∧1≤na∧nb≤b.size∧2≤nb∧na+nb+x < a.size+b.size∧(y=0∨na+nb+(x+1) < a.size+b.size)∧H (Le O key) T (a.toList.take na) (b.toList.take nb) out.toList.reverse)
      (Q:=fun c st'=>SS st st'∧((∃r o,c=(some r,o)∧ii (Le O key) T r.toList)∨∃na nb out ac bc,c=(none,na,nb,out,ac,bc)∧na≤a.size∧1≤na∧nb≤b.size∧2≤nb∧na+nb+(x+1) < a.size+b.size∧H (Le O key) T (a.toList.take na) (b.toList.take nb) out.toList.reverse)) ?t1 ?t2 ⟨hs,na,nb,out,0,0,rfl,p1,q1,p2,q2,q3, .inl rfl,g⟩) ?t3)
    case t2=>
      rintro c st' ⟨hs,na,nb,out,ac,bc,rfl,p1,q1,p2,q2,q3,q4,g⟩
      exact ⟨hs, .inr ⟨na,nb,out,ac,bc,rfl,p1,q1,p2,q2,by lia,g⟩⟩
    case t1=>
      rintro y c st2 - hy ⟨hs,na,nb,out,ac,bc,rfl,p1,q1,p2,q2,q3,q4,g⟩
      obtain ⟨na,rfl⟩:∃n,na=n+1:=⟨na - 1,by exact (Nat.sub_add_cancel ‹_›).symm⟩
      obtain ⟨nb,rfl⟩:∃n,nb=n+1:=⟨nb - 1,by lia⟩
      have p1':na < a.size:=by assumption
      have p2':nb < b.size:=by assumption
      refine wpS_bind (gZ p2' ?_)
      refine wpS_bind (gZ p1' ?_)
      refine wpS_bind (xl C (hs.kind.trans hk) (dB _ p2') (dA _ p1') ?_)
      simp only [Nat.add_sub_cancel]
      cases e:O.blt (key (at' b nb)) (key (at' a na)) with
      | true=>
        refine wpS_bind (gZ p1' ?_)
        have g':=g.pushA p1' (fun y hy=>(uf pb p2' hy).trans (Le.of e))
        by_cases z:(na == 0)=true
        · exact bg z (wpS_pure ⟨hs, .inl ⟨_,_,rfl,g'.doneA (by simpa using z)⟩⟩)
        · refine a_ z ?_
          have z':1≤na:=by simp at z;exact Nat.pos_of_ne_zero ‹_›
          split
          · exact wpS_pure ⟨hs, .inr ⟨na,nb+1,_,_,_,rfl,by exact Nat.le_of_lt ‹_›,z',p2,q2,by lia,g'⟩⟩
          · exact wpS_pure ⟨hs,na,nb+1,_,_,_,rfl,by exact Nat.le_of_lt ‹_›,z',p2,q2,by lia, .inr (by lia),g'⟩
      | false=>
        refine wpS_bind (gZ p2' ?_)
        have g':=g.pushB p2' (fun y hy=>(uf pa p1' hy).trans e)
        by_cases z:(nb == 1)=true
        · exact bg z (wpS_pure ⟨hs, .inl ⟨_,_,rfl,g'.firstB (by simpa using z) h1⟩⟩)
        · refine a_ z ?_
          have z':2≤nb:=by simp at z;lia
          split
          · exact wpS_pure ⟨hs, .inr ⟨na+1,nb,_,_,_,rfl,p1,q1,by exact Nat.le_of_lt ‹_›,z',by lia,g'⟩⟩
          · exact wpS_pure ⟨hs,na+1,nb,_,_,_,rfl,p1,q1,by exact Nat.le_of_lt ‹_›,z',by lia, .inr (by lia),g'⟩
    case t3=>
      rintro c st2 ⟨hs,⟨r,o,rfl,hg⟩ | ⟨na,nb,out,ac,bc,rfl,p1,q1,p2,q2,q3,g⟩⟩
      · exact wpS_pure ⟨hs,r,_,rfl,hg⟩
      · refine wpS_bind (wpS_lift (wpAny_rule ⟨rfl,?_⟩))
        refine wpS_bind (wpS_mono (wpS_forRange (I:=fun y c st'=>SS st st'∧∃na nb out mg ac bc,c=(none,na,nb,out,mg,ac,bc)∧na≤a.size∧1≤na∧nb≤b.size∧2≤nb∧na+nb+(x+1) < a.size+b.size∧H (Le O key) T (a.toList.take na) (b.toList.take nb) out.toList.reverse)
          (Q:=fun c st'=>SS st st'∧((∃r o,c=(some r,o)∧ii (Le O key) T r.toList)∨∃na nb out mg ac bc,c=(none,na,nb,out,mg,ac,bc)∧na≤a.size∧1≤na∧nb≤b.size∧2≤nb∧na+nb+(x+1) < a.size+b.size∧H (Le O key) T (a.toList.take na) (b.toList.take nb) out.toList.reverse)) ?u1 ?u2 ⟨hs,na,nb,out,_,ac,bc,rfl,p1,q1,p2,q2,q3,g⟩) ?u3)
        case u2=>
          rintro c st' ⟨hs,na,nb,out,mg,ac,bc,rfl,p1,q1,p2,q2,q3,g⟩
          exact ⟨hs, .inr ⟨na,nb,out,mg,ac,bc,rfl,p1,q1,p2,q2,by assumption,g⟩⟩
        case u3=>
          rintro c st3 ⟨hs,⟨r,o,rfl,hg⟩ | ⟨na,nb,out,mg,ac,bc,rfl,p1,q1,p2,q2,q3,g⟩⟩
          · exact wpS_pure ⟨hs,r,_,rfl,hg⟩
          · exact wpS_bind (pY hs fun st4 h4=>wpS_pure ⟨h4,na,nb,out,_,rfl,p1,q1,p2,q2,q3,g⟩)
        case u1=>
          rintro y c st3 - hy ⟨hs,na,nb,out,mg,ac,bc,rfl,p1,q1,p2,q2,q3,g⟩
          refine BQ fun R hR=>?_
          have Rd:∀r o st',SS st st'→ii (Le O key) T r.toList→R (.done (some r,o)) st':=fun r o st' a1 a2=>by rw [hR];exact ⟨a1, .inl ⟨r,o,rfl,a2⟩⟩
          have Rn:∀na nb out mg ac bc st',SS st st'→na≤a.size→1≤na→nb≤b.size→2≤nb→na+nb+(x+1) < a.size+b.size→H (Le O key) T (a.toList.take na) (b.toList.take nb) out.toList.reverse→R (.done (none,na,nb,out,mg,ac,bc)) st':=
            fun na nb out mg ac bc st' a1 a2 a3 a4 a5 a6 a7=>by rw [hR];exact ⟨a1, .inr ⟨_,_,_,_,_,_,rfl,a2,a3,a4,a5,a6,a7⟩⟩
          have Ry:∀na nb out mg ac bc st',SS st st'→na≤a.size→1≤na→nb≤b.size→2≤nb→na+nb+(x+1) < a.size+b.size→H (Le O key) T (a.toList.take na) (b.toList.take nb) out.toList.reverse→R (.yield (none,na,nb,out,mg,ac,bc)) st':=
            fun na nb out mg ac bc st' a1 a2 a3 a4 a5 a6 a7=>by rw [hR];exact ⟨a1,_,_,_,_,_,_,rfl,a2,a3,a4,a5,a6,a7⟩
          clear hR
          obtain ⟨nb,rfl⟩:∃n,nb=n+1:=⟨nb - 1,by lia⟩
          have p2':nb < b.size:=by assumption
          have q2':1≤nb:=by exact Nat.le_of_lt_succ ‹_›
          extract_lets
          rename Unit→Nat→_=>jp
          refine Dr (jp ()) fun mg'=>?_
          refine wpS_bind (pY hs fun st4 h4=>?_)
          refine wpS_bind (gZ p2' ?_)
          refine wpS_bind (iA C (k:=at' b nb) (base:=0) (n:=na) (hint:=na - 1) (h4.kind.trans hk) (by exact Nat.sub_lt ‹_› Nat.one_pos) (by lia) (dB _ p2') dA ?m1 fun k hk1 hk2 hk3=>?_)
          case m1=>
            intro i j hij hj e
            simp only [hM,Bool.false_eq_true,if_false,Bool.not_eq_true',Nat.zero_add] at e ⊢
            exact (oP pa (by exact Nat.le_of_lt ‹_›) (by exact Nat.lt_of_lt_of_le ‹_› ‹_›):Le O key (at' a i) (at' a j)).trans e
          simp only [hM,Bool.false_eq_true,if_false,Bool.not_eq_true',Bool.not_eq_false',Nat.zero_add] at hk2 hk3
          dsimp -zeta only
          extract_lets
          rename Unit→Nat→Array Keyed→_=>jp1
          have J1:∀(na:Nat) (out:Array Keyed),na≤a.size→1≤na→na+(nb+1)+(x+1) < a.size+b.size→H (Le O key) T (a.toList.take na) (b.toList.take (nb+1)) out.toList.reverse→(∀y∈a.toList.take na,Le O key y (at' b nb))→wpS (model prog w) A E s (jp1 () na out) R st4:=by
            intro na out p1 q1 q3 g hl
            obtain ⟨na,rfl⟩:∃n,na=n+1:=⟨na - 1,by exact (Nat.sub_add_cancel ‹_›).symm⟩
            have p1':na < a.size:=by assumption
            refine wpS_bind (gZ p2' ?_)
            have g':=g.pushB p2' hl
            by_cases z:(nb == 1)=true
            · exact bg z (wpS_pure (Rd _ _ _ h4 (g'.firstB (by simpa using z) h1)))
            refine a_ z ?_
            have z':2≤nb:=by simp at z;lia
            refine wpS_bind (gZ p1' ?_)
            refine wpS_bind (iA C (k:=at' a na) (base:=0) (n:=nb) (hint:=nb - 1) (h4.kind.trans hk) (by exact Nat.sub_lt ‹_› Nat.one_pos) (by lia) (dA _ p1') dB ?m2 fun k' hk1' hk2' hk3'=>?_)
            case m2=>
              intro i j hij hj e
              simp only [hM,if_true,Nat.zero_add] at e ⊢
              exact KeyOrd.klt_of_kle_of_klt (O:=O) (oP pb (by exact Nat.le_of_lt ‹_›) (by lia):Le O key (at' b i) (at' b j)) e
            simp only [hM,if_true,Nat.zero_add] at hk2' hk3'
            dsimp -zeta only
            extract_lets
            rename Unit→Nat→Array Keyed→_=>jp2
            have J2:∀(nb':Nat) (out:Array Keyed),nb'≤b.size→2≤nb'→na+1+nb'+(x+1) < a.size+b.size→H (Le O key) T (a.toList.take (na+1)) (b.toList.take nb') out.toList.reverse→(∀y∈b.toList.take nb',Le O key y (at' a na))→wpS (model prog w) A E s (jp2 () nb' out) R st4:=by
              intro nb' out r1 r2 r3 g hl
              refine wpS_bind (gZ p1' ?_)
              have g':=g.pushA p1' hl
              by_cases z:(na == 0)=true
              · exact bg z (wpS_pure (Rd _ _ _ h4 (g'.doneA (by simpa using z))))
              refine a_ z ?_
              have z':1≤na:=by simp at z;exact Nat.pos_of_ne_zero ‹_›
              refine ij (fun _=>?_) (fun _=>?_)
              · exact wpS_pure (Rn _ _ _ _ _ _ _ h4 (by exact Nat.le_of_lt ‹_›) z' r1 r2 (by lia) g')
              · exact wpS_pure (Ry _ _ _ _ _ _ _ h4 (by exact Nat.le_of_lt ‹_›) z' r1 r2 (by lia) g')
            clear_value jp2
            have tl:∀y∈b.toList.take k',Le O key y (at' a na):=fun y hy=>by
              obtain ⟨j,r1,r2,rfl⟩:=pZ hy
              exact Le.of (hk2' j r1)
            by_cases z2:nb - k' > 0
            · refine bg z2 ?_
              have g2:=g'.blkB hk1' fun j j1 j2 j3 y hy=>(uf pa p1' hy).trans (hk3' j j1 j2)
              by_cases z3:(k' == 1)=true
              · exact bg z3 (wpS_pure (Rd _ _ _ h4 (g2.firstB (by simpa using z3) h1)))
              refine a_ z3 ?_
              by_cases z4:(k' == 0)=true
              · exact bg z4 (wpS_pure (Rd _ _ _ h4 (g2.doneB (by simpa using z4))))
              · exact a_ z4 (J2 k' _ (by lia) (by simp at z3 z4;lia) (by lia) g2 tl)
            · have k0:k'=nb:=by exact Nat.le_antisymm ‹_› (Nat.sub_eq_zero_iff_le.mp (Nat.eq_zero_of_not_pos ‹_›))
              subst k0
              exact a_ z2 (J2 k' _ (by exact Nat.le_of_lt ‹_›) z' (by lia) g' tl)
          clear_value jp1
          have tl:∀y∈a.toList.take k,Le O key y (at' b nb):=fun y hy=>by
            obtain ⟨j,r1,r2,rfl⟩:=pZ hy
            exact hk2 j r1
          by_cases z2:na - k > 0
          · refine bg z2 ?_
            have g2:=g.blkA hk1 fun j j1 j2 j3 y hy=>(uf pb p2' hy).trans (Le.of (hk3 j j1 j2))
            by_cases z3:(k == 0)=true
            · exact bg z3 (wpS_pure (Rd _ _ _ h4 (g2.doneA (by simpa using z3))))
            · exact a_ z3 (J1 k _ (by exact Nat.le_trans ‹_› ‹_›) (by simp at z3;exact Nat.pos_of_ne_zero ‹_›) (by lia) g2 tl)
          · have k0:k=na:=by exact Nat.le_antisymm ‹_› (Nat.sub_eq_zero_iff_le.mp (Nat.eq_zero_of_not_pos ‹_›))
            subst k0
            exact a_ z2 (J1 k _ p1 q1 q3 g tl)
end
end NhLS
namespace NhLS
set_option autoImplicit false
open PySem PyProof.Rows
def So (O:KeyOrd) (key:Keyed→O.α) (a:Array Keyed) (lo hi:Nat):Prop:=∀i j,lo≤i→i < j→j < hi→Le O key (at' a i) (at' a j)
section
variable {O:KeyOrd} {key:Keyed→O.α} {a b:Array Keyed} {i j lo hi p:Nat} {x y z:Keyed}
theorem So.le (h:So O key a lo hi) (h1:lo≤i) (h2:i≤j) (h3:j < hi):Le O key (at' a i) (at' a j):=by
  by_cases e:i=j
  · rw [e];exact Le.refl _
  · exact h i j h1 (by exact Nat.lt_of_le_of_ne ‹_› ‹_›) h3
theorem So.ext (h:So O key a lo hi) (q:∀j,lo≤j→j < hi→at' b j=at' a j):So O key b lo hi:=fun i j h1 h2 h3=>by
  rw [q i (by assumption) (by lia),q j (by lia) h3]
  exact h i j h1 h2 h3
theorem re (h1:i+j < hi) (h2:hi≤a.size):at' (a.extract i hi) j=at' a (i+j):=by
  simp [at',Array.getD,show j < min hi a.size - i by lia,show i+j < a.size by exact Nat.lt_of_lt_of_le ‹_› ‹_›]
theorem Av (h1:lo≤hi) (h2:hi≤a.size):(a.extract lo hi).size=hi - lo:=by
  rw [Array.size_extract]
  lia
theorem Aw (h:So O key a lo hi) (h2:hi≤a.size):(a.extract lo hi).toList.Pairwise (Le O key):=by
  rw [List.pairwise_iff_getElem]
  intro i j hi' hj hij
  rw [Array.length_toList,Array.size_extract] at hi' hj
  rw [iB,iB,re (by lia) h2,re (by lia) h2]
  exact h _ _ (by exact Nat.le_add_right _ _) (by exact Nat.add_lt_add_left ‹_› _) (by lia)
theorem BR (h:i < a.size) (j:Nat):at' (a.setIfInBounds i x) j=if i=j then x else at' a j:=by
  unfold at'
  rw [Array.getD_eq_getD_getElem?,Array.getD_eq_getD_getElem?,Array.getElem?_setIfInBounds]
  by_cases e:i=j
  · subst e;simp [h]
  · simp [e]
def wr (a:Array Keyed) (p:Nat) (M:List (Keyed×Nat)):Array Keyed:=M.foldl (fun a q=>a.setIfInBounds (p+q.2) q.1) a
theorem uh (p:Nat):∀(M:List (Keyed×Nat)) (a:Array Keyed),(wr a p M).size=a.size
  | [],a=>rfl
  | q::M,a=>(uh p M _).trans (Array.size_setIfInBounds ..)
theorem xn (p:Nat):∀(M:List Keyed) (n:Nat) (a:Array Keyed),p+n+M.length≤a.size→∀j,at' (wr a p (M.zipIdx n)) j=if p+n≤j∧j < p+n+M.length then M.getD (j - (p+n)) zr else at' a j
  | [],n,a,h,j=>by
    rw [if_neg (by simp)]
    rfl
  | x::M,n,a,h,j=>by
    rw [List.length_cons] at h
    show at' (wr (a.setIfInBounds (p+n) x) p (M.zipIdx (n+1))) j=_
    rw [xn p M (n+1) _ (by rw [Array.size_setIfInBounds];lia),BR (by lia),List.length_cons]
    by_cases e:p+n=j
    · subst e
      rw [if_neg (by lia),if_pos rfl,if_pos (by lia),Nat.sub_self]
      rfl
    · by_cases q:p+(n+1)≤j∧j < p+(n+1)+M.length
      · rw [if_pos q,if_pos (by lia),show j - (p+n)=(j - (p+(n+1)))+1 by lia]
        rfl
      · rw [if_neg q,if_neg e,if_neg (by lia)]
theorem zt (M:List Keyed) (a:Array Keyed) (h:p+M.length≤a.size):(wr a p M.zipIdx).toList=a.toList.take p++M++a.toList.drop (p+M.length):=by
  have hs:=uh p M.zipIdx a
  refine List.ext_getElem (by simp [hs];lia) fun i h1 h2=>?_
  rw [iB,show M.zipIdx=M.zipIdx 0 from rfl,xn p M 0 a (by assumption)]
  have h1':i < a.size:=by simpa [hs] using h1
  by_cases c1:i < p
  · rw [if_neg (by lia),List.getElem_append_left (by simp;lia),List.getElem_append_left (by simp;lia),List.getElem_take,iB]
  · by_cases c2:i < p+M.length
    · rw [if_pos (by lia),List.getElem_append_left (by simp;lia),List.getElem_append_right (by simp;lia)]
      have e:i - (a.toList.take p).length=i - (p+0):=by simp;lia
      simp only [e]
      simp [show i - p < M.length by lia]
    · rw [if_neg (by exact fun h=>‹¬_› h.2),List.getElem_append_right (by simp;lia),List.getElem_drop,iB]
      congr 1
      simp
      lia
end
section
variable {prog:Program} {w:World} {A:Around} {E:Value→Shared→Prop} {s:Shared} {κ:SortKind} {O:KeyOrd} {key:Keyed→O.α} {dom:Keyed→Prop}
theorem zu {st st':SortSt} {Q:PUnit→SortSt→Prop} (h:Q ⟨⟩ st'):wpS (model prog w) A E s (set st':StateT SortSt Sem PUnit) Q st:=by
  unfold wpS;rw [StateT.run_set];exact wpAny_pure ⟨rfl,h⟩
theorem vC (C:Cmp prog w A s κ O key dom) {a:Array Keyed} {pd:Array (Nat×Nat×Nat)} {g i sa na pw nb pw':Nat} {Q:Bool→SortSt→Prop} (da:∀i,i < a.size→dom (at' a i)) (hp1:pd[i]? =some (sa,na,pw)) (hp2:pd[i+1]? =some (sa+na,nb,pw'))
    (h1:1≤na) (h2:1≤nb) (hz:sa+na+nb≤a.size) (s1:So O key a sa (sa+na)) (s2:So O key a (sa+na) (sa+na+nb))
    (h:∀b g',b.toList.Perm a.toList→(∀j,j < sa∨sa+na+nb≤j→at' b j=at' a j)→So O key b sa (sa+na+nb)→Q true (SortSt.mk' κ b ((pd.setIfInBounds i (sa,na+nb,pw)).eraseIdxIfInBounds (i+1)) g' none)):
    wpS (model prog w) A E s (mergeAt' i) Q (SortSt.mk' κ a pd g none):=by
  refine wpS_bind (wpS_get ?_)
  simp only [hp1,hp2]
  refine wpS_bind (zu ?_)
  have b1:sa+na < a.size:=by lia
  refine wpS_bind (gZ b1 ?_)
  refine wpS_bind (iA C (k:=at' a (sa+na)) (arr:=a) (base:=sa) (n:=na) (hint:=0) rfl (by assumption) (by exact Nat.le_of_lt ‹_›) (da _ b1) da ?m1 fun k hk1 hk2 hk3=>?_)
  case m1=>
    intro i j hij hj e
    simp only [hM,Bool.false_eq_true,if_false,Bool.not_eq_true'] at e ⊢
    exact (s1.le (by exact Nat.le_add_right _ _) (by lia) (by exact Nat.add_lt_add_left ‹_› _):Le O key (at' a (sa+i)) (at' a (sa+j))).trans e
  simp only [hM,Bool.false_eq_true,if_false,Bool.not_eq_true',Bool.not_eq_false'] at hk2 hk3
  have lo:∀i,sa≤i→i < sa+k→∀j,sa+na≤j→j < sa+na+nb→Le O key (at' a i) (at' a j):=fun i r1 r2 j r3 r4=>by
    have:=hk2 (i - sa) (by exact Nat.sub_lt_left_of_lt_add ‹_› ‹_›)
    rw [show sa+(i - sa)=i by exact Nat.add_sub_of_le ‹_›] at this
    exact Le.trans this (s2.le (by (solve_by_elim (maxDepth:=3) only [*,Nat.le_trans,Nat.lt_of_lt_of_le,Nat.lt_of_le_of_lt,Nat.le_of_lt,Nat.add_le_add_left,Nat.add_lt_add_left,Nat.le_add_right,Nat.lt_of_succ_lt])) r3 r4)
  by_cases z:(na - k == 0)=true
  · refine bg z (wpS_pure (h a g (List.Perm.refl _) (fun _ _=>rfl) fun i j r1 r2 r3=>?_))
    have z':k=na:=by simp at z;lia
    by_cases c:j < sa+na
    · exact s1 i j r1 r2 c
    · by_cases c':i < sa+na
      · exact lo i r1 (by lia) j (by exact Nat.le_of_not_lt ‹_›) r3
      · exact s2 i j (by exact Nat.le_of_not_lt ‹_›) r2 r3
  refine a_ z ?_
  have z':k < na:=by simp at z;lia
  have b2:sa+na - 1 < a.size:=by exact Nat.lt_of_le_of_lt (Nat.sub_le _ _) ‹_›
  rw [show sa+k+(na - k) - 1=sa+na - 1 by lia]
  refine wpS_bind (gZ b2 ?_)
  refine wpS_bind (iA C (k:=at' a (sa+na - 1)) (arr:=a) (base:=sa+na) (n:=nb) (hint:=nb - 1) rfl (by exact Nat.sub_lt ‹_› Nat.one_pos) (by assumption) (da _ b2) da ?m2 fun m hm1 hm2 hm3=>?_)
  case m2=>
    intro i j hij hj e
    simp only [hM,if_true] at e ⊢
    exact KeyOrd.klt_of_kle_of_klt (O:=O) (s2.le (by exact Nat.le_add_right _ _) (by lia) (by exact Nat.add_lt_add_left ‹_› _):Le O key (at' a (sa+na+i)) (at' a (sa+na+j))) e
  simp only [hM,if_true] at hm2 hm3
  have up:∀j,sa+na+m≤j→j < sa+na+nb→∀i,sa≤i→i < sa+na→Le O key (at' a i) (at' a j):=fun j r3 r4 i r1 r2=>by
    have:=hm3 (j - (sa+na)) (by exact Nat.le_sub_of_add_le' ‹_›) (by lia)
    rw [show sa+na+(j - (sa+na))=j by exact Nat.add_sub_of_le (Nat.le_trans (Nat.le_add_right _ _) ‹_›)] at this
    exact (s1.le r1 (by lia) (by lia):Le O key (at' a i) (at' a (sa+na - 1))).trans this
  by_cases y:(m == 0)=true
  · refine bg y (wpS_pure (h a g (List.Perm.refl _) (fun _ _=>rfl) fun i j r1 r2 r3=>?_))
    have y':m=0:=by simpa using y
    by_cases c:j < sa+na
    · exact s1 i j r1 r2 c
    · by_cases c':i < sa+na
      · exact up j (by lia) r3 i r1 c'
      · exact s2 i j (by exact Nat.le_of_not_lt ‹_›) r2 r3
  refine a_ y ?_
  have y':0 < m:=by simp at y;exact Nat.pos_of_ne_zero ‹_›
  have zx:(a.extract (sa+k) (sa+na)).size=na - k:=by rw [Av (by exact Nat.add_le_add_left ‹_› _) (by exact Nat.le_of_lt ‹_›)];lia
  have zy:(a.extract (sa+na) (sa+na+m)).size=m:=by rw [Av (by exact Nat.le_add_right _ _) (by lia)];lia
  have mx:∀x∈(a.extract (sa+k) (sa+na)).toList,∃t,sa+k≤t∧t < sa+na∧x=at' a t:=fun x hx=>by
    obtain ⟨t,t1,t2,t3,t4⟩:=p9 hx
    exact ⟨t,t1,t2,t4⟩
  have my:∀x∈(a.extract (sa+na) (sa+na+m)).toList,∃t,sa+na≤t∧t < sa+na+m∧x=at' a t:=fun x hx=>by
    obtain ⟨t,t1,t2,t3,t4⟩:=p9 hx
    exact ⟨t,t1,t2,t4⟩
  have dx:∀x∈(a.extract (sa+k) (sa+na)).toList,dom x:=fun x hx=>by obtain ⟨t,t1,t2,rfl⟩:=mx x hx;exact da _ (by lia)
  have dy:∀x∈(a.extract (sa+na) (sa+na+m)).toList,dom x:=fun x hx=>by obtain ⟨t,t1,t2,rfl⟩:=my x hx;exact da _ (by lia)
  have px:=Aw (hi:=sa+na) (lo:=sa+k) (a:=a) (fun i j r1 r2 r3=>s1 i j (by exact Nat.le_trans (Nat.le_add_right _ _) ‹_›) r2 r3) (by exact Nat.le_of_lt ‹_›)
  have py:=Aw (hi:=sa+na+m) (lo:=sa+na) (a:=a) (fun i j r1 r2 r3=>s2 i j (by assumption) r2 (by lia)) (by lia)
  have fx:at' (a.extract (sa+k) (sa+na)) 0=at' a (sa+k):=re (by exact Nat.add_lt_add_left ‹_› _) (by exact Nat.le_of_lt ‹_›)
  have lx:at' (a.extract (sa+k) (sa+na)) ((a.extract (sa+k) (sa+na)).size - 1)=at' a (sa+na - 1):=by
    rw [zx,re (by lia) (by exact Nat.le_of_lt ‹_›)]
    congr 1
    lia
  have fy:at' (a.extract (sa+na) (sa+na+m)) 0=at' a (sa+na):=re (by exact Nat.add_lt_add_left ‹_› _) (by lia)
  have h0:O.blt (key (at' a (sa+na))) (key (at' a (sa+k)))=true:=hk3 k (by exact Nat.le_refl _) z'
  have yl:∀y∈(a.extract (sa+na) (sa+na+m)).toList,Le O key y (at' a (sa+na - 1)):=fun y hy=>by
    obtain ⟨t,t1,t2,rfl⟩:=my y hy
    have:=hm2 (t - (sa+na)) (by exact Nat.sub_lt_left_of_lt_add ‹_› ‹_›)
    rw [show sa+na+(t - (sa+na))=t by exact Nat.add_sub_of_le ‹_›] at this
    exact Le.of this
  have xf:∀y∈(a.extract (sa+k) (sa+na)).toList,Le O key (at' a (sa+na)) y:=fun y hy=>by
    obtain ⟨t,t1,t2,rfl⟩:=mx y hy
    exact (Le.of h0).trans (s1.le (by exact Nat.le_add_right _ _) t1 t2)
  have fin:∀(r:Array Keyed) (g':Nat),ii (Le O key) ((a.extract (sa+k) (sa+na)).toList++(a.extract (sa+na) (sa+na+m)).toList) r.toList→
      Q true (SortSt.mk' κ (wr a (sa+k) r.toList.zipIdx) ((pd.setIfInBounds i (sa,na+nb,pw)).eraseIdxIfInBounds (i+1)) g' none):=by
    intro r g' ⟨gp,gs⟩
    have rl:r.toList.length=na - k+m:=by rw [gp.length_eq,List.length_append,Array.length_toList,Array.length_toList,zx,zy]
    have at1:=xn (sa+k) r.toList 0 a (by lia)
    have rm:∀x∈r.toList,∃t,sa+k≤t∧t < sa+na+m∧x=at' a t:=fun x hx=>by
      rcases List.mem_append.mp (gp.mem_iff.mp hx) with hx | hx
      · obtain ⟨t,t1,t2,e⟩:=mx x hx
        exact ⟨t,t1,by exact Nat.lt_add_right _ ‹_›,e⟩
      · obtain ⟨t,t1,t2,e⟩:=my x hx
        exact ⟨t,by lia,t2,e⟩
    have rg:∀n,n < r.toList.length→r.toList.getD n zr=at' r n:=fun n hn=>by
      have hn':n < r.size:=by simpa using hn
      rw [←iB hn]
      simp [hn']
    have rt:∀n,n < r.toList.length→∃t,sa+k≤t∧t < sa+na+m∧at' r n=at' a t:=fun n hn=>rm _ (by rw [←iB hn];exact List.getElem_mem _)
    refine h _ g' ?_ (fun j hj=>?_) fun i j r1 r2 r3=>?_
    · rw [zt _ _ (by lia)]
      have ea:a.toList=a.toList.take (sa+k)++((a.extract (sa+k) (sa+na)).toList++(a.extract (sa+na) (sa+na+m)).toList)++a.toList.drop (sa+k+r.toList.length):=by
        rw [←List.append_assoc,←p7 (by exact Nat.add_le_add_left ‹_› _),←p7 (by exact Nat.le_add_right _ _),rl,show sa+k+(na - k+m)=sa+na+m by lia,List.take_append_drop]
      refine List.Perm.trans ?_ (List.Perm.of_eq ea.symm)
      exact List.Perm.append_right _ (List.Perm.append_left _ gp)
    · show at' (wr a (sa+k) (r.toList.zipIdx 0)) j=_
      rw [at1,if_neg (by lia)]
    · show Le O key (at' (wr a (sa+k) (r.toList.zipIdx 0)) i) (at' (wr a (sa+k) (r.toList.zipIdx 0)) j)
      rw [at1,at1]
      by_cases ci:i < sa+k
      · rw [if_neg (by lia)]
        by_cases cj:j < sa+na+m
        · by_cases cj':j < sa+k
          · rw [if_neg (by lia)]
            exact s1 i j r1 r2 (by lia)
          · rw [if_pos (by lia),rg _ (by lia)]
            obtain ⟨t,t1,t2,e⟩:=rt (j - (sa+k+0)) (by lia)
            rw [e]
            by_cases ct:t < sa+na
            · exact s1 i t r1 (by exact Nat.lt_of_lt_of_le ‹_› ‹_›) ct
            · exact lo i r1 ci t (by exact Nat.le_of_not_lt ‹_›) (by lia)
        · rw [if_neg (by lia)]
          exact lo i r1 ci j (by lia) r3
      · by_cases ci':i < sa+na+m
        · rw [if_pos (by lia),rg _ (by lia)]
          by_cases cj:j < sa+na+m
          · rw [if_pos (by lia),rg _ (by lia)]
            have:=List.pairwise_iff_getElem.mp gs (i - (sa+k+0)) (j - (sa+k+0)) (by lia) (by lia) (by lia)
            rw [iB,iB] at this
            exact this
          · rw [if_neg (by lia)]
            obtain ⟨t,t1,t2,e⟩:=rt (i - (sa+k+0)) (by lia)
            rw [e]
            by_cases ct:t < sa+na
            · exact up j (by exact Nat.le_of_not_lt ‹_›) r3 t (by exact Nat.le_trans (Nat.le_add_right _ _) ‹_›) ct
            · exact s2 t j (by exact Nat.le_of_not_lt ‹_›) (by lia) r3
        · rw [if_neg (by lia),if_neg (by lia)]
          exact s2 i j (by lia) r2 r3
  refine ij (fun _=>?_) (fun _=>?_)
  · refine wpS_bind (vA C rfl dx dy (by lia) (by lia) px py (by rw [fx,fy];exact h0) (by rw [lx];exact yl) fun r st' hs hg=>?_)
    obtain ⟨g',rfl⟩:=hs
    exact wpS_bind (wpS_modify (wpS_bind (wpS_get (wpS_pure (fin r g' hg)))))
  · refine wpS_bind (vB C rfl dx dy (by lia) (by lia) px py (by rw [lx];exact yl) (by rw [fy];exact xf) fun r st' hs hg=>?_)
    obtain ⟨g',rfl⟩:=hs
    exact wpS_bind (wpS_modify (wpS_bind (wpS_get (wpS_pure (fin r g' hg)))))
end
end NhLS
namespace NhLS
set_option autoImplicit false
open PySem PyProof.Rows
structure Sx (a b:Array Keyed) (lo hi:Nat):Prop where
  perm:b.toList.Perm a.toList
  out:∀j,j < lo∨hi≤j→at' b j=at' a j
def Dn (O:KeyOrd) (key:Keyed→O.α) (a:Array Keyed) (lo hi:Nat):Prop:=∀i j,lo≤i→i < j→j < hi→Le O key (at' a j) (at' a i)
def Eqs (O:KeyOrd) (key:Keyed→O.α) (a:Array Keyed) (e q:Nat):Prop:=∀i,e - (q+1)≤i→i < e→Le O key (at' a i) (at' a (e - 1))∧Le O key (at' a (e - 1)) (at' a i)
section
variable {O:KeyOrd} {key:Keyed→O.α} {a b c:Array Keyed} {i j k lo hi n q:Nat}
theorem Sx.refl:Sx a a lo hi:=⟨List.Perm.refl _,fun _ _=>rfl⟩
theorem Sx.trans (h1:Sx a b lo hi) (h2:Sx b c lo hi):Sx a c lo hi:=⟨h2.perm.trans h1.perm,fun j hj=>(h2.out j hj).trans (h1.out j hj)⟩
theorem Sx.size (h:Sx a b lo hi):b.size=a.size:=by have:=h.perm.length_eq;simpa using this
theorem Sx.dom {dom:Keyed→Prop} (h:Sx a b lo hi) (da:∀x∈a.toList,dom x):∀x∈b.toList,dom x:=fun x hx=>da x (h.perm.mem_iff.mp hx)
theorem zv (a:Array Keyed) (i:Nat):at' a i=(a[i]?).getD zr:=Array.getD_eq_getD_getElem? ..
theorem iS (hj:j≤a.size) (k:Nat):at' (mirror a i j ((j - i) / 2)) k=if i≤k∧k < j then at' a (i+j - 1 - k) else at' a k:=by
  rw [zv,getElem?_mirror_all hj]
  split <;> rw [zv]
theorem sN (hk:k < a.size) (hd:n≤k) (i:Nat):at' (bubble a k n) i=if i=k - n then at' a k else if k - n < i∧i≤k then at' a (i - 1) else at' a i:=by
  rw [zv,getElem?_bubble hk n hd]
  repeat' split
  all_goals rw [zv]
theorem Sx.rev (h1:lo≤i) (h2:j≤hi) (h3:j≤a.size):Sx a (mirror a i j ((j - i) / 2)) lo hi:=
  ⟨Array.perm_iff_toList_perm.mp (mirror_perm _ _ _ _),fun k hk=>by rw [iS h3,if_neg (by lia)]⟩
theorem Sx.bub (h1:k < a.size) (h0:n≤k) (h2:lo≤k - n) (h3:k < hi):Sx a (bubble a k n) lo hi:=
  ⟨Array.perm_iff_toList_perm.mp (bubble_perm _ _ _),fun j hj=>by rw [sN h1 h0,if_neg (by lia),if_neg (by lia)]⟩
theorem So.step (h:So O key a lo hi) (hl:lo < hi) (e:Le O key (at' a (hi - 1)) (at' a hi)):So O key a lo (hi+1):=fun i j h1 h2 h3=>by
  by_cases c:j < hi
  · exact h i j h1 h2 c
  · rw [show j=hi by lia]
    exact (h.le h1 (by lia) (by lia):Le O key (at' a i) (at' a (hi - 1))).trans e
theorem Dn.le (h:Dn O key a lo hi) (h1:lo≤i) (h2:i≤j) (h3:j < hi):Le O key (at' a j) (at' a i):=by
  by_cases e:i=j
  · rw [e];exact Le.refl _
  · exact h i j h1 (by exact Nat.lt_of_le_of_ne ‹_› ‹_›) h3
theorem Dn.step (h:Dn O key a lo hi) (hl:lo < hi) (e:Le O key (at' a hi) (at' a (hi - 1))):Dn O key a lo (hi+1):=fun i j h1 h2 h3=>by
  by_cases c:j < hi
  · exact h i j h1 h2 c
  · rw [show j=hi by lia]
    exact Le.trans e (h.le h1 (by lia) (by lia))
theorem Dn.rev (h:Dn O key a lo hi) (e:Eqs O key a hi q) (hz:hi≤a.size) (hq:lo+(q+1)≤hi):Dn O key (mirror a (hi - (q+1)) hi ((hi - (hi - (q+1))) / 2)) lo hi:=fun i j h1 h2 h3=>by
  rw [iS hz,iS hz]
  by_cases c:hi - (q+1)≤i
  · rw [if_pos (by lia),if_pos (by lia)]
    exact (e _ (by lia) (by lia)).1.trans (e _ (by lia) (by lia)).2
  · rw [if_neg (show ¬(hi - (q+1)≤i∧i < hi) by exact fun h=>‹¬_› h.1)]
    by_cases c':hi - (q+1)≤j
    · rw [if_pos (by exact ⟨‹_›,‹_›⟩)]
      exact h _ _ h1 (by lia) (by lia)
    · rw [if_neg (by exact fun h=>‹¬_› h.1)]
      exact h _ _ h1 h2 h3
theorem Dn.flip (h:Dn O key a lo hi) (hz:hi≤a.size):So O key (mirror a lo hi ((hi - lo) / 2)) lo hi:=fun i j h1 h2 h3=>by
  rw [iS hz,iS hz,if_pos (by lia),if_pos (by lia)]
  exact h _ _ (by lia) (by lia) (by lia)
theorem Eqs.one:Eqs O key a (hi+1) 0:=fun i h1 h2=>by
  rw [show i=hi by lia]
  exact ⟨Le.refl _,Le.refl _⟩
end
section
variable {prog:Program} {w:World} {A:Around} {E:Value→Shared→Prop} {s:Shared} {κ:SortKind} {O:KeyOrd} {key:Keyed→O.α} {dom:Keyed→Prop} {a:Array Keyed} {pd:Array (Nat×Nat×Nat)} {g:Nat}
theorem lr (C:Cmp prog w A s κ O key dom) {i j:Nat} {Q:Option Bool→SortSt→Prop} (da:∀x∈a.toList,dom x) (hi:i < a.size) (hj:j < a.size) (h:Q (some (O.blt (key (at' a i)) (key (at' a j)))) (SortSt.mk' κ a pd g none)):wpS (model prog w) A E s (ltAt' i j) Q (SortSt.mk' κ a pd g none):=
  wpS_bind (wpS_get (wpS_bind (gZ hi (wpS_bind (gZ hj (xl C rfl (da _ (j9 hi)) (da _ (j9 hj)) h))))))
theorem uk {i j:Nat} {Q:Unit→SortSt→Prop} (h:Q () (SortSt.mk' κ (mirror a i j ((j - i) / 2)) pd g none)):wpS (model prog w) A E s (reverseSlice' i j) Q (SortSt.mk' κ a pd g none):=wpS_modify h
theorem BS {k l:Nat} {Q:Unit→SortSt→Prop} (h:Q () (SortSt.mk' κ (bubble a k (k - l)) pd g none)):wpS (model prog w) A E s (moveDown' k l) Q (SortSt.mk' κ a pd g none):=wpS_modify h
theorem Ax {lo n0 nrem:Nat} {β:Type} {body:Nat→Option β×Nat→StateT SortSt Sem (ForInStep (Option β×Nat))} {Q:Option β×Nat→SortSt→Prop} (h1:1≤n0) (h2:n0≤nrem) (hs:So O key a lo (lo+n0))
    (hb:∀x n (R:ForInStep (Option β×Nat)→SortSt→Prop),1≤n→n < nrem→R (if O.blt (key (at' a (lo+n))) (key (at' a (lo+n - 1)))=true then .done (none,n) else .yield (none,n+1)) (SortSt.mk' κ a pd g none)→wpS (model prog w) A E s (body x (none,n)) R (SortSt.mk' κ a pd g none))
    (h:∀n,n0≤n→n≤nrem→So O key a lo (lo+n)→(n < nrem→O.blt (key (at' a (lo+n))) (key (at' a (lo+n - 1)))=true)→Q (none,n) (SortSt.mk' κ a pd g none)):
    wpS (model prog w) A E s (forIn [n0:nrem] (none,n0) body) Q (SortSt.mk' κ a pd g none):=by
  refine wpS_forRange (I:=fun x c st'=>st'=SortSt.mk' κ a pd g none∧c=(none,x)∧n0≤x∧So O key a lo (lo+x)) ?_ ?_ ⟨rfl,rfl,Nat.le_refl _,hs⟩
  · rintro x c st' q1 q2 ⟨rfl,rfl,q3,q4⟩
    refine hb x x _ (by exact Nat.lt_of_lt_of_le ‹_› ‹_›) q2 ?_
    cases e:O.blt (key (at' a (lo+x))) (key (at' a (lo+x - 1))) with
    | true=>exact h x q3 (by exact Nat.le_of_lt ‹_›) q4 fun _=>e
    | false=>exact ⟨rfl,rfl,by (solve_by_elim (maxDepth:=3) only [*,Nat.le_trans,Nat.lt_of_lt_of_le,Nat.lt_of_le_of_lt,Nat.le_of_lt]),q4.step (by lia) e⟩
  · rintro c st' ⟨rfl,rfl,q3,q4⟩
    rw [show max n0 nrem=nrem by exact Nat.max_eq_right ‹_›] at q4 ⊢
    exact h nrem h2 (Nat.le_refl _) q4 fun z=>absurd z (Nat.lt_irrefl _)
theorem p_ (C:Cmp prog w A s κ O key dom) {lo n ok:Nat} {Q:Bool→SortSt→Prop} (da:∀x∈a.toList,dom x) (h1:1≤ok) (h2:ok≤n) (hz:lo+n≤a.size) (hs:So O key a lo (lo+ok))
    (h:∀b,Sx a b lo (lo+n)→So O key b lo (lo+n)→Q true (SortSt.mk' κ b pd g none)):wpS (model prog w) A E s (binarySort' lo n ok) Q (SortSt.mk' κ a pd g none):=by
  refine wpS_bind (wpS_mono (wpS_forRange (I:=fun k c st'=>c=(none,())∧∃b,st'=SortSt.mk' κ b pd g none∧Sx a b lo (lo+n)∧So O key b lo (lo+k)) (Q:=fun c st'=>c=(none,())∧∃b,st'=SortSt.mk' κ b pd g none∧Sx a b lo (lo+n)∧So O key b lo (lo+n)) ?s1 ?s2 ⟨rfl,a,rfl, .refl,by rw [show max ok 1=ok by exact Nat.max_eq_left ‹_›];exact hs⟩) ?s3)
  case s3=>
    rintro c st' ⟨rfl,b,rfl,sb,ss⟩
    exact wpS_pure (h b sb ss)
  case s2=>
    rintro c st' ⟨rfl,b,rfl,sb,ss⟩
    rw [show max (max ok 1) n=n by lia] at ss
    exact ⟨rfl,b,rfl,sb,ss⟩
  case s1=>
    rintro k c st' k1 k2 ⟨rfl,b,rfl,sb,ss⟩
    have bz:=sb.size
    have ik:lo+k < b.size:=by lia
    refine wpS_bind (wpS_mono (wpS_forRange (I:=fun x c st'=>st'=SortSt.mk' κ b pd g none∧∃l r,c=(none,l,r)∧l≤r∧r≤k∧r+x≤k+l∧(∀i,i < l→Le O key (at' b (lo+i)) (at' b (lo+k)))∧(∀i,r≤i→i < k→Le O key (at' b (lo+k)) (at' b (lo+i))))
      (Q:=fun c st'=>st'=SortSt.mk' κ b pd g none∧∃l,c=(none,l,l)∧l≤k∧(∀i,i < l→Le O key (at' b (lo+i)) (at' b (lo+k)))∧(∀i,l≤i→i < k→Le O key (at' b (lo+k)) (at' b (lo+i)))) ?t1 ?t2 ⟨rfl,0,k,rfl,by exact Nat.zero_le _,by exact Nat.le_refl _,by (solve_by_elim (maxDepth:=3) only [*,Nat.le_trans,Nat.lt_of_lt_of_le,Nat.lt_of_le_of_lt,Nat.le_of_lt,Nat.add_le_add_left,Nat.add_lt_add_left,Nat.le_add_right,Nat.lt_of_succ_lt]),fun i hi=>by lia,fun i h1 h2=>by lia⟩) ?t3)
    case t2=>
      rintro c st' ⟨rfl,l,r,rfl,p1,p2,p3,p4,p5⟩
      have:l=r:=by lia
      subst this
      exact ⟨rfl,l,rfl,p2,p4,p5⟩
    case t1=>
      rintro x c st' - x2 ⟨rfl,l,r,rfl,p1,p2,p3,p4,p5⟩
      dsimp only
      refine ij (fun z=>?_) (fun z=>?_)
      · have:l=r:=by exact Nat.le_antisymm ‹_› ‹_›
        subst this
        exact wpS_pure ⟨rfl,l,rfl,p2,p4,p5⟩
      · have im:lo+(l+r) / 2 < b.size:=by lia
        refine wpS_bind (lr C (sb.dom da) ik im ?_)
        cases e:O.blt (key (at' b (lo+k))) (key (at' b (lo+(l+r) / 2))) with
        | true=>exact wpS_pure ⟨rfl,l,(l+r) / 2,rfl,by lia,by lia,by lia,p4,fun i r1 r2=>(Le.of e).trans (ss.le (by exact Nat.le_add_right _ _) (by exact Nat.add_le_add_left ‹_› _) (by exact Nat.add_lt_add_left ‹_› _))⟩
        | false=>exact wpS_pure ⟨rfl,(l+r) / 2+1,r,rfl,by lia,by assumption,by lia,fun i r1=>(ss.le (by exact Nat.le_add_right _ _) (by lia) (by lia):Le O key (at' b (lo+i)) (at' b (lo+(l+r) / 2))).trans e,p5⟩
    case t3=>
      rintro c st' ⟨rfl,l,rfl,p2,p4,p5⟩
      refine wpS_bind (BS (wpS_pure ⟨rfl,_,rfl,sb.trans (Sx.bub (k:=lo+k) (n:=lo+k - (lo+l)) ik (by exact Nat.sub_le _ _) (by lia) (by exact Nat.add_lt_add_left ‹_› _)),fun i j r1 r2 r3=>?_⟩))
      have q4:∀i,lo≤i→i < lo+l→Le O key (at' b i) (at' b (lo+k)):=fun i u1 u2=>by have:=p4 (i - lo) (by exact Nat.sub_lt_left_of_lt_add ‹_› ‹_›);rwa [show lo+(i - lo)=i by exact Nat.add_sub_of_le ‹_›] at this
      have q5:∀i,lo+l≤i→i < lo+k→Le O key (at' b (lo+k)) (at' b i):=fun i u1 u2=>by have:=p5 (i - lo) (by exact Nat.le_sub_of_add_le' ‹_›) (by lia);rwa [show lo+(i - lo)=i by exact Nat.add_sub_of_le (Nat.le_trans (Nat.le_add_right _ _) ‹_›)] at this
      show Le O key (at' (bubble b (lo+k) (lo+k - (lo+l))) i) (at' (bubble b (lo+k) (lo+k - (lo+l))) j)
      rw [sN ik (by exact Nat.sub_le _ _),sN ik (by exact Nat.sub_le _ _),show lo+k - (lo+k - (lo+l))=lo+l by lia]
      repeat' split
      all_goals first
        | (exfalso;lia)
        | exact q4 _ (by assumption) (by (first | exact Nat.lt_of_lt_of_eq ‹_› ‹_› | lia))
        | exact q5 _ (by (first | exact Nat.add_le_add_left ‹_› _ | lia)) (by lia)
        | exact ss _ _ (by (first | assumption | lia)) (by (first | assumption | lia)) (by lia)
theorem sO (C:Cmp prog w A s κ O key dom) {lo nrem:Nat} {Q:Option Nat→SortSt→Prop} (da:∀x∈a.toList,dom x) (h1:1≤nrem) (hz:lo+nrem≤a.size)
    (h:∀m b,1≤m→m≤nrem→Sx a b lo (lo+nrem)→So O key b lo (lo+m)→Q (some m) (SortSt.mk' κ b pd g none)):wpS (model prog w) A E s (countRun' lo nrem) Q (SortSt.mk' κ a pd g none):=by
  refine wpS_bind (Ax (O:=O) (key:=key) (a:=a) (lo:=lo) (n0:=1) (nrem:=nrem) (Nat.le_refl _) h1 (fun i j r1 r2 r3=>by lia) (fun x n R n1 n2 hR=>?_) fun n q1 q2 q3 q4=>?_)
  · refine wpS_bind (lr C da (show lo+n < a.size by lia) (show lo+n - 1 < a.size by lia) ?_)
    cases e:O.blt (key (at' a (lo+n))) (key (at' a (lo+n - 1))) with
    | true=>rw [e] at hR;exact wpS_pure hR
    | false=>rw [e] at hR;exact wpS_pure hR
  dsimp -zeta only
  by_cases z:(n == nrem)=true
  · exact bg z (wpS_pure (h n a q1 q2 .refl q3))
  refine a_ z ?_
  have z':n < nrem:=by simp at z;exact Nat.lt_of_le_of_ne ‹_› ‹_›
  have sn:=q4 z'
  extract_lets
  rename Unit→_=>jp
  have J:∀b,Sx a b lo (lo+nrem)→Dn O key b lo (lo+n+1)→wpS (model prog w) A E s (jp ()) Q (SortSt.mk' κ b pd g none):=by
    intro b sb db
    refine wpS_bind (wpS_lift (wpAny_rule ⟨rfl,?_⟩))
    refine wpS_bind (wpS_mono (wpS_forRange (I:=fun x c st'=>∃b q,st'=SortSt.mk' κ b pd g none∧Sx a b lo (lo+nrem)∧c=(none,x,q)∧q+1≤x∧n+1≤x∧Dn O key b lo (lo+x)∧Eqs O key b (lo+x) q)
      (Q:=fun c st'=>∃b m q,st'=SortSt.mk' κ b pd g none∧Sx a b lo (lo+nrem)∧c=(none,m,q)∧q+1≤m∧m≤nrem∧Dn O key b lo (lo+m)∧Eqs O key b (lo+m) q) ?s1 ?s2 ⟨b,0,rfl,sb,rfl,by exact Nat.lt_succ_of_lt ‹_›,by exact Nat.lt_succ_self _,db,Eqs.one⟩) ?s3)
    case s2=>
      rintro c st' ⟨b,q,rfl,sb,rfl,p1,p2,p3,p4⟩
      rw [show max (n+1) nrem=nrem by exact Nat.max_eq_right ‹_›] at *
      exact ⟨b,nrem,q,rfl,sb,rfl,p1,Nat.le_refl _,p3,p4⟩
    case s1=>
      rintro x c st' x1 x2 ⟨b,q,rfl,sb,rfl,p1,p2,p3,p4⟩
      have bz:=sb.size
      have i1:lo+x < b.size:=by lia
      have i2:lo+x - 1 < b.size:=by exact Nat.lt_of_le_of_lt (Nat.sub_le _ _) ‹_›
      refine wpS_bind (lr C (sb.dom da) i1 i2 ?_)
      cases e:O.blt (key (at' b (lo+x))) (key (at' b (lo+x - 1))) with
      | true=>
        dsimp only
        rw [if_pos rfl]
        refine ij (fun z=>?_) (fun z=>?_)
        · refine wpS_bind (uk (wpS_pure ⟨_,0,rfl,sb.trans (Sx.rev (by lia) (by lia) (by exact Nat.le_of_lt ‹_›)),rfl,by exact Nat.le_add_left _ _,by exact Nat.lt_succ_of_lt ‹_›,?_,Eqs.one⟩))
          refine (p3.rev p4 (by exact Nat.le_of_lt ‹_›) (by exact Nat.add_lt_add_left ‹_› _)).step (by lia) ?_
          rw [iS (by exact Nat.le_of_lt ‹_›),iS (by exact Nat.le_of_lt ‹_›),if_neg (by lia),if_pos (by lia)]
          exact (Le.of e).trans (p4 _ (by lia) (by lia)).2
        · exact wpS_pure ⟨b,0,rfl,sb,rfl,by exact Nat.le_add_left _ _,by exact Nat.lt_succ_of_lt ‹_›,p3.step (by lia) (Le.of e),Eqs.one⟩
      | false=>
        dsimp only
        rw [if_neg (by simp)]
        refine wpS_bind (lr C (sb.dom da) i2 i1 ?_)
        cases e':O.blt (key (at' b (lo+x - 1))) (key (at' b (lo+x))) with
        | true=>exact wpS_pure ⟨b,x,q,rfl,sb,rfl,p1,by exact Nat.le_of_lt ‹_›,p3,p4⟩
        | false=>
          refine wpS_pure ⟨b,q+1,rfl,sb,rfl,by exact Nat.succ_lt_succ ‹_›,by exact Nat.lt_succ_of_lt ‹_›,p3.step (by lia) e',fun i r1 r2=>?_⟩
          show Le O key (at' b i) (at' b (lo+x))∧Le O key (at' b (lo+x)) (at' b i)
          by_cases c:i=lo+x
          · rw [c];exact ⟨Le.refl _,Le.refl _⟩
          · obtain ⟨u1,u2⟩:=p4 i (by lia) (by lia)
            exact ⟨u1.trans e,Le.trans e' u2⟩
    case s3=>
      rintro c st' ⟨b,m,q,rfl,sb,rfl,p1,p2,p3,p4⟩
      have bz:=sb.size
      dsimp -zeta only
      extract_lets
      rename Unit→_=>jp2
      have J2:∀b,Sx a b lo (lo+nrem)→Dn O key b lo (lo+m)→wpS (model prog w) A E s (jp2 ()) Q (SortSt.mk' κ b pd g none):=by
        intro b sb db
        have bz:=sb.size
        refine wpS_bind (uk ?_)
        have sc:=sb.trans (Sx.rev (a:=b) (i:=lo) (j:=lo+m) (Nat.le_refl lo) (show lo+m≤lo+nrem by exact Nat.add_le_add_left ‹_› _) (by lia))
        have cz:=sc.size
        have ss:=db.flip (by lia)
        revert sc cz ss
        generalize mirror b lo (lo+m) ((lo+m - lo) / 2)=c
        intro sc cz ss
        refine wpS_bind (Ax (O:=O) (key:=key) (a:=c) (lo:=lo) (n0:=m) (nrem:=nrem) (by exact Nat.le_trans (Nat.le_add_left _ _) ‹_›) p2 ss (fun x n R n1 n2 hR=>?_) fun n q1 q2 q3 q4=>?_)
        · refine wpS_bind (lr C (sc.dom da) (show lo+n < c.size by lia) (show lo+n - 1 < c.size by lia) ?_)
          cases e:O.blt (key (at' c (lo+n))) (key (at' c (lo+n - 1))) with
          | true=>rw [e] at hR;exact wpS_pure hR
          | false=>rw [e] at hR;exact wpS_pure hR
        · exact wpS_pure (h n c (by lia) q2 sc q3)
      clear_value jp2
      refine ij (fun z=>?_) (fun z=>?_)
      · exact wpS_bind (uk (J2 _ (sb.trans (Sx.rev (a:=b) (i:=lo+m - (q+1)) (j:=lo+m) (by lia) (by exact Nat.add_le_add_left ‹_› _) (by lia))) (Dn.rev (hi:=lo+m) (q:=q) p3 p4 (by lia) (by exact Nat.add_lt_add_left ‹_› _))))
      · exact J2 b sb p3
  clear_value jp
  refine ij (fun c=>?_) (fun c=>?_)
  · refine wpS_bind (lr C da (show lo < a.size by lia) (show lo+n - 1 < a.size by lia) ?_)
    cases e:O.blt (key (at' a lo)) (key (at' a (lo+n - 1))) with
    | true=>exact wpS_pure (h n a q1 q2 .refl q3)
    | false=>
      refine wpS_bind (uk (J _ (Sx.rev (Nat.le_refl _) (by exact Nat.add_le_add_left ‹_› _) (by lia)) fun i j r1 r2 r3=>?_))
      have all:∀x y,lo≤x→x < lo+n→lo≤y→y < lo+n→Le O key (at' a x) (at' a y):=fun x y x1 x2 y1 y2=>
        ((q3.le x1 (by lia) (by lia):Le O key (at' a x) (at' a (lo+n - 1))).trans e).trans (q3.le (Nat.le_refl _) y1 y2)
      rw [iS (by lia),iS (by lia),if_pos (show lo≤i∧i < lo+n by lia)]
      by_cases c':j < lo+n
      · rw [if_pos (by lia)]
        exact all _ _ (by lia) (by lia) (by lia) (by lia)
      · rw [if_neg (by exact fun h=>‹¬_› h.2),show j=lo+n by lia]
        exact (Le.of sn).trans (all _ _ (by lia) (by lia) (by lia) (by lia))
  · refine J a .refl fun i j r1 r2 r3=>?_
    rw [show i=lo+n - 1 by lia,show j=lo+n by lia]
    exact Le.of sn
end
end NhLS
namespace NhLS
set_option autoImplicit false
open PySem PyProof.Rows
def Ch (O:KeyOrd) (key:Keyed→O.α) (a:Array Keyed):List (Nat×Nat×Nat)→Nat→Nat→Prop
  | [],p,e=>p=e
  | t::l,p,e=>t.1=p∧1≤t.2.1∧So O key a p (p+t.2.1)∧Ch O key a l (p+t.2.1) e
section
variable {O:KeyOrd} {key:Keyed→O.α} {a b:Array Keyed}
theorem Ch.app:∀{l l':List (Nat×Nat×Nat)} {p e:Nat},Ch O key a (l++l') p e→∃m,Ch O key a l p m∧Ch O key a l' m e
  | [],_,p,e,h=>⟨p,rfl,h⟩
  | t::l,_,p,e,h=>by
    obtain ⟨m,h1,h2⟩:=Ch.app h.2.2.2
    exact ⟨m,⟨h.1,h.2.1,h.2.2.1,h1⟩,h2⟩
theorem Ch.join:∀{l l':List (Nat×Nat×Nat)} {p m e:Nat},Ch O key a l p m→Ch O key a l' m e→Ch O key a (l++l') p e
  | [],_,p,m,e,h1,h2=>by rw [show p=m from h1];exact h2
  | t::l,_,p,m,e,h1,h2=>⟨h1.1,h1.2.1,h1.2.2.1,Ch.join h1.2.2.2 h2⟩
theorem Ch.le:∀{l:List (Nat×Nat×Nat)} {p e:Nat},Ch O key a l p e→p+l.length≤e
  | [],p,e,h=>by rw [show p=e from h];exact Nat.le_refl _
  | t::l,p,e,h=>by
    have:=Ch.le h.2.2.2
    have:=h.2.1
    rw [List.length_cons]
    lia
theorem Ch.ext:∀{l:List (Nat×Nat×Nat)} {p e:Nat},Ch O key a l p e→(∀j,p≤j→j < e→at' b j=at' a j)→Ch O key b l p e
  | [],p,e,h,_=>h
  | t::l,p,e,h,q=>by
    have:=Ch.le h.2.2.2
    exact ⟨h.1,h.2.1,h.2.2.1.ext fun j h1 h2=>q j h1 (by lia),Ch.ext h.2.2.2 fun j h1 h2=>q j (by exact Nat.le_trans (Nat.le_add_right _ _) ‹_›) h2⟩
theorem Ch.map:∀{l l':List (Nat×Nat×Nat)} {p e:Nat},Ch O key a l p e→l'.map (fun t=>(t.1,t.2.1))=l.map (fun t=>(t.1,t.2.1))→Ch O key a l' p e
  | [],l',p,e,h,q=>by
    cases l' with
    | nil=>exact h
    | cons _ _=>simp at q
  | t::l,l',p,e,h,q=>by
    cases l' with
    | nil=>simp at q
    | cons t' l'=>
      simp only [List.map_cons,List.cons.injEq,Prod.mk.injEq] at q
      refine ⟨q.1.1.trans h.1,by rw [q.1.2];exact h.2.1,by rw [q.1.2];exact h.2.2.1,?_⟩
      rw [q.1.2]
      exact Ch.map h.2.2.2 q.2
theorem zw (f:Nat×Nat×Nat→Nat×Nat×Nat) (hf:∀t,(f t).1=t.1∧(f t).2.1=t.2.1) (l:List (Nat×Nat×Nat)) (k:Nat):(l.modify k f).map (fun t=>(t.1,t.2.1))=l.map (fun t=>(t.1,t.2.1)):=by
  refine List.ext_getElem? fun j=>?_
  rw [List.getElem?_map,List.getElem?_map,List.getElem?_modify]
  cases l[j]? with
  | none=>rfl
  | some t=>
    by_cases e:k=j
    · simp [e,hf t]
    · simp [e]
theorem Ch.one {p n w:Nat} (h:So O key a p (p+n)) (h1:1≤n):Ch O key a [(p,n,w)] p (p+n):=⟨rfl,h1,h,rfl⟩
end
section
variable {prog:Program} {w:World} {A:Around} {E:Value→Shared→Prop} {s:Shared} {κ:SortKind} {O:KeyOrd} {key:Keyed→O.α} {dom:Keyed→Prop} {a:Array Keyed} {pd:Array (Nat×Nat×Nat)} {g:Nat}
theorem oQ (C:Cmp prog w A s κ O key dom) {i lo:Nat} {Q:Bool→SortSt→Prop} (da:∀x∈a.toList,dom x) (hi:i+1 < pd.size) (hz:lo≤a.size) (hc:Ch O key a pd.toList 0 lo)
    (h:∀b pd' g',b.toList.Perm a.toList→(∀j,lo≤j→at' b j=at' a j)→Ch O key b pd'.toList 0 lo→pd'.size+1=pd.size→Q true (SortSt.mk' κ b pd' g' none)):wpS (model prog w) A E s (mergeAt' i) Q (SortSt.mk' κ a pd g none):=by
  have el:pd.toList=pd.toList.take i++(pd[i]::pd[i+1]::pd.toList.drop (i+2)):=by
    conv=>lhs;rw [←List.take_append_drop i pd.toList]
    congr 1
    rw [List.drop_eq_getElem_cons (by simp;exact Nat.lt_of_succ_lt ‹_›),List.drop_eq_getElem_cons (by simp;assumption)]
    simp
  have e1:pd[i]? =some pd[i]:=getElem?_pos ..
  have e2:pd[i+1]? =some pd[i+1]:=getElem?_pos ..
  revert el e1 e2
  generalize pd[i]=t1
  generalize pd[i+1]=t2
  intro el e1 e2
  obtain ⟨sa,na,w1⟩:=t1
  obtain ⟨sb,nb,w2⟩:=t2
  have li:(pd.toList.take i).length=i:=by simp;lia
  revert el li
  generalize pd.toList.take i=pre
  generalize pd.toList.drop (i+2)=post
  intro el li
  rw [el] at hc
  obtain ⟨m,c1,c2⟩:=hc.app
  obtain ⟨u1,u2,u3,v1,v2,v3,c3⟩:=c2
  simp only at u1 u2 u3 v1 v2 v3 c3
  subst u1
  subst v1
  have le3:=c3.le
  refine vC C (fun i hi=>da _ (j9 hi)) e1 e2 u2 v2 (by lia) u3 v3 fun b g' pb ob sb=>h b _ g' pb (fun j hj=>ob j (.inr (by lia))) ?_ ?_
  · have:((pd.setIfInBounds i (sa,na+nb,w1)).eraseIdxIfInBounds (i+1)).toList=pre++((sa,na+nb,w1)::post):=by
      have hs:i+1 < (pd.setIfInBounds i (sa,na+nb,w1)).size:=by simpa using hi
      rw [Array.eraseIdxIfInBounds,dif_pos hs,Array.toList_eraseIdx,Array.toList_setIfInBounds,el]
      subst li
      simp [List.eraseIdx_append_of_length_le]
    rw [this]
    refine (c1.ext fun j _ hj=>ob j (.inl hj)).join ⟨rfl,by show 1≤na+nb;exact Nat.lt_add_right _ ‹_›,by rw [←Nat.add_assoc];exact sb,?_⟩
    show Ch O key b post (sa+(na+nb)) lo
    rw [←Nat.add_assoc]
    exact c3.ext fun j hj _=>ob j (.inr hj)
  · have hs:i+1 < (pd.setIfInBounds i (sa,na+nb,w1)).size:=by simpa using hi
    rw [Array.eraseIdxIfInBounds,dif_pos hs,Array.size_eraseIdx]
    simp
    lia
theorem xo {c:Prop} [Decidable c] {x y:Nat} {Q:Bool→SortSt→Prop} {st:SortSt} (h:∀i,i=x∨i=y→wpS (model prog w) A E s (mergeAt' i) Q st):wpS (model prog w) A E s (mergeAt' (if c then x else y)) Q st:=by
  split
  · exact h _ (.inl rfl)
  · exact h _ (.inr rfl)
theorem ni (C:Cmp prog w A s κ O key dom) {Q:Unit→SortSt→Prop} (da:∀x∈a.toList,dom x) (h:∀b pd' g',b.toList.Perm a.toList→So O key b 0 a.size→Q () (SortSt.mk' κ b pd' g' none)):wpS (model prog w) A E s sortRuns' Q (SortSt.mk' κ a #[] g none):=by
  refine wpS_bind (wpS_get ?_)
  refine wpS_bind (wpS_mono (wpS_forRange (I:=fun x c st'=>∃b lo pd g,st'=SortSt.mk' κ b pd g none∧b.toList.Perm a.toList∧c=(none,lo)∧lo≤a.size∧(x≤lo∨lo=a.size)∧Ch O key b pd.toList 0 lo)
    (Q:=fun c st'=>∃b pd g,st'=SortSt.mk' κ b pd g none∧b.toList.Perm a.toList∧c=(none,a.size)∧Ch O key b pd.toList 0 a.size) ?s1 ?s2 ⟨a,0,#[],g,rfl,List.Perm.refl _,rfl,by exact Nat.zero_le _,by (solve_by_elim (maxDepth:=3) only [*,Nat.le_trans,Nat.lt_of_lt_of_le,Nat.lt_of_le_of_lt,Nat.le_of_lt]),rfl⟩) ?s3)
  case s2=>
    rintro c st' ⟨b,lo,pd,g,rfl,p1,rfl,p2,p3,p4⟩
    have:lo=a.size:=by
      rcases p3 with p3 | p3
      · have p3':max 0 a.size≤lo:=p3
        exact Nat.le_antisymm ‹_› ‹_›
      · exact p3
    subst this
    exact ⟨b,pd,g,rfl,p1,rfl,p4⟩
  case s1=>
    rintro x c st' - x2 ⟨b,lo,pd,g,rfl,p1,rfl,p2,p3,p4⟩
    have bz:b.size=a.size:=by have:=p1.length_eq;simpa using this
    refine BQ fun R hR=>?_
    have Rd:∀b pd g,b.toList.Perm a.toList→Ch O key b pd.toList 0 a.size→R (.done (none,a.size)) (SortSt.mk' κ b pd g none):=fun b pd g q1 q2=>by rw [hR];exact ⟨b,pd,g,rfl,q1,rfl,q2⟩
    have Ry:∀b lo pd g,b.toList.Perm a.toList→lo≤a.size→(x+1≤lo∨lo=a.size)→Ch O key b pd.toList 0 lo→R (.yield (none,lo)) (SortSt.mk' κ b pd g none):=fun b lo pd g q1 q2 q3 q4=>by rw [hR];exact ⟨b,lo,pd,g,rfl,q1,rfl,q2,q3,q4⟩
    clear hR
    dsimp -zeta only
    extract_lets
    refine ij (fun z=>?_) (fun z=>?_)
    · have:lo=a.size:=by exact Nat.le_antisymm ‹_› ‹_›
      subst this
      exact wpS_pure (Rd b pd g p1 p4)
    have z':lo < a.size:=by exact Nat.lt_of_not_le ‹_›
    refine wpS_bind (sO C (fun x hx=>da x (p1.mem_iff.mp hx)) (lo:=lo) (nrem:=a.size - lo) (by exact Nat.sub_pos_of_lt ‹_›) (by lia) fun n c n1 n2 sc ss=>?_)
    dsimp -zeta only
    extract_lets
    rename Unit→Nat→_=>jp
    have J:∀(n:Nat) (c:Array Keyed),1≤n→n≤a.size - lo→Sx b c lo (lo+(a.size - lo))→So O key c lo (lo+n)→wpS (model prog w) A E s (jp () n) R (SortSt.mk' κ c pd g none):=by
      intro n c n1 n2 sc ss
      have cp:c.toList.Perm a.toList:=sc.perm.trans p1
      have ch:Ch O key c pd.toList 0 lo:=p4.ext fun j _ hj=>sc.out j (.inl hj)
      refine wpS_bind (wpS_get ?_)
      dsimp -zeta only
      extract_lets
      rename Unit→_=>jq
      have K:∀c pd g,c.toList.Perm a.toList→Ch O key c pd.toList 0 lo→So O key c lo (lo+n)→wpS (model prog w) A E s (jq ()) R (SortSt.mk' κ c pd g none):=by
        intro c pd g cp ch ss
        refine wpS_bind (wpS_modify (wpS_pure (Ry c (lo+n) (pd.push (lo,n,0)) g cp (by lia) (by lia) ?_)))
        rw [Array.toList_push]
        exact ch.join (Ch.one ss n1)
      clear_value jq
      cases eb:pd.back? with
      | none=>exact K c pd g cp ch ss
      | some t=>
        dsimp -zeta only
        refine wpS_bind (wpS_mono (wpS_forRange (I:=fun x r st'=>r=(none,())∧∃c pd g,st'=SortSt.mk' κ c pd g none∧c.toList.Perm a.toList∧Ch O key c pd.toList 0 lo∧So O key c lo (lo+n))
          (Q:=fun r st'=>r=(none,())∧∃c pd g,st'=SortSt.mk' κ c pd g none∧c.toList.Perm a.toList∧Ch O key c pd.toList 0 lo∧So O key c lo (lo+n)) ?t1 (fun _ _ q=>q) ⟨rfl,c,pd,g,rfl,cp,ch,ss⟩) ?t3)
        case t3=>
          rintro r st' ⟨rfl,c,pd,g,rfl,cp,ch,ss⟩
          refine wpS_bind (wpS_modify (K c _ g cp (ch.map ?_) ss))
          rw [Array.toList_modify]
          refine zw _ ?_ _ _
          exact fun _=>⟨rfl,rfl⟩
        case t1=>
          rintro y r st' - - ⟨rfl,c,pd,g,rfl,cp,ch,ss⟩
          refine wpS_bind (wpS_get ?_)
          dsimp only
          by_cases pz:pd.size > 1
          · rw [if_pos pz,getElem?_pos pd (pd.size - 2) (by lia)]
            refine ij (fun _=>?_) (fun _=>?_)
            · exact wpS_pure ⟨rfl,c,pd,g,rfl,cp,ch,ss⟩
            · have cz:c.size=a.size:=by have:=cp.length_eq;simpa using this
              refine wpS_bind (oQ C (fun x hx=>da x (cp.mem_iff.mp hx)) (i:=pd.size - 2) (lo:=lo) (by lia) (by lia) ch fun d pd' g' dp od dc _=>?_)
              exact wpS_pure ⟨rfl,d,pd',g',rfl,dp.trans cp,dc,ss.ext fun j j1 _=>od j j1⟩
          · rw [if_neg pz]
            exact wpS_pure ⟨rfl,c,pd,g,rfl,cp,ch,ss⟩
    clear_value jp
    refine ij (fun y=>?_) (fun y=>?_)
    · refine wpS_bind (wpS_lift (wpAny_rule ⟨rfl,?_⟩))
      have cz:=sc.size
      refine wpS_bind (p_ C (a:=c) (lo:=lo) (n:=min (a.size - lo) (minRun' a.size a.size 0)) (ok:=n) (fun x hx=>da x (p1.mem_iff.mp (sc.perm.mem_iff.mp hx))) n1 (by have y':n < minRun' a.size a.size 0:=y;lia) (by lia) ss fun d sd ds=>?_)
      refine a_ (by simp) ?_
      exact J _ d (by have y':n < minRun' a.size a.size 0:=y;lia) (by lia) (sc.trans ⟨sd.perm,fun j hj=>sd.out j (by lia)⟩) ds
    · exact J n c n1 n2 sc ss
  case s3=>
    rintro c st' ⟨b,pd,g,rfl,p1,rfl,p2⟩
    refine wpS_bind (wpS_mono (wpS_forRange (I:=fun x r st'=>r=(none,())∧∃c pd g,st'=SortSt.mk' κ c pd g none∧c.toList.Perm a.toList∧Ch O key c pd.toList 0 a.size∧(pd.size+x≤a.size∨pd.size≤1))
      (Q:=fun r st'=>r=(none,())∧∃c pd g,st'=SortSt.mk' κ c pd g none∧c.toList.Perm a.toList∧Ch O key c pd.toList 0 a.size∧pd.size≤1) ?t1 ?t2 ⟨rfl,b,pd,g,rfl,p1,p2, .inl (by have:=p2.le;simp at this;assumption)⟩) ?t3)
    case t2=>
      rintro r st' ⟨rfl,c,pd,g,rfl,cp,ch,hz⟩
      refine ⟨rfl,c,pd,g,rfl,cp,ch,?_⟩
      rcases hz with hz | hz
      · have hz':pd.size+max 0 a.size≤a.size:=hz
        lia
      · exact hz
    case t1=>
      rintro y r st' - - ⟨rfl,c,pd,g,rfl,cp,ch,hz⟩
      refine wpS_bind (wpS_get ?_)
      refine ij (fun z=>?_) (fun z=>?_)
      · exact wpS_pure ⟨rfl,c,pd,g,rfl,cp,ch,z⟩
      · have z':1 < pd.size:=Nat.lt_of_not_le z
        have cz:c.size=a.size:=by have:=cp.length_eq;simpa using this
        extract_lets
        refine wpS_bind (xo fun i hi=>?_)
        refine oQ C (fun x hx=>da x (cp.mem_iff.mp hx)) (i:=i) (lo:=a.size) ?_ (by exact Nat.le_of_eq (Eq.symm ‹_›)) ch fun d pd' g' dp od dc dz=>?_
        · rcases hi with rfl | rfl
          · show pd.size - 2 - 1+1 < pd.size
            lia
          · show pd.size - 2+1 < pd.size
            lia
        · exact wpS_pure ⟨rfl,d,pd',g',rfl,dp.trans cp,dc,by lia⟩
    case t3=>
      rintro r st' ⟨rfl,c,pd,g,rfl,cp,ch,hz⟩
      refine wpS_pure (h c pd g cp ?_)
      obtain ⟨l⟩:=pd
      match l,hz,ch with
      | [],_,ch=>
        have:0=a.size:=ch
        rw [←this]
        exact fun i j _ _ q=>by lia
      | [t],_,ch=>
        obtain ⟨_,_,s1,e⟩:=ch
        have e':0+t.2.1=a.size:=e
        rw [e'] at s1
        exact s1
      | _::_::_,hz,_=>simp at hz
end
end NhLS
namespace NhSG
set_option autoImplicit false
open PySem PyProof PyProof.Rows PySem.W
abbrev Ky:=Int×List Nat
def gK (a b:Ky):Bool:=decide (a.1 < b.1)||(decide (a.1=b.1)&&decide (a.2 < b.2))
theorem ltKy_iff {a b:Ky}:gK a b=true↔a.1 < b.1∨(a.1=b.1∧a.2 < b.2):=by simp [gK]
theorem qa {a b:Ky}:gK a b=false↔¬(a.1 < b.1∨(a.1=b.1∧a.2 < b.2)):=by rw [←ltKy_iff];simp
def nj (hp:Heap):Value→Option Ky
  | .ref a=>(hp.get? a).bind fun o=>match o.data with
    | .seq xs _=>match xs.toList with
      | [.int n _, .str z _]=>some (n,z.cps.toList)
      | _=>none
    | _=>none
  | _=>none
theorem zz {hp:Heap} {a:Addr} {o:Obj} {xs:Array Value} {k:Nat} {n:Int} {t u:Tok} {z:Str} (ho:hp.get? a=some o) (hd:o.data= .seq xs k) (hx:xs.toList=[.int n t, .str z u]):nj hp (.ref a)=some (n,z.cps.toList):=by
  simp [nj,ho,hd,hx]
theorem ul {hp:Heap} {v:Value} {y:Ky} (h:nj hp v=some y):∃a o xs k t z u,v= .ref a∧hp.get? a=some o∧o.data= .seq xs k∧xs.toList=[.int y.1 t, .str z u]∧y.2=z.cps.toList:=by
  unfold nj at h
  split at h
  · rename_i a
    obtain ⟨o,ho,h⟩:=Option.bind_eq_some_iff.mp h
    split at h
    · rename_i xs k hd
      split at h
      · rename_i n t z u hx
        cases h
        exact ⟨a,o,xs,k,t,z,u,rfl,ho,hd,hx,rfl⟩
      · cases h
    · cases h
  · cases h
@[reducible] def gl (hp:Heap):PyProof.Rows.KeyKind where
  α:=Ky
  blt:=gK
  irrefl a:=by
    rw [qa]
    rintro (h | h)
    · omega
    · exact List.lt_irrefl _ h.2
  trans a b c h1 h2:=by
    rw [ltKy_iff] at *
    rcases h1 with h1 | h1
    · rcases h2 with h2 | h2
      · exact .inl (by omega)
      · exact .inl (by omega)
    · rcases h2 with h2 | h2
      · exact .inl (by omega)
      · exact .inr ⟨by omega,List.lt_trans h1.2 h2.2⟩
  negTrans a b c h:=by
    rw [ltKy_iff] at *
    rw [ltKy_iff]
    by_cases hab:a.1 < b.1
    · exact .inl (.inl hab)
    · by_cases hbc:b.1 < c.1
      · exact .inr (.inl hbc)
      · have e:a.1=c.1∧a.2 < c.2:=by
          rcases h with h | h
          · omega
          · exact h
        by_cases hab2:a.2 < b.2
        · exact .inl (.inr ⟨by omega,hab2⟩)
        · exact .inr (.inr ⟨by omega,List.lt_of_le_of_lt (List.not_lt.mp hab2) e.2⟩)
  total a b h1 h2:=by
    rw [qa] at *
    have e:a.1=b.1:=by
      have n1:¬a.1 < b.1:=fun z=>h1 (.inl z)
      have n2:¬b.1 < a.1:=fun z=>h2 (.inl z)
      omega
    have e2:a.2=b.2:=List.le_antisymm (List.not_lt.mp fun z=>h2 (.inr ⟨e.symm,z⟩)) (List.not_lt.mp fun z=>h1 (.inr ⟨e,z⟩))
    exact Prod.ext e e2
  keyOf:=nj hp
  dflt:=(0,[])
def ER (prog:Program) (w:World) (A:Around) (κ:PyProof.Rows.KeyKind) (kd:SortKind) (s:Shared):Prop:=
  ∀(E:Value→Shared→Prop) (x y:Value) (a b:κ.α) {Q:Bool→Shared→Prop},κ.keyOf x=some a→κ.keyOf y=some b→Q (κ.blt a b) s→wpAny (model prog w) A (keyLt' kd x y) Q E s
theorem zA {prog:Program} {w:World} {A:Around} {s:Shared}:ER prog w A (gl s.heap) (tuples' true) s:=fun E x y a b Q ha hb hq=>by
  obtain ⟨ax,ox,xs,kx,tx,zx,ux,rfl,hox,hdx,hxx,ea⟩:=ul ha
  obtain ⟨ay,oy,ys,ky,ty,zy,uy,rfl,hoy,hdy,hyy,eb⟩:=ul hb
  refine kat_lt hox hdx hoy hdy ?_
  have fin:decide (xs.size < ys.size)=false:=by
    have l1:xs.size=2:=by rw [←Array.length_toList,hxx];rfl
    have l2:ys.size=2:=by rw [←Array.length_toList,hyy];rfl
    rw [l1,l2]
    rfl
  rw [hxx,hyy,fin]
  show KatLex prog w A true false Q [(.int a.1 tx, .int b.1 ty),(.str zx ux, .str zy uy)] 0 s
  refine kat_cons (wpAny_eqBool_int (kat_go (fun e1=>kat_yes (kat_cons (wpAny_eqBool_str (kat_go (fun e2=>kat_yes (kat_nil ?_)) (fun e2=>kat_no ?_))))) (fun e1=>kat_no ?_)))
  · have e1:a.1=b.1:=by simpa using e1
    have e2:zx=zy:=by simpa using e2
    have:gK a b=false:=by
      rw [qa,ea,eb,e2]
      rintro (z | z)
      · omega
      · exact List.lt_irrefl _ z.2
    rw [←this]
    exact hq
  · have e1:a.1=b.1:=by simpa using e1
    show wpAny (model prog w) A (oneLt' false (.str zx ux) (.str zy uy)) Q _ s
    refine kat_one _ _ (PySem.P.lt_str ?_)
    have:gK a b=decide (zx.cps.toList < zy.cps.toList):=by
      unfold gK
      rw [←ea,←eb]
      simp [e1]
    have hq':Q (gK a b) s:=hq
    rw [this] at hq'
    exact hq'
  · have e1:¬a.1=b.1:=by simpa using e1
    show wpAny (model prog w) A (oneLt' true (.int a.1 tx) (.int b.1 ty)) Q _ s
    refine oneLt_int ?_
    have:gK a b=decide (a.1 < b.1):=by
      unfold gK
      simp [e1]
    have hq':Q (gK a b) s:=hq
    rw [this] at hq'
    exact hq'
end NhSG
namespace NhSG
set_option autoImplicit false
open PySem PyProof PyProof.Rows PySem.W
def Keep (h h':Heap):Prop:=∀b o,h.get? b=some o→h'.get? b=some o
theorem Keep.refl (h:Heap):Keep h h:=fun _ _ e=>e
theorem Keep.trans {h h1 h2:Heap} (a:Keep h h1) (b:Keep h1 h2):Keep h h2:=fun c o e=>b c o (a c o e)
def IsKy (hp:Heap) (v:Value) (y:Ky):Prop:=∃c o xs k t z u,v= .ref c∧hp.get? c=some o∧o.cls= .type "tuple"∧o.data= .seq xs k∧xs.toList=[.int y.1 t, .str z u]∧y.2=z.cps.toList
theorem IsKy.keep {h h':Heap} {v:Value} {y:Ky} (a:IsKy h v y) (k:Keep h h'):IsKy h' v y:=by
  obtain ⟨c,o,xs,n,t,z,u,e,ho,r⟩:=a
  exact ⟨c,o,xs,n,t,z,u,e,k c o ho,r⟩
theorem IsKy.key {h:Heap} {v:Value} {y:Ky} (a:IsKy h v y):nj h v=some y:=by
  obtain ⟨c,o,xs,n,t,z,u,rfl,ho,hc,hd,hx,e⟩:=a
  rw [zz ho hd hx,←e]
def KA (hp:Heap):List Value→List Ky→Prop
  | [],[]=>True
  | v::vs,y::ys=>IsKy hp v y∧KA hp vs ys
  | _,_=>False
theorem KA.keep {h h':Heap} (k:Keep h h'):∀{vs:List Value} {ys:List Ky},KA h vs ys→KA h' vs ys
  | [],[],_=>trivial
  | v::vs,y::ys,a=>⟨a.1.keep k,KA.keep k a.2⟩
  | [],_::_,a=>a.elim
  | _::_,[],a=>a.elim
theorem KA.len {h:Heap}:∀{vs:List Value} {ys:List Ky},KA h vs ys→vs.length=ys.length
  | [],[],_=>rfl
  | v::vs,y::ys,a=>by simp [KA.len a.2]
  | [],_::_,a=>a.elim
  | _::_,[],a=>a.elim
theorem KA.snoc {h:Heap} {v:Value} {y:Ky} (b:IsKy h v y):∀{vs:List Value} {ys:List Ky},KA h vs ys→KA h (vs++[v]) (ys++[y])
  | [],[],_=>⟨b,trivial⟩
  | _::_,_::_,a=>⟨a.1,KA.snoc b a.2⟩
  | [],_::_,a=>a.elim
  | _::_,[],a=>a.elim
theorem KA.tups {h:Heap}:∀{vs:List Value} {ys:List Ky},KA h vs ys→∃fs,KatTups h vs fs∧(∀f∈fs,∃n t,f= .int n t)∧fs.length=vs.length
  | [],[],_=>⟨[],trivial,(fun _ z=>by cases z),rfl⟩
  | v::vs,y::ys,a=>by
    obtain ⟨fs,t,hf,hl⟩:=KA.tups a.2
    obtain ⟨c,o,xs,n,tk,z,u,rfl,ho,hc,hd,hx,e⟩:=a.1
    refine ⟨.int y.1 tk::fs,KatTups.cons ho hc hd ?_ t,fun f hm=>?_,by simp [hl]⟩
    · rw [←Array.getElem?_toList,hx]
      rfl
    · rcases List.mem_cons.mp hm with rfl | hm
      · exact ⟨_,_,rfl⟩
      · exact hf f hm
  | [],_::_,a=>a.elim
  | _::_,[],a=>a.elim
theorem KA.at {h:Heap}:∀{ks:List Value} {ys:List Ky} {i:Nat},KA h ks ys→i < ks.length→nj h (ks.getD i Value.none)=some (ys.getD i (0,[]))
  | k::ks,y::ys,0,a,_=>a.1.key
  | k::ks,y::ys,i+1,a,hi=>by
    have:=KA.at (i:=i) a.2 (by simpa using hi)
    simpa using this
  | [],_,_,_,hi=>by simp at hi
  | _::_,[],_,a,_=>a.elim
def vD (ys:List Ky) (vs out:List Value):Prop:=∃ps:List (Ky×Value),ps.Perm (ys.zip vs)∧ps.Pairwise (fun p q=>gK q.1 p.1=false)∧out=ps.map (·.2)
@[reducible] def rf (h:Heap) (p:Keyed):Ky:=(nj h p.1).getD (0,[])
theorem Eo {prog:Program} {w:World} {A:Around} {s:Shared}:NhLS.Cmp prog w A s (tuples' true) (gl s.heap).toKeyOrd (rf s.heap) (fun p=>∃y,nj s.heap p.1=some y):=
  ⟨fun E x y Q ⟨a,ha⟩ ⟨b,hb⟩ hq=>by
    have hq':Q (gK (rf s.heap x) (rf s.heap y)) s:=hq
    unfold rf at hq'
    rw [ha,hb] at hq'
    exact zA E x.1 y.1 a b ha hb hq'⟩
theorem KA.zip {h:Heap}:∀{ks:List Value} {ys:List Ky} {vs:List Value},KA h ks ys→(ks.zip vs).map (fun p=>(rf h p,p.2))=ys.zip vs
  | [],[],_,_=>by simp
  | k::ks,y::ys,[],_=>by simp
  | k::ks,y::ys,v::vs,a=>by
    simp only [List.zip_cons_cons,List.map_cons]
    rw [KA.zip a.2]
    congr 1
    show ((nj h k).getD (0,[]),v)=(y,v)
    rw [a.1.key]
    rfl
  | [],_::_,_,a=>a.elim
  | _::_,[],_,a=>a.elim
theorem KA.dom {h:Heap} {vs:List Value}:∀{ks:List Value} {ys:List Ky},KA h ks ys→∀p∈ks.zip vs,∃y,nj h p.1=some y:=fun {ks ys} a p hp=>by
  have hk:p.1∈ks:=(List.of_mem_zip hp).1
  clear hp
  induction ks generalizing ys with
  | nil=>cases hk
  | cons k ks ih=>cases ys with
    | nil=>exact a.elim
    | cons y ys=>
      rcases List.mem_cons.mp hk with e | hk
      · rw [e];exact ⟨y,a.1.key⟩
      · exact ih a.2 hk
theorem BT {h:Heap} {ks:List Value} {ys:List Ky} {vs:List Value} {b:Array Keyed} (hK:KA h ks ys) (hp:b.toList.Perm (ks.zip vs)) (hs:NhLS.So (gl h).toKeyOrd (rf h) b 0 b.size):vD ys vs (b.map (·.2)).toList:=by
  refine ⟨b.toList.map (fun p=>(rf h p,p.2)),?_,?_,?_⟩
  · rw [←hK.zip (vs:=vs)]
    exact hp.map _
  · rw [List.pairwise_map,List.pairwise_iff_getElem]
    intro i j hi hj hij
    rw [NhLS.iB,NhLS.iB]
    exact hs i j (Nat.zero_le _) hij (by simpa using hj)
  · rw [Array.toList_map,List.map_map]
    rfl
section
variable {prog:Program} {w:World} {A:Around} {E:Value→Shared→Prop} {s:Shared} {a kS:Addr} {ks vs:List Value} {ys:List Ky} {e e1:Nat} {P:PySem.Fin→Shared→Prop}
theorem um {st:SortSt} (hk:s.heap.get? kS=some (seqObj "list" ks.toArray e)) (ha:s.heap.get? a=some (seqObj "list" #[] e1)) (hka:kS≠a) (h64:vs.length < 65536) (hl:ks.length=vs.length) (hn:(arrOf st).size=vs.length) (hfl:failedOf st=none)
    (h:∀h' tk c,h'.get? a=some (seqObj "list" ((arrOf st).map (·.2)) c)→(∀b o,b≠a→b≠kS→s.heap.get? b=some o→h'.get? b=some o)→P (.done (.ret .none)) {s with heap:=h',toks:=tk}):
    wpAny (model prog w) A (ksk_tail a false e1 (.ref kS) st) P E s:=by
  have s1:=Heap.SameBut.update s.heap kS (Obj.mapSeq fun _=>(#[]:Array Value))
  have na1:(s.heap.update kS (Obj.mapSeq fun _=>(#[]:Array Value))).get? a=some (seqObj "list" #[] e1):=(s1.2 a hka.symm).trans ha
  have s2:=Heap.SameBut.update (s.heap.update kS (Obj.mapSeq fun _=>(#[]:Array Value))) a (Obj.mapSeq fun _=>(arrOf st).map (·.2))
  obtain ⟨c2,hc2⟩:∃c2,((s.heap.update kS (Obj.mapSeq fun _=>(#[]:Array Value))).update a (Obj.mapSeq fun _=>(arrOf st).map (·.2))).get? a=some (seqObj "list" ((arrOf st).map (·.2)) c2):=⟨_,get?_update_seq na1 fun _=>(arrOf st).map (·.2)⟩
  unfold ksk_tail
  try dsimp only
  refine wpAny_bind (listUpdate_at hk rfl ?_ (by rw [List.size_toArray,sizeLine_eq];omega) (Nat.zero_le _))
  refine wpAny_bind (wpAny_letGo ?_)
  refine wpAny_bind (seqEpoch_at na1 rfl ?_)
  simp only [Bool.false_eq_true,if_false]
  refine wpAny_bind (listUpdate_at na1 rfl ?_ (Nat.zero_le _) (by rw [Array.size_map,hn,sizeLine_eq];omega))
  rw [hfl]
  simp only [bne_self_eq_false,Bool.false_eq_true,if_false]
  exact wpAny_pure (h _ _ c2 hc2 fun b o h1 h2 q=>(s2.2 b h1).trans ((s1.2 b h2).trans q))
theorem BU (hK:KA s.heap ks ys) (hk:s.heap.get? kS=some (seqObj "list" ks.toArray e)) (ha:s.heap.get? a=some (seqObj "list" #[] e1)) (hka:kS≠a) (h64:vs.length < 65536) (hl:ks.length=vs.length)
    (h:∀h' tk out c,h'.get? a=some (seqObj "list" out c)→vD ys vs out.toList→(∀b o,b≠a→b≠kS→s.heap.get? b=some o→h'.get? b=some o)→P (.done (.ret .none)) {s with heap:=h',toks:=tk}):
    wpAny (model prog w) A (ksk_end a false vs.toArray e1 (.ref kS) ks.toArray) P E s:=by
  have hzs:(ks.toArray.zip vs.toArray).size=vs.length:=by rw [Array.size_zip,List.size_toArray,List.size_toArray,hl,Nat.min_self]
  unfold ksk_end
  try dsimp only
  simp only [Bool.false_eq_true,if_false]
  by_cases h2:vs.toArray.size < 2
  · rw [if_pos h2,if_pos h2]
    refine wpAny_bind (wpAny_pure ?_)
    rw [StateT.run_pure]
    refine wpAny_bind (wpAny_pure ?_)
    try dsimp only
    refine um (st:=SortSt.mk' general' (ks.toArray.zip vs.toArray) #[] 7 none) hk ha hka h64 hl hzs rfl fun h' tk c h1 h3=>h h' tk _ c h1 ⟨ys.zip vs,List.Perm.refl _,?_,?_⟩ h3
    · rw [List.size_toArray] at h2
      rw [List.pairwise_iff_getElem]
      intro i j hi hj hij
      simp at hj
      omega
    · have e1:(ys.zip vs).map (·.2)=vs:=by rw [List.map_snd_zip];have:=hK.len;omega
      have e2:((arrOf (SortSt.mk' general' (ks.toArray.zip vs.toArray) #[] 7 none)).map (·.2)).toList=(ks.zip vs).map (·.2):=by
        show ((ks.toArray.zip vs.toArray).map (·.2)).toList=_
        simp
      rw [e1,e2,List.map_snd_zip]
      omega
  · rw [if_neg h2,if_neg h2]
    rw [List.size_toArray] at h2
    obtain ⟨fs,tt,hf,lf⟩:=hK.tups
    refine wpAny_bind (kat_kind (T:= .type "int") tt (by omega) (fun v hv=>?_) (by decide) ?_)
    · obtain ⟨n,t,rfl⟩:=hf v hv
      exact .now
    · have run:=NhLS.ni (E:=E) (a:=ks.toArray.zip vs.toArray) (g:=7) (Eo (prog:=prog) (w:=w) (A:=A) (s:=s)) (Q:=fun _ st'=>∃b pd g,st'=SortSt.mk' (tuples' true) b pd g none∧b.toList.Perm (ks.zip vs)∧NhLS.So (gl s.heap).toKeyOrd (rf s.heap) b 0 b.size)
        (by simpa using hK.dom) fun b pd g hp hs=>⟨b,pd,g,rfl,by simpa using hp,by have:=hp.length_eq;simp only [Array.length_toList] at this;rw [this];exact hs⟩
      refine wpAny_bind (wpAny_mono run ?_ fun _ _ e=>e)
      rintro ⟨⟨⟩,st'⟩ s' ⟨es,b,pd,g,e,hp,hs⟩
      subst es
      dsimp only at e
      subst e
      try dsimp only
      have hz:b.size=vs.length:=by have:=hp.length_eq;simpa [hl] using this
      exact um (st:=SortSt.mk' (tuples' true) b pd g none) hk ha hka h64 hl hz rfl fun h' tk c h1 h3=>h h' tk _ c h1 (BT hK hp hs) h3
def kD (prog:Program) (w:World) (A:Around) (f:Value) (s:Shared) (v:Value) (y:Ky):Prop:=∀(h:Heap) (tk:Nat),Keep s.heap h→
  wpAny (model prog w) A (call f [v]) (fun r s'=>∃h' tk',s'={s with heap:=h',toks:=tk'}∧Keep h h'∧IsKy h' r y) (fun _ _=>False) {s with heap:=h,toks:=tk}
theorem zB {f:Value} {s0:Shared} (hs0:Keep s0.heap s.heap) (hss:∃tk,s={s0 with heap:=s.heap,toks:=tk}) (h0a:s0.heap.get? a=none) (h0k:s0.heap.get? kS=none) (hk:s.heap.get? kS=some (seqObj "list" #[] 0)) (ha:s.heap.get? a=some (seqObj "list" #[] e1)) (hka:kS≠a) (h64:vs.length < 65536) (hl:ys.length=vs.length)
    (turn:∀(i:Nat) (v:Value) (y:Ky),vs[i]? =some v→ys[i]? =some y→kD prog w A f s0 v y)
    (h:∀h' tk out c,h'.get? a=some (seqObj "list" out c)→vD ys vs out.toList→Keep s0.heap h'→P (.done (.ret .none)) {s0 with heap:=h',toks:=tk}):
    wpAny (model prog w) A (ksk_rest a f false vs.toArray e1 (.ref kS)) P E s:=by
  unfold ksk_rest
  refine wpAny_bind (wpAny_rule ?_)
  first
    | rw [List.forIn_toArray]
    | (rw [←Array.forIn_toList];simp only [List.toList_toArray])
    | rw [←Array.forIn_toList]
  obtain ⟨tk0,es⟩:=hss
  refine wpAny_bind (ksk_fold (fun i s'=>∃h' tk kL e,s'={s0 with heap:=h',toks:=tk}∧Keep s0.heap h'∧h'.get? kS=some (seqObj "list" kL.toArray e)∧h'.get? a=some (seqObj "list" #[] e1)∧KA h' kL (ys.take i)) vs 0 s
    ⟨s.heap,tk0,[],0,es,hs0,hk,ha,by simp [KA]⟩ ?step ?done)
  case step=>
    rintro j x s' hx ⟨h',tk,kL,e,rfl,F',N1,N2,hK⟩
    simp only [Nat.zero_add] at hK ⊢
    have hj:j < vs.length:=(List.getElem?_eq_some_iff.mp hx).1
    obtain ⟨y,hyj⟩:∃y,ys[j]? =some y:=⟨_,List.getElem?_eq_getElem (by omega)⟩
    have hz:kL.length≤vs.length:=by
      have h1:=hK.len
      rw [List.length_take] at h1
      omega
    refine wpAny_bind (wpAny_attempt (wpAny_mono (turn j x y hx hyj h' tk F') (fun v s'' he=>?_) fun _ _ hF=>hF.elim))
    obtain ⟨g,tk2,rfl,kg,hy⟩:=he
    try dsimp only
    have nk:=kg _ _ N1
    have na:=kg _ _ N2
    have s1:=Heap.SameBut.update g kS (Obj.mapSeq (·.push v))
    obtain ⟨c2,hc2⟩:∃c2,(g.update kS (Obj.mapSeq (·.push v))).get? kS=some (seqObj "list" (kL.toArray.push v) c2):=⟨_,get?_update_seq nk (·.push v)⟩
    have ek:ys.take (j+1)=ys.take j++[y]:=by rw [List.take_add_one,hyj];simp
    have ea:kL.toArray.push v=(kL++[v]).toArray:=by simp
    have ng:∀{ks':List Value} {ys':List Ky},KA g ks' ys'→KA (g.update kS (Obj.mapSeq (·.push v))) ks' ys':=fun {ks'} {ys'} q=>by
      induction ks' generalizing ys' with
      | nil=>cases ys' with
        | nil=>trivial
        | cons _ _=>exact q.elim
      | cons k ks' ih=>cases ys' with
        | nil=>exact q.elim
        | cons y' ys'=>
          refine ⟨?_,ih q.2⟩
          obtain ⟨c,o,xs,n,t,z,u,ec,ho,hcl,r⟩:=q.1
          refine ⟨c,o,xs,n,t,z,u,ec,(s1.2 c ?_).trans ho,hcl,r⟩
          intro e3
          subst e3
          rw [nk] at ho
          cases ho
          have e4:Value.type "list"=Value.type "tuple":=hcl
          injection e4 with e5
          exact absurd e5 (by decide)
    refine wpAny_bind (listUpdate_at nk rfl ?_ (by rw [List.size_toArray,sizeLine_eq];omega) (Nat.le_trans (Nat.le_of_eq (Array.size_push ..)) (by rw [List.size_toArray,sizeLine_eq];omega)))
    refine wpAny_pure ⟨rfl,_,_,kL++[v],c2,rfl,fun b o q=>?_,by rw [←ea];exact hc2,(s1.2 a hka.symm).trans na,by rw [ek];exact ng (KA.snoc hy (hK.keep kg))⟩
    refine (s1.2 b fun e3=>?_).trans (kg _ _ (F' _ _ q))
    subst e3
    rw [h0k] at q
    cases q
  case done=>
    rintro s' ⟨h',tk,kL,e,rfl,F',N1,N2,hK⟩
    have e3:ys.take (0+vs.length)=ys:=List.take_of_length_le (by omega)
    rw [e3] at hK
    try dsimp only
    refine wpAny_bind (listItems_at N1 rfl ?_)
    refine BU (s:={s0 with heap:=h',toks:=tk}) hK N1 N2 hka h64 (by rw [hK.len,hl]) fun h3 tk3 out c g1 g2 g3=>h h3 tk3 out c g1 g2 fun b o q=>g3 b o ?_ ?_ (F' b o q)
    · intro z;subst z;rw [h0a] at q;cases q
    · intro z;subst z;rw [h0k] at q;cases q
theorem zC {f:Value} {n:Nat} {s0:Shared} (hs0:Keep s0.heap s.heap) (hss:∃tk,s={s0 with heap:=s.heap,toks:=tk}) (h0a:s0.heap.get? a=none) (hle:s0.heap.objs.size≤s.heap.objs.size) (ho:s.heap.get? a=some (seqObj "list" vs.toArray n)) (h64:vs.length < 65536) (hl:ys.length=vs.length)
    (turn:∀(i:Nat) (v:Value) (y:Ky),vs[i]? =some v→ys[i]? =some y→kD prog w A f s0 v y)
    (h:∀h' tk out c,h'.get? a=some (seqObj "list" out c)→vD ys vs out.toList→Keep s0.heap h'→P (.done (.ret .none)) {s0 with heap:=h',toks:=tk}):
    wpAny (model prog w) A (ksk_tree a f false) P E s:=by
  have ha:a < s.heap.objs.size:=Heap.lt_size ho
  have s1:=Heap.SameBut.update s.heap a (Obj.mapSeq fun _=>(#[]:Array Value))
  obtain ⟨e1,ho1⟩:∃e1,(s.heap.update a (Obj.mapSeq fun _=>(#[]:Array Value))).get? a=some (seqObj "list" #[] e1):=⟨_,get?_update_seq ho fun _=>#[]⟩
  have hkS:((s.heap.update a (Obj.mapSeq fun _=>(#[]:Array Value))).push (seqObj "tuple" vs.toArray 0)).objs.size=s.heap.objs.size+1:=by rw [size_push',Heap.size_update]
  obtain ⟨tk0,es⟩:=hss
  unfold ksk_tree
  refine wpAny_bind (listItems_at ho rfl ?_)
  refine wpAny_bind (listUpdate_at ho rfl ?_ (by rw [List.size_toArray,sizeLine_eq];omega) (Nat.zero_le _))
  refine wpAny_bind (seqEpoch_at ho1 rfl ?_)
  refine wpAny_bind (wpAny_newTuple ?_ (by show vs.length≤_;rw [sizeLine_eq];omega))
  refine wpAny_bind (wpAny_newList ?_ (Nat.zero_le _))
  refine wpAny_holding ?_
  refine zB (s:={s with heap:=((s.heap.update a (Obj.mapSeq fun _=>(#[]:Array Value))).push (seqObj "tuple" vs.toArray 0)).push (seqObj "list" #[] 0)}) (kS:=((s.heap.update a (Obj.mapSeq fun _=>(#[]:Array Value))).push (seqObj "tuple" vs.toArray 0)).objs.size) (s0:=s0)
    (fun b o q=>?_) ⟨tk0,by rw [es]⟩ h0a (Heap.get?_none_of_le (by rw [hkS];omega)) (Heap.get?_push_size _ rfl) (Heap.get?_push_of_some _ (Heap.get?_push_of_some _ ho1)) (by rw [hkS];exact Nat.ne_of_gt (Nat.lt_succ_of_lt ha)) h64 hl turn h
  refine Heap.get?_push_of_some _ (Heap.get?_push_of_some _ ((s1.2 b fun z=>?_).trans (hs0 b o q)))
  subst z
  rw [h0a] at q
  cases q
end
end NhSG
namespace NhSG
set_option autoImplicit false
open PySem PyProof PyProof.Rows PySem.W
section
variable {prog:Program} {w:World} {A:Around} {E:Value→Shared→Prop} {s:Shared} {l q:Addr} {vs:List Value} {ys:List Ky} {Q:Value→Shared→Prop}
theorem sP (hl:s.heap.IsList l vs.toArray) (hlen:ys.length=vs.length) (h64:vs.length < 65536)
    (turn:∀(i:Nat) (v:Value) (y:Ky),vs[i]? =some v→ys[i]? =some y→kD prog w A.in1.in1 (.ref q) s v y)
    (h:∀D h' tk out c,h'.get? D=some (seqObj "list" out c)→s.heap.objs.size≤D→vD ys vs out.toList→Keep s.heap h'→Q (.ref D) {s with heap:=h',toks:=tk}):
    wpAny (model prog w) A (call (.builtin "sorted") [.ref l] [(Str.ofString "key", .ref q)]) Q E s:=by
  refine call_function_entry_kw kind_sorted plain_sorted entry_sorted (ksk_s1 _ _) ?_
  unfold Builtin.«sorted»
  refine wpAny_bind (m:=checkCount "sorted" 1 1 _) (wpAny_pure ?_)
  refine wpAny_bind (collect_list hl ?_ (by rw [sizeLine_eq];omega))
  refine wpAny_bind (wpAny_newList ?_ (by rw [sizeLine_eq];omega))
  have hsz:((s.heap.push (seqObj "list" #[] 0)).update s.heap.objs.size (Obj.mapSeq (· ++vs.toArray))).objs.size=s.heap.objs.size+1:=by
    rw [Heap.size_update,size_push']
  have hoL:(((s.heap.push (seqObj "list" #[] 0)).update s.heap.objs.size (Obj.mapSeq (· ++vs.toArray))).push (seqObj "list" vs.toArray 0)).get? (s.heap.objs.size+1)=some (seqObj "list" vs.toArray 0):=by
    rw [←hsz];exact Heap.get?_push_size _ rfl
  have keep:Keep s.heap (((s.heap.push (seqObj "list" #[] 0)).update s.heap.objs.size (Obj.mapSeq (· ++vs.toArray))).push (seqObj "list" vs.toArray 0)):=fun b o q=>by
    have hlt:b < s.heap.objs.size:=Heap.lt_size q
    rw [Heap.get?_push_ne _ _ _ (by rw [hsz];exact Nat.ne_of_lt (Nat.lt_succ_of_lt hlt)),Heap.get?_update_ne _ _ _ _ (Nat.ne_of_lt hlt),Heap.get?_push_ne _ _ _ (Nat.ne_of_lt hlt)]
    exact q
  show wpAny _ _ _ _ _ {s with heap:=((s.heap.push (seqObj "list" #[] 0)).update s.heap.objs.size (Obj.mapSeq (· ++vs.toArray))).push (seqObj "list" vs.toArray 0)}
  rw [hsz]
  have h0:s.heap.get? (s.heap.objs.size+1)=none:=Heap.get?_none_of_le (Nat.le_succ _)
  refine wpAny_bind (wpAny_holding (wpAny_call_entry_kw slot_list_sort ⟨_,hoL,rfl⟩ entry_list_sort ?body (ksk_l1 _ _)))
  case body=>
    show wpAny (model prog w) A.in1.in1 (Builtin.«list.sort» ⟨[.ref (s.heap.objs.size+1)],[(Str.ofString "key", .ref q)]⟩) _ _ _
    rw [ksk_t1]
    refine zC (s:={s with heap:=((s.heap.push (seqObj "list" #[] 0)).update s.heap.objs.size (Obj.mapSeq (· ++vs.toArray))).push (seqObj "list" vs.toArray 0)}) (s0:=s) keep ⟨s.toks,rfl⟩ h0 (by rw [size_push',hsz];omega) hoL h64 hlen turn fun h' tk out c g1 g2 g3=>⟨_,rfl,?_⟩
    exact wpAny_pure ⟨_,rfl,h _ h' tk out c g1 (Nat.le_succ _) g2 g3⟩
end
end NhSG
namespace NhSG
set_option autoImplicit false
open PySem
def iT (z:Str):Ky:=(z.length,z.cps.toList)
def qv (a b:Str):Bool:= !gK (iT b) (iT a)
def jO (ws:List Str):List Str:=ws.mergeSort qv
def rY:Value→Option Str
  | .str z _=>some z
  | _=>none
theorem xp {a b:Str} (h:iT a=iT b):a=b:=by
  have e:a.cps.toList=b.cps.toList:=congrArg Prod.snd h
  cases a;cases b
  congr
  exact Array.toList_inj.mp e
theorem vE (a b c:Str) (h1:qv a b=true) (h2:qv b c=true):qv a c=true:=by
  unfold qv at *
  simp only [Bool.not_eq_true'] at *
  exact (PyProof.Rows.KeyOrd.kle_trans (O:=(gl default).toKeyOrd) h1 h2)
theorem vF (a b:Str):(qv a b||qv b a)=true:=by
  unfold qv
  by_cases h:gK (iT b) (iT a)=true
  · have:gK (iT a) (iT b)=false:=PyProof.Rows.KeyOrd.klt_asymm (O:=(gl default).toKeyOrd) h
    simp [this]
  · simp [Bool.not_eq_true _▸h]
theorem xq {a b:Str} (h1:qv a b=true) (h2:qv b a=true):a=b:=by
  unfold qv at *
  simp only [Bool.not_eq_true'] at *
  exact xp ((gl default).total _ _ h2 h1)
theorem oR {qs ws:List Str} (hp:qs.Perm ws) (hs:qs.Pairwise fun a b=>qv a b=true):qs=jO ws:=by
  have h1:(jO ws).Pairwise fun a b=>qv a b=true:=List.pairwise_mergeSort vE vF ws
  have h2:qs.Perm (jO ws):=hp.trans (List.mergeSort_perm ws qv).symm
  exact h2.eq_of_pairwise (fun a b _ _ x y=>xq x y) hs h1
theorem vG {ws:List Str} {vs out:List Value} (hv:vs.map rY=ws.map some) (h:vD (ws.map iT) vs out):out.map rY=(jO ws).map some:=by
  obtain ⟨ps,hp,hs,rfl⟩:=h
  have key:∀(ws:List Str) (vs:List Value),vs.map rY=ws.map some→∀p∈(ws.map iT).zip vs,∃z,p.1=iT z∧rY p.2=some z:=fun ws=>by
    induction ws with
    | nil=>intro vs _ p hp;simp at hp
    | cons w ws ih=>
      intro vs hv p hp
      cases vs with
      | nil=>simp at hp
      | cons v vs=>
        simp only [List.map_cons,List.cons.injEq] at hv
        rw [List.map_cons,List.zip_cons_cons] at hp
        rcases List.mem_cons.mp hp with rfl | hp
        · exact ⟨w,rfl,hv.1⟩
        · exact ih vs hv.2 p hp
  have zm:∀(ws:List Str) (vs:List Value),vs.map rY=ws.map some→((ws.map iT).zip vs).map (fun p=>rY p.2)=ws.map some:=fun ws=>by
    induction ws with
    | nil=>intro vs _;simp
    | cons w ws ih=>
      intro vs hv
      cases vs with
      | nil=>simp at hv
      | cons v vs=>
        simp only [List.map_cons,List.cons.injEq] at hv
        simp only [List.map_cons,List.zip_cons_cons,hv.1,ih vs hv.2]
  have ex:∀ps:List (Ky×Value),(∀p∈ps,∃z,p.1=iT z∧rY p.2=some z)→∃qs:List Str,ps.map (·.1)=qs.map iT∧ps.map (fun p=>rY p.2)=qs.map some:=fun ps=>by
    induction ps with
    | nil=>intro _;exact ⟨[],rfl,rfl⟩
    | cons p ps ih=>
      intro h
      obtain ⟨z,h1,h2⟩:=h p (List.mem_cons_self ..)
      obtain ⟨qs,e1,e2⟩:=ih fun q hq=>h q (List.mem_cons_of_mem _ hq)
      exact ⟨z::qs,by simp [h1,e1],by simp [h2,e2]⟩
  obtain ⟨qs,e1,e2⟩:=ex ps fun p hp'=>key ws vs hv p (hp.mem_iff.mp hp')
  have perm:qs.Perm ws:=by
    have h1:=hp.map (fun p=>rY p.2)
    rw [e2,zm ws vs hv] at h1
    have h2:=h1.filterMap id
    simpa using h2
  have srt:qs.Pairwise fun a b=>qv a b=true:=by
    have h1:(ps.map (·.1)).Pairwise fun a b=>gK b a=false:=List.pairwise_map.mpr hs
    rw [e1,List.pairwise_map] at h1
    exact h1.imp fun h=>by unfold qv;simp [h]
  rw [List.map_map]
  show ps.map (fun p=>rY p.2)=_
  rw [e2,oR perm srt]
end NhSG
namespace NhSG
open PySem PySem.Spec PySem.Calls PyProof PyProof.Rows PySem.W
section
variable {prog:Program} {w:World} {A:Around} {E:Value→Shared→Prop} {s:Shared} {Q:Value→Shared→Prop}
theorem xr {env:Env} {x z:Str} {t:Tok} {m mg mb:Str→Option Value} {p1 p2 p3 p4 pos:Pos} {x1} (hk:env.scope.kind= .function) (hx:env.kindOf x=some .local) (hl:env.kindOf "len"=some .globalImplicit)
    (hn:s.heap.Ns env.locals m) (hm:m x=some (.str z t)) (hg:s.heap.Ns env.globals mg) (hlg:mg "len"=none) (hb:s.heap.Ns env.builtins mb) (hlb:mb "len"=some (.builtin "len")) (hz:z.length≤sizeLine)
    (h:∀h' tk r,Keep s.heap h'→IsKy h' r (iT z)→Q r {s with heap:=h',toks:=tk})
    (hd:(x == ("__debug__":Str))=false:=by decide) (h1:starEach [Expr.Call (.Name "len" p1) [.Name x p2] [] p3, .Name x p4] env=(false,eval (.Call (.Name "len" p1) [.Name x p2] [] p3) env)::starEach [Expr.Name x p4] env:=by rfl)
    (h2:starEach [Expr.Name x p4] env=[(false,eval (.Name x p4) env)]:=by rfl) (h3:starEach [Expr.Name x p2] env=(false,eval (.Name x p2) env)::starEach [] env:=by rfl):
    wpAny (model prog w) A (eval (.Tuple [.Call (.Name "len" p1) [.Name x p2] [] p3, .Name x p4] x1 pos) env) Q E s:=by
  refine wpAny_Tuple_spliced ?_
  rw [h1,h2]
  show wpAny _ _ (spliced ((false,eval (.Call (.Name "len" p1) [.Name x p2] [] p3) env)::backTo pos [(false,eval (.Name x p4) env)])) _ _ s
  refine Calls.spliced_cons ?_
  refine wpAny_Call_Name_kw (Calls.Name_function_global hk hl (Calls.loadGlobal_builtin hg hlg hb hlb ?_) (by decide))
  refine PyProof.Rows.callWith_builtin1 ?_ h3 rfl
  rw [h3]
  show wpAny _ _ (spliced ((false,eval (.Name x p2) env)::backTo p3 (starEach [] env))) _ _ s
  refine Calls.spliced_cons (wpAny_Name (wpAny_loadName_local hk hx hn hm ?_) hd)
  show wpAny _ _ (spliced []) _ _ s
  refine Calls.spliced_nil ?_
  refine len_str (by have:=hz;rw [sizeLine_eq] at this;omega) ?_
  show wpAny _ _ (spliced [(false,standAt pos >>= fun _=>eval (.Name x p4) env)]) _ _ _
  refine Calls.spliced_cons (wpAny_bind (wpAny_standAt (wpAny_Name (wpAny_loadName_local hk hx hn hm ?_) hd)))
  refine Calls.spliced_nil ⟨by rw [sizeLine_eq];simp,?_⟩
  exact h _ _ _ (fun b o e=>Heap.get?_push_of_some _ e) ⟨_,_,_,_,_,z,t,rfl,Heap.get?_push_size _ rfl,rfl,rfl,rfl,rfl⟩
structure KMod (h:Heap):Prop where
  g:∃mg,h.Ns mainGlobals mg∧mg "len"=none
  b:∃mb,h.Ns builtinsNs mb∧mb "len"=some (.builtin "len")
  lim:h.NoLimit
theorem KMod.keeps {h h':Heap} (a:KMod h) (k:Keep h h'):KMod h':=
  ⟨let ⟨mg,e,r⟩:=a.g;⟨mg,e.keeps k,r⟩,let ⟨mb,e,r⟩:=a.b;⟨mb,e.keeps k,r⟩,a.lim.keeps k⟩
theorem rh {f c':Addr} {name qual x z:Str} {t:Tok} {params:Arguments} {scope:Scope} {pm ctv:Value} {p1 p2 p3 p4 pos:Pos} {x1} (M:KMod s.heap) (hroom:A.depth < recursionLimit)
    (ho:s.heap.get? f=some (kla_obj name qual params (.Tuple [.Call (.Name "len" p1) [.Name x p2] [] p3, .Name x p4] x1 pos) scope [] pm c' ctv)) (hcd:s.heap.CodeRec (.ref c') qual) (hz:z.length≤sizeLine)
    (hbind:bindArgs (kla_fn name qual params (.Tuple [.Call (.Name "len" p1) [.Name x p2] [] p3, .Name x p4] x1 pos) scope [] pm (.ref c') ctv) ⟨[.str z t],[]⟩=pure [(x, .str z t)])
    (hx:scope.names.lookup x=some .local) (hlen:scope.names.lookup (Str.ofString "len")=some .globalImplicit) (hco:scope.isCoroutine=false) (hgen:scope.isGenerator=false) (hk:scope.kind= .function) (hcell:∀x∈scope.names,x.2≠ .cell)
    (hd:(x == ("__debug__":Str))=false):kD prog w A (.ref f) s (.str z t) (iT z):=by
  intro h tk kp
  refine wpAny_call (kla_callFunE hroom (kp _ _ ho) rfl hco hgen rfl (hcd.keeps kp) ?_)
  rw [hbind]
  refine wpAny_pure (wpAny_newFunctionEnv hcell (fun y hy=>?_) (fun h₁ hns hsb=>⟨((M.keeps kp).lim).fresh _ hsb,?_⟩) hk)
  · rw [List.mem_singleton.mp hy];exact hx
  have hk₁:Keep h h₁:=fun b o e=>hsb.extBut b o (Nat.ne_of_lt (Heap.lt_size e)) (Heap.get?_push_of_some _ e)
  have M1:=(M.keeps kp).keeps hk₁
  obtain ⟨mg,g1,g2⟩:=M1.g
  obtain ⟨mb,b1,b2⟩:=M1.b
  refine kla_codeExpr (xr (t:=t) (z:=z) (m:=fun y=>List.lookup y [(x,Value.str z t)].reverse) hk hx hlen hns ?_ g1 g2 b1 b2 hz (fun h' tk' r k1 k2=>?_) hd)
  · simp
  · exact ⟨h',tk',rfl,hk₁.trans k1,k2⟩
end
end NhSG
namespace PL
open PySem L2 Nh
def qc (f:bq):bq:=fun E=>(f E).bind fun a=>match look a.2 a.1 with
  | some (.list ds)=>(i7 ds).bind fun ss=>if (decide (ss.length < 65536)&&ss.all fun z=>decide (z.length≤1000))=true then some (.ow ((NhSG.jO ss).map .str),a.2) else none
  | _=>none
theorem rj:∀{ws:List Str} {vs:List Value},Vals (ws.map V.str) vs→vs.map NhSG.rY=ws.map some
  | [],_, .nil=>rfl
  | w::ws,_, .cons r t=>by
    obtain ⟨u,rfl⟩:=r
    simp only [List.map_cons,rj t]
    rfl
theorem rk:∀{ws:List Str} {vs:List Value},vs.map NhSG.rY=ws.map some→Vals (ws.map V.str) vs
  | [],[],_=> .nil
  | [],_::_,h=>by simp at h
  | _::_,[],h=>by simp at h
  | w::ws,v::vs,h=>by
    simp only [List.map_cons,List.cons.injEq] at h
    refine .cons ?_ (rk h.2)
    have h1:=h.1
    unfold NhSG.rY at h1
    split at h1
    · cases h1;exact ⟨_,rfl⟩
    · cases h1
section
variable {X:Cx} {pins:List (Addr×Obj)} {σ:L2.St} {H:Hp} {s:Shared}
theorem Ds (I:Inv X pins σ H s) (hl:X.mg "len"=none):NhSG.KMod s.heap:=
  ⟨⟨X.mg,I.mod.glob.keeps I.bk,hl⟩,let ⟨mb,h1,h2⟩:=I.mod.blt;⟨mb,h1.keeps I.bk,(h2 _ (by decide)).trans rfl⟩,I.nolimit⟩
theorem oS {l q:Addr} {ss:List Str} {Q:VK} (I:Inv X pins σ H s) (hq:SqL X.K H l (ss.map V.str)) (h64:ss.length < 65536)
    (turn:∀z t,z∈ss→NhSG.kD X.prog X.w X.A.in1.in1 (.ref q) s (.str z t) (NhSG.iT z))
    (h:∀D,H D=none→Q (.ref D) (upd H D (.lst ((NhSG.jO ss).map V.str)))):
    wpAny (model X.prog X.w) X.A (call (.builtin "sorted") [.ref l] [(Str.ofString "key", .ref q)]) (EP X pins σ Q) X.xe s:=by
  obtain ⟨its,rv,pl,hz⟩:=I.list hq
  have hv:=rj rv
  have hlen:its.length=ss.length:=by have:=congrArg List.length hv;simpa using this
  refine NhSG.sP (ys:=ss.map NhSG.iT) pl.isList (by simp [hlen]) (by omega) (fun i v y hv' hy'=>?_) fun D h' tk out c g1 g2 g3 g4=>?_
  · rw [List.getElem?_map] at hy'
    obtain ⟨z,hz1,rfl⟩:=Option.map_eq_some_iff.mp hy'
    have e:(its.map NhSG.rY)[i]? =(ss.map some)[i]? :=by rw [hv]
    rw [List.getElem?_map,List.getElem?_map,hv',hz1] at e
    have e1:NhSG.rY v=some z:=by simpa using e
    unfold NhSG.rY at e1
    split at e1
    · cases e1;exact turn _ _ (List.mem_of_getElem? hz1)
    · cases e1
  · have ot:=NhSG.vG hv g3
    refine ⟨.ref D,_,I.laid (t':=tk) g4 g2 (show ObjOk X.prog X.w _ _ _ (.lst ((NhSG.jO ss).map V.str)) from ⟨?_,out.toList,c,rk ot,by simpa using g1⟩),rfl,h D (I.hok.fresh g2)⟩
    rw [List.length_map]
    have:(NhSG.jO ss).length=ss.length:=(List.mergeSort_perm ss NhSG.qv).length_eq
    rw [this,sizeLine_eq]
    omega
end
theorem rn {z:Str} (h:z.length≤1000):z.length≤sizeLine:=by rw [sizeLine_eq];omega
end PL
namespace PL
open PySem L2 Nh
theorem nX {pos:Pos} {a b:Int} {c cv:Value} (l:List Value) (h:TriplesOk l) (e:codeAmong pos (l++[rawInt a,rawInt b,c])=some cv):codeAmong pos l=some cv∨cv=c:=by
  fun_induction TriplesOk l with
  | case1=>
    simp only [List.nil_append,codeAmong,rawInt] at e
    split at e
    · cases e;exact .inr rfl
    · cases e
  | case2 a' t b' u x gr ih=>
    simp only [List.cons_append,codeAmong] at e ⊢
    split at e
    · rename_i hc;rw [if_pos hc];exact .inl e
    · rename_i hc;rw [if_neg hc];exact ih h e
  | case3 l h1 h2=>exact h.elim
section
variable {X:Cx} {pins:List (Addr×Obj)} {σ:L2.St} {H:Hp} {s:Shared}
theorem vH {P c':Addr} {q:Str} {ps:Array Value} {a b:Int} {h':Heap} {tk:Nat} (I:Inv X pins σ H s) (hT:H P=some (.tbl q)) (hps:s.heap.get? P=some (PySem.W.tabObj ps))
    (hx:∀b o,b≠P→s.heap.get? b=some o→h'.get? b=some o) (hc:s.heap.objs.size≤c') (hr:h'.CodeRec (.ref c') q) (hP:h'.get? P=some (PySem.W.tabObj (ps++#[rawInt a,rawInt b, .ref c']))):
    Inv X pins σ (upd H c' (.own P)) {s with heap:=h',toks:=tk}:=by
  have hn:H c'=none:=I.hok.fresh hc
  have neP:∀b,H b=none→b≠P:=fun b n z=>by subst z;rw [hT] at n;cases n
  obtain ⟨ps0,e0,t0,r0⟩:=I.hok P _ hT
  rw [hps] at e0
  cases e0
  refine I.un (h':=h') (t':=tk) ⟨fun b o e n _ _=>hx b o (neP b n) e,fun b o e n _ _=>⟨o.slots,hx b o (neP b n) e⟩,fun b o e n _=>?_,fun b o e _=>?_,fun b xs e=>?_,fun b o u e=>?_,fun b z e=>?_⟩ fun d o e=>?_
  · rw [aS (Nat.ne_of_lt (Nat.lt_of_lt_of_le (Heap.lt_size e) hc))];exact n
  · by_cases hb:b=P
    · subst hb;exact ⟨_,hP⟩
    · exact ⟨o,hx b o hb e⟩
  · rw [aS (bL e hn)];exact e
  · rw [aS (bL e hn)];exact e
  · rw [aS (bL e hn)];exact e
  · by_cases hd:d=c'
    · subst hd
      rw [cy] at e
      cases e
      obtain ⟨c2,oc,_,_,hc2,hoc,_⟩:=hr
      cases hc2
      exact ⟨oc,hoc⟩
    · rw [aS hd] at e
      by_cases hp:d=P
      · subst hp
        rw [hT] at e
        cases e
        refine ⟨_,hP,by simpa using TriplesOk_snoc a b (.ref c') _ t0,fun pos cv z=>?_⟩
        rcases nX (a:=a) (b:=b) (c:= .ref c') ps.toList t0 (by simpa using z) with z | z
        · obtain ⟨c,ec,ho,c2,oc,vs,tq,hc2,hoc,hr2⟩:=r0 pos cv z
          subst ec
          cases hc2
          refine ⟨c,rfl,by rw [aS (bL ho hn)];exact ho,c,oc,vs,tq,rfl,hx _ _ (fun z=>?_) hoc,hr2⟩
          subst z
          rw [hT] at ho
          cases ho
        · subst z
          exact ⟨c',rfl,cy,hr⟩
      · refine (I.hok d o e).stay (fun b u hb q=>hx b u ?_ q) (fun b hb=>by rw [aS (bL hb hn)];exact hb) fun b xs hb=>by rw [aS (bL hb hn)];exact hb
        rcases hb with rfl | hb
        · exact hp
        · intro z
          subst z
          rw [hT] at hb
          cases hb
theorem Dt {P:Addr} {ps:Array Value} (I:Inv X pins σ H s) (hps:s.heap.get? P=some (PySem.W.tabObj ps)):mainGlobals≠P∧s.heap.BuiltinsAt X.mg P:=by
  have hg:=I.mod.glob.keeps I.bk
  obtain ⟨bm,ob,b1,b2,b3,b4,b5,b6⟩:=I.mod.bmain
  have b3':=I.bk _ _ b3
  refine ⟨fun q=>?_,bm,ob,b1,b2,fun q=>?_,fun q=>?_,b3',b4,b5,b6⟩
  · obtain ⟨o,es,ep,e,hd,_⟩:=hg
    rw [q,hps] at e;cases e;cases hd
  · obtain ⟨o,es,ep,e,hd,_⟩:=hg
    rw [q,e] at b3';cases b3';rw [hd] at b6;cases b6
  · rw [q,hps] at b3';cases b3';cases b4
end
section
variable {X:Cx} {e:Expr} {m:Bool} {f:bq} {p pos kp lp:Pos} {y:Str} {k:Nat} {p1 p2 p3 p4 tp:Pos} {x1:Nat} {params:Arguments} {scope:Scope} {c P:Addr}
theorem xt (hcode:X.env.code= .ref c) (hP:v8 X.K=some P) (hC:PySem.W.codeHdIn X.K c P=true) (hr:Room k X.A) (hg:Gl X "sorted") (hm:X.mg "sorted"=none) (hl:X.mg "len"=none) (ha:EX X e m f)
    (hq:X.env.qual++"<lambda>"=Str.ofString "in_told_order.<locals>.<lambda>") (hdef:defaultsOf params X.env=([],[]):=by rfl)
    (hbind:∀(name qual:Str) (pm cd ctv u:Value),bindArgs (PySem.W.kla_fn name qual params (.Tuple [.Call (.Name "len" p1) [.Name y p2] [] p3, .Name y p4] x1 tp) scope [] pm cd ctv) ⟨[u],[]⟩=pure [(y,u)]:=by intros;rfl)
    (sc1:scope.names.lookup y=some .local:=by rfl) (fT:scope.names.lookup (Str.ofString "len")=some .globalImplicit:=by rfl) (sc3:scope.isCoroutine=false:=by rfl) (sc4:scope.isGenerator=false:=by rfl) (sc5:scope.kind= .function:=by rfl)
    (sc6:∀x∈scope.names,x.2≠ .cell:=by decide) (sc7:∀x∈scope.names,x.2≠ .free:=by decide) (hdy:(y == ("__debug__":Str))=false:=by decide)
    (he:starEach [e] X.env=[(false,eval e X.env)]:=by rfl)
    (he':backTo pos (starEach [e] X.env)=(false,eval e X.env)::backTo pos (starEach [] X.env):=by rfl) (hpl:(backTo pos (starEach [e] X.env)).any (·.1)=false:=by rfl)
    (hall:(backToKw pos (keywordEach [⟨some "key", .Lambda params (.Tuple [.Call (.Name "len" p1) [.Name y p2] [] p3, .Name y p4] x1 tp) scope lp,kp⟩] X.env)).all (·.1.isSome)=true:=by rfl)
    (hkw:(backToKw pos (keywordEach [⟨some "key", .Lambda params (.Tuple [.Call (.Name "len" p1) [.Name y p2] [] p3, .Name y p4] x1 tp) scope lp,kp⟩] X.env)).any (·.1.isNone)=false:=by rfl)
    (hnm:(backToKw pos (keywordEach [⟨some "key", .Lambda params (.Tuple [.Call (.Name "len" p1) [.Name y p2] [] p3, .Name y p4] x1 tp) scope lp,kp⟩] X.env)).filterMap (·.1)=[Str.ofString "key"]:=by rfl):
    EX X (.Call (.Name "sorted" p) [e] [⟨some "key", .Lambda params (.Tuple [.Call (.Name "len" p1) [.Name y p2] [] p3, .Name y p4] x1 tp) scope lp,kp⟩] pos) m (qc f):=by
  intro pins s σ H Q I z
  obtain ⟨B,E,xs,Xs,res,E',fr,cl,e0,q⟩:=z
  obtain ⟨⟨r1,E1⟩,e1,e2⟩:=Option.bind_eq_some_iff.mp e0
  simp only at e2
  split at e2
  · rename_i ds ld
    obtain ⟨ss,en,e3⟩:=Option.bind_eq_some_iff.mp e2
    split at e3
    · rename_i hc
      cases e3
      simp only [Bool.and_eq_true,decide_eq_true_eq,List.all_eq_true] at hc
      refine wpAny_Call_Name_kw (jW I hg hm PyProof.Rows.boot_sorted ?_ (by decide) (by decide))
      refine PyProof.Rows.callWith_kw (fU (eH ha gC he pos pins s σ H (fun vs H1=>∃p,vs=[.ref p]∧SqL X.K H1 p (ss.map V.str)∧∀H2,Same H1 H2→∀D,H2 D=none→Q (.ref D) (upd H2 D (.lst ((NhSG.jO ss).map V.str)))) I ⟨B,E,xs,Xs,r1,_,fr,cl,e1,fun v1 H1 ⟨F,A,fr1⟩=>?_⟩) fun us s2 ⟨vs,H1,I1,r1,p0,ev,hq1,q1⟩=>?_) he' hpl hall hkw
      · obtain ⟨A',fr2⟩:=fr1.pop
        have r:=(fr1.look0 ld).1
        cases r with
        | lst h1 h2=>
          have:=kw h2 en
          subst this
          exact ⟨_,rfl,h1,fun H2 g D hD=>q _ _ ⟨_,_,(fr2.grow g).newl (iz _) hD⟩⟩
      · subst ev
        cases r1 with
        | cons r rr=>
          cases rr
          cases r
          refine PyProof.Rows.kws_cons (PySem.W.kla_eval hdef ?_)
          have hT:H1 P=some (.tbl (Str.ofString "in_told_order.<locals>.<lambda>")):=I1.tab P _ (by unfold mi;rw [if_pos hP])
          obtain ⟨ps,hps,ht,hit⟩:=I1.hok P _ hT
          obtain ⟨hgP,hbA⟩:=Dt I1 hps
          have hcl:closureFor scope X.env=pure []:=closureFor_none sc7
          have C:=PySem.W.codeHd_of_K I1.kIn hC
          have hroom:X.A.in1.in1.depth < recursionLimit:=by have:=hr.dp;show X.A.depth < recursionLimit;omega
          cases hca:codeAmong lp ps.toList with
          | none=>
            refine PySem.W.kla_makeFunction hcl I1.ok.glob (I1.mod.glob.keeps I1.bk) hcode C hps ht hca hgP hbA fun c' ctv h' tk hx hge hlt hrec htb=>?_
            rw [hq] at hrec
            have I2:=vH (tk:=tk) I1 hT hps (fun b o hb e=>hx b o hb e) hge hrec htb
            have g:Same H1 (upd H1 c' (.own P)):=ip (I1.hok.fresh hge) _
            have I3:=I2.kept (t':=tk) (fun b o e=>Heap.get?_push_of_some (PySem.W.kla_obj "<lambda>" (X.env.qual++"<lambda>") params (.Tuple [.Call (.Name "len" p1) [.Name y p2] [] p3, .Name y p4] x1 tp) scope [] ((X.mg "__name__").getD .none) c' ctv) e)
            refine PyProof.Rows.kws_nil ?_
            rw [hnm]
            refine oS I3 (g.seq hq1) hc.1 (fun z t hz=>?_) (q1 _ g)
            exact NhSG.rh (Ds I3 hl) hroom (Heap.get?_push_size _ rfl) (by rw [hq];exact hrec.keeps fun b o e=>Heap.get?_push_of_some _ e) (rn (hc.2 z hz)) (hbind _ _ _ _ _ _) sc1 fT sc3 sc4 sc5 sc6 hdy
          | some cv=>
            obtain ⟨c',rfl,ho,hrec⟩:=hit lp cv hca
            refine PySem.W.kla_makeFunctionHit hcl I1.ok.glob (I1.mod.glob.keeps I1.bk) hcode C hps ht hca hbA fun ctv h' tk hx hsz=>?_
            have I3:=I1.kept (t':=tk) (fun b o e=>Heap.get?_push_of_some (PySem.W.kla_obj "<lambda>" (X.env.qual++"<lambda>") params (.Tuple [.Call (.Name "len" p1) [.Name y p2] [] p3, .Name y p4] x1 tp) scope [] ((X.mg "__name__").getD .none) c' ctv) (hx b o e))
            refine PyProof.Rows.kws_nil ?_
            rw [hnm]
            refine oS I3 hq1 hc.1 (fun z t hz=>?_) (q1 _ (Same.refl _))
            exact NhSG.rh (Ds I3 hl) hroom (Heap.get?_push_size _ rfl) (by rw [hq];exact hrec.keeps fun b o e=>Heap.get?_push_of_some _ (hx b o e)) (rn (hc.2 z hz)) (hbind _ _ _ _ _ _) sc1 fT sc3 sc4 sc5 sc6 hdy
    · cases e3
  · cases e2
end
structure DefT (K:PySem.W.Frag) (mg:Str→Option Value) (x:Str) (st:Stmt) (ps:List Str) (c P:Addr):Prop where
  ex:∃(f:Addr) (oc:Value) (od:Option Addr) (kV doc pm:Value) (an:Option Addr) (ct:Value) (osl:Array (Option Value)),
    K.lookup f=some ⟨oc,od, .func (PySem.W.fnOf x x (aE st) (aA st) (ah st) .none kV doc pm an (.ref c) ct),osl⟩∧PySem.W.codeIn K (.ref c) x=true∧PySem.W.keepIn K (.ref f)=true∧mg x=some (.ref f)∧
      Binds K (PySem.W.fnOf x x (aE st) (aA st) (ah st) .none kV doc pm an (.ref c) ct) ps []
  hd:PySem.W.codeHdIn K c P=true
  tp:v8 K=some P
theorem Ep {P:Program} {w:World} {K:PySem.W.Frag} {mg:Str→Option Value} {base:Heap} {x:Str} {st:Stmt} {N ps:List Str} {k a n:Nat} {g:dH} {c T:Addr} (D:DefT K mg x st ps c T) (S:FnScope N ps (ah st)) (hpa:ps.length=a) (hNn:N.length=n) (hps:a≤n)
    (hbody:∀(f:Addr) (A:Around) (outer:List Env) (s:Shared) (H:Hp) (E:XK),Room k (A.deeper (PyProof.Rows.envOfC x (ah st) s.heap.objs.size f (.ref c)))→
      u7 (nS u6 P w K mg base N x (ah st) f (.ref c) A outer s H E).nox (aA st) g):Own P w K mg base (k+1) x ps (cL K (d5 a n g)):=by
  subst hpa hNn
  obtain ⟨f,oc,od,kV,doc,pm,an,ct,osl,lk,hcd,kp,hm,hb⟩:=D.ex
  refine ⟨f,_,Ai lk hcd S (fun vs H Q E h=>?_) (fun A outer s H vs Q E hr h=>?_),hb,hm,kp⟩
  · obtain ⟨ds,r,e,rp,_⟩:=h
    unfold d5 at e
    split at e
    · rename_i hl
      rw [rp.len];exact hl
    · cases e
  obtain ⟨ds,r,e,rp,q⟩:=h
  unfold d5 at e
  split at e
  · rename_i hl
    refine ⟨_,(hbody f A outer s H E hr).nox,?_⟩
    obtain ⟨⟨E',fl⟩,e1,e⟩:=Option.bind_eq_some_iff.mp e
    refine ⟨H,bx N.length ds,[],[],E',fl,⟨H,[],pK rp (by omega)⟩,rfl,e1,?_⟩
    cases fl with
    | nx=>
      cases e
      rintro σ' H' ⟨F',A',fr'⟩
      exact q _ _ (fr'.bf.trans fr'.fh) .non
    | bk=>cases e
    | ct=>cases e
    | rt r'=>
      rintro σ' v H' ⟨F',A',fr'⟩
      obtain ⟨s1,s2⟩:=fr'.resultO e
      exact q v H' s1 s2
  · cases e
theorem xu {K:PySem.W.Frag} {f c P:Addr} {oc occ:Value} {od odc:Option Addr} {fd:FuncData} {sl slc:Array (Option Value)} {vs:Array Value} (a:PySem.W.nsIn K mainGlobals "in_told_order"=some (some (.ref f))) (l:K.lookup f=some ⟨oc,od, .func fd,sl⟩) (hc:fd.code= .ref c)
    (lc:K.lookup c=some ⟨occ,odc, .fields vs,slc⟩) (hv:(vs[11]? :Option Value)=some (.ref P)):v8 K=some P:=by
  unfold v8
  rw [a]
  simp only [l,hc,lc,hv]
theorem xv {K:PySem.W.Frag} {h:Heap} {f c P:Addr} {oc occ:Value} {od odc:Option Addr} {fd:FuncData} {sl slc:Array (Option Value)} {vs:Array Value} (X:K.In h) (a:PySem.W.nsIn K mainGlobals "in_told_order"=some (some (.ref f))) (l:K.lookup f=some ⟨oc,od, .func fd,sl⟩) (hc:fd.code= .ref c)
    (lc:K.lookup c=some ⟨occ,odc, .fields vs,slc⟩) (hv:(vs[11]? :Option Value)=some (.ref P)) (hd:PySem.W.codeHdIn K c P=true) (hn:K.lookup P=none) (ht:h.get? P=some (PySem.W.tabObj #[])):uc K h:=fun b q e=>by
  have tp:=xu a l hc lc hv
  unfold mi at e
  split at e
  · rename_i hb
    rw [tp] at hb
    cases hb
    exact ⟨ht,⟨c,PySem.W.codeHd_of_K X hd⟩,hn⟩
  · cases e
end PL
namespace NhFam
abbrev Tx:=List Nat
def Srt (w:Tx):Prop:=w.Pairwise (· < ·)
def le (v w:Tx):Prop:=∀x∈v,x∈w
instance (v w:Tx):Decidable (le v w):=inferInstanceAs (Decidable (∀x∈v,x∈w))
theorem le.refl (v:Tx):le v v:=fun _ h=>h
theorem le.trans {u v w:Tx} (a:le u v) (b:le v w):le u w:=fun x h=>b x (a x h)
def Sub (U w:Tx):Prop:=Srt w∧le w U
theorem Srt.nodup {w:Tx} (h:Srt w):w.Nodup:=h.imp fun h=>Nat.ne_of_lt h
theorem eK:∀{w v:Tx},Srt v→Srt w→le v w→v.Sublist w
  | [],v,_,_,h=>by
    cases v with
    | nil=>exact .slnil
    | cons x v=>cases h x (List.mem_cons_self ..)
  | y::w,v,hv,hw,h=>by
    cases v with
    | nil=>exact List.nil_sublist _
    | cons x v=>
      have hw':=List.pairwise_cons.mp hw
      have hv':=List.pairwise_cons.mp hv
      by_cases e:x=y
      · subst e
        refine (eK hv'.2 hw'.2 fun z hz=>?_).cons_cons _
        rcases List.mem_cons.mp (h z (List.mem_cons_of_mem _ hz)) with q | q
        · have:=hv'.1 z hz;omega
        · exact q
      · have hx:x∈w:=(List.mem_cons.mp (h x (List.mem_cons_self ..))).resolve_left e
        have lt:=hw'.1 x hx
        refine (eK hv hw'.2 fun z hz=>?_).cons _
        rcases List.mem_cons.mp (h z hz) with q | q
        · subst q
          rcases List.mem_cons.mp hz with q | q
          · omega
          · have:=hv'.1 z q;omega
        · exact q
theorem Srt.ext {v w:Tx} (hv:Srt v) (hw:Srt w) (a:le v w) (b:le w v):v=w:=
  (eK hv hw a).eq_of_length (Nat.le_antisymm (eK hv hw a).length_le (eK hw hv b).length_le)
theorem xx {v w:Tx} (hv:Srt v) (hw:Srt w) (a:le v w) (n:v≠w):v.length < w.length:=by
  have s:=eK hv hw a
  rcases Nat.lt_or_ge v.length w.length with h | h
  · exact h
  · exact absurd (s.eq_of_length (Nat.le_antisymm s.length_le h)) n
def key (w:Tx):NhSG.Ky:=((w.length:Int),w)
def jm (v w:Tx):Prop:=NhSG.gK (key v) (key w)=true
theorem nq {v w:Tx} (h:v.length < w.length):jm v w:=NhSG.ltKy_iff.mpr (.inl (by simp only [key];omega))
theorem nr (v:Tx):¬jm v v:=fun h=>by
  have:=(NhSG.gl default).irrefl (key v)
  unfold jm at h
  rw [show NhSG.gK (key v) (key v)=false from this] at h
  cases h
theorem oT {v w:Tx} (h1:¬jm v w) (h2:¬jm w v):v=w:=by
  have h:=(NhSG.gl default).total (key v) (key w) (by simpa [jm] using h1) (by simpa [jm] using h2)
  exact congrArg Prod.snd h
theorem oU {u v w:Tx} (a:jm u v) (b:jm v w):jm u w:=(NhSG.gl default).trans _ _ _ a b
theorem ly {v w:Tx} (a:jm v w):¬jm w v:=fun b=>nr v (oU a b)
def up (F:List Tx) (w:Tx):Prop:=∃v∈F,le v w
def Min (U:Tx) (f:Tx→Prop) (w:Tx):Prop:=Sub U w∧f w∧∀v,Sub U v→f v→le v w→v=w
structure Told (U:Tx) (L:List Tx) (f:Tx→Prop):Prop where
  srt:L.Pairwise jm
  mem:∀w,w∈L↔Min U f w
def xy (U:Tx) (f:Tx→Prop):Prop:=∀v w,Sub U v→Sub U w→le v w→f v→f w
theorem nt {U:Tx} {f:Tx→Prop}:∀(n:Nat) (w:Tx),w.length≤n→Sub U w→f w→∃v,Min U f v∧le v w
  | n,w,hn,hw,hf=>by
    by_cases h:∀v,Sub U v→f v→le v w→v=w
    · exact ⟨w,⟨hw,hf,h⟩,le.refl w⟩
    · obtain ⟨v,h⟩:=Classical.not_forall.mp h
      obtain ⟨v1,h⟩:=Classical.not_imp.mp h
      obtain ⟨v2,h⟩:=Classical.not_imp.mp h
      obtain ⟨v3,v4⟩:=Classical.not_imp.mp h
      have:=xx v1.1 hw.1 v3 v4
      cases n with
      | zero=>omega
      | succ n=>
        obtain ⟨u,a,b⟩:=nt n v (by omega) v1 v2
        exact ⟨u,a,b.trans v3⟩
theorem Told.sub {U:Tx} {L:List Tx} {f:Tx→Prop} (h:Told U L f):∀w∈L,Sub U w:=fun w hw=>((h.mem w).mp hw).1
theorem Told.up_iff {U:Tx} {L:List Tx} {f:Tx→Prop} (h:Told U L f) (m:xy U f) {w:Tx} (hw:Sub U w):up L w↔f w:=by
  constructor
  · rintro ⟨v,hv,l⟩
    have:=(h.mem v).mp hv
    exact m v w this.1 hw l this.2.1
  · intro hf
    obtain ⟨v,a,b⟩:=nt w.length w (Nat.le_refl _) hw hf
    exact ⟨v,(h.mem v).mpr a,b⟩
theorem Min.congr {U:Tx} {f g:Tx→Prop} (h:∀w,Sub U w→(f w↔g w)) {w:Tx}:Min U f w↔Min U g w:=by
  constructor
  · rintro ⟨a,b,c⟩;exact ⟨a,(h w a).mp b,fun v v1 v2 v3=>c v v1 ((h v v1).mpr v2) v3⟩
  · rintro ⟨a,b,c⟩;exact ⟨a,(h w a).mpr b,fun v v1 v2 v3=>c v v1 ((h v v1).mp v2) v3⟩
theorem Told.congr {U:Tx} {L:List Tx} {f g:Tx→Prop} (a:Told U L f) (h:∀w,Sub U w→(f w↔g w)):Told U L g:=⟨a.srt,fun w=>(a.mem w).trans (Min.congr h)⟩
theorem jE {L:List Tx} (h:L.Pairwise jm):L.Nodup:=h.imp fun {a b} h e=>by subst e;exact nr a h
theorem xz {L L':List Tx} (a:L.Pairwise jm) (b:L'.Pairwise jm) (h:∀w,w∈L↔w∈L'):L=L':=
  ((List.perm_ext_iff_of_nodup (jE a) (jE b)).mpr h).eq_of_pairwise (fun x y _ _ p q=>absurd q (ly p)) a b
theorem Told.uniq {U:Tx} {L L':List Tx} {f g:Tx→Prop} (a:Told U L f) (b:Told U L' g) (h:∀w,Sub U w→(f w↔g w)):L=L':=
  xz a.srt b.srt fun w=>(a.mem w).trans ((Min.congr h).trans (b.mem w).symm)
theorem qd (U:Tx) (F:List Tx):xy U (up F):=fun v w _ _ l ⟨u,hu,h⟩=>⟨u,hu,h.trans l⟩
theorem qe {U:Tx} {F:List Tx} (hF:∀v∈F,Sub U v) {w:Tx}:Min U (up F) w↔w∈F∧∀v∈F,le v w→v=w:=by
  constructor
  · rintro ⟨a,⟨v,hv,l⟩,c⟩
    have e:=c v (hF v hv) ⟨v,hv,le.refl v⟩ l
    subst e
    exact ⟨hv,fun u hu l=>c u (hF u hu) ⟨u,hu,le.refl u⟩ l⟩
  · rintro ⟨a,b⟩
    refine ⟨hF w a,⟨w,a,le.refl w⟩,fun v hv ⟨u,hu,l⟩ lv=>?_⟩
    have e:=b u hu (l.trans lv)
    subst e
    exact hv.1.ext (hF u hu).1 lv l
def cY (K:List Tx):List Tx→List Tx
  | []=>K
  | w::r=>if K.any (fun k=>decide (le k w)) then cY K r else cY (K++[w]) r
theorem iU:∀(S K Pre:List Tx),(∀v∈Pre++S,Srt v)→(∀v∈Pre,∃k∈K,le k v)→(∀k∈K,k∈Pre)→(∀v∈Pre,∀w∈S,¬jm w v)→S.Pairwise (fun a b=>¬jm b a)→
    (∀k∈K,∀v∈Pre,le v k→v=k)→K.Pairwise jm→(cY K S).Pairwise jm∧∀w,w∈cY K S↔w∈Pre++S∧∀v∈Pre++S,le v w→v=w
  | [],K,Pre,hs,h1,h2,h3,h4,h5,h6=>by
    refine ⟨h6,fun w=>?_⟩
    simp only [cY,List.append_nil]
    refine ⟨fun hw=>⟨h2 w hw,h5 w hw⟩,fun ⟨a,b⟩=>?_⟩
    obtain ⟨k,hk,l⟩:=h1 w a
    rw [←b k (h2 k hk) l]
    exact hk
  | w::S,K,Pre,hs,h1,h2,h3,h4,h5,h6=>by
    have e:Pre++w::S=(Pre++[w])++S:=by simp
    have h4':=List.pairwise_cons.mp h4
    have sw:Srt w:=hs w (by simp)
    have back:∀k∈K,le w k→w=k:=fun k hk l=>Classical.byContradiction fun n=>h3 k (h2 k hk) w (by simp) (nq (xx sw (hs k (by simp [h2 k hk])) l n))
    have o3:∀v∈Pre++[w],∀u∈S,¬jm u v:=fun v hv u hu=>by
      rcases List.mem_append.mp hv with q | q
      · exact h3 v q u (List.mem_cons_of_mem _ hu)
      · rw [List.mem_singleton.mp q];exact h4'.1 u hu
    rw [e] at hs ⊢
    by_cases h:K.any (fun k=>decide (le k w))=true
    · rw [cY,if_pos h]
      obtain ⟨k0,hk0,l0⟩:=List.any_eq_true.mp h
      refine iU S K (Pre++[w]) hs (fun v hv=>?_) (fun k hk=>by simp [h2 k hk]) o3 h4'.2 (fun k hk v hv l=>?_) h6
      · rcases List.mem_append.mp hv with q | q
        · exact h1 v q
        · rw [List.mem_singleton.mp q];exact ⟨k0,hk0,of_decide_eq_true l0⟩
      · rcases List.mem_append.mp hv with q | q
        · exact h5 k hk v q l
        · rw [List.mem_singleton.mp q] at l ⊢;exact back k hk l
    · rw [cY,if_neg h]
      have no:∀k∈K,¬le k w:=fun k hk l=>h (List.any_eq_true.mpr ⟨k,hk,decide_eq_true l⟩)
      refine iU S (K++[w]) (Pre++[w]) hs (fun v hv=>?_) (fun k hk=>?_) o3 h4'.2 (fun k hk v hv l=>?_) ?_
      · rcases List.mem_append.mp hv with q | q
        · obtain ⟨k,hk,l⟩:=h1 v q;exact ⟨k,by simp [hk],l⟩
        · rw [List.mem_singleton.mp q];exact ⟨w,by simp,le.refl w⟩
      · rcases List.mem_append.mp hk with q | q
        · simp [h2 k q]
        · simp [List.mem_singleton.mp q]
      · rcases List.mem_append.mp hk with p | p <;> rcases List.mem_append.mp hv with q | q
        · exact h5 k p v q l
        · rw [List.mem_singleton.mp q] at l ⊢;exact back k p l
        · rw [List.mem_singleton.mp p] at l ⊢
          obtain ⟨k',hk',l'⟩:=h1 v q
          exact absurd (l'.trans l) (no k' hk')
        · rw [List.mem_singleton.mp p,List.mem_singleton.mp q]
      · refine List.pairwise_append.mpr ⟨h6,List.pairwise_singleton _ _,fun k hk u hu=>?_⟩
        rw [List.mem_singleton.mp hu]
        refine Classical.byContradiction fun n=>no k hk ?_
        rw [oT n (h3 k (h2 k hk) w (by simp))]
        exact le.refl w
def hZ (F:List Tx):List Tx:=F.mergeSort fun a b=> !NhSG.gK (key b) (key a)
theorem sortT_mem {F:List Tx} {w:Tx}:w∈hZ F↔w∈F:=(List.mergeSort_perm F _).mem_iff
theorem oV (F:List Tx):(hZ F).Pairwise fun a b=>¬jm b a:=by
  have h:=List.pairwise_mergeSort (le:=fun a b=> !NhSG.gK (key b) (key a)) (fun a b c h1 h2=>by
    have h1':¬jm b a:=by simpa [jm] using h1
    have h2':¬jm c b:=by simpa [jm] using h2
    have:¬jm c a:=fun z=>by
      by_cases q:jm a b
      · exact h2' (oU z q)
      · rw [oT q h1'] at z;exact h2' z
    simpa [jm] using this) (fun a b=>by
    by_cases q:NhSG.gK (key b) (key a)=true
    · have:¬jm a b:=ly q
      have:NhSG.gK (key a) (key b)=false:=by simpa [jm] using this
      simp [this]
    · simp [Bool.not_eq_true _▸q]) F
  exact h.imp fun {a b} h=>by simpa [jm] using h
def au (F:List Tx):List Tx:=cY [] (hZ F)
theorem d9 {U:Tx} {F:List Tx} (hF:∀v∈F,Sub U v):Told U (au F) (up F):=by
  obtain ⟨a,b⟩:=iU (hZ F) [] [] (fun v hv=>(hF v (sortT_mem.mp (by simpa using hv))).1) (fun v hv=>by cases hv) (fun v hv=>by cases hv) (fun v hv=>by cases hv) (oV F) (fun v hv=>by cases hv) .nil
  refine ⟨a,fun w=>(b w).trans ?_⟩
  rw [qe hF]
  simp only [List.nil_append,sortT_mem]
def comp (U w:Tx):Tx:=U.filter fun x=> !decide (x∈w)
theorem comp_mem {U w:Tx} {x:Nat}:x∈comp U w↔x∈U∧x∉w:=by simp [comp]
def Du (U:Tx) (f:Tx→Prop) (w:Tx):Prop:=¬f (comp U w)
def i_ (F:List Tx) (w:Tx):Prop:=∀v∈F,∃x∈v,x∈w
theorem oW {U:Tx} {F:List Tx} (hF:∀v∈F,Sub U v) {w:Tx}:i_ F w↔Du U (up F) w:=by
  constructor
  · rintro h ⟨v,hv,l⟩
    obtain ⟨x,hx,hw⟩:=h v hv
    exact (comp_mem.mp (l x hx)).2 hw
  · intro h v hv
    refine Classical.byContradiction fun n=>h ⟨v,hv,fun x hx=>comp_mem.mpr ⟨(hF v hv).2 x hx,fun z=>n ⟨x,hx,z⟩⟩⟩
theorem sQ {U V:Tx} {f:Tx→Prop} {L:List Tx} (hU:Srt U) (hV:Srt V) (l:le V U) (m:xy U f) (h:∀w,Sub U w→f w→f (w.filter fun x=>decide (x∈V))) (t:Told V L f):Told U L f:=by
  refine ⟨t.srt,fun w=>(t.mem w).trans ?_⟩
  have up':∀{w},Sub V w→Sub U w:=fun a=>⟨a.1,a.2.trans l⟩
  have cut:∀{w},Sub U w→Sub V (w.filter fun x=>decide (x∈V)):=fun a=>⟨a.1.filter _,fun x hx=>by simpa using (List.mem_filter.mp hx).2⟩
  have cl:∀w:Tx,le (w.filter fun x=>decide (x∈V)) w:=fun w x hx=>(List.mem_filter.mp hx).1
  constructor
  · rintro ⟨a,b,c⟩
    refine ⟨up' a,b,fun v v1 v2 v3=>?_⟩
    have e:=c _ (cut v1) (h v v1 v2) ((cl v).trans v3)
    refine v1.1.ext a.1 v3 ?_
    rw [←e]
    exact cl v
  · rintro ⟨a,b,c⟩
    have e:=c _ (up' (cut a)) (h w a b) (cl w)
    rw [←e]
    refine ⟨cut a,h w a b,fun v v1 v2 v3=>?_⟩
    rw [e] at v3 ⊢
    exact c v (up' v1) v2 v3
end NhFam
namespace NhFam
def fV (w:Tx):List Tx:=w.foldl (fun acc a=>acc++acc.map (· ++[a])) [[]]
theorem rq:∀(V:Tx) (acc:List Tx) (w:Tx),w∈V.foldl (fun acc a=>acc++acc.map (· ++[a])) acc↔∃u∈acc,∃t,t.Sublist V∧w=u++t
  | [],acc,w=>by
    constructor
    · intro h;exact ⟨w,h,[], .slnil,by simp⟩
    · rintro ⟨u,hu,t,ht,rfl⟩
      have:t=[]:=by simpa using ht
      subst this
      simpa using hu
  | a::V,acc,w=>by
    rw [List.foldl_cons,rq V]
    constructor
    · rintro ⟨u,hu,t,ht,rfl⟩
      rcases List.mem_append.mp hu with q | q
      · exact ⟨u,q,t,ht.cons _,rfl⟩
      · obtain ⟨v,hv,rfl⟩:=List.mem_map.mp q
        exact ⟨v,hv,a::t,ht.cons_cons _,by simp⟩
    · rintro ⟨u,hu,t,ht,rfl⟩
      cases ht with
      | cons _ h=>exact ⟨u,by simp [hu],t,h,rfl⟩
      | cons_cons _ h=>exact ⟨u++[a],by simp [hu],_,h,by simp⟩
theorem iC {V:Tx} (hV:Srt V) {w:Tx}:w∈fV V↔Sub V w:=by
  unfold fV
  rw [rq]
  constructor
  · rintro ⟨u,hu,t,ht,rfl⟩
    rw [List.mem_singleton.mp hu,List.nil_append]
    exact ⟨List.Pairwise.sublist ht hV,fun x hx=>ht.subset hx⟩
  · intro h
    exact ⟨[],by simp,w,eK h.1 hV h.2,rfl⟩
theorem nu (V:Tx):(fV V).length=2 ^ V.length:=by
  have key:∀(V:Tx) (acc:List Tx),(V.foldl (fun acc a=>acc++acc.map (· ++[a])) acc).length=acc.length*2 ^ V.length:=fun V=>by
    induction V with
    | nil=>intro acc;simp
    | cons a V ih=>
      intro acc
      rw [List.foldl_cons,ih,List.length_append,List.length_map,List.length_cons,Nat.pow_succ,←Nat.two_mul,Nat.mul_comm 2,Nat.mul_assoc,Nat.mul_comm 2]
  unfold fV
  rw [key]
  simp
def dJ (F:List Tx) (w:Tx):Bool:=F.all fun v=> !decide (∀x∈v,x∉w)
theorem oX {F:List Tx} {w:Tx}:dJ F w=true↔i_ F w:=by
  unfold dJ i_
  rw [List.all_eq_true]
  refine ⟨fun h v hv=>?_,fun h v hv=>?_⟩
  · have:=h v hv
    simp only [Bool.not_eq_true',decide_eq_false_iff_not] at this
    obtain ⟨x,h⟩:=Classical.not_forall.mp this
    obtain ⟨a,b⟩:=Classical.not_imp.mp h
    exact ⟨x,a,Classical.not_not.mp b⟩
  · obtain ⟨x,a,b⟩:=h v hv
    simp only [Bool.not_eq_true',decide_eq_false_iff_not]
    exact fun z=>z x a b
theorem rz {U V:Tx} {f:Tx→Prop} {G:List Tx} (hU:Srt U) (hV:Srt V) (l:le V U) (m:xy U f) (hG:∀w,w∈G↔Sub V w∧f w) (h:∀w,Sub U w→f w→f (w.filter fun x=>decide (x∈V))):Told U (au G) f:=by
  refine sQ hU hV l m h ((d9 fun v hv=>((hG v).mp hv).1).congr fun w hw=>?_)
  constructor
  · rintro ⟨v,hv,q⟩
    obtain ⟨a,b⟩:=(hG v).mp hv
    exact m v w ⟨a.1,a.2.trans l⟩ ⟨hw.1,hw.2.trans l⟩ q b
  · intro q
    exact ⟨w,(hG w).mpr ⟨hw,q⟩,le.refl w⟩
theorem rA {U:Tx} {F:List Tx} (hF:∀v∈F,Sub U v) {w:Tx}:i_ (au F) w↔i_ F w:=by
  have t:=d9 hF
  constructor
  · intro h v hv
    obtain ⟨k,hk,l⟩:=(t.up_iff (qd U F) (hF v hv)).mpr ⟨v,hv,le.refl v⟩
    obtain ⟨x,a,b⟩:=h k hk
    exact ⟨x,l x a,b⟩
  · intro h v hv
    exact h v ((qe hF).mp ((t.mem v).mp hv)).1
def nv (F:List Tx) (V:Tx):List Tx:=au ((fV V).filter (dJ (au F)))
theorem oY {F:List Tx} {V w:Tx} (hF:∀v∈F,le v V) (h:i_ F w):i_ F (w.filter fun x=>decide (x∈V)):=fun v hv=>by
  obtain ⟨x,a,b⟩:=h v hv
  exact ⟨x,a,List.mem_filter.mpr ⟨b,decide_eq_true (hF v hv x a)⟩⟩
theorem lz {U V:Tx} {F:List Tx} (hU:Srt U) (hV:Srt V) (l:le V U) (hF:∀v∈F,Sub U v) (hFV:∀v∈F,le v V):Told U (nv F V) (Du U (up F)):=by
  refine (rz (f:=i_ F) hU hV l (fun v w _ _ q h u hu=>?_) (fun w=>?_) fun w _ h=>oY hFV h).congr fun w hw=>oW hF
  · obtain ⟨x,a,b⟩:=h u hu
    exact ⟨x,a,q x b⟩
  · rw [List.mem_filter,iC hV,oX,rA hF]
end NhFam
namespace NhSS
set_option autoImplicit false
open PySem PyProof PyProof.Rows
@[reducible] def tx (p:Keyed):List Nat:=(strOf p.1).cps.toList
def EF (p:Keyed):Prop:=∃x t,p.1= .str x t
def Told (ss:List Str) (out:Array Value):Prop:=∃zs,StrsAre out.toList zs∧zs.Perm ss∧sortedS zs=true
section
variable {prog:Program} {w:World} {A:Around} {E:Value→Shared→Prop} {s:Shared} {a:Addr} {vs:List Value} {ss:List Str} {n:Nat}
theorem Er:NhLS.Cmp prog w A s oneType' strKind.toKeyOrd tx EF:=by
  constructor
  rintro E ⟨_,x2⟩ ⟨_,y2⟩ Q ⟨x,t,rfl⟩ ⟨y,u,rfl⟩ hq
  rw [keyLt'_oneType]
  exact strKind_oneLt prog w A E s (.str x t) (.str y u) x.cps.toList y.cps.toList rfl rfl hq
theorem tD (hS:StrsAre vs ss):∀p∈vs.zip vs,EF p:=fun p hp=>hS.all _ (List.of_mem_zip hp).1
theorem zD (hS:StrsAre vs ss) {b:Array Keyed} (hp:b.toList.Perm (vs.zip vs)) (hs:NhLS.So strKind.toKeyOrd tx b 0 b.size):Told ss (b.map (·.2)):=by
  have at_:∀i,i < b.size→KK strKind b i=tx (NhLS.at' b i):=fun i hi=>by
    obtain ⟨x,t,e⟩:=tD hS b[i] (hp.mem_iff.mp (by simp))
    rw [KK_str hi (x:=x) (t:=t) (q:=b[i].2) (Prod.ext e rfl)]
    simp [tx,NhLS.at',Array.getD,hi,e,strOf]
  refine sorted_out_str hS (Array.perm_iff_toList_perm.mpr (by rw [pairsOf_toList];exact hp)) fun i j hij hj=>?_
  have hz:(pairsOf vs).size=b.size:=by have:=hp.length_eq;rw [pairsOf_size];simp at this;omega
  rw [hz] at hj
  rw [at_ i (by omega),at_ j hj]
  exact hs.le (Nat.zero_le _) hij hj
theorem xB {P:PySem.Fin→Shared→Prop} (ho:s.heap.get? a=some (seqObj "list" vs.toArray n)) (hS:StrsAre vs ss) (hn:vs.length < 65536)
    (h:∀h' out c,h'.get? a=some (seqObj "list" out c)→Told ss out→(∀b o,b≠a→s.heap.get? b=some o→h'.get? b=some o)→P (.done (.ret .none)) {s with heap:=h'}):
    wpAny (model prog w) A (Builtin.«list.sort» ⟨[.ref a],[]⟩) P E s:=by
  have big:∀k,k=vs.length→k≤sizeLine:=fun k e=>by rw [sizeLine_eq];omega
  have k0:=Heap.SameBut.update s.heap a (Obj.mapSeq fun _=>(#[]:Array Value))
  obtain ⟨c0,o0⟩:∃c,(s.heap.update a (Obj.mapSeq fun _=>(#[]:Array Value))).get? a=some (seqObj "list" #[] c):=⟨_,get?_update_seq ho fun _=>#[]⟩
  have o2:=Heap.get?_push_of_some (seqObj "list" (#[]:Array Value) 0) (Heap.get?_push_of_some (seqObj "tuple" vs.toArray 0) o0)
  have back:∀arr:Array Keyed,arr.toList.Perm (vs.zip vs)→NhLS.So strKind.toKeyOrd tx arr 0 arr.size→P (.done (.ret .none)) {s with heap:=(((s.heap.update a (Obj.mapSeq fun _=>(#[]:Array Value))).push (seqObj "tuple" vs.toArray 0)).push (seqObj "list" #[] 0)).update a (Obj.mapSeq fun _=>arr.map (·.2))}:=fun arr hp hs=>by
    have k1:=Heap.SameBut.update (((s.heap.update a (Obj.mapSeq fun _=>(#[]:Array Value))).push (seqObj "tuple" vs.toArray 0)).push (seqObj "list" #[] 0)) a (Obj.mapSeq fun _=>arr.map (·.2))
    exact h _ _ _ (get?_update_seq o2 fun _=>arr.map (·.2)) (zD hS hp hs) fun b o hb q=>(k1.2 b hb).trans (Heap.get?_push_of_some _ (Heap.get?_push_of_some _ ((k0.2 b hb).trans q)))
  rw [list_sort_plain]
  refine wpAny_bind (listItems_at ho rfl (wpAny_bind (listUpdate_at ho rfl ?_ (big _ (by simp)) (Nat.zero_le _))))
  refine wpAny_bind (seqEpoch_at o0 rfl (wpAny_bind (wpAny_newTuple ?_ (big _ (by simp)))))
  refine wpAny_bind (wpAny_newList (wpAny_holding ?_) (Nat.zero_le _))
  dsimp only
  by_cases many:2≤vs.length
  · obtain ⟨u,v,r,e⟩:∃u v r,vs=u::v::r:=by
      rcases vs with _ | ⟨u,_ | ⟨v,r⟩⟩
      · cases many
      · simp at many
      · exact ⟨u,v,r,rfl⟩
    rw [if_neg (by simpa using many),if_neg (by simpa using many),show keyKind' vs.toArray=pure oneType' by rw [e];exact keyKind_strs (by rw [←e];exact hS)]
    refine wpAny_bind (wpAny_pure (wpAny_bind (wpAny_mono (NhLS.ni (E:=E) (a:=vs.toArray.zip vs.toArray) (g:=7) (Er (prog:=prog) (w:=w) (A:=A) (s:=_))
      (Q:=fun _ st=>∃b pd g,st=SortSt.mk' oneType' b pd g none∧b.toList.Perm (vs.zip vs)∧NhLS.So strKind.toKeyOrd tx b 0 b.size) (by simpa using tD hS)
      fun b pd g hp hs=>⟨b,pd,g,rfl,by simpa using hp,by have:=hp.length_eq;simp only [Array.length_toList] at this;rw [this];exact hs⟩) ?_ fun _ _ e=>e)))
    rintro ⟨⟨⟩,st⟩ s' ⟨rfl,b,pd,g,e,hp,hs⟩
    dsimp only at e
    subst e
    have hz:b.size=vs.length:=by have:=hp.length_eq;simpa using this
    dsimp only
    refine wpAny_bind (seqEpoch_at o2 rfl (wpAny_bind (listUpdate_at o2 rfl ?_ (Nat.zero_le _) (by have:=big _ hz;show (b.map _).size≤_;rw [Array.size_map];omega))))
    rw [if_neg (by simp)]
    exact wpAny_pure (back b hp hs)
  · rw [if_pos (by simp;omega),if_pos (by simp;omega)]
    refine wpAny_bind (wpAny_pure ?_)
    rw [StateT.run_pure]
    refine wpAny_bind (wpAny_pure ?_)
    dsimp only
    refine wpAny_bind (seqEpoch_at o2 rfl (wpAny_bind (listUpdate_at o2 rfl ?_ (Nat.zero_le _) (by show ((vs.toArray.zip vs.toArray).map _).size≤_;rw [sizeLine_eq];simp;omega))))
    rw [if_neg (by simp)]
    refine wpAny_pure (back (vs.toArray.zip vs.toArray) (by simp) fun i j _ hij hj=>?_)
    simp at hj
    omega
theorem rB {l:Addr} {Q:Value→Shared→Prop} (hl:s.heap.IsList l vs.toArray) (hS:StrsAre vs ss) (hn:vs.length < 65536)
    (h:∀h' out c,h'.get? (s.heap.objs.size+1)=some (seqObj "list" out c)→Told ss out→NhSG.Keep s.heap h'→Q (.ref (s.heap.objs.size+1)) {s with heap:=h'}):
    wpAny (model prog w) A (call (.builtin "sorted") [.ref l]) Q E s:=by
  have sz:((s.heap.push (seqObj "list" #[] 0)).update s.heap.objs.size (Obj.mapSeq (· ++vs.toArray))).objs.size=s.heap.objs.size+1:=by rw [Heap.size_update,size_push']
  have k0:=Heap.SameBut.update (s.heap.push (seqObj "list" #[] 0)) s.heap.objs.size (Obj.mapSeq (· ++vs.toArray))
  have jd:=Heap.get?_push_size ((s.heap.push (seqObj "list" #[] 0)).update s.heap.objs.size (Obj.mapSeq (· ++vs.toArray))) (o:=seqObj "list" vs.toArray 0) rfl
  rw [sz] at jd
  refine Calls.call_function_entry kind_sorted plain_sorted entry_sorted (args_sorted1 _) ?_
  unfold Builtin.«sorted»
  refine wpAny_bind (m:=checkCount "sorted" 1 1 _) (wpAny_pure (wpAny_bind (collect_list hl (wpAny_bind (wpAny_newList ?_ (by rw [sizeLine_eq];omega))))))
  rw [sz]
  refine wpAny_bind (wpAny_holding (wpAny_call_entry slot_list_sort ⟨_,jd,rfl⟩ entry_list_sort (xB (ss:=ss) jd hS hn fun h' out c q1 q2 q3=>⟨_,rfl,wpAny_pure ⟨_,rfl,?_⟩⟩) (args_list_sort _)))
  refine h h' out c q1 q2 fun b o q=>q3 b o ?_ (Heap.get?_push_of_some _ ((k0.2 b ?_).trans (Heap.get?_push_of_some _ q)))
  · exact Nat.ne_of_lt (Nat.lt_succ_of_lt (Heap.lt_size q))
  · exact Nat.ne_of_lt (Heap.lt_size q)
end
end NhSS
namespace PL
open PySem L2 Nh
section
variable {X:Cx} {e:Expr} {m1:Bool} {f:bq} {p pos:Pos}
theorem qf:CallR X (.builtin "sorted") (fun xs H Q=>∃(p:Addr) (ss:List Str),xs=[.ref p]∧SqL X.K H p (ss.map V.str)∧ss.length < 65536∧∀l,H l=none→Q (.ref l) (upd H l (.lst ((gv ss).map V.str)))):=by
  intro pins s σ H xs us Q I r h
  obtain ⟨p,ss,rfl,hq,h64,q⟩:=h
  cases r with
  | cons r rr=>
    cases rr
    cases r
    obtain ⟨its,rv,pl,hz⟩:=I.list hq
    have hS:=kt rv
    have hl:its.length=ss.length:=by have:=rv.length;simpa using this.symm
    refine NhSS.rB pl.isList hS (by omega) fun h' out e he ⟨zs,a1,a2,a3⟩ hk=>?_
    have:=j5 a2 a3
    subst this
    refine ⟨.ref (s.heap.objs.size+1),_,I.laid (t':=s.toks) hk (Nat.le_succ _) (show ObjOk X.prog X.w _ _ _ (.lst ((gv ss).map V.str)) from ⟨?_,out.toList,e,ku a1,he⟩),rfl,q _ (I.hok.fresh (Nat.le_succ _))⟩
    rw [List.length_map,jD]
    exact gD (by omega)
def jn (g:bq):bq:=fun E=>(g E).bind fun a=>match look a.2 a.1 with
  | some (.list ds)=>(i7 ds).bind fun ss=>if ss.length < 65536 then some (.ow ((gv ss).map .str),a.2) else none
  | _=>none
theorem sR (hg:Gl X "sorted") (hm:X.mg "sorted"=none) (ha:EX X e m1 f) (he:starEach [e] X.env=[(false,eval e X.env)]:=by rfl):EX X (.Call (.Name "sorted" p) [e] [] pos) m1 (jn f):=by
  refine b_ (jf qf hg hm PyProof.Rows.boot_sorted (eH ha gC he) (by decide) (by decide) he rfl) fun σ H Q z=>?_
  obtain ⟨B,E,xs,Xs,res,E',fr,cl,e,q⟩:=z
  obtain ⟨⟨s,E1⟩,e1,e⟩:=Option.bind_eq_some_iff.mp e
  refine ⟨B,E,xs,Xs,s,E1,fr,cl,e1,fun v1 H1 ⟨F,A,fr1⟩=>?_⟩
  obtain ⟨A',fr2⟩:=fr1.pop
  simp only at e
  split at e
  · rename_i ds ld
    obtain ⟨ss,es,e⟩:=Option.bind_eq_some_iff.mp e
    split at e
    · rename_i hc
      cases e
      have r:=(fr1.look0 ld).1
      cases r with
      | lst h1 h2=>
        have:=kw h2 es
        subst this
        exact ⟨_,ss,rfl,h1,hc,fun l hl=>q _ _ ⟨F,_,fr2.newl (iz _) hl⟩⟩
    · cases e
  · cases e
end
end PL
namespace PL
open PySem L2 Nh
section
variable {X:Cx}
theorem BV {body:List Stmt} {h₀:ExceptHandler} {hs:List ExceptHandler} {pos:Pos} {g:dH} (hx:X.xe=fun _ _=>False) (h:u7 X body g):SX X (.Try body (h₀::hs) [] [] pos) g:=by
  intro pins s σ H D I hw
  have q:=h pins s σ H D I hw
  rw [hx] at q
  refine wpAny_Try_except (wpAny_mono q (fun f s1 z=>?_) fun _ _ z=>z.elim)
  cases f with
  | next=>exact wpAny_execs_nil z
  | brk=>exact z
  | cont=>exact z
  | ret u=>exact z
end
end PL
namespace Nhk52
open PySem L2 Nh PL
def jF:dH:=(aN (kl (kj (ie .str) (aa 0)) (kl (ag i5 false (bB d7 (ae false (aa 0) aj)) (pC (.int 1))) (mS (gu .le) (gu .le) false false (pC (.str "a")) (aa 0) (pC (.str "z"))))))
def gc:List PyData→Option Sl:=d5 1 1 jF
def kE:dH:=(aN (ag aT false (aa 0) (aa 1)))
def gd:List PyData→Option Sl:=d5 2 2 kE
def gm:gI:=(wL 2 (su (aY 0) (su (aY 1) wK)))
def e8:bq:=(u9 (dI (aa 0) (dI (kj zd (aa 1)) cM)))
def iV:dH:=(aN (bn [none,none] (wN (aa 0)) gm bA e8))
def d_:List PyData→Option Sl:=d5 1 1 iV
def eL:dH:=(aN (ag aT false (ag aT false (ag aT false (aa 0) (aa 1)) (ak d_ (ae false (aa 0) aj))) (ak d_ (ae false (aa 1) aj))))
def bh:List PyData→Option Sl:=d5 2 2 eL
def gy:gI:=(aY 1)
def gz:dH:=(ca (fB (eW (ak gc (ae false (aa 1) aj))))
  gY
  aV)
def kF:dH:=(aG (ca (fB (eW (kj (ie .str) (aa 0))))
  gY
  aV)
  (aG (dm (aO (aa 0)) gy
  gz)
  (aN (dQ "" (dr (aa 0))))))
def eM:List PyData→Option Sl:=d5 1 2 kF
def fL:gI:=(aY 3)
def fM:dH:=(aG (ca (eI (ag (zi false) false (aa 3) (aa 0)))
  (aC 1 (ag aT false (aa 1) (aa 2)))
  aV)
  (aC 2 (ag fq false (aa 2) (pC (.int 2)))))
def jG:dH:=(aG (aC 1 (pC (.int 0)))
  (aG (aC 2 (pC (.int 1)))
  (aG (dm (aO (pC (.str "abcdefghijklmnopqrstuvwxyz"))) fL
  fM)
  (aN (aa 1)))))
def bM:List PyData→Option Sl:=d5 1 4 jG
def fm:dH:=(aN (qc (aa 0)))
def ba:List PyData→Option Sl:=d5 1 1 fm
def bG:gI:=(aY 2)
def be:dH:=(ca (eI (ag i5 false (ag pM false (aa 2) (aa 0)) (aa 2)))
  (aN (pC (.bool true)))
  aV)
def du:dH:=(aG (dm (aO (aa 1)) bG
  be)
  (aN (pC (.bool false))))
def aK:List PyData→Option Sl:=d5 2 3 du
def cN:gI:=(aY 2)
def b9:dH:=(ca (eI (ag i5 false (ag pM false (aa 2) (aa 0)) (pC (.int 0))))
  (aN (pC (.bool false)))
  aV)
def fN:dH:=(aG (dm (aO (aa 1)) cN
  b9)
  (aN (pC (.bool true))))
def cb:List PyData→Option Sl:=d5 2 3 fN
def df:gI:=(aY 3)
def cc:dH:=(aG (aC 4 (ak bM (ae false (aa 3) aj)))
  (ca (fB (eW (ak aK (ae false (aa 4) (ae false (aa 2) aj)))))
  (aG (eU (cW 2 (aa 4)))
  (eU (cW 1 (aa 3))))
  aV))
def g5:dH:=(aG (aC 1 (cA cM))
  (aG (aC 2 (cA cM))
  (aG (dm (aO (ak ba (ae false (aa 0) aj))) df
  cc)
  (aN (aa 1)))))
def ce:List PyData→Option Sl:=d5 1 5 g5
def gn:gI:=(aY 0)
def e9:bq:=(ag aT false (aa 0) (aa 1))
def dS:gI:=(aY 2)
def dU:dH:=(aC 1 (ag aT false (aa 1) (bn [none,some 2] (aO (aa 1)) gn bA e9)))
def g7:dH:=(aG (aC 1 (cA (dI (pC (.str "")) cM)))
  (aG (dm (aO (aa 0)) dS
  dU)
  (aN (aa 1))))
def bR:List PyData→Option Sl:=d5 1 3 g7
def gL:dH:=(ca (eI (ag (fT (gu .gt)) false (bB d7 (ae false (aa 0) aj)) (pC (.int 10))))
  gY
  aV)
def dg:List PyData→Option Sl:=d5 1 1 gL
def gq:dH:=(aN (ak eM (ae false (dQ "" (aa 0)) aj)))
def bS:List PyData→Option Sl:=d5 1 1 gq
def cO:gI:=(aY 0)
def cP:bq:=(ak eM (ae false (aa 0) aj))
def gM:dH:=(aN (ak ce (ae false (bn [none] (aO (aa 0)) cO bA cP) aj)))
def aQ:List PyData→Option Sl:=d5 1 1 gM
def bX:gI:=(aY 0)
def bY:bq:=(ak bM (ae false (aa 0) aj))
def bZ:gI:=(aY 0)
def b7:bq:=(aa 0)
def bD:kW:=(eW (ak cb (ae false (ak bM (ae false (aa 0) aj)) (ae false (aa 1) aj))))
def ee:dH:=(aG (aC 1 (bn [none] (aO (ak aQ (ae false (aa 0) aj))) bX bA bY))
  (aG (aC 2 (ak bS (ae false (aa 0) aj)))
  (aG (eU (ak dg (ae false (aa 2) aj)))
  (aN (ak ce (ae false (bn [none,some 1] (aO (ak bR (ae false (aa 2) aj))) bZ bD b7) aj))))))
def aH:List PyData→Option Sl:=d5 1 3 ee
def cD:dH:=(aN (ak aQ (ae false (aa 0) aj)))
def aR:List PyData→Option Sl:=d5 1 1 cD
def fO:dH:=(aG (ca (j4 (fB (eW (kj (ie .list) (aa 0)))) (eI (ag i5 false (bB d7 (ae false (aa 0) aj)) (pC (.int 0)))))
  gY
  aV)
  (aG (ca (eI (ag qK false (ak aR (ae false (aa 0) aj)) (aa 0)))
  gY
  aV)
  (ca (eI (ag i5 false (ag mE false (aa 0) (pC (.int 0))) (pC (.str ""))))
  gY
  aV)))
def dh:List PyData→Option Sl:=d5 1 1 fO
def gN:dH:=(aN (ag bP false (ag aT false (aa 0) (pC (.int 1))) (pC (.int 2))))
def aZ:List PyData→Option Sl:=d5 1 1 gN
def bT (self:List PyData→Option Sl):dH:=(aG (ca (eI (ag i5 false (bB d7 (ae false (aa 0) aj)) (pC (.int 1))))
  (aN (cA (dI (u9 (dI (aa 0) (dI (pC (.int 1)) cM))) cM)))
  aV)
  (aG (aC 1 (ak aZ (ae false (bB d7 (ae false (aa 0) aj)) aj)))
  (aN (ak bh (ae false (ak self (ae false (jb false (aa 0) jM (d4 (aa 1))) aj)) (ae false (ak self (ae false (jb false (aa 0) (d4 (aa 1)) jM) aj)) aj))))))
def cf:Nat→List PyData→Option Sl
  | 0=>fun _=>none
  | k+1=>d5 1 2 (bT (cf k))
def cQ:List PyData→Option Sl:=cf 8
def bU (self:List PyData→Option Sl):dH:=(aG (ca (eI (ag i5 false (aa 0) (pC (.int 1))))
  (aN (pC (.int 1)))
  aV)
  (aG (aC 1 (ak aZ (ae false (aa 0) aj)))
  (aN (ag fq false (pC (.int 2)) (ag aT false (ak self (ae false (aa 1) aj)) (ak self (ae false (ag sr false (aa 0) (aa 1)) aj)))))))
def cg:Nat→List PyData→Option Sl
  | 0=>fun _=>none
  | k+1=>d5 1 2 (bU (cg k))
def gG:List PyData→Option Sl:=cg 8
def fv:gI:=(aY 0)
def dM:bq:=(ak gG (ae false (bB d7 (ae false (aa 0) aj)) aj))
def dR:dH:=(aG (eU (ak dh (ae false (aa 0) aj)))
  (aN (bB pP (ae false (bn [none] (aO (ak aH (ae false (aa 0) aj))) fv bA dM) aj))))
def aF:List PyData→Option Sl:=d5 1 1 dR
def fP:gI:=(aY 2)
def eN:dH:=(aC 1 (ak gd (ae false (aa 1) (ae false (ak cQ (ae false (aa 2) aj)) aj))))
def iD:dH:=(aG (ca (eI (ag (fT (gu .gt)) false (ak aF (ae false (aa 0) aj)) (pC (.int 800))))
  gY
  aV)
  (aG (aC 1 (cA cM))
  (aG (dm (aO (ak aH (ae false (aa 0) aj))) fP
  eN)
  (aN (aa 1)))))
def dN:List PyData→Option Sl:=d5 1 3 iD
def kG:dH:=(aG (ca (eI (ag (fT (gu .lt)) false (aa 1) (bB d7 (ae false (aa 0) aj))))
  (aN (ag mE false (aa 0) (aa 1)))
  aV)
  (aN (pC (.int 0))))
def bj:List PyData→Option Sl:=d5 2 2 kG
def jH:dH:=(aG (aC 2 (ag eJ false (ag aT false (ag aT false (ag fq false (ag eJ false (aa 0) (ag mR false (pC (.int 10)) (pC (.int 40)))) (ag aT false (pC (.int 62089911)) (ag fq false (pC (.int 2)) (aa 1)))) (ag fq false (pC (.int 982451653)) (aa 1))) (pC (.int 17))) (pC (.int 4294967291))))
  (aN (ag eJ false (ag fq false (aa 2) (ag aT false (ag aT false (ag bP false (aa 2) (pC (.int 1024))) (ag fq false (pC (.int 2)) (aa 1))) (pC (.int 1)))) (pC (.int 4294967279)))))
def bE:List PyData→Option Sl:=d5 2 3 jH
def jP:gI:=(aY 0)
def jQ:bq:=(ag aT false (aa 0) (aa 1))
def jR:gI:=(aY 2)
def jS:dH:=(aC 1 (ag aT false (aa 1) (bn [none,some 2] (aO (aa 1)) jP bA jQ)))
def j_:dH:=(aG (aC 1 (cA (dI (pC (.str "")) cM)))
  (aG (dm (aO (aa 0)) jR
  jS)
  (aN (aa 1))))
def ef:List PyData→Option Sl:=d5 1 3 j_
def cZ:gI:=(aY 0)
def b8:bq:=(ag (zi false) false (aa 0) (aa 1))
def bi:gI:=(aY 2)
def aU:dH:=(ca (eW (bB sC (ae false (bn [none,some 0] (aO (aa 2)) cZ bA b8) aj)))
  (aN (pC (.bool true)))
  aV)
def em:dH:=(aG (dm (aO (aa 1)) bi
  aU)
  (aN (pC (.bool false))))
def bI:List PyData→Option Sl:=d5 2 3 em
def cE:gI:=(aY 0)
def cF:bq:=(aa 0)
def cG:kW:=(eI (ag i5 false (bB d7 (ae false (aa 0) aj)) (aa 1)))
def dv:gI:=(aY 3)
def cH:dH:=(ca (fB (eW (ak bI (ae false (aa 3) (ae false (aa 1) aj)))))
  (eU (cW 1 (aa 3)))
  aV)
def dw:gI:=(aY 2)
def dC:dH:=(dm (aO (jn (bn [none,some 2] (aO (aa 0)) cE cG cF))) dv
  cH)
def gA:dH:=(aG (aC 1 (cA cM))
  (aG (dm (mW (ae false (pC (.int 0)) (ae false (pC (.int 27)) aj))) dw
  dC)
  (aN (aa 1))))
def bb:List PyData→Option Sl:=d5 1 4 gA
def e_:gI:=(aY 0)
def dW:bq:=(ag mE false (aa 1) (aa 0))
def dX:kW:=(eI (ag i5 false (ag pM false (ag sy false (aa 2) (aa 0)) (pC (.int 1))) (pC (.int 1))))
def fb:gI:=(aY 5)
def fe:dH:=(aG (aC 6 (ag sy false (ag bP false (aa 4) (pC (.int 3))) (ag fq false (pC (.int 6)) (aa 5))))
  (aG (ca (eI (ag (fT (gu .lt)) false (bB nU (ae false (aa 4) aj)) (ag mR false (pC (.int 10)) (pC (.int 18)))))
  (aC 6 (ak bE (ae false (aa 4) (ae false (ag aT false (pC (.int 30)) (aa 5)) aj))))
  aV)
  (aG (aC 7 (dQ "" (bn [none,some 2,some 6] (f_ (ae false (bB d7 (ae false (aa 2) aj)) aj)) e_ dX dW)))
  (ca (eI (ag qK false (aa 7) (pC (.str ""))))
  (eU (cW 3 (aa 7)))
  aV))))
def fg:gI:=(aY 4)
def di:dH:=(dm (f_ (ae false (ag aT false (pC (.int 1)) (ag eJ false (aa 4) (pC (.int 3)))) aj)) fb
  fe)
def g8:dH:=(aG (aC 3 (cA cM))
  (aG (dm (aO (ag aT false (cA (dI (ak bj (ae false (aa 0) (ae false (aa 1) aj))) cM)) (jb false (aa 0) (d4 (ag aT false (aa 1) (pC (.int 1)))) (d4 (ag aT false (aa 1) (pC (.int 8))))))) fg
  di)
  (aN (ak bb (ae false (ag aT false (aa 3) (cA (dI (aa 2) cM))) aj)))))
def eB:List PyData→Option Sl:=d5 3 8 g8
def eC:gI:=(aY 0)
def dD:bq:=(ag mE false (aa 1) (ag eJ false (ag aT false (aa 2) (ag fq false (aa 3) (aa 0))) (pC (.int 26))))
def gB:dH:=(aG (aC 2 (pC (.str "abcdefghijklmnopqrstuvwxyz")))
  (aG (aC 3 (ag aT false (pC (.int 1)) (ag eJ false (aa 0) (aa 1))))
  (aG (aC 4 (ag mE false (cA (oB [1,3,5,7,9,11])) (ag eJ false (ag bP false (aa 0) (aa 1)) (pC (.int 6)))))
  (aG (aC 5 (ag eJ false (ag bP false (ag bP false (aa 0) (aa 1)) (pC (.int 6))) (pC (.int 26))))
  (aN (dQ "" (mF (bn [none,some 2,some 5,some 4] (f_ (ae false (aa 3) aj)) eC bA dD))))))))
def dO:List PyData→Option Sl:=d5 2 6 gB
def ck:gI:=(aY 0)
def cm:bq:=(aa 0)
def cn:kW:=(eI (ag (zi false) false (aa 0) (aa 1)))
def dE:gI:=(aY 0)
def cq:bq:=(ag (fT (gu .gt)) false (bB d7 (ae false (bn [none,some 1] (aO (aa 0)) ck cn cm) aj)) (pC (.int 0)))
def bN:gI:=(aY 3)
def bv:dH:=(ca (eW (bB sC (ae false (bn [none,some 3] (aO (aa 0)) dE bA cq) aj)))
  (eU (cW 2 (aa 3)))
  aV)
def fi:dH:=(aG (aC 2 (cA cM))
  (aG (dm (aO (ak ef (ae false (aa 1) aj))) bN
  bv)
  (aN (ak bb (ae false (aa 2) aj)))))
def bF:List PyData→Option Sl:=d5 2 4 fi
def eD (self:List PyData→Option Sl):dH:=(aG (ca (eI (ag i5 false (aa 0) (pC (.int 1))))
  (aN (pC (.int 1)))
  aV)
  (aN (ag fq false (pC (.int 2)) (ag aT false (ak self (ae false (ag sr false (aa 0) (ag bP false (aa 0) (pC (.int 2)))) aj)) (ak self (ae false (ag bP false (aa 0) (pC (.int 2))) aj))))))
def eO:Nat→List PyData→Option Sl
  | 0=>fun _=>none
  | k+1=>d5 1 1 (eD (eO k))
def jr:List PyData→Option Sl:=eO 8
def gO:gI:=(aY 0)
def fQ:bq:=(ag mE false (aa 1) (ag eJ false (ag aT false (aa 2) (ag fq false (pC (.int 3)) (aa 0))) (pC (.int 26))))
def dP:gI:=(aY 5)
def c_:dH:=(aG (aC 6 (ak bE (ae false (aa 0) (ae false (ag aT false (pC (.int 50)) (aa 5)) aj))))
  (aG (aC 7 (jb false (aa 3) (d4 (ag fq false (aa 5) (aa 1))) (d4 (ag aT false (ag aT false (ag fq false (aa 5) (aa 1)) (pC (.int 1))) (ag eJ false (aa 6) (aa 1))))))
  (aG (ca (eI (ag i5 false (ag eJ false (ag bP false (aa 6) (pC (.int 11))) (pC (.int 2))) (pC (.int 1))))
  (aC 7 (ag aT false (jb false (aa 7) (d4 (pC (.int 1))) jM) (cA (dI (ag mE false (aa 3) (ag eJ false (ag bP false (aa 6) (pC (.int 22))) (bB d7 (ae false (aa 3) aj)))) cM))))
  aV)
  (eU (cW 4 (dQ "" (dr (aa 7))))))))
def iE:dH:=(aG (aC 2 (pC (.str "abcdefghijklmnopqrstuvwxyz")))
  (aG (aC 3 (bn [none,some 2,some 0] (f_ (ae false (ag fq false (pC (.int 2)) (aa 1)) aj)) gO bA fQ))
  (aG (aC 4 (cA cM))
  (aG (dm (f_ (ae false (pC (.int 2)) aj)) dP
  c_)
  (aN (ak bb (ae false (aa 4) aj)))))))
def eG:List PyData→Option Sl:=d5 2 8 iE
def jt:gI:=(aY 0)
def iF:bq:=(ak jr (ae false (bB d7 (ae false (aa 0) aj)) aj))
def rC:dH:=(aG (aC 1 (ak dO (ae false (ak bj (ae false (aa 0) (ae false (pC (.int 0)) aj))) (ae false (pC (.int 6)) aj))))
  (aG (aC 2 (ak eB (ae false (aa 0) (ae false (pC (.int 1)) (ae false (aa 1) aj)))))
  (aG (ca (eI (ag i5 false (ag eJ false (ag bP false (ak bj (ae false (aa 0) (ae false (pC (.int 0)) aj))) (pC (.int 3))) (pC (.int 8))) (pC (.int 5))))
  (aG (aC 2 (ak eG (ae false (ak bj (ae false (aa 0) (ae false (pC (.int 1)) aj))) (ae false (pC (.int 5)) aj))))
  (aC 1 (dQ "" (dr (dQ "" (aa 2))))))
  aV)
  (aG (aC 3 (kZ (aa 2)))
  (aG (aC 4 (ak aF (ae false (aa 3) aj)))
  (aG (aC 5 (bB pP (ae false (bn [none] (aO (ak bF (ae false (aa 2) (ae false (aa 1) aj)))) jt bA iF) aj)))
  (aG (ca (j4 (fB (eW (kj (ie .int) (aa 4)))) (j4 (eW (kj (ie .bool) (aa 4))) (j4 (eI (ag qK false (aa 4) (aa 5))) (eI (ag qK false (aa 3) (aa 2))))))
  (aN (pC (.bool false)))
  aV)
  (aG (aC 6 (ak dN (ae false (aa 3) aj)))
  (aN (kl (kj (ie .list) (aa 6)) (kl (ag i5 false (bB d7 (ae false (aa 6) aj)) (aa 5)) (ag i5 false (aa 3) (aa 2)))))))))))))
def ka:List PyData→Option Sl:=d5 1 7 rC
end Nhk52
namespace Nhk52
open PySem L2 Nh PL
def jd (i:Nat):Stmt:=PySem.Challenge.pw_nailhang_k52_pieces_needed.main.body.getD i (.Pass ⟨0,0,0,0⟩)
section
variable {P:Program} {w:World} {K:PySem.W.Frag} {mg:Str→Option Value} {base:Heap}
abbrev gR:Stmt:=jd 7
theorem sS:FnScope ["thing"] ["thing"] (ah gR):=⟨rfl,rfl,rfl,by decide+kernel,rfl,by decide+kernel,by decide+kernel⟩
theorem sT (D:Def K mg "is_nail" gR ["thing"]) (B:Bn mg):Own P w K mg base 1 "is_nail" ["thing"] (cL K gc):=by
  delta gc
  refine fu (g:=jF) D sS rfl rfl (by decide) fun f cdv A outer s H E hr=>?_
  delta jF
  exact (ao (aL (pH (k_ .str (by rfl) (by exact B.isinstance) (ab 0) (by rfl) (by exact B.str) PyProof.Rows.boot_str) (pH (wB hr.units (fZ (by rfl) (by exact B.len) (ai (ab 0) aq)) ar) (wE (Dh .le .le jg (ab 0) jg))))))
abbrev iG:Stmt:=jd 8
theorem vI:FnScope ["one","other"] ["one","other"] (ah iG):=⟨rfl,rfl,rfl,by decide+kernel,rfl,by decide+kernel,by decide+kernel⟩
theorem vJ (D:Def K mg "joined" iG ["one","other"]) (B:Bn mg):Own P w K mg base 1 "joined" ["one","other"] (cL K gd):=by
  delta gd
  refine fu (g:=kE) D vI rfl rfl (by decide) fun f cdv A outer s H E hr=>?_
  delta kE
  exact (ao (aL (bw (ab 0) (ab 1))))
abbrev gf:Stmt:=jd 9
theorem rD:FnScope ["cord"] ["cord"] (ah gf):=⟨rfl,rfl,rfl,by decide+kernel,rfl,by decide+kernel,by decide+kernel⟩
theorem rE (D:Def K mg "contrary" gf ["cord"]) (B:Bn mg):Own P w K mg base 1 "contrary" ["cord"] (cL K d_):=by
  delta d_
  refine fu (g:=iV) D rD rfl rfl (by decide) fun f cdv A outer s H E hr=>?_
  delta iV
  exact (ao (aL (eY (N:=["nail","turns"]) (js:=[none,none]) gW (by rfl) (BF (by rfl) (by exact B.reversed) (ab 0)) (fun _ _ _ _=>(by delta gm;exact (BE (by rfl) (qO (aM 0 (show (["nail","turns"]:List Str).Nodup by decide+kernel)) (qO (aM 1 (show (["nail","turns"]:List Str).Nodup by decide+kernel)) zg))))) (fun _ _ _ _=>(by delta e8;exact (wG (fJ (ab 0) (fJ (Bw (ab 1)) eX))))))))
abbrev cr:Stmt:=jd 10
theorem kH:FnScope ["one","other"] ["one","other"] (ah cr):=⟨rfl,rfl,rfl,by decide+kernel,rfl,by decide+kernel,by decide+kernel⟩
theorem kI (D:Def K mg "there_and_back" cr ["one","other"]) (B:Bn mg) (D_contrary:Own P w K mg base 1 "contrary" ["cord"] (cL K d_)):Own P w K mg base 2 "there_and_back" ["one","other"] (cL K bh):=by
  delta bh
  refine fu (g:=eL) D kH rfl rfl (by decide) fun f cdv A outer s H E hr=>?_
  delta eL
  exact (ao (aL (bw (bw (bw (ab 0) (ab 1)) (aD D_contrary (hr.mono (by decide)) (by rfl) (ai (ab 0) aq))) (aD D_contrary (hr.mono (by decide)) (by rfl) (ai (ab 1) aq)))))
abbrev iH:Stmt:=jd 12
theorem sc_set_of:FnScope ["nails","sign"] ["nails"] (ah iH):=⟨rfl,rfl,rfl,by decide+kernel,rfl,by decide+kernel,by decide+kernel⟩
theorem vK (D:Def K mg "set_of" iH ["nails"]) (B:Bn mg) (D_is_nail:Own P w K mg base 1 "is_nail" ["thing"] (cL K gc)):Own P w K mg base 2 "set_of" ["nails"] (cL K eM):=by
  delta eM
  refine fu (g:=kF) D sc_set_of rfl rfl (by decide) fun f cdv A outer s H E hr=>?_
  delta kF
  exact (am (d8 (kY (h9 (k_ .str (by rfl) (by exact B.isinstance) (ab 0) (by rfl) (by exact B.str) PyProof.Rows.boot_str)))
  (ao gX)
  bC)
  (am (ft PassesOwn.never (by rfl) (cC (ab 0)) (by delta gy;exact (aM 1 sc_set_of.nd))
  (by delta gz;exact (ao (d8 (kY (h9 (aD D_is_nail (hr.mono (by decide)) (by rfl) (ai (ab 1) aq))))
  (ao gX)
  bC))))
  (ao (aL (iP (j8 rfl (by rfl) (by exact B.sorted) (by rfl) (by exact B.set) (ab 0)))))))
abbrev gS:Stmt:=jd 16
theorem sc_bits_of:FnScope ["nails","bits","bit","letter"] ["nails"] (ah gS):=⟨rfl,rfl,rfl,by decide+kernel,rfl,by decide+kernel,by decide+kernel⟩
theorem sU (D:Def K mg "bits_of" gS ["nails"]) (B:Bn mg) {t_LETTERS:Tok} (G_LETTERS:mg "LETTERS"=some (.str "abcdefghijklmnopqrstuvwxyz" t_LETTERS)):Own P w K mg base 1 "bits_of" ["nails"] (cL K bM):=by
  delta bM
  refine fu (g:=jG) D sc_bits_of rfl rfl (by decide) fun f cdv A outer s H E hr=>?_
  delta jG
  exact (am (aJ 1 sc_bits_of.nd ar)
  (am (aJ 2 sc_bits_of.nd ar)
  (am (ft PassesOwn.never (by rfl) (cC (zn (by rfl) (by exact G_LETTERS))) (by delta fL;exact (aM 3 sc_bits_of.nd))
  (by delta fM;exact (am (d8 (At (ab 3) (ab 0))
  (ao (aJ 1 sc_bits_of.nd (bw (ab 1) (ab 2))))
  bC)
  (ao (aJ 2 sc_bits_of.nd (fH (ab 2) ar))))))
  (ao (aL (ab 1))))))
abbrev cR:Stmt:=jd 17
theorem lA:FnScope ["sets"] ["sets"] (ah cR):=⟨rfl,rfl,rfl,by decide+kernel,rfl,by decide+kernel,by decide+kernel⟩
theorem lB {c T:Addr} (D:DefT K mg "in_told_order" cR ["sets"] c T) (B:Bn mg):Own P w K mg base 1 "in_told_order" ["sets"] (cL K ba):=by
  delta ba
  refine Ep (g:=fm) D lA rfl rfl (by decide) fun f A outer s H E hr=>?_
  delta fm
  exact (ao (aL (xt rfl D.tp D.hd hr (by rfl) (by exact B.sorted) (by exact B.len) (ab 0) (by show (Str.ofString "in_told_order"++Str.ofString ".<locals>.")++Str.ofString "<lambda>"=_;decide+kernel))))
abbrev cu:Stmt:=jd 18
theorem sc_has_part_among:FnScope ["bits","parts","part"] ["bits","parts"] (ah cu):=⟨rfl,rfl,rfl,by decide+kernel,rfl,by decide+kernel,by decide+kernel⟩
theorem kJ (D:Def K mg "has_part_among" cu ["bits","parts"]) (B:Bn mg):Own P w K mg base 1 "has_part_among" ["bits","parts"] (cL K aK):=by
  delta aK
  refine fu (g:=du) D sc_has_part_among rfl rfl (by decide) fun f cdv A outer s H E hr=>?_
  delta du
  exact (am (ft PassesOwn.never (by rfl) (cC (ab 1)) (by delta bG;exact (aM 2 sc_has_part_among.nd))
  (by delta be;exact (ao (d8 (ji hr.units (pN (ab 2) (ab 0)) (ab 2))
  (ao (aL mP))
  bC))))
  (ao (aL mP)))
abbrev eP:Stmt:=jd 19
theorem sc_meets_each:FnScope ["bits","others","other"] ["bits","others"] (ah eP):=⟨rfl,rfl,rfl,by decide+kernel,rfl,by decide+kernel,by decide+kernel⟩
theorem nY (D:Def K mg "meets_each" eP ["bits","others"]) (B:Bn mg):Own P w K mg base 1 "meets_each" ["bits","others"] (cL K cb):=by
  delta cb
  refine fu (g:=fN) D sc_meets_each rfl rfl (by decide) fun f cdv A outer s H E hr=>?_
  delta fN
  exact (am (ft PassesOwn.never (by rfl) (cC (ab 1)) (by delta cN;exact (aM 2 sc_meets_each.nd))
  (by delta b9;exact (ao (d8 (ji hr.units (pN (ab 2) (ab 0)) ar)
  (ao (aL mP))
  bC))))
  (ao (aL mP)))
abbrev gg:Stmt:=jd 20
theorem sc_least_of:FnScope ["sets","told","kept","nails","bits"] ["sets"] (ah gg):=⟨rfl,rfl,rfl,by decide+kernel,rfl,by decide+kernel,by decide+kernel⟩
theorem rF (D:Def K mg "least_of" gg ["sets"]) (B:Bn mg) (D_in_told_order:Own P w K mg base 1 "in_told_order" ["sets"] (cL K ba)) (D_bits_of:Own P w K mg base 1 "bits_of" ["nails"] (cL K bM)) (D_has_part_among:Own P w K mg base 1 "has_part_among" ["bits","parts"] (cL K aK)):Own P w K mg base 2 "least_of" ["sets"] (cL K ce):=by
  delta ce
  refine fu (g:=g5) D sc_least_of rfl rfl (by decide) fun f cdv A outer s H E hr=>?_
  delta g5
  exact (am (aJ 1 sc_least_of.nd (fK eX))
  (am (aJ 2 sc_least_of.nd (fK eX))
  (am (ft PassesOwn.never (by rfl) (cC (aD D_in_told_order (hr.mono (by decide)) (by rfl) (ai (ab 0) aq))) (by delta df;exact (aM 3 sc_least_of.nd))
  (by delta cc;exact (am (aJ 4 sc_least_of.nd (aD D_bits_of (hr.mono (by decide)) (by rfl) (ai (ab 3) aq)))
  (ao (d8 (kY (h9 (aD D_has_part_among (hr.mono (by decide)) (by rfl) (ai (ab 4) (ai (ab 2) aq)))))
  (am (hO (gQ 2 (ab 4)))
  (ao (hO (gQ 1 (ab 3)))))
  bC)))))
  (ao (aL (ab 1))))))
abbrev gh:Stmt:=jd 21
theorem sc_all_sets:FnScope ["nails","sets","nail"] ["nails"] (ah gh):=⟨rfl,rfl,rfl,by decide+kernel,rfl,by decide+kernel,by decide+kernel⟩
theorem rG (D:Def K mg "all_sets" gh ["nails"]) (B:Bn mg):Own P w K mg base 1 "all_sets" ["nails"] (cL K bR):=by
  delta bR
  refine fu (g:=g7) D sc_all_sets rfl rfl (by decide) fun f cdv A outer s H E hr=>?_
  delta g7
  exact (am (aJ 1 sc_all_sets.nd (fK (fJ jg eX)))
  (am (ft PassesOwn.never (by rfl) (cC (ab 0)) (by delta dS;exact (aM 2 sc_all_sets.nd))
  (by delta dU;exact (ao (aJ 1 sc_all_sets.nd (bw (ab 1) (eY (N:=["chosen","nail"]) (js:=[none,some 2]) eZ (by rfl) (cC (ab 1)) (fun _ _ _ _=>(by delta gn;exact (aM 0 (show (["chosen","nail"]:List Str).Nodup by decide+kernel)))) (fun _ _ _ _=>(by delta e9;exact (bw (ab 0) (ab 1))))))))))
  (ao (aL (ab 1)))))
abbrev eQ:Stmt:=jd 22
theorem nZ:FnScope ["nails"] ["nails"] (ah eQ):=⟨rfl,rfl,rfl,by decide+kernel,rfl,by decide+kernel,by decide+kernel⟩
theorem n3 (D:Def K mg "check_many" eQ ["nails"]) (B:Bn mg) {t_MOST_NAILS:Tok} (G_MOST_NAILS:mg "MOST_NAILS"=some (.int 10 t_MOST_NAILS)):Own P w K mg base 1 "check_many" ["nails"] (cL K dg):=by
  delta dg
  refine fu (g:=gL) D nZ rfl rfl (by decide) fun f cdv A outer s H E hr=>?_
  delta gL
  exact (ao (d8 (t8 .gt (fZ (by rfl) (by exact B.len) (ai (ab 0) aq)) (ub (by rfl) (by exact G_MOST_NAILS)))
  (ao gX)
  bC))
abbrev dY:Stmt:=jd 23
theorem nw:FnScope ["sets"] ["sets"] (ah dY):=⟨rfl,rfl,rfl,by decide+kernel,rfl,by decide+kernel,by decide+kernel⟩
theorem ny (D:Def K mg "nails_among" dY ["sets"]) (B:Bn mg) (D_set_of:Own P w K mg base 2 "set_of" ["nails"] (cL K eM)):Own P w K mg base 3 "nails_among" ["sets"] (cL K bS):=by
  delta bS
  refine fu (g:=gq) D nw rfl rfl (by decide) fun f cdv A outer s H E hr=>?_
  delta gq
  exact (ao (aL (aD D_set_of (hr.mono (by decide)) (by rfl) (ai (iP (ab 0)) aq))))
abbrev eR:Stmt:=jd 24
theorem n4:FnScope ["family"] ["family"] (ah eR):=⟨rfl,rfl,rfl,by decide+kernel,rfl,by decide+kernel,by decide+kernel⟩
theorem n5 (D:Def K mg "least_sets" eR ["family"]) (B:Bn mg) (D_set_of:Own P w K mg base 2 "set_of" ["nails"] (cL K eM)) (D_least_of:Own P w K mg base 2 "least_of" ["sets"] (cL K ce)):Own P w K mg base 3 "least_sets" ["family"] (cL K aQ):=by
  delta aQ
  refine fu (g:=gM) D n4 rfl rfl (by decide) fun f cdv A outer s H E hr=>?_
  delta gM
  exact (ao (aL (aD D_least_of (hr.mono (by decide)) (by rfl) (ai (eY (N:=["nails"]) (js:=[none]) gW (by rfl) (cC (ab 0)) (fun _ _ _ _=>(by delta cO;exact (aM 0 (show (["nails"]:List Str).Nodup by decide+kernel)))) (fun _ _ _ _=>(by delta cP;exact (aD D_set_of (hr.mono (by decide)) (by rfl) (ai (ab 0) aq))))) aq))))
abbrev dF:Stmt:=jd 25
theorem sc_meeting_sets:FnScope ["family","others","nails"] ["family"] (ah dF):=⟨rfl,rfl,rfl,by decide+kernel,rfl,by decide+kernel,by decide+kernel⟩
theorem mo (D:Def K mg "meeting_sets" dF ["family"]) (B:Bn mg) (D_least_sets:Own P w K mg base 3 "least_sets" ["family"] (cL K aQ)) (D_bits_of:Own P w K mg base 1 "bits_of" ["nails"] (cL K bM)) (D_nails_among:Own P w K mg base 3 "nails_among" ["sets"] (cL K bS)) (D_check_many:Own P w K mg base 1 "check_many" ["nails"] (cL K dg)) (D_all_sets:Own P w K mg base 1 "all_sets" ["nails"] (cL K bR)) (D_meets_each:Own P w K mg base 1 "meets_each" ["bits","others"] (cL K cb)) (D_least_of:Own P w K mg base 2 "least_of" ["sets"] (cL K ce)):Own P w K mg base 4 "meeting_sets" ["family"] (cL K aH):=by
  delta aH
  refine fu (g:=ee) D sc_meeting_sets rfl rfl (by decide) fun f cdv A outer s H E hr=>?_
  delta ee
  exact (am (aJ 1 sc_meeting_sets.nd (eY (N:=["nails"]) (js:=[none]) gW (by rfl) (cC (aD D_least_sets (hr.mono (by decide)) (by rfl) (ai (ab 0) aq))) (fun _ _ _ _=>(by delta bX;exact (aM 0 (show (["nails"]:List Str).Nodup by decide+kernel)))) (fun _ _ _ _=>(by delta bY;exact (aD D_bits_of (hr.mono (by decide)) (by rfl) (ai (ab 0) aq))))))
  (am (aJ 2 sc_meeting_sets.nd (aD D_nails_among (hr.mono (by decide)) (by rfl) (ai (ab 0) aq)))
  (am (hO (aD D_check_many (hr.mono (by decide)) (by rfl) (ai (ab 2) aq)))
  (ao (aL (aD D_least_of (hr.mono (by decide)) (by rfl) (ai (ko (N:=["chosen","others"]) (js:=[none,some 1]) eZ (by rfl) (cC (aD D_all_sets (hr.mono (by decide)) (by rfl) (ai (ab 2) aq))) (fun _ _ _ _=>(by delta bZ;exact (aM 0 (show (["chosen","others"]:List Str).Nodup by decide+kernel)))) (fun _ _ _ _=>(by delta bD;exact (h9 (aD D_meets_each (hr.mono (by decide)) (by rfl) (ai (aD D_bits_of (hr.mono (by decide)) (by rfl) (ai (ab 0) aq)) (ai (ab 1) aq)))))) (fun _ _ _ _=>(by delta b7;exact (ab 0)))) aq)))))))
abbrev bO:Stmt:=jd 27
theorem jK:FnScope ["sets"] ["sets"] (ah bO):=⟨rfl,rfl,rfl,by decide+kernel,rfl,by decide+kernel,by decide+kernel⟩
theorem jL (D:Def K mg "least_or_no_rule" bO ["sets"]) (B:Bn mg) (D_least_sets:Own P w K mg base 3 "least_sets" ["family"] (cL K aQ)):Own P w K mg base 4 "least_or_no_rule" ["sets"] (cL K aR):=by
  delta aR
  refine fu (g:=cD) D jK rfl rfl (by decide) fun f cdv A outer s H E hr=>?_
  delta cD
  exact (ao (BV rfl
  (ao (aL (aD D_least_sets (hr.mono (by decide)) (by rfl) (ai (ab 0) aq))))))
abbrev eS:Stmt:=jd 28
theorem n8:FnScope ["thing"] ["thing"] (ah eS):=⟨rfl,rfl,rfl,by decide+kernel,rfl,by decide+kernel,by decide+kernel⟩
theorem n_ (D:Def K mg "check_rule" eS ["thing"]) (B:Bn mg) (D_least_or_no_rule:Own P w K mg base 4 "least_or_no_rule" ["sets"] (cL K aR)):Own P w K mg base 5 "check_rule" ["thing"] (cL K dh):=by
  delta dh
  refine fu (g:=fO) D n8 rfl rfl (by decide) fun f cdv A outer s H E hr=>?_
  delta fO
  exact (am (d8 (C8 (tW (kY (h9 (k_ .list (by rfl) (by exact B.isinstance) (ab 0) (by rfl) (by exact B.list) PyProof.Rows.boot_list))) (wF (ji hr.units (fZ (by rfl) (by exact B.len) (ai (ab 0) aq)) ar))))
  (ao gX)
  bC)
  (am (d8 (tV hr.units (aD D_least_or_no_rule (hr.mono (by decide)) (by rfl) (ai (ab 0) aq)) (ab 0))
  (ao gX)
  bC)
  (ao (d8 (ji hr.units (mV (ab 0) ar) jg)
  (ao gX)
  bC))))
abbrev eT:Stmt:=jd 31
theorem oa:FnScope ["number"] ["number"] (ah eT):=⟨rfl,rfl,rfl,by decide+kernel,rfl,by decide+kernel,by decide+kernel⟩
theorem oe (D:Def K mg "first_half" eT ["number"]) (B:Bn mg):Own P w K mg base 1 "first_half" ["number"] (cL K aZ):=by
  delta aZ
  refine fu (g:=gN) D oa rfl rfl (by decide) fun f cdv A outer s H E hr=>?_
  delta gN
  exact (ao (aL (fI (bw (ab 0) ar) ar)))
abbrev cI:Stmt:=jd 32
theorem sc_halves_round:FnScope ["nails","middle"] ["nails"] (ah cI):=⟨rfl,rfl,rfl,by decide+kernel,rfl,by decide+kernel,by decide+kernel⟩
theorem iI (D:Def K mg "halves_round" cI ["nails"]) (B:Bn mg) (D_first_half:Own P w K mg base 1 "first_half" ["number"] (cL K aZ)) (D_there_and_back:Own P w K mg base 2 "there_and_back" ["one","other"] (cL K bh)):∀k:Nat,Own P w K mg base (2+k+1) "halves_round" ["nails"] (cL K (cf k))
  | 0=>m5 D sc_halves_round
  | k+1=>by
    have D_halves_round:=iI D B D_first_half D_there_and_back k
    show Own P w K mg base (2+k+1+1) "halves_round" ["nails"] (cL K (d5 1 2 (bT (cf k))))
    generalize cf k=self at D_halves_round ⊢
    refine fu (k:=2+k+1) (g:=bT self) D sc_halves_round rfl rfl (by decide) fun f cdv A outer s H E hr=>?_
    delta bT
    exact (am (d8 (ji hr.units (fZ (by rfl) (by exact B.len) (ai (ab 0) aq)) ar)
  (ao (aL (fK (fJ (wG (fJ (ab 0) (fJ ar eX))) eX))))
  bC)
  (am (aJ 1 sc_halves_round.nd (aD D_first_half (hr.mono (by omega)) (by rfl) (ai (fZ (by rfl) (by exact B.len) (ai (ab 0) aq)) aq)))
  (ao (aL (aD D_there_and_back (hr.mono (by omega)) (by rfl) (ai (aD D_halves_round hr (by rfl) (ai (m4 (ab 0) pI (iO (ab 1))) aq)) (ai (aD D_halves_round hr (by rfl) (ai (m4 (ab 0) (iO (ab 1)) pI) aq)) aq)))))))
theorem mq (D:Def K mg "halves_round" cI ["nails"]) (B:Bn mg) (D_first_half:Own P w K mg base 1 "first_half" ["number"] (cL K aZ)) (D_there_and_back:Own P w K mg base 2 "there_and_back" ["one","other"] (cL K bh)):Own P w K mg base 11 "halves_round" ["nails"] (cL K cQ):=iI D B D_first_half D_there_and_back 8
abbrev cJ:Stmt:=jd 33
theorem sc_round_pieces:FnScope ["number","middle"] ["number"] (ah cJ):=⟨rfl,rfl,rfl,by decide+kernel,rfl,by decide+kernel,by decide+kernel⟩
theorem iJ (D:Def K mg "round_pieces" cJ ["number"]) (B:Bn mg) (D_first_half:Own P w K mg base 1 "first_half" ["number"] (cL K aZ)):∀k:Nat,Own P w K mg base (1+k+1) "round_pieces" ["number"] (cL K (cg k))
  | 0=>m5 D sc_round_pieces
  | k+1=>by
    have D_round_pieces:=iJ D B D_first_half k
    show Own P w K mg base (1+k+1+1) "round_pieces" ["number"] (cL K (d5 1 2 (bU (cg k))))
    generalize cg k=self at D_round_pieces ⊢
    refine fu (k:=1+k+1) (g:=bU self) D sc_round_pieces rfl rfl (by decide) fun f cdv A outer s H E hr=>?_
    delta bU
    exact (am (d8 (ji hr.units (ab 0) ar)
  (ao (aL ar))
  bC)
  (am (aJ 1 sc_round_pieces.nd (aD D_first_half (hr.mono (by omega)) (by rfl) (ai (ab 0) aq)))
  (ao (aL (fH ar (bw (aD D_round_pieces hr (by rfl) (ai (ab 1) aq)) (aD D_round_pieces hr (by rfl) (ai (wx (ab 0) (ab 1)) aq))))))))
theorem mr (D:Def K mg "round_pieces" cJ ["number"]) (B:Bn mg) (D_first_half:Own P w K mg base 1 "first_half" ["number"] (cL K aZ)):Own P w K mg base 10 "round_pieces" ["number"] (cL K gG):=iJ D B D_first_half 8
abbrev cS:Stmt:=jd 34
theorem lC:FnScope ["rule"] ["rule"] (ah cS):=⟨rfl,rfl,rfl,by decide+kernel,rfl,by decide+kernel,by decide+kernel⟩
theorem lD (D:Def K mg "pieces_needed" cS ["rule"]) (B:Bn mg) (D_check_rule:Own P w K mg base 5 "check_rule" ["thing"] (cL K dh)) (D_meeting_sets:Own P w K mg base 4 "meeting_sets" ["family"] (cL K aH)) (D_round_pieces:Own P w K mg base 10 "round_pieces" ["number"] (cL K gG)):Own P w K mg base 11 "pieces_needed" ["rule"] (cL K aF):=by
  delta aF
  refine fu (g:=dR) D lC rfl rfl (by decide) fun f cdv A outer s H E hr=>?_
  delta dR
  exact (am (hO (aD D_check_rule (hr.mono (by decide)) (by rfl) (ai (ab 0) aq)))
  (ao (aL (wZ (by rfl) (by rfl) (by exact B.sum) (ai (eY (N:=["nails"]) (js:=[none]) gW (by rfl) (cC (aD D_meeting_sets (hr.mono (by decide)) (by rfl) (ai (ab 0) aq))) (fun _ _ _ _=>(by delta fv;exact (aM 0 (show (["nails"]:List Str).Nodup by decide+kernel)))) (fun _ _ _ _=>(by delta dM;exact (aD D_round_pieces (hr.mono (by decide)) (by rfl) (ai (fZ (by rfl) (by exact B.len) (ai (ab 0) aq)) aq))))) aq)))))
abbrev gT:Stmt:=jd 35
theorem sc_cord_of:FnScope ["rule","cord","nails"] ["rule"] (ah gT):=⟨rfl,rfl,rfl,by decide+kernel,rfl,by decide+kernel,by decide+kernel⟩
theorem sV (D:Def K mg "cord_of" gT ["rule"]) (B:Bn mg) {t_MOST_PIECES:Tok} (G_MOST_PIECES:mg "MOST_PIECES"=some (.int 800 t_MOST_PIECES)) (D_pieces_needed:Own P w K mg base 11 "pieces_needed" ["rule"] (cL K aF)) (D_meeting_sets:Own P w K mg base 4 "meeting_sets" ["family"] (cL K aH)) (D_halves_round:Own P w K mg base 11 "halves_round" ["nails"] (cL K cQ)) (D_joined:Own P w K mg base 1 "joined" ["one","other"] (cL K gd)):Own P w K mg base 12 "cord_of" ["rule"] (cL K dN):=by
  delta dN
  refine fu (g:=iD) D sc_cord_of rfl rfl (by decide) fun f cdv A outer s H E hr=>?_
  delta iD
  exact (am (d8 (t8 .gt (aD D_pieces_needed (hr.mono (by decide)) (by rfl) (ai (ab 0) aq)) (ub (by rfl) (by exact G_MOST_PIECES)))
  (ao gX)
  bC)
  (am (aJ 1 sc_cord_of.nd (fK eX))
  (am (ft PassesOwn.never (by rfl) (cC (aD D_meeting_sets (hr.mono (by decide)) (by rfl) (ai (ab 0) aq))) (by delta fP;exact (aM 2 sc_cord_of.nd))
  (by delta eN;exact (ao (aJ 1 sc_cord_of.nd (aD D_joined (hr.mono (by decide)) (by rfl) (ai (ab 1) (ai (aD D_halves_round (hr.mono (by decide)) (by rfl) (ai (ab 2) aq)) aq)))))))
  (ao (aL (ab 1))))))
abbrev iK:Stmt:=jd 37
theorem vL:FnScope ["_law_script","_law_k"] ["_law_script","_law_k"] (ah iK):=⟨rfl,rfl,rfl,by decide+kernel,rfl,by decide+kernel,by decide+kernel⟩
theorem vM (D:Def K mg "_law_at" iK ["_law_script","_law_k"]) (B:Bn mg):Own P w K mg base 1 "_law_at" ["_law_script","_law_k"] (cL K bj):=by
  delta bj
  refine fu (g:=kG) D vL rfl rfl (by decide) fun f cdv A outer s H E hr=>?_
  delta kG
  exact (am (d8 (t8 .lt (ab 1) (fZ (by rfl) (by exact B.len) (ai (ab 0) aq)))
  (ao (aL (mV (ab 0) (ab 1))))
  bC)
  (ao (aL ar)))
abbrev gU:Stmt:=jd 38
theorem sc_law_mix:FnScope ["_law_cell","_law_k","_law_one"] ["_law_cell","_law_k"] (ah gU):=⟨rfl,rfl,rfl,by decide+kernel,rfl,by decide+kernel,by decide+kernel⟩
theorem sW (D:Def K mg "_law_mix" gU ["_law_cell","_law_k"]) (B:Bn mg):Own P w K mg base 1 "_law_mix" ["_law_cell","_law_k"] (cL K bE):=by
  delta bE
  refine fu (g:=jH) D sc_law_mix rfl rfl (by decide) fun f cdv A outer s H E hr=>?_
  delta jH
  exact (am (aJ 2 sc_law_mix.nd (fY (bw (bw (fH (fY (ab 0) (wy ar ar)) (bw ar (fH ar (ab 1)))) (fH ar (ab 1))) ar) ar))
  (ao (aL (fY (fH (ab 2) (bw (bw (fI (ab 2) ar) (fH ar (ab 1))) ar)) ar))))
abbrev gi:Stmt:=jd 39
theorem sc_law_sets:FnScope ["_law_nails_here","_law_found","_law_nail"] ["_law_nails_here"] (ah gi):=⟨rfl,rfl,rfl,by decide+kernel,rfl,by decide+kernel,by decide+kernel⟩
theorem rH (D:Def K mg "_law_sets" gi ["_law_nails_here"]) (B:Bn mg):Own P w K mg base 1 "_law_sets" ["_law_nails_here"] (cL K ef):=by
  delta ef
  refine fu (g:=j_) D sc_law_sets rfl rfl (by decide) fun f cdv A outer s H E hr=>?_
  delta j_
  exact (am (aJ 1 sc_law_sets.nd (fK (fJ jg eX)))
  (am (ft PassesOwn.never (by rfl) (cC (ab 0)) (by delta jR;exact (aM 2 sc_law_sets.nd))
  (by delta jS;exact (ao (aJ 1 sc_law_sets.nd (bw (ab 1) (eY (N:=["_law_one","_law_nail"]) (js:=[none,some 2]) eZ (by rfl) (cC (ab 1)) (fun _ _ _ _=>(by delta jP;exact (aM 0 (show (["_law_one","_law_nail"]:List Str).Nodup by decide+kernel)))) (fun _ _ _ _=>(by delta jQ;exact (bw (ab 0) (ab 1))))))))))
  (ao (aL (ab 1)))))
abbrev dG:Stmt:=jd 40
theorem sc_law_has_part:FnScope ["_law_one","_law_sets_here","_law_other"] ["_law_one","_law_sets_here"] (ah dG):=⟨rfl,rfl,rfl,by decide+kernel,rfl,by decide+kernel,by decide+kernel⟩
theorem mv (D:Def K mg "_law_has_part" dG ["_law_one","_law_sets_here"]) (B:Bn mg):Own P w K mg base 1 "_law_has_part" ["_law_one","_law_sets_here"] (cL K bI):=by
  delta bI
  refine fu (g:=em) D sc_law_has_part rfl rfl (by decide) fun f cdv A outer s H E hr=>?_
  delta em
  exact (am (ft PassesOwn.never (by rfl) (cC (ab 1)) (by delta bi;exact (aM 2 sc_law_has_part.nd))
  (by delta aU;exact (ao (d8 (h9 (wY (by rfl) (by rfl) (by exact B.all) (ai (eY (N:=["_law_nail","_law_one"]) (js:=[none,some 0]) eZ (by rfl) (cC (ab 2)) (fun _ _ _ _=>(by delta cZ;exact (aM 0 (show (["_law_nail","_law_one"]:List Str).Nodup by decide+kernel)))) (fun _ _ _ _=>(by delta b8;exact (Dj (ab 0) (ab 1))))) aq)))
  (ao (aL mP))
  bC))))
  (ao (aL mP)))
abbrev fD:Stmt:=jd 41
theorem sc_law_least:FnScope ["_law_sets_here","_law_kept","_law_size_here","_law_one"] ["_law_sets_here"] (ah fD):=⟨rfl,rfl,rfl,by decide+kernel,rfl,by decide+kernel,by decide+kernel⟩
theorem qg (D:Def K mg "_law_least" fD ["_law_sets_here"]) (B:Bn mg) (D_law_has_part:Own P w K mg base 1 "_law_has_part" ["_law_one","_law_sets_here"] (cL K bI)):Own P w K mg base 2 "_law_least" ["_law_sets_here"] (cL K bb):=by
  delta bb
  refine fu (g:=gA) D sc_law_least rfl rfl (by decide) fun f cdv A outer s H E hr=>?_
  delta gA
  exact (am (aJ 1 sc_law_least.nd (fK eX))
  (am (ft PassesOwn.never (by rfl) (ve (by rfl) (by exact B.range) (ai ar (ai ar aq))) (by delta dw;exact (aM 2 sc_law_least.nd))
  (by delta dC;exact (ao (ft PassesOwn.never (by rfl) (cC (sR (by rfl) (by exact B.sorted) (ko (N:=["_law_other","_law_size_here"]) (js:=[none,some 2]) eZ (by rfl) (cC (ab 0)) (fun _ _ _ _=>(by delta cE;exact (aM 0 (show (["_law_other","_law_size_here"]:List Str).Nodup by decide+kernel)))) (fun _ _ _ _=>(by delta cG;exact (ji hr.units (fZ (by rfl) (by exact B.len) (ai (ab 0) aq)) (ab 1)))) (fun _ _ _ _=>(by delta cF;exact (ab 0)))))) (by delta dv;exact (aM 3 sc_law_least.nd))
  (by delta cH;exact (ao (d8 (kY (h9 (aD D_law_has_part (hr.mono (by decide)) (by rfl) (ai (ab 3) (ai (ab 1) aq)))))
  (ao (hO (gQ 1 (ab 3))))
  bC)))))))
  (ao (aL (ab 1)))))
abbrev gj:Stmt:=jd 42
theorem sc_law_rule:FnScope ["_law_script","_law_first","_law_nails_here","_law_sets_here","_law_cell","_law_k","_law_value","_law_one"] ["_law_script","_law_first","_law_nails_here"] (ah gj):=⟨rfl,rfl,rfl,by decide+kernel,rfl,by decide+kernel,by decide+kernel⟩
theorem rJ (D:Def K mg "_law_rule" gj ["_law_script","_law_first","_law_nails_here"]) (B:Bn mg) (D_law_at:Own P w K mg base 1 "_law_at" ["_law_script","_law_k"] (cL K bj)) (D_law_mix:Own P w K mg base 1 "_law_mix" ["_law_cell","_law_k"] (cL K bE)) (D_law_least:Own P w K mg base 2 "_law_least" ["_law_sets_here"] (cL K bb)):Own P w K mg base 3 "_law_rule" ["_law_script","_law_first","_law_nails_here"] (cL K eB):=by
  delta eB
  refine fu (g:=g8) D sc_law_rule rfl rfl (by decide) fun f cdv A outer s H E hr=>?_
  delta g8
  exact (am (aJ 3 sc_law_rule.nd (fK eX))
  (am (ft PassesOwn.never (by rfl) (cC (bw (fK (fJ (aD D_law_at (hr.mono (by decide)) (by rfl) (ai (ab 0) (ai (ab 1) aq))) eX)) (m4 (ab 0) (iO (bw (ab 1) ar)) (iO (bw (ab 1) ar))))) (by delta fg;exact (aM 4 sc_law_rule.nd))
  (by delta di;exact (ao (ft PassesOwn.never (by rfl) (ir (by rfl) (by exact B.range) (ai (bw ar (fY (ab 4) ar)) aq)) (by delta fb;exact (aM 5 sc_law_rule.nd))
  (by delta fe;exact (am (aJ 6 sc_law_rule.nd (wU (fI (ab 4) ar) (fH ar (ab 5))))
  (am (d8 (t8 .lt (BC (by rfl) (by exact B.abs) (ai (ab 4) aq)) (wy ar ar))
  (ao (aJ 6 sc_law_rule.nd (aD D_law_mix (hr.mono (by decide)) (by rfl) (ai (ab 4) (ai (bw ar (ab 5)) aq)))))
  bC)
  (am (aJ 7 sc_law_rule.nd (iP (ko (N:=["_law_j","_law_nails_here","_law_value"]) (js:=[none,some 2,some 6]) eZ (by rfl) (ir (by rfl) (by exact B.range) (ai (fZ (by rfl) (by exact B.len) (ai (ab 2) aq)) aq)) (fun _ _ _ _=>(by delta e_;exact (aM 0 (show (["_law_j","_law_nails_here","_law_value"]:List Str).Nodup by decide+kernel)))) (fun _ _ _ _=>(by delta dX;exact (ji hr.units (pN (wU (ab 2) (ab 0)) ar) ar))) (fun _ _ _ _=>(by delta dW;exact (mV (ab 1) (ab 0)))))))
  (ao (d8 (tV hr.units (ab 7) jg)
  (ao (hO (gQ 3 (ab 7))))
  bC))))))))))
  (ao (aL (aD D_law_least (hr.mono (by decide)) (by rfl) (ai (bw (ab 3) (fK (fJ (ab 2) eX))) aq))))))
abbrev fE:Stmt:=jd 43
theorem sc_law_nails:FnScope ["_law_cell","_law_most","_law_some","_law_many","_law_step","_law_at_here"] ["_law_cell","_law_most"] (ah fE):=⟨rfl,rfl,rfl,by decide+kernel,rfl,by decide+kernel,by decide+kernel⟩
theorem qh (D:Def K mg "_law_nails" fE ["_law_cell","_law_most"]) (B:Bn mg):Own P w K mg base 1 "_law_nails" ["_law_cell","_law_most"] (cL K dO):=by
  delta dO
  refine fu (g:=gB) D sc_law_nails rfl rfl (by decide) fun f cdv A outer s H E hr=>?_
  refine sx 2 [1,3,5,7,9,11] rfl rfl fun es hes=>?_
  delta gB
  exact (am (aJ 2 sc_law_nails.nd jg)
  (am (aJ 3 sc_law_nails.nd (bw ar (fY (ab 0) (ab 1))))
  (am (aJ 4 sc_law_nails.nd (mV (fK (t5 hes)) (fY (fI (ab 0) (ab 1)) ar)))
  (am (aJ 5 sc_law_nails.nd (fY (fI (fI (ab 0) (ab 1)) ar) ar))
  (ao (aL (iP (vm (by rfl) (by exact B.sorted) (eY (N:=["_law_k","_law_some","_law_at_here","_law_step"]) (js:=[none,some 2,some 5,some 4]) eZ (by rfl) (ir (by rfl) (by exact B.range) (ai (ab 3) aq)) (fun _ _ _ _=>(by delta eC;exact (aM 0 (show (["_law_k","_law_some","_law_at_here","_law_step"]:List Str).Nodup by decide+kernel)))) (fun _ _ _ _=>(by delta dD;exact (mV (ab 1) (fY (bw (ab 2) (fH (ab 3) (ab 0))) ar)))))))))))))
abbrev dZ:Stmt:=jd 44
theorem sc_law_meeting:FnScope ["_law_sets_here","_law_nails_here","_law_found","_law_one"] ["_law_sets_here","_law_nails_here"] (ah dZ):=⟨rfl,rfl,rfl,by decide+kernel,rfl,by decide+kernel,by decide+kernel⟩
theorem nz (D:Def K mg "_law_meeting" dZ ["_law_sets_here","_law_nails_here"]) (B:Bn mg) (D_law_sets:Own P w K mg base 1 "_law_sets" ["_law_nails_here"] (cL K ef)) (D_law_least:Own P w K mg base 2 "_law_least" ["_law_sets_here"] (cL K bb)):Own P w K mg base 3 "_law_meeting" ["_law_sets_here","_law_nails_here"] (cL K bF):=by
  delta bF
  refine fu (g:=fi) D sc_law_meeting rfl rfl (by decide) fun f cdv A outer s H E hr=>?_
  delta fi
  exact (am (aJ 2 sc_law_meeting.nd (fK eX))
  (am (ft PassesOwn.never (by rfl) (cC (aD D_law_sets (hr.mono (by decide)) (by rfl) (ai (ab 1) aq))) (by delta bN;exact (aM 3 sc_law_meeting.nd))
  (by delta bv;exact (ao (d8 (h9 (wY (by rfl) (by rfl) (by exact B.all) (ai (eY (N:=["_law_other","_law_one"]) (js:=[none,some 3]) eZ (by rfl) (cC (ab 0)) (fun _ _ _ _=>(by delta dE;exact (aM 0 (show (["_law_other","_law_one"]:List Str).Nodup by decide+kernel)))) (fun _ _ _ _=>(by delta cq;exact (Dg .gt (fZ (by rfl) (by exact B.len) (ai (ko (N:=["_law_nail","_law_one"]) (js:=[none,some 1]) eZ (by rfl) (cC (ab 0)) (fun _ _ _ _=>(by delta ck;exact (aM 0 (show (["_law_nail","_law_one"]:List Str).Nodup by decide+kernel)))) (fun _ _ _ _=>(by delta cn;exact (At (ab 0) (ab 1)))) (fun _ _ _ _=>(by delta cm;exact (ab 0)))) aq)) ar)))) aq)))
  (ao (hO (gQ 2 (ab 3))))
  bC))))
  (ao (aL (aD D_law_least (hr.mono (by decide)) (by rfl) (ai (ab 2) aq))))))
abbrev fz:Stmt:=jd 45
theorem lX:FnScope ["_law_many"] ["_law_many"] (ah fz):=⟨rfl,rfl,rfl,by decide+kernel,rfl,by decide+kernel,by decide+kernel⟩
theorem kK (D:Def K mg "_law_size" fz ["_law_many"]) (B:Bn mg):∀k:Nat,Own P w K mg base (0+k+1) "_law_size" ["_law_many"] (cL K (eO k))
  | 0=>m5 D lX
  | k+1=>by
    have D_law_size:=kK D B  k
    show Own P w K mg base (0+k+1+1) "_law_size" ["_law_many"] (cL K (d5 1 1 (eD (eO k))))
    generalize eO k=self at D_law_size ⊢
    refine fu (k:=0+k+1) (g:=eD self) D lX rfl rfl (by decide) fun f cdv A outer s H E hr=>?_
    delta eD
    exact (am (d8 (ji hr.units (ab 0) ar)
  (ao (aL ar))
  bC)
  (ao (aL (fH ar (bw (aD D_law_size hr (by rfl) (ai (wx (ab 0) (fI (ab 0) ar)) aq)) (aD D_law_size hr (by rfl) (ai (fI (ab 0) ar) aq)))))))
theorem rK (D:Def K mg "_law_size" fz ["_law_many"]) (B:Bn mg):Own P w K mg base 9 "_law_size" ["_law_many"] (cL K jr):=kK D B  8
abbrev gV:Stmt:=jd 46
theorem sc_law_two:FnScope ["_law_cell","_law_most","_law_letters","_law_pool","_law_sets_here","_law_k","_law_value","_law_one"] ["_law_cell","_law_most"] (ah gV):=⟨rfl,rfl,rfl,by decide+kernel,rfl,by decide+kernel,by decide+kernel⟩
theorem sX (D:Def K mg "_law_two" gV ["_law_cell","_law_most"]) (B:Bn mg) (D_law_mix:Own P w K mg base 1 "_law_mix" ["_law_cell","_law_k"] (cL K bE)) (D_law_least:Own P w K mg base 2 "_law_least" ["_law_sets_here"] (cL K bb)):Own P w K mg base 3 "_law_two" ["_law_cell","_law_most"] (cL K eG):=by
  delta eG
  refine fu (g:=iE) D sc_law_two rfl rfl (by decide) fun f cdv A outer s H E hr=>?_
  delta iE
  exact (am (aJ 2 sc_law_two.nd jg)
  (am (wQ 3 sc_law_two.nd (N:=["_law_k","_law_letters","_law_cell"]) (js:=[none,some 2,some 0]) eZ (by rfl) (ir (by rfl) (by exact B.range) (ai (fH ar (ab 1)) aq)) (fun _ _ _ _=>(by delta gO;exact (aM 0 (show (["_law_k","_law_letters","_law_cell"]:List Str).Nodup by decide+kernel)))) (fun _ _ _ _=>(by delta fQ;exact (mV (ab 1) (fY (bw (ab 2) (fH ar (ab 0))) ar)))))
  (am (aJ 4 sc_law_two.nd (fK eX))
  (am (ft PassesOwn.never (by rfl) (ir (by rfl) (by exact B.range) (ai ar aq)) (by delta dP;exact (aM 5 sc_law_two.nd))
  (by delta c_;exact (am (aJ 6 sc_law_two.nd (aD D_law_mix (hr.mono (by decide)) (by rfl) (ai (ab 0) (ai (bw ar (ab 5)) aq))))
  (am (aJ 7 sc_law_two.nd (m4 (ab 3) (iO (fH (ab 5) (ab 1))) (iO (bw (bw (fH (ab 5) (ab 1)) ar) (fY (ab 6) (ab 1))))))
  (am (d8 (ji hr.units (fY (fI (ab 6) ar) ar) ar)
  (ao (aJ 7 sc_law_two.nd (bw (m4 (ab 7) (iO ar) pI) (fK (fJ (mV (ab 3) (fY (fI (ab 6) ar) (fZ (by rfl) (by exact B.len) (ai (ab 3) aq)))) eX)))))
  bC)
  (ao (hO (gQ 4 (iP (j8 rfl (by rfl) (by exact B.sorted) (by rfl) (by exact B.set) (ab 7)))))))))))
  (ao (aL (aD D_law_least (hr.mono (by decide)) (by rfl) (ai (ab 4) aq))))))))
abbrev kM:Stmt:=jd 47
theorem sc_law:FnScope ["_law_script","_law_nails_here","_law_rule_here","_law_handed","_law_found","_law_due","_law_cord"] ["_law_script"] (ah kM):=⟨rfl,rfl,rfl,by decide+kernel,rfl,by decide+kernel,by decide+kernel⟩
theorem BW {f0:Addr} {fd:FuncData} (D:Fun K "law" "law" kM f0 fd) (B:Bn mg) (D_law_at:Own P w K mg base 1 "_law_at" ["_law_script","_law_k"] (cL K bj)) (D_law_nails:Own P w K mg base 1 "_law_nails" ["_law_cell","_law_most"] (cL K dO)) (D_law_rule:Own P w K mg base 3 "_law_rule" ["_law_script","_law_first","_law_nails_here"] (cL K eB)) (D_law_two:Own P w K mg base 3 "_law_two" ["_law_cell","_law_most"] (cL K eG)) (D_pieces_needed:Own P w K mg base 11 "pieces_needed" ["rule"] (cL K aF)) (D_law_meeting:Own P w K mg base 3 "_law_meeting" ["_law_sets_here","_law_nails_here"] (cL K bF)) (D_law_size:Own P w K mg base 9 "_law_size" ["_law_many"] (cL K jr)) (D_cord_of:Own P w K mg base 12 "cord_of" ["rule"] (cL K dN)):FnOk P w K mg base u6 13 f0 fd ["_law_script"] (cL K ka):=by
  delta ka
  refine EO (g:=rC) D sc_law rfl rfl (by decide) fun cdv A outer s H E hr=>?_
  delta rC
  exact (am (aJ 1 sc_law.nd (aD D_law_nails (hr.mono (by decide)) (by rfl) (ai (aD D_law_at (hr.mono (by decide)) (by rfl) (ai (ab 0) (ai ar aq))) (ai ar aq))))
  (am (aJ 2 sc_law.nd (aD D_law_rule (hr.mono (by decide)) (by rfl) (ai (ab 0) (ai ar (ai (ab 1) aq)))))
  (am (d8 (ji hr.units (fY (fI (aD D_law_at (hr.mono (by decide)) (by rfl) (ai (ab 0) (ai ar aq))) ar) ar) ar)
  (am (aJ 2 sc_law.nd (aD D_law_two (hr.mono (by decide)) (by rfl) (ai (aD D_law_at (hr.mono (by decide)) (by rfl) (ai (ab 0) (ai ar aq))) (ai ar aq))))
  (ao (aJ 1 sc_law.nd (iP (j8 rfl (by rfl) (by exact B.sorted) (by rfl) (by exact B.set) (iP (ab 2)))))))
  bC)
  (am (aJ 3 sc_law.nd (zf (by rfl) (by exact B.list) (ab 2)))
  (am (aJ 4 sc_law.nd (aD D_pieces_needed (hr.mono (by decide)) (by rfl) (ai (ab 3) aq)))
  (am (aJ 5 sc_law.nd (wZ (by rfl) (by rfl) (by exact B.sum) (ai (eY (N:=["_law_one"]) (js:=[none]) gW (by rfl) (cC (aD D_law_meeting (hr.mono (by decide)) (by rfl) (ai (ab 2) (ai (ab 1) aq)))) (fun _ _ _ _=>(by delta jt;exact (aM 0 (show (["_law_one"]:List Str).Nodup by decide+kernel)))) (fun _ _ _ _=>(by delta iF;exact (aD D_law_size (hr.mono (by decide)) (by rfl) (ai (fZ (by rfl) (by exact B.len) (ai (ab 0) aq)) aq))))) aq)))
  (am (d8 (C8 (tW (kY (h9 (k_ .int (by rfl) (by exact B.isinstance) (ab 4) (by rfl) (by exact B.int) PyProof.Rows.boot_int))) (tW (h9 (k_ .bool (by rfl) (by exact B.isinstance) (ab 4) (by rfl) (by exact B.bool) PyProof.Rows.boot_bool)) (tW (tV hr.units (ab 4) (ab 5)) (wF (tV hr.units (ab 3) (ab 2)))))))
  (ao (aL mP))
  bC)
  (am (aJ 6 sc_law.nd (aD D_cord_of (hr.mono (by decide)) (by rfl) (ai (ab 3) aq)))
  (ao (aL (pH (k_ .list (by rfl) (by exact B.isinstance) (ab 6) (by rfl) (by exact B.list) PyProof.Rows.boot_list) (pH (wB hr.units (fZ (by rfl) (by exact B.len) (ai (ab 6) aq)) (ab 5)) (wE (wB hr.units (ab 3) (ab 2)))))))))))))))
end
end Nhk52
namespace Nhk52
open PySem L2 Nh PL
theorem zE (w:List Nat):(⟨w.toArray⟩:Str).length=w.length:=by show w.toArray.size=_;simp
theorem oZ (ns:List Int) (k:Nat):bj [.list (ns.map .int), .int k]=some (.sh (.int (ns.getD k 0))):=by
  simp only [bj,d5,List.length_cons,List.length_nil,Nat.zero_add,Nat.reduceAdd,gJ,kG,aG,ca,eI,ag,aa,bx,List.map_cons,List.map_nil,Nat.sub_self,List.replicate,List.cons_append,List.nil_append,List.getElem?_cons_succ,List.getElem?_cons_zero,Sl.isBr,Bool.false_and,Bool.false_eq_true,bB,ae,aj,Option.map_some,if_false,d7,fT,look,Sl.val,gu,Cm.i,Cm.s,Option.bind_some,bQ,aN,mE,gP,fG,aV,pC,bV,bJ,if_true]
  by_cases h:k < ns.length
  · simp [h,iu,cV]
  · simp [h,List.getElem?_eq_none (Nat.le_of_not_lt h),cV]
theorem nC (cell:Int) (k:Nat) (h:k≤1000000):∃z:Int,bE [.int cell, .int k]=some (.sh (.int z)):=by
  have a1:∀i:Int,fA i (62089911+2*(k:Int))=true:=fun i=>mG (by (solve_by_elim (maxDepth:=2) only [*,Nat.le_trans,Nat.lt_of_lt_of_le,Nat.lt_of_le_of_lt,Nat.le_of_lt])) (by omega)
  have a2:fA 982451653 (k:Int)=true:=mG (by (solve_by_elim (maxDepth:=2) only [*,Nat.le_trans,Nat.lt_of_lt_of_le,Nat.lt_of_le_of_lt,Nat.le_of_lt])) (by omega)
  have a3:fA 2 (k:Int)=true:=mG (by (solve_by_elim (maxDepth:=2) only [*,Nat.le_trans,Nat.lt_of_lt_of_le,Nat.lt_of_le_of_lt,Nat.le_of_lt])) (by omega)
  have a4:∀i j:Int,fA (i % 4294967291) j=true:=fun i j=>hW (by have:=Int.emod_nonneg i (show (4294967291:Int)≠0 by decide);lia) (by have:=Int.emod_lt_of_pos i (show (0:Int) < 4294967291 by decide);lia)
  have d1:lQ 1024=true:=by decide
  simp only [bE,d5,List.length_cons,List.length_nil,Nat.zero_add,Nat.reduceAdd,gJ,jH,aG,aC,ag,aa,bx,List.map_cons,List.map_nil,Nat.reduceSub,List.replicate,List.cons_append,List.nil_append,List.getElem?_cons_zero,Sl.isBr,Bool.false_and,Bool.false_eq_true,pC,mR,fT,look,Sl.val,mQ,Int.reducePow,Int.reduceNeg,Option.bind_some,if_false,Int.reduceLE,Int.reduceLT,and_self,decide_true,Int.reduceToNat,if_true,Option.map_some,eJ,fq,gP,fG,Bool.not_false,Bool.true_or,Bool.and_true,aT,List.getElem?_cons_succ,a3,a1,a2,PL.settle,frz,frzAll,Nat.reduceLT,List.set_cons_succ,List.set_cons_zero,aN,bP,d1,a4,bV,bJ,cV]
  exact ⟨_,rfl⟩
theorem aB {f g:dH} {E E1:List Sl} (h:f E=some (E1, .nx)):aG f g E=g E1:=by
  unfold aG
  rw [h]
  rfl
theorem g9 {c:kW} {a b:dH} {E E1:List Sl} {r:Option (List Sl×Fl)} (h:c E=some (false,E1)) (k:b E1=r):ca c a b E=r:=by
  unfold ca
  rw [h,←k]
  rfl
theorem g_ {c:kW} {a b:dH} {E E1:List Sl} {r:Option (List Sl×Fl)} (h:c E=some (true,E1)) (k:a E1=r):ca c a b E=r:=by
  unfold ca
  rw [h,←k]
  rfl
theorem h7 {tg:gI} {elt:bq} {d r:PyData} {ds rs:List PyData} {E E1:List Sl} (t:tg d E=some E1) (el:elt E1=some (.sh r,E1)) (h:cB tg bA elt ds E1=some rs):cB tg bA elt (d::ds) E=some (r::rs):=by
  rw [cB,t,Option.bind_some]
  simp only [bA,Option.bind_some,el,frz,h,Option.map_some,if_true]
def cw (a:Nat):PyData:= .str ⟨#[a]⟩
theorem ju:∀w:List Nat,bd (w.map cw)=true
  | []=>rfl
  | a::w=>by simp [bd,cV,ju w,cw]
def az (a:Nat):Prop:=97≤a∧a < 123
theorem gH {a:Nat} (h:az a):a∈List.range' 97 26:=List.mem_range'_1.mpr ⟨h.1,h.2⟩
theorem aI {c:List PyData→Option Sl} {g:qJ} {E E1:List Sl} {ss:List Sl} {ds:List PyData} {r:Sl} (h:g E=some (ss,E1)) (hl:bQ E1 ss=some ds) (hc:c ds=some r):ak c g E=some (r,E1):=by
  unfold ak
  rw [h,Option.bind_some]
  show (bQ E1 ss).bind _=_
  rw [hl,Option.bind_some,hc]
  rfl
theorem nD {x:Int} {f:bq} {E:List Sl} {y:Int} {g:bq} (hf:g E=some (.sh (.int x),E)) (h:f E=some (.sh (.int y),E)) (ok:fA x y=true):ag fq false g f E=some (.sh (.int (x*y)),E):=by
  simp only [ag,fq,hf,h,Option.bind_some,look,Sl.val,ok,Bool.false_and,Bool.false_eq_true,if_false,if_true]
theorem hJ {x:Int} {f:bq} {E:List Sl} {y:Int} {g:bq} (hf:g E=some (.sh (.int x),E)) (h:f E=some (.sh (.int y),E)):ag aT false g f E=some (.sh (.int (x+y)),E):=by
  simp only [ag,aT,hf,h,Option.bind_some,look,Sl.val,Bool.false_and,Bool.false_eq_true,if_false]
theorem fR {f:bq} {E E1:List Sl} {d:PyData} {i:Nat} (h:f E=some (.sh d,E1)) (hi:i < E1.length):aC i f E=some (E1.set i (.sh d), .nx):=by
  unfold aC
  rw [h]
  simp only [Option.bind_some,PL.settle,hi,if_true]
theorem xC {a b:kW} {E E1:List Sl} {r:Option (Bool×List Sl)} (h:a E=some (false,E1)) (k:b E1=r):j4 a b E=r:=by
  unfold j4
  rw [h,Option.bind_some]
  exact k
theorem uo (w:List Nat) (a:Nat):(Builtin.Str.occurrences ⟨w.toArray⟩ ⟨#[a]⟩ 0 (⟨w.toArray⟩:Str).length 1).isEmpty= !decide (a∈w):=by
  have h:=PySem.StrLaws.found_one ⟨w.toArray⟩ a
  rw [List.toList_toArray] at h
  rw [←h,Bool.not_not]
def fj (a:Nat):Str:=⟨#[a]⟩
theorem xD {a b:Nat} (h:fj a=fj b):a=b:=by
  simp [fj] at h;exact h
theorem zF {a b:Nat} (h:a≤b):pQ (fj a) (fj b)=true:=by
  have:[a]≤[b]:=by
    rcases Nat.lt_or_ge a b with k | k
    · exact List.le_of_lt (List.Lex.rel k)
    · rw [Nat.le_antisymm h k];exact List.le_refl _
  exact decide_eq_true this
theorem zG (ks:List Str) (x y:Str):y∈yq ks x↔y∈ks∨y=x:=by
  unfold yq
  split
  · rename_i h
    exact ⟨.inl,fun z=>z.elim id fun e=>e▸h⟩
  · simp
theorem vN {ks:List Str} (h:ks.Nodup) (x:Str):(yq ks x).Nodup:=by
  unfold yq
  split
  · exact h
  · rename_i k
    rw [List.nodup_append]
    refine ⟨h,by simp,fun a ha b hb=>?_⟩
    rw [List.mem_singleton.mp hb]
    exact fun e=>k (e▸ha)
theorem qi:∀(ss ks:List Str),ks.Nodup→(ss.foldl yq ks).Nodup∧∀y,y∈ss.foldl yq ks↔y∈ks∨y∈ss
  | [],ks,h=>⟨h,fun y=>by simp⟩
  | s::ss,ks,h=>by
    obtain ⟨a,b⟩:=qi ss (yq ks s) (vN h s)
    refine ⟨a,fun y=>?_⟩
    rw [List.foldl_cons,b y,zG,List.mem_cons,or_assoc]
theorem vO (ss:List Str):(jc ss).Nodup:=(qi ss [] List.nodup_nil).1
theorem zH (ss:List Str) (y:Str):y∈jc ss↔y∈ss:=by
  rw [jc,(qi ss [] List.nodup_nil).2 y];simp
def av (w:List Nat):List Nat:=(List.range' 97 26).filter fun a=>decide (a∈w)
theorem inOrd_mem {w:List Nat} {a:Nat}:a∈av w↔a∈List.range' 97 26∧a∈w:=by simp [av]
theorem iW {α:Type} [DecidableEq α]:∀{l m:List α},l.Nodup→m.Nodup→(∀a,a∈l↔a∈m)→l.Perm m
  | [],m,_,_,h=>by
    have:m=[]:=by
      cases m with
      | nil=>rfl
      | cons b m=>exact absurd ((h b).mpr (by simp)) (by simp)
    rw [this]
  | a::l,m,hl,hm,h=>by
    have ha:a∈m:=(h a).mp (by simp)
    have hl':=List.nodup_cons.mp hl
    have p:=List.perm_cons_erase ha
    refine ((iW hl'.2 (hm.erase a) fun b=>?_).cons a).trans p.symm
    rw [List.Nodup.mem_erase_iff hm,←h b,List.mem_cons]
    exact ⟨fun k=>⟨fun e=>hl'.1 (e▸k), .inr k⟩,fun k=>k.2.resolve_left k.1⟩
theorem kb {w:List Nat} (h:w.Nodup):(w.map fj).Nodup:=by
  rw [List.Nodup,List.pairwise_map]
  exact h.imp fun k e=>k (xD e)
theorem jv (w:List Nat):(av w).Nodup:=List.Nodup.sublist List.filter_sublist (List.nodup_range' ..)
theorem kN (w:List Nat):((av w).map fj).Pairwise fun a b=>pQ a b=true:=by
  rw [List.pairwise_map]
  have h:(List.range' 97 26).Pairwise (· < ·):=List.pairwise_lt_range'
  exact (h.sublist List.filter_sublist).imp fun k=>zF (Nat.le_of_lt k)
theorem kO {w:List Nat} (hw:∀a∈w,a∈List.range' 97 26):gv (jc (w.map fj))=(av w).map fj:=by
  refine (List.Perm.eq_of_pairwise (fun _ _ _ _ h k=>kr h k) (kN w) (List.pairwise_mergeSort iy jC _) ?_).symm
  refine List.Perm.trans ?_ (List.mergeSort_perm _ pQ).symm
  refine iW (kb (jv w)) (vO _) fun y=>?_
  rw [zH,List.mem_map,List.mem_map]
  constructor
  · rintro ⟨a,ha,rfl⟩
    exact ⟨a,(inOrd_mem.mp ha).2,rfl⟩
  · rintro ⟨a,ha,rfl⟩
    exact ⟨a,inOrd_mem.mpr ⟨hw a ha,ha⟩,rfl⟩
theorem qj {w:List Nat} (hw:∀a∈w,a∈List.range' 97 26):(jc (w.map fj)).length≤26:=by
  rw [←jD,kO hw,List.length_map]
  refine Nat.le_trans (List.length_filter_le _ _) (by simp)
theorem zI {a:Nat} (h:az a):decide ([a] < (Str.ofString "a").cps.toList)=false:=by
  have e:(Str.ofString "a").cps.toList=[97]:=by decide+kernel
  rw [e]
  refine decide_eq_false fun k=>?_
  have:a < 97:=by
    cases k with
    | rel k=>exact k
    | cons k=>cases k
  exact absurd this (Nat.not_lt.mpr h.1)
theorem zJ {a:Nat} (h:az a):decide ((Str.ofString "z").cps.toList < [a])=false:=by
  have e:(Str.ofString "z").cps.toList=[122]:=by decide+kernel
  rw [e]
  refine decide_eq_false fun k=>?_
  have:122 < a:=by
    cases k with
    | rel k=>exact k
    | cons k=>cases k
  exact absurd this (Nat.not_lt.mpr (Nat.le_of_lt_succ h.2))
theorem sY {a:Nat} (h:az a):gc [.str ⟨#[a]⟩]=some (.sh (.bool true)):=by
  have l:(⟨#[a]⟩:Str).length=1:=rfl
  have t:(#[a]:Array Nat).toList=[a]:=rfl
  have lo:=zI h
  have hi:=zJ h
  simp only [gc,d5,List.length_cons,List.length_nil,Nat.zero_add,gJ,jF,aN,kl,kj,aa,bx,List.map_cons,List.map_nil,Nat.sub_self,List.replicate,List.cons_append,List.nil_append,List.getElem?_cons_zero,look,Sl.val,ie,Ty.is,yp,Option.map_some,Option.bind_some,ag,bB,ae,Sl.isBr,Bool.false_and,Bool.false_eq_true,aj,if_false,d7,pC,i5,fT,mS,Bool.or_false,gu,Cm.i,Cm.s,bQ,l,Nat.reduceLeDiff,Int.cast_ofNat_Int,if_true,fk,decide_true,hi,Bool.not_false,lo,bV,bJ,cV]
theorem o4 (x0:Sl):∀(w:List Nat) (a:Sl),(∀y∈w,az y)→∃a',bu gy gz (w.map cw) [x0,a]=some ([x0,a'], .nx)
  | [],a,_=>⟨a,rfl⟩
  | y::w,a,h=>by
    have n:=sY (h y (List.mem_cons_self ..))
    have e:(gy (cw y) [x0,a]).bind gz=some ([x0, .sh (cw y)], .nx):=by
      simp only [gy,aY,List.length_cons,List.length_nil,Nat.zero_add,Nat.reduceAdd,Nat.reduceLT,cw,List.set_cons_succ,List.set_cons_zero,if_true,gz,Option.bind_some,ca,fB,eW,ak,ae,aa,List.getElem?_cons_succ,List.getElem?_cons_zero,Sl.isBr,Bool.false_and,Bool.false_eq_true,aj,Option.map_some,if_false,bQ,look,Sl.val,n,jJ,Bool.not_true,aV]
    obtain ⟨a',ih⟩:=o4 x0 w (.sh (cw y)) fun z hz=>h z (List.mem_cons_of_mem _ hz)
    refine ⟨a',?_⟩
    rw [List.map_cons,bu,e]
    exact ih
theorem qk (w:List Nat):ig ⟨w.toArray⟩=w.map cw:=by simp [ig,cw]
theorem Ay (w:List Nat):kz ⟨w.toArray⟩=w.map fj:=by simp [kz,fj]
theorem nE:∀(w:List Nat),i7 (w.map cw)=some (w.map fj)
  | []=>rfl
  | a::w=>by simp only [List.map_cons,cw,i7];rw [nE w];rfl
theorem sZ (w:List Nat):gE ((w.map fj).map PyData.str)=some (w.map fj):=by
  induction w with
  | nil=>rfl
  | cons a w ih=>simp only [List.map_cons,gE,ih,Option.map_some]
theorem lY:∀(w:List Nat),gE (w.map cw)=some (w.map fj)
  | []=>rfl
  | a::w=>by simp only [List.map_cons,cw,gE];rw [lY w];rfl
theorem uq (w:List Nat):((w.map fj).map (·.length)).sum+(w.map fj).length*(Str.ofString "").length=w.length:=by
  have:(Str.ofString "").length=0:=rfl
  rw [this,Nat.mul_zero,Nat.add_zero]
  induction w with
  | nil=>rfl
  | cons a w ih=>simp only [List.map_cons,List.sum_cons,ih,List.length_cons];show 1+_=_;lia
theorem rL:∀(w:List Nat),Txt.join "" (w.map fj)=⟨w.toArray⟩:=by
  intro w
  show Builtin.Str.glued "" _=_
  rw [StrLaws.glued_eq_join]
  induction w with
  | nil=>rfl
  | cons a w ih=>
    cases w with
    | nil=>rfl
    | cons b w=>
      have e:Str.join "" ((a::b::w).map fj)=(⟨#[a]⟩:Str)++""++Str.join "" ((b::w).map fj):=rfl
      rw [e,ih]
      show (⟨(#[a]++(Str.ofString "").cps)++(b::w).toArray⟩:Str)=_
      rw [show (Str.ofString "").cps=#[] by decide+kernel]
      simp
theorem lE (w:List Nat):(av w).length≤1000000:=Nat.le_trans (List.length_filter_le _ _) (by simp)
theorem o5 {w:List Nat} (h:∀y∈w,az y) (hl:w.length≤3900):eM [.str ⟨w.toArray⟩]=some (.sh (.str ⟨(av w).toArray⟩)):=by
  obtain ⟨a,e⟩:=o4 (.sh (.str ⟨w.toArray⟩)) w .no h
  have d:=kO fun y hy=>gH (h y hy)
  have d2:(w.map fj).length < 4000∧(jc (w.map fj)).length < 64:=⟨by rw [List.length_map];lia,Nat.lt_of_le_of_lt (qj fun y hy=>gH (h y hy)) (by decide)⟩
  have l:=uq (av w)
  have l2:=lE w
  simp only [eM,d5,List.length_cons,List.length_nil,Nat.zero_add,gJ,kF,aG,ca,fB,eW,kj,aa,bx,List.map_cons,List.map_nil,Nat.reduceSub,List.replicate,List.cons_append,List.nil_append,List.getElem?_cons_zero,look,Sl.val,ie,Ty.is,yp,Option.map_some,Option.bind_some,jJ,Bool.not_true,aV,Bool.false_eq_true,if_false,dm,aO,frz,aN,dQ,dr,oF,qk,e,Ay,d2,and_self,d,if_true,sZ,l,l2,rL,bV,bJ,cV]
theorem vP:(Str.ofString "abcdefghijklmnopqrstuvwxyz")=(⟨(List.range' 97 26).toArray⟩:Str):=by decide+kernel
theorem xE (w:List Nat) (a:Nat):Cl (.str ⟨#[a]⟩) (.str ⟨w.toArray⟩)=some (decide (a∈w)):=by
  show some (!(Builtin.Str.occurrences ⟨w.toArray⟩ ⟨#[a]⟩ 0 (⟨w.toArray⟩:Str).length 1).isEmpty)=_
  rw [uo,Bool.not_not]
theorem Az {E:List Sl} {f g:bq} {d1 d2:PyData} {b:Bool} (hf:f E=some (.sh d1,E)) (hg:g E=some (.sh d2,E)) (hd:Cl d1 d2=some b):eI (ag (zi false) false f g) E=some (b,E):=by
  simp only [eI,ag,zi,fT,hf,hg,hd,Option.bind_some,look,Sl.val,Option.map_some,Bool.false_and,Bool.false_eq_true,if_false]
theorem zK (w:List Nat) (n:Nat) (c:Nat) (hc:c=97+n) (p:Int) (hp:p=2 ^ n) (a:Sl):(fL (.str ⟨#[c]⟩) [.sh (.str ⟨w.toArray⟩), .sh (.int (NH.dL w n)), .sh (.int p),a]).bind fM=some ([.sh (.str ⟨w.toArray⟩), .sh (.int (NH.dL w (n+1))), .sh (.int (p*2)), .sh (.str ⟨#[c]⟩)], .nx):=by
  have i1:=xE w c
  have ok:fA p 2=true:=mG (by decide) (by decide)
  have b:(NH.dL w (n+1):Int)=if c∈w then (NH.dL w n:Int)+p else (NH.dL w n:Int):=by
    rw [NH.dL,hc,hp]
    split
    · push_cast;rfl
    · simp
  generalize (NH.dL w (n+1):Int)=B1 at b ⊢
  generalize (NH.dL w n:Int)=B0 at b ⊢
  have tg:fL (.str ⟨#[c]⟩) [.sh (.str ⟨w.toArray⟩), .sh (.int B0), .sh (.int p),a]=some [.sh (.str ⟨w.toArray⟩), .sh (.int B0), .sh (.int p), .sh (.str ⟨#[c]⟩)]:=rfl
  have t1:eI (ag (zi false) false (aa 3) (aa 0)) [.sh (.str ⟨w.toArray⟩), .sh (.int B0), .sh (.int p), .sh (.str ⟨#[c]⟩)]=some (decide (c∈w),[.sh (.str ⟨w.toArray⟩), .sh (.int B0), .sh (.int p), .sh (.str ⟨#[c]⟩)]):=Az rfl rfl i1
  have s2:∀x:Int,aC 2 (ag fq false (aa 2) (pC (.int 2))) [.sh (.str ⟨w.toArray⟩), .sh (.int x), .sh (.int p), .sh (.str ⟨#[c]⟩)]=some ([.sh (.str ⟨w.toArray⟩), .sh (.int x), .sh (.int (p*2)), .sh (.str ⟨#[c]⟩)], .nx):=fun x=>fR (nD (g:=aa 2) (f:=pC (.int 2)) rfl rfl ok) (show 2 < 4 by decide)
  rw [tg,Option.bind_some,fM]
  by_cases h:c∈w
  · rw [if_pos h] at b
    rw [decide_eq_true h] at t1
    have s1:aC 1 (ag aT false (aa 1) (aa 2)) [.sh (.str ⟨w.toArray⟩), .sh (.int B0), .sh (.int p), .sh (.str ⟨#[c]⟩)]=some ([.sh (.str ⟨w.toArray⟩), .sh (.int B1), .sh (.int p), .sh (.str ⟨#[c]⟩)], .nx):=by
      rw [b]
      exact fR (hJ (g:=aa 1) (f:=aa 2) rfl rfl) (show 1 < 4 by decide)
    rw [aB (g_ t1 s1)]
    exact s2 B1
  · rw [if_neg h] at b
    rw [decide_eq_false h] at t1
    rw [aB (g9 (b:=aV) t1 rfl),b]
    exact s2 B0
theorem ur (w:List Nat):∀(k n:Nat) (a:Sl),n+k=26→∃a' b',bu fL fM ((List.range' (97+n) k).map fun c=> .str ⟨#[c]⟩) [.sh (.str ⟨w.toArray⟩), .sh (.int (NH.dL w n)), .sh (.int (2 ^ n)),a]=some ([.sh (.str ⟨w.toArray⟩), .sh (.int (NH.bK w)),b',a'], .nx)
  | 0,n,a,h=>⟨a, .sh (.int (2 ^ n)),by rw [show n=26 by assumption];rfl⟩
  | k+1,n,a,h=>by
    have s:=zK w n (97+n) rfl (2 ^ n) rfl a
    rw [(Int.pow_succ 2 n).symm] at s
    obtain ⟨a',b',e⟩:=ur w k (n+1) (.sh (.str ⟨#[97+n]⟩)) (by lia)
    refine ⟨a',b',?_⟩
    rw [List.range'_succ,List.map_cons,bu,s]
    exact e
theorem kc (w:List Nat):bM [.str ⟨w.toArray⟩]=some (.sh (.int (NH.bK w))):=by
  obtain ⟨a,b,e⟩:=ur w 26 0 .no rfl
  have z0:((NH.dL w 0:Nat):Int)=0:=rfl
  have z1:(2:Int) ^ 0=1:=rfl
  rw [z0,z1,Nat.add_zero] at e
  have sg:ig (⟨(List.range' 97 26).toArray⟩:Str)=(List.range' 97 26).map fun c=> .str ⟨#[c]⟩:=by simp [ig]
  simp only [bM,d5,List.length_cons,List.length_nil,Nat.zero_add,gJ,jG,aG,aC,pC,bx,List.map_cons,List.map_nil,Nat.reduceSub,List.replicate,List.cons_append,List.nil_append,PL.settle,frz,frzAll,Option.bind_some,Nat.reduceAdd,Nat.reduceLT,List.set_cons_succ,List.set_cons_zero,if_true,dm,aO,vP,sg,aN,aa,e,List.getElem?_cons_succ,List.getElem?_cons_zero,bV,bJ,cV]
theorem s_ (a b:Nat):Builtin.bitAnd (a:Int) (b:Int)=((a &&& b:Nat):Int):=by
  simp [Builtin.bitAnd]
theorem xF {E:List Sl} {f g:bq} {x y:Nat} (hf:f E=some (.sh (.int x),E)) (hg:g E=some (.sh (.int y),E)):ag pM false f g E=some (.sh (.int ((x &&& y:Nat):Int)),E):=by
  simp only [ag,pM,fT,mQ,hf,hg,Option.bind_some,look,Sl.val,Option.map_some,Bool.false_and,Bool.false_eq_true,if_false,if_true,s_]
theorem rM {E:List Sl} {f g:bq} {x y:Int} (hf:f E=some (.sh (.int x),E)) (hg:g E=some (.sh (.int y),E)):eI (ag i5 false f g) E=some (decide (x=y),E):=by
  simp only [eI,ag,i5,fT,hf,hg,Option.bind_some,look,Sl.val,Option.map_some,Bool.false_and,Bool.false_eq_true,if_false,fk]
def kP (n:Nat):PyData:= .int n
theorem ut (x1:Sl) (b:Nat):∀(ps:List Nat) (a:Sl),∃E,bu bG be (ps.map kP) [.sh (.int b),x1,a]=some (E,if ps.any (fun p=>decide (p &&& b=p)) then .rt (.sh (.bool true)) else .nx)
  | [],a=>⟨_,rfl⟩
  | p::ps,a=>by
    have t1:eI (ag i5 false (ag pM false (aa 2) (aa 0)) (aa 2)) [.sh (.int b),x1, .sh (.int p)]=some (decide (((p &&& b:Nat):Int)=(p:Int)),[.sh (.int b),x1, .sh (.int p)]):=rM (xF (f:=aa 2) (g:=aa 0) (x:=p) (y:=b) rfl rfl) rfl
    have tg:bG (kP p) [.sh (.int b),x1,a]=some [.sh (.int b),x1, .sh (.int p)]:=rfl
    by_cases h:p &&& b=p
    · rw [decide_eq_true (by rw [h])] at t1
      refine ⟨[.sh (.int b),x1, .sh (.int p)],?_⟩
      have st:(bG (kP p) [.sh (.int b),x1,a]).bind be=some ([.sh (.int b),x1, .sh (.int p)], .rt (.sh (.bool true))):=by
        rw [tg,Option.bind_some,be]
        exact g_ t1 rfl
      rw [List.map_cons,bu,st,List.any_cons,decide_eq_true h]
      rfl
    · rw [decide_eq_false (by lia)] at t1
      obtain ⟨E,ih⟩:=ut x1 b ps (.sh (.int p))
      refine ⟨E,?_⟩
      have st:(bG (kP p) [.sh (.int b),x1,a]).bind be=some ([.sh (.int b),x1, .sh (.int p)], .nx):=by
        rw [tg,Option.bind_some,be]
        exact g9 t1 rfl
      rw [List.map_cons,bu,st,List.any_cons,decide_eq_false h,Bool.false_or]
      exact ih
theorem zL (b:Nat) (ps:List Nat):aK [.int b, .list (ps.map kP)]=some (.sh (.bool (ps.any fun p=>decide (p &&& b=p)))):=by
  obtain ⟨E,e⟩:=ut (.sh (.list (ps.map kP))) b ps .no
  cases h:ps.any (fun p=>decide (p &&& b=p)) with
  | true=>
    rw [h] at e
    simp only [if_true] at e
    simp only [aK,d5,List.length_cons,List.length_nil,Nat.zero_add,Nat.reduceAdd,gJ,du,aG,dm,aO,aa,bx,List.map_cons,List.map_nil,Nat.reduceSub,List.replicate,List.cons_append,List.nil_append,List.getElem?_cons_succ,List.getElem?_cons_zero,frz,Option.bind_some,e,aN,pC,bV,bJ,cV,if_true]
  | false=>
    rw [h] at e
    simp only [Bool.false_eq_true,if_false] at e
    simp only [aK,d5,List.length_cons,List.length_nil,Nat.zero_add,Nat.reduceAdd,gJ,du,aG,dm,aO,aa,bx,List.map_cons,List.map_nil,Nat.reduceSub,List.replicate,List.cons_append,List.nil_append,List.getElem?_cons_succ,List.getElem?_cons_zero,frz,Option.bind_some,e,aN,pC,bV,bJ,cV,if_true]
theorem rN (x1:Sl) (b:Nat):∀(ps:List Nat) (a:Sl),∃E,bu cN b9 (ps.map kP) [.sh (.int b),x1,a]=some (E,if ps.all (fun p=> !decide (p &&& b=0)) then .nx else .rt (.sh (.bool false)))
  | [],a=>⟨_,rfl⟩
  | p::ps,a=>by
    have t1:eI (ag i5 false (ag pM false (aa 2) (aa 0)) (pC (.int 0))) [.sh (.int b),x1, .sh (.int p)]=some (decide (((p &&& b:Nat):Int)=0),[.sh (.int b),x1, .sh (.int p)]):=rM (xF (f:=aa 2) (g:=aa 0) (x:=p) (y:=b) rfl rfl) rfl
    have tg:cN (kP p) [.sh (.int b),x1,a]=some [.sh (.int b),x1, .sh (.int p)]:=rfl
    by_cases h:p &&& b=0
    · rw [decide_eq_true (by rw [h];rfl)] at t1
      refine ⟨[.sh (.int b),x1, .sh (.int p)],?_⟩
      have st:(cN (kP p) [.sh (.int b),x1,a]).bind b9=some ([.sh (.int b),x1, .sh (.int p)], .rt (.sh (.bool false))):=by
        rw [tg,Option.bind_some,b9]
        exact g_ t1 rfl
      rw [List.map_cons,bu,st,List.all_cons,decide_eq_true h]
      rfl
    · rw [decide_eq_false (by lia)] at t1
      obtain ⟨E,ih⟩:=rN x1 b ps (.sh (.int p))
      refine ⟨E,?_⟩
      have st:(cN (kP p) [.sh (.int b),x1,a]).bind b9=some ([.sh (.int b),x1, .sh (.int p)], .nx):=by
        rw [tg,Option.bind_some,b9]
        exact g9 t1 rfl
      rw [List.map_cons,bu,st,List.all_cons,decide_eq_false h,Bool.not_false,Bool.true_and]
      exact ih
theorem xG (b:Nat) (ps:List Nat):cb [.int b, .list (ps.map kP)]=some (.sh (.bool (ps.all fun p=> !decide (p &&& b=0)))):=by
  obtain ⟨E,e⟩:=rN (.sh (.list (ps.map kP))) b ps .no
  cases h:ps.all (fun p=> !decide (p &&& b=0)) with
  | true=>
    rw [h] at e
    simp only [if_true] at e
    simp only [cb,d5,List.length_cons,List.length_nil,Nat.zero_add,Nat.reduceAdd,gJ,fN,aG,dm,aO,aa,bx,List.map_cons,List.map_nil,Nat.reduceSub,List.replicate,List.cons_append,List.nil_append,List.getElem?_cons_succ,List.getElem?_cons_zero,frz,Option.bind_some,e,aN,pC,bV,bJ,cV,if_true]
  | false=>
    rw [h] at e
    simp only [Bool.false_eq_true,if_false] at e
    simp only [cb,d5,List.length_cons,List.length_nil,Nat.zero_add,Nat.reduceAdd,gJ,fN,aG,dm,aO,aa,bx,List.map_cons,List.map_nil,Nat.reduceSub,List.replicate,List.cons_append,List.nil_append,List.getElem?_cons_succ,List.getElem?_cons_zero,frz,Option.bind_some,e,aN,pC,bV,bJ,cV,if_true]
def af (w:List Nat):PyData:= .str ⟨w.toArray⟩
def zM (w:List Nat):List (List Nat):=w.foldl (fun acc a=>acc++acc.map (· ++[a])) [[]]
theorem cK (l:List (List Nat)):bd (l.map af)=true:=by
  induction l with
  | nil=>rfl
  | cons a l ih=>show (cV (af a)&&bd (l.map af))=true;rw [ih];rfl
theorem BX (u v:List Nat):(⟨u.toArray⟩:Str)++(⟨v.toArray⟩:Str)=⟨(u++v).toArray⟩:=by
  show (⟨u.toArray++v.toArray⟩:Str)=_
  simp
theorem ke (w:List Nat):(⟨w.toArray⟩:Str).length=w.length:=by show w.toArray.size=_;simp
theorem xH (a:Nat):∀(l:List (List Nat)) (x0:Sl),(∀u∈l,u.length≤1000)→cB gn bA e9 (l.map af) [x0, .sh (.str ⟨#[a]⟩)]=some ((l.map (· ++[a])).map af)
  | [],x0,_=>rfl
  | u::l,x0,h=>by
    have hu:=h u (List.mem_cons_self ..)
    have ap:(⟨u.toArray⟩:Str)++(⟨#[a]⟩:Str)=⟨(u++[a]).toArray⟩:=BX u [a]
    have l1:(⟨#[a]⟩:Str).length=1:=rfl
    have lb:u.length+1≤1000000:=by lia
    have e:gn (af u) [x0, .sh (.str ⟨#[a]⟩)]=some [.sh (.str ⟨u.toArray⟩), .sh (.str ⟨#[a]⟩)]:=rfl
    have e2:e9 [.sh (.str ⟨u.toArray⟩), .sh (.str ⟨#[a]⟩)]=some (.sh (.str ⟨(u++[a]).toArray⟩),[.sh (.str ⟨u.toArray⟩), .sh (.str ⟨#[a]⟩)]):=by
      simp only [e9,ag,aa,List.getElem?_cons_zero,Sl.isBr,Bool.false_and,Bool.false_eq_true,aT,look,Sl.val,gP,fG,if_false,Option.bind_some,List.getElem?_cons_succ,Bool.not_false,Bool.true_or,Bool.and_true,ke,l1,lb,ap,if_true]
    rw [List.map_cons,cB,e,Option.bind_some]
    simp only [bA,frz,Option.bind_some,e2,xH a l _ fun v hv=>h v (List.mem_cons_of_mem _ hv),Option.map_some,if_true,List.map_cons]
    rfl
theorem xI (x0:Sl):∀(w:List Nat) (l:List (List Nat)) (n:Nat) (a:Sl),l.length*2 ^ w.length≤100000→n+w.length≤1000→(∀u∈l,u.length≤n)→∃a',bu dS dU (w.map fun c=> .str ⟨#[c]⟩) [x0, .ow (l.map af),a]=some ([x0, .ow ((w.foldl (fun acc a=>acc++acc.map (· ++[a])) l).map af),a'], .nx)
  | [],l,n,a,_,_,_=>⟨a,rfl⟩
  | c::w,l,n,a,hb,hn,hl=>by
    have p1:1≤2 ^ w.length:=Nat.one_le_two_pow
    have lle:l.length≤100000:=by
      rw [List.length_cons,Nat.pow_succ] at hb
      have:l.length*1≤l.length*(2 ^ w.length*2):=Nat.mul_le_mul_left _ (by lia)
      lia
    have k:=xH c l .no fun u hu=>by have:=hl u hu;simp at hn;lia
    have lb:(l.map (· ++[c])).length≤1000000:=by simp;lia
    have lb2:l.length+(l.map (· ++[c])).length≤1000000:=by simp;lia
    have fl:=cK (l.map (· ++[c]))
    have lb3:l.length≤1000000:=by lia
    have lb4:l.length+l.length≤1000000:=by lia
    have st:(dS (.str ⟨#[c]⟩) [x0, .ow (l.map af),a]).bind dU=some ([x0, .ow ((l++l.map (· ++[c])).map af), .sh (.str ⟨#[c]⟩)], .nx):=by
      simp only [dS,aY,List.length_cons,List.length_nil,Nat.zero_add,Nat.reduceAdd,Nat.reduceLT,List.set_cons_succ,List.set_cons_zero,if_true,dU,Option.bind_some,aC,ag,aa,List.getElem?_cons_succ,List.getElem?_cons_zero,Sl.isBr,Bool.false_and,Bool.false_eq_true,bn,aO,frz,jj,List.map_cons,tZ,List.map_nil,aT,look,Sl.val,gP,fG,if_false,k,fl,List.length_map,lb3,decide_true,Bool.and_true,Option.any_some,Bool.not_false,Bool.true_or,lb4,←List.map_append,PL.settle,frzAll]
    obtain ⟨a',e⟩:=xI x0 w (l++l.map (· ++[c])) (n+1) (.sh (.str ⟨#[c]⟩)) (by
      rw [List.length_append,List.length_map,←Nat.two_mul,Nat.mul_assoc]
      rw [List.length_cons,Nat.pow_succ] at hb
      have e1:2*(l.length*2 ^ w.length)=l.length*(2 ^ w.length*2):=by rw [Nat.mul_comm 2,Nat.mul_assoc]
      lia) (by simp at hn;lia) (fun u hu=>by
        rcases List.mem_append.mp hu with q | q
        · have:=hl u q;(solve_by_elim (maxDepth:=3) only [*,Nat.le_trans,Nat.lt_of_lt_of_le,Nat.lt_of_le_of_lt,Nat.le_of_lt])
        · obtain ⟨v,hv,rfl⟩:=List.mem_map.mp q
          have:=hl v hv
          simp;assumption)
    refine ⟨a',?_⟩
    rw [List.map_cons,bu,st]
    exact e
theorem xJ (w:List Nat) (hw:w.length≤10):bR [.str ⟨w.toArray⟩]=some (.ow ((zM w).map af)):=by
  have p:2 ^ w.length≤2 ^ 10:=Nat.pow_le_pow_right (by decide) hw
  obtain ⟨a,e⟩:=xI (.sh (.str ⟨w.toArray⟩)) w [[]] 0 .no (by simp;lia) (by lia) (fun u hu=>by rw [List.mem_singleton.mp hu];simp)
  have e0:[PyData.str ""]=([[]]:List (List Nat)).map af:=rfl
  have sg:ig (⟨w.toArray⟩:Str)=w.map fun c=> .str ⟨#[c]⟩:=by simp [ig]
  have fl:=cK (zM w)
  unfold zM at fl ⊢
  have s1:aC 1 (cA (dI (pC (.str "")) cM)) [.sh (.str ⟨w.toArray⟩), .no, .no]=some ([.sh (.str ⟨w.toArray⟩), .ow (([[]]:List (List Nat)).map af), .no], .nx):=by
    rw [←e0]
    simp only [aC,cA,dI,pC,frz,cM,Option.map_some,Option.bind_some,List.length_cons,List.length_nil,Nat.zero_add,Nat.reduceLeDiff,if_true,PL.settle,frzAll,Nat.reduceAdd,Nat.reduceLT,List.set_cons_succ,List.set_cons_zero]
  have it:∀y:Sl,aO (aa 0) [.sh (.str ⟨w.toArray⟩),y, .no]=some (w.map fun c=> .str ⟨#[c]⟩,[.sh (.str ⟨w.toArray⟩),y, .no]):=fun y=>by
    simp only [aO,aa,List.getElem?_cons_zero,frz,Option.bind_some,sg]
  have fo:dm (aO (aa 0)) dS dU [.sh (.str ⟨w.toArray⟩), .ow (([[]]:List (List Nat)).map af), .no]=some ([.sh (.str ⟨w.toArray⟩), .ow ((w.foldl (fun acc a=>acc++acc.map (· ++[a])) [[]]).map af),a], .nx):=by
    unfold dm
    rw [it,Option.bind_some]
    exact e
  have g:bR [.str ⟨w.toArray⟩]=(g7 [.sh (.str ⟨w.toArray⟩), .no, .no]).bind fun a=>match a.2 with | .rt r=>bV r | .nx=>some (.sh .none) | _=>none:=rfl
  rw [g,g7,aB s1,aB fo]
  simp only [aN,aa,List.getElem?_cons_succ,List.getElem?_cons_zero,Option.bind_some,List.set_cons_succ,List.set_cons_zero,Option.map_some,bV,bJ,fl,if_true]
open NhFam in
theorem uv (w:List Nat):NhSG.iT ⟨w.toArray⟩=key w:=by
  show (((⟨w.toArray⟩:Str).length:Int),w.toArray.toList)=((w.length:Int),w)
  rw [ke]
theorem nG:∀F:List (List Nat),i7 (F.map af)=some (F.map fun w=>(⟨w.toArray⟩:Str))
  | []=>rfl
  | w::F=>by
    show (i7 (F.map af)).map ((⟨w.toArray⟩:Str):: ·)=_
    rw [nG F]
    rfl
theorem xK (F:List (List Nat)):NhSG.jO (F.map fun w=>(⟨w.toArray⟩:Str))=(NhFam.hZ F).map fun w=>(⟨w.toArray⟩:Str):=by
  refine (NhSG.oR ((List.mergeSort_perm F _).map _) ?_).symm
  rw [List.pairwise_map]
  exact (NhFam.oV F).imp fun {a b} h=>by
    unfold NhSG.qv
    rw [uv,uv]
    have:NhSG.gK (NhFam.key b) (NhFam.key a)=false:=by simpa [NhFam.jm] using h
    rw [this];rfl
theorem zN (F:List (List Nat)):(F.map fun w=>(⟨w.toArray⟩:Str)).map PyData.str=F.map af:=by rw [List.map_map];rfl
def Fit (F:List (List Nat)):Prop:=F.length < 1100∧∀w∈F,NH.nW w∧w.length≤1000
theorem Fit.chk {F:List (List Nat)} (h:Fit F):(decide ((F.map fun w=>(⟨w.toArray⟩:Str)).length < 65536)&&(F.map fun w=>(⟨w.toArray⟩:Str)).all fun z=>decide (z.length≤1000))=true:=by
  simp only [Bool.and_eq_true,decide_eq_true_eq,List.all_eq_true,List.length_map]
  refine ⟨Nat.lt_trans h.1 (by decide),fun z hz=>?_⟩
  obtain ⟨w,hw,rfl⟩:=List.mem_map.mp hz
  rw [ke]
  exact (h.2 w hw).2
theorem og {F:List (List Nat)} (h:Fit F):ba [.list (F.map af)]=some (.ow ((NhFam.hZ F).map af)):=by
  have a:qc (aa 0) [.sh (.list (F.map af))]=some (.ow ((NhFam.hZ F).map af),[.sh (.list (F.map af))]):=by
    unfold qc
    simp only [aa,List.getElem?_cons_zero,Option.bind_some,look,Sl.val,nG,h.chk,if_true,xK,zN]
  have fl:=cK (NhFam.hZ F)
  simp only [ba,fm,d5,gJ,bx,aN,a,Option.bind_some,Option.map_some,bV,bJ,fl,if_true,List.length_cons,List.length_nil,Nat.sub_self,List.replicate,List.map_cons,List.map_nil,List.append_nil,Nat.zero_add,Nat.reduceAdd]
def bW (w:List Nat):PyData:=kP (NH.bK w)
theorem vQ (l:List (List Nat)):bd (l.map bW)=true:=by
  induction l with
  | nil=>rfl
  | cons a l ih=>show (cV (bW a)&&bd (l.map bW))=true;rw [ih];rfl
theorem rO (K:List (List Nat)):K.map bW=(K.map NH.bK).map kP:=by rw [List.map_map];rfl
theorem xL {K:List (List Nat)} (h:∀k∈K,NH.nW k) (w:List Nat):(K.map NH.bK).any (fun p=>decide (p &&& NH.bK w=p))=K.any (fun k=>decide (NhFam.le k w)):=by
  induction K with
  | nil=>rfl
  | cons k K ih=>
    rw [List.map_cons,List.any_cons,List.any_cons,ih fun k hk=>h k (List.mem_cons_of_mem _ hk)]
    congr 1
    exact decide_eq_decide.mpr (NH.vy (h k (List.mem_cons_self ..)))
theorem nH (x0:Sl):∀(S K:List (List Nat)) (a b:Sl),(∀w∈S,NH.nW w)→(∀w∈K,NH.nW w)→K.length+S.length≤2000→∃y a' b',bu df cc (S.map af) [x0, .ow (K.map af), .ow (K.map bW),a,b]=some ([x0, .ow ((NhFam.cY K S).map af),y,a',b'], .nx)
  | [],K,a,b,_,_,_=>⟨_,a,b,rfl⟩
  | w::S,K,a,b,hS,hK,hl=>by
    have tg:df (af w) [x0, .ow (K.map af), .ow (K.map bW),a,b]=some [x0, .ow (K.map af), .ow (K.map bW), .sh (af w),b]:=rfl
    have c1:ak bM (ae false (aa 3) aj) [x0, .ow (K.map af), .ow (K.map bW), .sh (af w),b]=some (.sh (.int (NH.bK w)),[x0, .ow (K.map af), .ow (K.map bW), .sh (af w),b]):=aI (ss:=[.sh (af w)]) rfl rfl (kc w)
    have s1:aC 4 (ak bM (ae false (aa 3) aj)) [x0, .ow (K.map af), .ow (K.map bW), .sh (af w),b]=some ([x0, .ow (K.map af), .ow (K.map bW), .sh (af w), .sh (.int (NH.bK w))], .nx):=fR c1 (show 4 < 5 by decide)
    have pp:=zL (NH.bK w) (K.map NH.bK)
    rw [←rO,xL hK w] at pp
    have c2:eW (ak aK (ae false (aa 4) (ae false (aa 2) aj))) [x0, .ow (K.map af), .ow (K.map bW), .sh (af w), .sh (.int (NH.bK w))]=some (K.any (fun k=>decide (NhFam.le k w)),[x0, .ow (K.map af), .ow (K.map bW), .sh (af w), .sh (.int (NH.bK w))]):=by
      have c3:ak aK (ae false (aa 4) (ae false (aa 2) aj)) [x0, .ow (K.map af), .ow (K.map bW), .sh (af w), .sh (.int (NH.bK w))]=some (.sh (.bool (K.any (fun k=>decide (NhFam.le k w)))),[x0, .ow (K.map af), .ow (K.map bW), .sh (af w), .sh (.int (NH.bK w))]):=aI (ss:=[.sh (.int (NH.bK w)), .al 2]) rfl rfl pp
      simp only [eW,c3,Option.bind_some,look,Sl.val,jJ,Option.map_some]
    by_cases h:K.any (fun k=>decide (NhFam.le k w))=true
    · rw [h] at c2
      have st:(df (af w) [x0, .ow (K.map af), .ow (K.map bW),a,b]).bind cc=some ([x0, .ow (K.map af), .ow (K.map bW), .sh (af w), .sh (.int (NH.bK w))], .nx):=by
        rw [tg,Option.bind_some,cc,aB s1]
        refine g9 ?_ rfl
        simp only [fB,c2,Option.map_some,Bool.not_true]
      obtain ⟨y,a',b',e⟩:=nH x0 S K (.sh (af w)) (.sh (.int (NH.bK w))) (fun v hv=>hS v (List.mem_cons_of_mem _ hv)) hK (by simp at hl;exact Nat.le_of_lt ‹_›)
      refine ⟨y,a',b',?_⟩
      rw [List.map_cons,bu,st,NhFam.cY,if_pos h]
      exact e
    · have h':K.any (fun k=>decide (NhFam.le k w))=false:=by simpa using h
      rw [h'] at c2
      have b1:K.length < 1000000:=by simp at hl;lia
      have st:(df (af w) [x0, .ow (K.map af), .ow (K.map bW),a,b]).bind cc=some ([x0, .ow ((K++[w]).map af), .ow ((K++[w]).map bW), .sh (af w), .sh (.int (NH.bK w))], .nx):=by
        rw [tg,Option.bind_some,cc,aB s1]
        have n2:fB (eW (ak aK (ae false (aa 4) (ae false (aa 2) aj)))) [x0, .ow (K.map af), .ow (K.map bW), .sh (af w), .sh (.int (NH.bK w))]=some (true,[x0, .ow (K.map af), .ow (K.map bW), .sh (af w), .sh (.int (NH.bK w))]):=by
          simp only [fB,c2,Option.map_some,Bool.not_false]
        refine g_ n2 ?_
        have a1:eU (cW 2 (aa 4)) [x0, .ow (K.map af), .ow (K.map bW), .sh (af w), .sh (.int (NH.bK w))]=some ([x0, .ow (K.map af), .ow ((K++[w]).map bW), .sh (af w), .sh (.int (NH.bK w))], .nx):=by
          simp only [eU,cW,List.getElem?_cons_succ,List.getElem?_cons_zero,aa,frz,Option.bind_some,List.length_map,b1,List.set_cons_succ,List.set_cons_zero,if_true,Option.map_some,List.map_append,List.map_cons,List.map_nil]
          rfl
        rw [aB a1]
        simp only [eU,cW,List.map_append,List.map_cons,List.map_nil,List.getElem?_cons_succ,List.getElem?_cons_zero,aa,frz,Option.bind_some,List.length_map,b1,List.set_cons_succ,List.set_cons_zero,if_true,Option.map_some]
      obtain ⟨y,a',b',e⟩:=nH x0 S (K++[w]) (.sh (af w)) (.sh (.int (NH.bK w))) (fun v hv=>hS v (List.mem_cons_of_mem _ hv)) (fun v hv=>by
        rcases List.mem_append.mp hv with q | q
        · exact hK v q
        · rw [List.mem_singleton.mp q];exact hS w (List.mem_cons_self ..)) (by simp at hl ⊢;lia)
      refine ⟨y,a',b',?_⟩
      rw [List.map_cons,bu,st,NhFam.cY,if_neg h]
      exact e
theorem lZ {F:List (List Nat)} (h:Fit F):ce [.list (F.map af)]=some (.ow ((NhFam.au F).map af)):=by
  obtain ⟨y,a,b,e⟩:=nH (.sh (.list (F.map af))) (NhFam.hZ F) [] .no .no (fun w hw=>(h.2 w (NhFam.sortT_mem.mp hw)).1) (fun w hw=>by cases hw) (by
    have:(NhFam.hZ F).length=F.length:=(List.mergeSort_perm F _).length_eq
    have:=h.1
    simp;lia)
  have it:aO (ak ba (ae false (aa 0) aj)) [.sh (.list (F.map af)), .ow [], .ow [], .no, .no]=some ((NhFam.hZ F).map af,[.sh (.list (F.map af)), .ow [], .ow [], .no, .no]):=by
    have c:ak ba (ae false (aa 0) aj) [.sh (.list (F.map af)), .ow [], .ow [], .no, .no]=some (.ow ((NhFam.hZ F).map af),[.sh (.list (F.map af)), .ow [], .ow [], .no, .no]):=aI (ss:=[.sh (.list (F.map af))]) rfl rfl (og h)
    unfold aO
    rw [c]
    rfl
  have fo:dm (aO (ak ba (ae false (aa 0) aj))) df cc [.sh (.list (F.map af)), .ow [], .ow [], .no, .no]=some ([.sh (.list (F.map af)), .ow ((NhFam.au F).map af),y,a,b], .nx):=by
    unfold dm
    rw [it,Option.bind_some]
    exact e
  have g:ce [.list (F.map af)]=(g5 [.sh (.list (F.map af)), .no, .no, .no, .no]).bind fun a=>match a.2 with | .rt r=>bV r | .nx=>some (.sh .none) | _=>none:=rfl
  have s1:aC 1 (cA cM) [.sh (.list (F.map af)), .no, .no, .no, .no]=some ([.sh (.list (F.map af)), .ow [], .no, .no, .no], .nx):=by simp only [aC,cA,cM,Option.bind_some,List.length_nil,Nat.reduceLeDiff,if_true,PL.settle,frz,frzAll,List.length_cons,Nat.zero_add,Nat.reduceAdd,Nat.reduceLT,List.set_cons_succ,List.set_cons_zero]
  have s2:aC 2 (cA cM) [.sh (.list (F.map af)), .ow [], .no, .no, .no]=some ([.sh (.list (F.map af)), .ow [], .ow [], .no, .no], .nx):=by simp only [aC,cA,cM,Option.bind_some,List.length_nil,Nat.reduceLeDiff,if_true,PL.settle,frz,frzAll,List.length_cons,Nat.zero_add,Nat.reduceAdd,Nat.reduceLT,List.set_cons_succ,List.set_cons_zero]
  have fl:=cK (NhFam.au F)
  rw [g,g5,aB s1,aB s2,aB fo]
  simp only [aN,aa,List.getElem?_cons_succ,List.getElem?_cons_zero,Option.bind_some,List.set_cons_succ,List.set_cons_zero,Option.map_some,bV,bJ,fl,if_true]
def rZ (w:List Nat):Str:=⟨w.toArray⟩
theorem bH (w:List Nat):NhFam.Srt (av w):=List.Pairwise.sublist List.filter_sublist (List.pairwise_lt_range' ..)
theorem xM {w:List Nat} (h:NhFam.Srt w) (a:∀y∈w,az y):av w=w:=
  (bH w).ext h (fun x hx=>(inOrd_mem.mp hx).2) fun x hx=>inOrd_mem.mpr ⟨gH (a x hx),hx⟩
theorem uw:∀F:List (List Nat),Txt.join "" (F.map rZ)=⟨F.flatten.toArray⟩:=by
  intro F
  show Builtin.Str.glued "" _=_
  rw [StrLaws.glued_eq_join]
  induction F with
  | nil=>rfl
  | cons a F ih=>
    cases F with
    | nil=>simp [Str.join,rZ]
    | cons b F=>
      have e:Str.join "" ((a::b::F).map rZ)=(rZ a)++""++Str.join "" ((b::F).map rZ):=rfl
      rw [e,ih]
      show (⟨(a.toArray++(Str.ofString "").cps)++(b::F).flatten.toArray⟩:Str)=_
      rw [show (Str.ofString "").cps=#[] by decide+kernel]
      simp
theorem lG:∀F:List (List Nat),gE (F.map af)=some (F.map rZ)
  | []=>rfl
  | w::F=>by
    show (gE (F.map af)).map (rZ w:: ·)=_
    rw [lG F]
    rfl
theorem rP:∀F:List (List Nat),((F.map rZ).map (·.length)).sum+(F.map rZ).length*(Str.ofString "").length=F.flatten.length:=by
  intro F
  have:(Str.ofString "").length=0:=rfl
  rw [this,Nat.mul_zero,Nat.add_zero]
  induction F with
  | nil=>rfl
  | cons a F ih=>
    simp only [List.map_cons,List.sum_cons,ih,List.flatten_cons,List.length_append]
    rw [show (rZ a).length=a.length from ke a]
theorem oh {w:List Nat} (h:w.length≤10):dg [af w]=some (.sh .none):=by
  have l:=ke w
  have lt:¬((w.length:Int) > 10):=by lia
  have lb:w.length≤1000000:=by lia
  simp only [dg,d5,af,List.length_cons,List.length_nil,Nat.zero_add,gJ,gL,ca,eI,ag,bB,ae,aa,bx,List.map_cons,List.map_nil,Nat.sub_self,List.replicate,List.cons_append,List.nil_append,List.getElem?_cons_zero,Sl.isBr,Bool.false_and,Bool.false_eq_true,aj,Option.map_some,if_false,Option.bind_some,d7,bQ,look,Sl.val,l,lb,if_true,pC,fT,gu,Cm.i,Cm.s,lt,decide_false,aV,bV,bJ]
theorem fS {js:List (Option Nat)} {it:mD} {tg:gI} {c:kW} {el:bq} {E E1:List Sl} {ds rs:List PyData} (hi:it E=some (ds,E1)) (hl:cB tg c el ds (jj js E1)=some rs) (fl:bd rs=true) (ll:rs.length≤1000000):bn js it tg c el E=some (.ow rs,E1):=by
  simp only [bn,hi,Option.bind_some,hl,fl,ll,if_true,and_self,Option.map_some,decide_true,Bool.and_self,Bool.true_and,Bool.and_true]
theorem o6:∀(F:List (List Nat)) (x:Sl),cB bX bA bY (F.map af) [x]=some (F.map bW)
  | [],x=>rfl
  | v::F,x=>by
    have t:bX (af v) [x]=some [.sh (af v)]:=rfl
    have e:bY [.sh (af v)]=some (.sh (.int (NH.bK v)),[.sh (af v)]):=aI (ss:=[.sh (af v)]) rfl rfl (kc v)
    exact h7 t e (o6 F _)
theorem xN {K:List (List Nat)} (h:∀k∈K,NH.nW k) (w:List Nat):(K.map NH.bK).all (fun p=> !decide (p &&& NH.bK w=0))=NhFam.dJ K w:=by
  unfold NhFam.dJ
  induction K with
  | nil=>rfl
  | cons k K ih=>
    rw [List.map_cons,List.all_cons,List.all_cons,ih fun k hk=>h k (List.mem_cons_of_mem _ hk)]
    congr 1
    exact congrArg not (decide_eq_decide.mpr (NH.vz (h k (List.mem_cons_self ..))))
theorem uz {tg:gI} {cond:kW} {elt:bq} {d r:PyData} {ds rs:List PyData} {E E1:List Sl} {b:Bool} (t:tg d E=some E1) (c:cond E1=some (b,E1)) (el:elt E1=some (.sh r,E1)) (h:cB tg cond elt ds E1=some rs):cB tg cond elt (d::ds) E=some (if b then r::rs else rs):=by
  cases b with
  | true=>simp only [cB,t,c,el,h,Option.bind_some,Option.map_some,if_true,frz]
  | false=>simp only [cB,t,c,h,Option.bind_some,Bool.false_eq_true,if_false]
theorem uA {K:List (List Nat)} (hK:∀k∈K,NH.nW k):∀(F:List (List Nat)) (x:Sl),cB bZ bD b7 (F.map af) [x, .sh (.list (K.map bW))]=some ((F.filter (NhFam.dJ K)).map af)
  | [],x=>rfl
  | v::F,x=>by
    have t:bZ (af v) [x, .sh (.list (K.map bW))]=some [.sh (af v), .sh (.list (K.map bW))]:=rfl
    have el:b7 [.sh (af v), .sh (.list (K.map bW))]=some (.sh (af v),[.sh (af v), .sh (.list (K.map bW))]):=rfl
    have c1:ak bM (ae false (aa 0) aj) [.sh (af v), .sh (.list (K.map bW))]=some (.sh (.int (NH.bK v)),[.sh (af v), .sh (.list (K.map bW))]):=aI (ss:=[.sh (af v)]) rfl rfl (kc v)
    have pm:=xG (NH.bK v) (K.map NH.bK)
    rw [←rO,xN hK v] at pm
    have c2:ak cb (ae false (ak bM (ae false (aa 0) aj)) (ae false (aa 1) aj)) [.sh (af v), .sh (.list (K.map bW))]=some (.sh (.bool (NhFam.dJ K v)),[.sh (af v), .sh (.list (K.map bW))]):=aI (ss:=[.sh (.int (NH.bK v)), .sh (.list (K.map bW))]) (by simp only [ae,aj,c1,Option.bind_some,Option.map_some,Bool.false_and,Bool.false_eq_true,if_false,aa,List.getElem?_cons_succ,List.getElem?_cons_zero]) rfl pm
    have c:bD [.sh (af v), .sh (.list (K.map bW))]=some (NhFam.dJ K v,[.sh (af v), .sh (.list (K.map bW))]):=by
      unfold bD
      simp only [eW,c2,Option.bind_some,look,Sl.val,jJ,Option.map_some]
    rw [List.map_cons,uz t c el (uA hK F _),List.filter_cons]
    split <;> rfl
theorem uB {f:bq} {E E1:List Sl} {r:Sl} (h:f E=some (r,E1)):eU f E=some (E1, .nx):=by
  simp only [eU,h,Option.map_some]
theorem iX {f:bq} {E E1:List Sl} {ds:List PyData} {i:Nat} (h:f E=some (.ow ds,E1)) (hi:i < E1.length):aC i f E=some (E1.set i (.ow ds), .nx):=by
  simp only [aC,h,Option.bind_some,PL.settle,Sl.isAl,Bool.false_eq_true,if_false,hi,if_true,Option.map_some]
theorem vR {w:List Nat} (n:w.Nodup) (a:∀y∈w,az y):gv (w.map fj)=(av w).map fj:=by
  refine (List.Perm.eq_of_pairwise (fun _ _ _ _ h k=>kr h k) (kN w) (List.pairwise_mergeSort iy jC _) ?_).symm
  refine List.Perm.trans ?_ (List.mergeSort_perm _ _).symm
  refine iW (kb (jv w)) (kb n) fun y=>?_
  constructor
  · intro h
    obtain ⟨a,ha,rfl⟩:=List.mem_map.mp h
    exact List.mem_map.mpr ⟨a,(inOrd_mem.mp ha).2,rfl⟩
  · intro h
    obtain ⟨b,hb,rfl⟩:=List.mem_map.mp h
    exact List.mem_map.mpr ⟨b,inOrd_mem.mpr ⟨gH (a b hb),hb⟩,rfl⟩
theorem l_ {w:List Nat} (n:w.Nodup) (a:∀y∈w,az y):(av w).length=w.length:=
  (iW (jv w) n fun y=>⟨fun h=>(inOrd_mem.mp h).2,fun h=>inOrd_mem.mpr ⟨gH (a y h),h⟩⟩).length_eq
theorem Cn {f g:bq} {E:List Sl} {s1 s2:Sl} (hf:f E=some (s1,E)) (hg:g E=some (s2,E)):ae false f (ae false g aj) E=some ([s1,s2],E):=by
  simp only [ae,aj,hf,hg,Option.bind_some,Option.map_some,Bool.false_and,Bool.false_eq_true,if_false]
theorem jw {E:List Sl} {f g:bq} {x y:Int} (hf:f E=some (.sh (.int x),E)) (hg:g E=some (.sh (.int y),E)) (h:0 < y):ag eJ false f g E=some (.sh (.int (x % y)),E):=by
  simp only [ag,hf,hg,Option.bind_some,Bool.false_and,Bool.false_eq_true,if_false,eJ,fT,mQ,look,Sl.val,h,decide_true,if_true,Option.map_some]
theorem jI {E:List Sl} {f g:bq} {x y:Int} (hf:f E=some (.sh (.int x),E)) (hg:g E=some (.sh (.int y),E)) (h:lQ y=true):ag bP false f g E=some (.sh (.int (x / y)),E):=by
  simp only [ag,hf,hg,Option.bind_some,Bool.false_and,Bool.false_eq_true,if_false,bP,fT,mQ,look,Sl.val,h,if_true,Option.map_some]
theorem Dv {f:bq} {E:List Sl} {s1:Sl} (hf:f E=some (s1,E)):ae false f aj E=some ([s1],E):=by
  simp only [ae,aj,hf,Option.bind_some,Option.map_some,Bool.false_and,Bool.false_eq_true,if_false]
structure Uni (U:List Nat):Prop where
  srt:NhFam.Srt U
  lt:∀a∈U,az a
  len:U.length≤10
theorem Uni.ltrs {U w:List Nat} (h:Uni U) (s:NhFam.Sub U w):NH.nW w:=fun a ha=>by
  have:=h.lt a (s.2 a ha)
  exact ⟨this.1,this.2⟩
theorem Uni.azw {U w:List Nat} (h:Uni U) (s:NhFam.Sub U w):∀a∈w,az a:=fun a ha=>h.lt a (s.2 a ha)
theorem Uni.short {U w:List Nat} (h:Uni U) (s:NhFam.Sub U w):w.length≤10:=Nat.le_trans (NhFam.eK s.1 h.srt s.2).length_le h.len
theorem Uni.small {U V:List Nat} (u:Uni U) (hV:NhFam.Sub U V):Uni V:=⟨hV.1,u.azw hV,u.short hV⟩
structure Wrt (U:List Nat) (W:List (List Nat)):Prop where
  sub:∀t∈W,NhFam.le t U
  tl:∀t∈W,t.length≤20
  len:W.length≤190
def fW (W:List (List Nat)):List (List Nat):=W.map av
theorem zO {U t:List Nat} (u:Uni U) (h:NhFam.le t U):NhFam.Sub U (av t):=⟨bH t,fun x hx=>h x (inOrd_mem.mp hx).2⟩
theorem Wrt.sets {U:List Nat} {W:List (List Nat)} (u:Uni U) (h:Wrt U W):∀v∈fW W,NhFam.Sub U v:=fun v hv=>by
  obtain ⟨t,ht,rfl⟩:=List.mem_map.mp hv
  exact zO u (h.sub t ht)
theorem xO {U:List Nat} {F:List (List Nat)} (u:Uni U) (h:∀v∈F,NhFam.Sub U v) (hl:F.length < 1100):Fit F:=⟨hl,fun w hw=>⟨u.ltrs (h w hw),by have:=u.short (h w hw);lia⟩⟩
theorem jT {U:List Nat} (u:Uni U):∀(W:List (List Nat)) (x:Sl),(∀t∈W,NhFam.le t U)→(∀t∈W,t.length≤20)→cB cO bA cP (W.map af) [x]=some ((fW W).map af)
  | [],x,_,_=>rfl
  | v::W,x,h,hl=>by
    have t:cO (af v) [x]=some [.sh (af v)]:=rfl
    have so:=o5 (w:=v) (fun y hy=>u.lt y (h v (List.mem_cons_self ..) y hy)) (by have:=hl v (List.mem_cons_self ..);lia)
    have e:cP [.sh (af v)]=some (.sh (af (av v)),[.sh (af v)]):=aI (ss:=[.sh (af v)]) rfl rfl so
    exact h7 t e (jT u W _ (fun v hv=>h v (List.mem_cons_of_mem _ hv)) fun v hv=>hl v (List.mem_cons_of_mem _ hv))
theorem jU {U:List Nat} {W:List (List Nat)} (u:Uni U) (h:Wrt U W):aQ [.list (W.map af)]=some (.ow ((NhFam.au (fW W)).map af)):=by
  have ls:(fW W).length=W.length:=by unfold fW;rw [List.length_map]
  have hl:=h.len
  have c:bn [none] (aO (aa 0)) cO bA cP [.sh (.list (W.map af))]=some (.ow ((fW W).map af),[.sh (.list (W.map af))]):=fS rfl (jT u W _ h.sub h.tl) (cK _) (by rw [List.length_map];lia)
  have b:ak ce (ae false (bn [none] (aO (aa 0)) cO bA cP) aj) [.sh (.list (W.map af))]=some (.ow ((NhFam.au (fW W)).map af),[.sh (.list (W.map af))]):=aI (ss:=[.ow ((fW W).map af)]) (by simp only [ae,aj,c,Option.bind_some,Option.map_some,Bool.false_and,Bool.false_eq_true,if_false]) rfl (lZ (xO u (h.sets u) (by lia)))
  have fl:=cK (NhFam.au (fW W))
  simp only [aQ,gM,d5,gJ,bx,aN,b,Option.bind_some,Option.map_some,bV,bJ,fl,if_true,List.length_cons,List.length_nil,Nat.sub_self,List.replicate,List.map_cons,List.map_nil,List.append_nil,Nat.zero_add,Nat.reduceAdd]
theorem rQ {W:List (List Nat)} (h:∀t∈W,t.length≤20):W.flatten.length≤W.length*20:=by
  induction W with
  | nil=>simp
  | cons a W ih=>
    have:=ih fun v hv=>h v (List.mem_cons_of_mem _ hv)
    have:=h a (List.mem_cons_self ..)
    simp only [List.flatten_cons,List.length_append,List.length_cons]
    lia
theorem nI {U:List Nat} {W:List (List Nat)} (u:Uni U) (h:Wrt U W):bS [.list (W.map af)]=some (.sh (af (av W.flatten))):=by
  have fl:=rQ h.tl
  have hl:=h.len
  have e:=o5 (w:=W.flatten) (fun y hy=>by
    obtain ⟨v,hv,hy⟩:=List.mem_flatten.mp hy
    exact u.lt y (h.sub v hv y hy)) (by lia)
  have l:=rP W
  have l2:W.flatten.length≤1000000:=by lia
  have j:=uw W
  have a:dQ "" (aa 0) [.sh (.list (W.map af))]=some (.sh (.str ⟨W.flatten.toArray⟩),[.sh (.list (W.map af))]):=by
    simp only [dQ,kj,oF,aa,List.getElem?_cons_zero,Option.bind_some,look,Sl.val,lG,l,l2,if_true,Option.map_some,j]
  have b:ak eM (ae false (dQ "" (aa 0)) aj) [.sh (.list (W.map af))]=some (.sh (af (av W.flatten)),[.sh (.list (W.map af))]):=aI (ss:=[.sh (.str ⟨W.flatten.toArray⟩)]) (by simp only [ae,aj,a,Option.bind_some,Option.map_some,Bool.false_and,Bool.false_eq_true,if_false]) rfl e
  have fx:cV (af (av W.flatten))=true:=rfl
  simp only [bS,gq,d5,gJ,bx,aN,b,Option.bind_some,Option.map_some,bV,bJ,fx,if_true,List.length_cons,List.length_nil,Nat.sub_self,List.replicate,List.map_cons,List.map_nil,List.append_nil,Nat.zero_add,Nat.reduceAdd]
theorem lH {U:List Nat} {W:List (List Nat)} (u:Uni U) (h:Wrt U W):NhFam.Sub U (av W.flatten):=⟨bH _,fun x hx=>by
  obtain ⟨v,hv,hx⟩:=List.mem_flatten.mp (inOrd_mem.mp hx).2
  exact h.sub v hv x hx⟩
theorem vS {U:List Nat} {W:List (List Nat)} (u:Uni U) (h:Wrt U W):∀v∈fW W,NhFam.le v (av W.flatten):=fun v hv x hx=>by
  obtain ⟨t,ht,rfl⟩:=List.mem_map.mp hv
  obtain ⟨a,b⟩:=inOrd_mem.mp hx
  exact inOrd_mem.mpr ⟨a,List.mem_flatten.mpr ⟨t,ht,b⟩⟩
theorem lI (L M:List (List Nat)) (hn:L.Nodup) (hm:∀w∈L,w∈M):L.length≤M.length:=by
  induction L generalizing M with
  | nil=>simp
  | cons a L ih=>
    have hn':=List.nodup_cons.mp hn
    have:=ih (M.erase a) hn'.2 fun w hw=>(List.mem_erase_of_ne (a:=w) (b:=a) (fun e=>hn'.1 (by rw [←e];exact hw))).mpr (hm w (List.mem_cons_of_mem _ hw))
    rw [List.length_erase_of_mem (hm a (List.mem_cons_self ..))] at this
    have pos:0 < M.length:=List.length_pos_of_mem (hm a (List.mem_cons_self ..))
    simp only [List.length_cons]
    lia
theorem nJ {U:List Nat} {L:List (List Nat)} {f:List Nat→Prop} (u:Uni U) (t:NhFam.Told U L f):L.length≤1024:=by
  have:=lI L (NhFam.fV U) (NhFam.jE t.srt) fun w hw=>(NhFam.iC u.srt).mpr (t.sub w hw)
  rw [NhFam.nu] at this
  have p:2 ^ U.length≤2 ^ 10:=Nat.pow_le_pow_right (by decide) u.len
  exact Nat.le_trans ‹_› ‹_›
theorem ql {V:List Nat} (u:Uni V) (p:List Nat→Bool):((NhFam.fV V).filter p).length≤1024:=by
  have:=List.length_filter_le p (NhFam.fV V)
  rw [NhFam.nu] at this
  have q:2 ^ V.length≤2 ^ 10:=Nat.pow_le_pow_right (by decide) u.len
  exact Nat.le_trans ‹_› ‹_›
theorem mz {U:List Nat} {W:List (List Nat)} (u:Uni U) (h:Wrt U W):aH [.list (W.map af)]=some (.ow ((NhFam.nv (fW W) (av W.flatten)).map af)):=by
  have tl:=NhFam.d9 (h.sets u)
  have lL:=nJ u tl
  have hV:=lH u h
  have uV:=u.small hV
  have hK:∀k∈NhFam.au (fW W),NH.nW k:=fun k hk=>u.ltrs (tl.sub k hk)
  have cnt:=ql uV (NhFam.dJ (NhFam.au (fW W)))
  generalize eV:av W.flatten=V at hV uV cnt
  generalize eF:fW W=F at tl lL hK cnt
  have pl:=jU u h
  rw [eF] at pl
  have pn:=nI u h
  rw [eV] at pn
  have c1:ak aQ (ae false (aa 0) aj) [.sh (.list (W.map af)), .no, .no]=some (.ow ((NhFam.au F).map af),[.sh (.list (W.map af)), .no, .no]):=aI (ss:=[.sh (.list (W.map af))]) rfl rfl pl
  have i1:aO (ak aQ (ae false (aa 0) aj)) [.sh (.list (W.map af)), .no, .no]=some ((NhFam.au F).map af,[.sh (.list (W.map af)), .no, .no]):=by
    unfold aO
    rw [c1]
    rfl
  have p1:bn [none] (aO (ak aQ (ae false (aa 0) aj))) bX bA bY [.sh (.list (W.map af)), .no, .no]=some (.ow ((NhFam.au F).map bW),[.sh (.list (W.map af)), .no, .no]):=fS i1 (o6 _ _) (vQ _) (by rw [List.length_map];lia)
  have s1:aC 1 (bn [none] (aO (ak aQ (ae false (aa 0) aj))) bX bA bY) [.sh (.list (W.map af)), .no, .no]=some ([.sh (.list (W.map af)), .ow ((NhFam.au F).map bW), .no], .nx):=iX p1 (show 1 < 3 by decide)
  have c2:ak bS (ae false (aa 0) aj) [.sh (.list (W.map af)), .ow ((NhFam.au F).map bW), .no]=some (.sh (af V),[.sh (.list (W.map af)), .ow ((NhFam.au F).map bW), .no]):=aI (ss:=[.sh (.list (W.map af))]) rfl rfl pn
  have s2:aC 2 (ak bS (ae false (aa 0) aj)) [.sh (.list (W.map af)), .ow ((NhFam.au F).map bW), .no]=some ([.sh (.list (W.map af)), .ow ((NhFam.au F).map bW), .sh (af V)], .nx):=fR c2 (show 2 < 3 by decide)
  have c3:eU (ak dg (ae false (aa 2) aj)) [.sh (.list (W.map af)), .ow ((NhFam.au F).map bW), .sh (af V)]=some ([.sh (.list (W.map af)), .ow ((NhFam.au F).map bW), .sh (af V)], .nx):=uB (aI (ss:=[.sh (af V)]) rfl rfl (oh (by have:=uV.len;assumption)))
  have c4:ak bR (ae false (aa 2) aj) [.sh (.list (W.map af)), .ow ((NhFam.au F).map bW), .sh (af V)]=some (.ow ((zM V).map af),[.sh (.list (W.map af)), .ow ((NhFam.au F).map bW), .sh (af V)]):=aI (ss:=[.sh (af V)]) rfl rfl (xJ _ (by have:=uV.len;assumption))
  have i4:aO (ak bR (ae false (aa 2) aj)) [.sh (.list (W.map af)), .ow ((NhFam.au F).map bW), .sh (af V)]=some ((NhFam.fV V).map af,[.sh (.list (W.map af)), .ow ((NhFam.au F).map bW), .sh (af V)]):=by
    unfold aO
    rw [c4]
    rfl
  have fit:Fit ((NhFam.fV V).filter (NhFam.dJ (NhFam.au F))):=xO uV (fun v hv=>(NhFam.iC uV.srt).mp (List.mem_filter.mp hv).1) (by lia)
  have p4:bn [none,some 1] (aO (ak bR (ae false (aa 2) aj))) bZ bD b7 [.sh (.list (W.map af)), .ow ((NhFam.au F).map bW), .sh (af V)]=some (.ow (((NhFam.fV V).filter (NhFam.dJ (NhFam.au F))).map af),[.sh (.list (W.map af)), .ow ((NhFam.au F).map bW), .sh (af V)]):=fS i4 (uA hK _ _) (cK _) (by rw [List.length_map];lia)
  have c5:ak ce (ae false (bn [none,some 1] (aO (ak bR (ae false (aa 2) aj))) bZ bD b7) aj) [.sh (.list (W.map af)), .ow ((NhFam.au F).map bW), .sh (af V)]=some (.ow ((NhFam.nv F V).map af),[.sh (.list (W.map af)), .ow ((NhFam.au F).map bW), .sh (af V)]):=aI (ss:=[.ow (((NhFam.fV V).filter (NhFam.dJ (NhFam.au F))).map af)]) (by simp only [ae,aj,p4,Option.bind_some,Option.map_some,Bool.false_and,Bool.false_eq_true,if_false]) rfl (lZ fit)
  have g:aH [.list (W.map af)]=(ee [.sh (.list (W.map af)), .no, .no]).bind fun a=>match a.2 with | .rt r=>bV r | .nx=>some (.sh .none) | _=>none:=rfl
  have fl:=cK (NhFam.nv F V)
  rw [g,ee,aB s1,aB s2,aB c3]
  simp only [aN,c5,Option.map_some,Option.bind_some,bV,bJ,fl,if_true]
theorem lz {U:List Nat} {W:List (List Nat)} (u:Uni U) (h:Wrt U W):NhFam.Told U (NhFam.nv (fW W) (av W.flatten)) (NhFam.i_ (fW W)):=by
  have s:=lH u h
  exact (NhFam.lz u.srt s.1 s.2 (h.sets u) (vS u h)).congr fun w hw=>(NhFam.oW (h.sets u)).symm
theorem BY {w:List Nat} (h:∀a∈w,az a):(af w).canLay0=true:=by
  have:∀a∈w,a < 1114112:=fun a ha=>by have:=h a ha;unfold az at this;lia
  simp only [af,PyData.canLay0,PyData.strOk]
  simpa using this
theorem xP:∀{L:List (List Nat)},(∀w∈L,∀a∈w,az a)→PyData.canLayAll0 (L.map af)=true∧PyData.depthAll (L.map af)=0
  | [],_=>by simp [PyData.canLayAll0,PyData.depthAll]
  | w::L,h=>by
    obtain ⟨x,y⟩:=xP (L:=L) fun v hv=>h v (List.mem_cons_of_mem _ hv)
    have h1:=BY (h w (List.mem_cons_self ..))
    have h2:(af w).depth=0:=by simp [af,PyData.depth]
    simp only [List.map_cons,PyData.canLayAll0,PyData.depthAll,h1,h2,x,y,Bool.and_self,true_and]
    rfl
theorem vT {L:List (List Nat)} (h:∀w∈L,∀a∈w,az a):SeqAt.shaped (.list (L.map af))=true:=by
  obtain ⟨x,y⟩:=xP h
  unfold SeqAt.shaped
  simp only [PyData.canLay0,PyData.depth,x,y,Bool.true_and]
  decide
theorem xQ:∀L:List (List Nat),PyData.eqvAll (L.map af) (L.map af)=true
  | []=>by simp [PyData.eqvAll]
  | w::L=>by
    simp only [List.map_cons,PyData.eqvAll,xQ L,Bool.and_true]
    simp [af,PyData.eqv]
theorem xR {L:List (List Nat)} (h:∀w∈L,∀a∈w,az a):yo (.list (L.map af)) (.list (L.map af))=some true:=by
  have e:yo (.list (L.map af)) (.list (L.map af))=(if SeqAt.shaped (.list (L.map af))&&SeqAt.shaped (.list (L.map af)) then some (PyData.eqv (.list (L.map af)) (.list (L.map af))) else none):=rfl
  rw [e,vT h]
  simp only [PyData.eqv,xQ,Bool.and_self,if_true]
theorem nK {E:List Sl} {f:bq} {z:Int} {c:Nat} (hf:f E=some (.sh (.int z),E)) (h1:z=(c:Int)) (h2:c≤1000):f_ (ae false f aj) E=some (iq 0 c,E):=by
  have o1:(-1000000:Int)≤z:=by lia
  have o2:z≤1000000:=by lia
  have t:z.toNat=c:=by lia
  simp only [f_,ae,aj,hf,Option.bind_some,Option.map_some,Bool.false_and,Bool.false_eq_true,if_false,bQ,look,Sl.val,o1,o2,and_self,if_true,decide_true,t]
theorem vU {E:List Sl} {f:bq} {w:List Nat} (hf:f E=some (.ow (w.map cw),E)) (hl:w.length < 64) (n:w.Nodup) (a:∀y∈w,az y):mF f E=some (.ow ((av w).map cw),E):=by
  have l:(w.map fj).length < 64:=by rw [List.length_map];exact hl
  have m:((av w).map fj).map PyData.str=(av w).map cw:=by rw [List.map_map];rfl
  simp only [mF,hf,Option.bind_some,look,Sl.val,nE,l,if_true,vR n a,m]
theorem AA {L:List (List Nat)} {E:List Sl} {f g:bq} {s1 s2:Sl} (hf:f E=some (s1,E)) (hg:g E=some (s2,E)) (l1:look E s1=some (.list (L.map af))) (l2:look E s2=some (.list (L.map af))) (h:∀w∈L,∀a∈w,az a):eI (ag qK false f g) E=some (false,E):=by
  have d:=xR h
  simp only [eI,ag,hf,hg,Option.bind_some,Bool.false_and,Bool.false_eq_true,if_false,qK,fT,l1,l2,d,Option.map_some,Bool.not_true]
def ma:Nat→List Nat→List Pc
  | 0,_=>[]
  | k+1,w=>if w.length=1 then w.map fun a=>((a,1):Pc) else
    ma k (w.take (w.length - w.length / 2))++ma k (w.drop (w.length - w.length / 2))++NH.contr (ma k (w.take (w.length - w.length / 2)))++NH.contr (ma k (w.drop (w.length - w.length / 2)))
def qm:Nat→Nat→Nat
  | 0,_=>0
  | k+1,n=>if n=1 then 1 else 2*(qm k (n - n / 2)+qm k (n / 2))
theorem iL (w:List Nat):(w.take (w.length - w.length / 2)).length=w.length - w.length / 2:=by rw [List.length_take];lia
theorem iM (w:List Nat):(w.drop (w.length - w.length / 2)).length=w.length / 2:=by rw [List.length_drop];lia
theorem xS:∀(k n:Nat),1≤n→n≤2 ^ k→qm (k+1) n≤4 ^ k:=by
  intro k
  induction k with
  | zero=>
    intro n h1 h2
    have:n=1:=by exact Nat.le_antisymm ‹_› ‹_›
    subst this
    decide
  | succ k ih=>
    intro n h1 h2
    unfold qm
    by_cases h:n=1
    · rw [if_pos h]
      exact Nat.one_le_pow _ _ (by decide)
    · rw [if_neg h]
      rw [Nat.pow_succ] at h2
      have a:=ih (n - n / 2) (by lia) (by lia)
      have b:=ih (n / 2) (by lia) (by lia)
      rw [Nat.pow_succ]
      lia
theorem mH:∀(k:Nat) (w:List Nat),(ma k w).length=qm k w.length:=by
  intro k
  induction k with
  | zero=>intro w;rfl
  | succ k ih=>
    intro w
    unfold ma qm
    by_cases h:w.length=1
    · rw [if_pos h,if_pos h,List.length_map,h]
    · rw [if_neg h,if_neg h,List.length_append,List.length_append,List.length_append,NH.fF,NH.fF,ih,ih,iL,iM]
      lia
theorem mf:∀(d:List Pc) (x0 x1:Sl),cB gm bA e8 (d.map ja) [x0,x1]=some ((d.map fun p=>((p.1,-p.2):Pc)).map ja)
  | [],x0,x1=>rfl
  | p::d,x0,x1=>by
    have e:(gm (ja p) [x0,x1])=some [.sh (.str ⟨#[p.1]⟩), .sh (.int p.2)]:=rfl
    have e2:e8 [.sh (.str ⟨#[p.1]⟩), .sh (.int p.2)]=some (.sh (ja (p.1,-p.2)),[.sh (.str ⟨#[p.1]⟩), .sh (.int p.2)]):=by
      simp only [e8,u9,dI,aa,List.getElem?_cons_zero,frz,kj,look,Sl.val,zd,cM,Option.map_some,Option.bind_some,List.getElem?_cons_succ,List.length_cons,List.length_nil,Nat.zero_add,Nat.reduceAdd,Nat.reduceLeDiff,if_true,ja]
    rw [List.map_cons,cB,e,Option.bind_some]
    simp only [bA,frz,Option.bind_some,e2,mf d,Option.map_some,if_true,List.map_cons]
theorem mh (c:List Pc) (h:c.length≤1000000):d_ [.list (c.map ja)]=some (.ow ((NH.contr c).map ja)):=by
  have hl:(NH.contr c).length=c.length:=NH.fF c
  have e:(c.reverse.map fun p=>((p.1,-p.2):Pc))=NH.contr c:=rfl
  have k:=mf c.reverse .no .no
  rw [e,List.map_reverse] at k
  simp only [d_,d5,List.length_cons,List.length_nil,Nat.zero_add,gJ,iV,aN,bn,wN,aa,bx,List.map_cons,List.map_nil,Nat.sub_self,List.replicate,List.cons_append,List.nil_append,List.getElem?_cons_zero,frz,Option.bind_some,jj,tZ,k,jk,List.length_map,hl,h,decide_true,Bool.and_true,if_true,bV,bJ]
theorem nM (x:Str) (l u:Option Int):Txt.slice x l u=PySem.StrLaws.sliceText x l u:=rfl
theorem td (w:List Nat) (i:Nat) (h:i≤w.length):Txt.slice (⟨w.toArray⟩:Str) (some (i:Int)) none=⟨(w.drop i).toArray⟩:=by
  have e:(⟨w.toArray⟩:Str).cps.toList=w:=by simp
  rw [nM,PySem.StrLaws.sliceText_from ⟨by (solve_by_elim (maxDepth:=2) only [*,Nat.le_trans,Nat.lt_of_lt_of_le,Nat.lt_of_le_of_lt,Nat.le_of_lt]),by rw [e];lia⟩,e]
  rw [show ((w.length:Int) - (i:Int)).toNat=w.length - i by lia,Int.toNat_natCast,List.take_of_length_le (by simp)]
theorem xT {u v:List Nat}:((⟨u.toArray⟩:Str)=⟨v.toArray⟩)↔u=v:=by
  constructor
  · intro h
    have:=congrArg (fun x:Str=>x.cps.toList) h
    simpa using this
  · intro h;rw [h]
theorem ti (w:List Nat) (i:Nat) (h:i≤w.length):Txt.slice (⟨w.toArray⟩:Str) none (some (i:Int))=⟨(w.take i).toArray⟩:=by
  have e:(⟨w.toArray⟩:Str).cps.toList=w:=by simp
  have ln:(⟨w.toArray⟩:Str).length=w.length:=by show w.toArray.size=_;simp
  rw [nM,PySem.StrLaws.sliceText_to ⟨by (solve_by_elim (maxDepth:=2) only [*,Nat.le_trans,Nat.lt_of_lt_of_le,Nat.lt_of_le_of_lt,Nat.le_of_lt]),by rw [e];lia⟩,e,Int.sub_zero,Int.toNat_natCast,List.drop_zero]
theorem jV (n:Nat):aZ [.int (n:Int)]=some (.sh (.int ((n - n / 2:Nat):Int))):=by
  have d:lQ 2=true:=by decide
  have e:((n:Int)+1) / 2=((n - n / 2:Nat):Int):=by lia
  simp only [aZ,d5,List.length_cons,List.length_nil,Nat.zero_add,gJ,gN,aN,ag,aa,bx,List.map_cons,List.map_nil,Nat.sub_self,List.replicate,List.cons_append,List.nil_append,List.getElem?_cons_zero,Sl.isBr,Bool.false_and,Bool.false_eq_true,pC,aT,look,Sl.val,gP,fG,Option.bind_some,Bool.not_false,Bool.true_or,Bool.and_true,if_false,bP,fT,mQ,d,e,if_true,Option.map_some,bV,bJ,cV]
theorem xV (a b:List Pc) (h:a.length+b.length≤100000):bh [.list (a.map ja), .list (b.map ja)]=some (.ow ((a++b++NH.contr a++NH.contr b).map ja)):=by
  have ea:=mh a (by lia)
  have eb:=mh b (by lia)
  have l1:a.length+b.length≤1000000:=by lia
  have l2:a.length+b.length+a.length≤1000000:=by lia
  have l3:a.length+b.length+a.length+b.length≤1000000:=by lia
  have la:(NH.contr a).length=a.length:=NH.fF a
  have lb:(NH.contr b).length=b.length:=NH.fF b
  simp only [bh,d5,List.length_cons,List.length_nil,Nat.zero_add,Nat.reduceAdd,gJ,eL,aN,ag,aa,bx,List.map_cons,List.map_nil,Nat.sub_self,List.replicate,List.cons_append,List.nil_append,List.getElem?_cons_zero,Sl.isBr,Bool.false_and,Bool.false_eq_true,aT,look,Sl.val,gP,fG,if_false,Option.bind_some,List.getElem?_cons_succ,Bool.not_false,Bool.true_or,Bool.and_true,List.length_map,l1,decide_true,if_true,ak,ae,aj,Option.map_some,bQ,ea,List.length_append,la,l2,eb,lb,l3,bV,bJ,kq,jk,List.map_append]
theorem nN (self:List PyData→Option Sl) (a:Nat):d5 1 2 (bT self) [.str ⟨#[a]⟩]=some (.ow [ja (a,1)]):=by
  have l:(⟨#[a]⟩:Str).length=1:=rfl
  simp only [d5,List.length_cons,List.length_nil,Nat.zero_add,gJ,bT,aG,ca,eI,ag,bB,ae,aa,bx,List.map_cons,List.map_nil,Nat.reduceSub,List.replicate,List.cons_append,List.nil_append,List.getElem?_cons_zero,Sl.isBr,Bool.false_and,Bool.false_eq_true,aj,Option.map_some,if_false,Option.bind_some,d7,bQ,look,Sl.val,l,Nat.reduceLeDiff,Int.cast_ofNat_Int,if_true,pC,i5,fT,fk,decide_true,aN,cA,dI,u9,frz,cM,aV,Nat.reduceAdd,aC,ak,PL.settle,frzAll,jb,jM,d4,gP,fG,bV,bJ,bd,cV,Bool.and_true,ja]
theorem tj (self:List PyData→Option Sl) (w:List Nat) (h N:Int) (u v:Str) (A B C:List PyData) (hl:w.length≤1000000) (hN:(w.length:Int)=N) (n1:N≠1) (e0:aZ [.int N]=some (.sh (.int h))) (eu:Txt.slice (⟨w.toArray⟩:Str) none (some h)=u) (ev:Txt.slice (⟨w.toArray⟩:Str) (some h) none=v) (ea:self [.str u]=some (.ow A)) (eb:self [.str v]=some (.ow B)) (ec:bh [.list A, .list B]=some (.ow C)) (fc:bd C=true):
    d5 1 2 (bT self) [.str ⟨w.toArray⟩]=some (.ow C):=by
  simp only [d5,List.length_cons,List.length_nil,Nat.zero_add,gJ,bT,aG,ca,eI,ag,bB,ae,aa,bx,List.map_cons,List.map_nil,Nat.reduceSub,List.replicate,List.cons_append,List.nil_append,List.getElem?_cons_zero,Sl.isBr,Bool.false_and,Bool.false_eq_true,aj,Option.map_some,if_false,Option.bind_some,d7,bQ,look,Sl.val,zE,hl,hN,if_true,pC,i5,fT,fk,n1,decide_false,aN,cA,dI,u9,frz,cM,aV,Nat.reduceAdd,Nat.reduceLeDiff,aC,ak,PL.settle,frzAll,jb,jM,d4,gP,fG,e0,Nat.reduceLT,List.set_cons_succ,List.set_cons_zero,List.getElem?_cons_succ,eu,ea,ev,eb,ec,bV,bJ,fc]
theorem vV:∀(k:Nat) (w:List Nat),k≤8→1≤w.length→w.length≤2 ^ k→cf (k+1) [.str ⟨w.toArray⟩]=some (.ow ((ma (k+1) w).map ja)):=by
  intro k
  induction k with
  | zero=>
    intro w _ h1 h2
    obtain ⟨a,rfl⟩:=List.length_eq_one_iff.mp (show w.length=1 by exact Nat.le_antisymm ‹_› ‹_›)
    exact nN _ a
  | succ k ih=>
    intro w hk h1 h2
    by_cases h:w.length=1
    · obtain ⟨a,rfl⟩:=List.length_eq_one_iff.mp h
      exact nN _ a
    · have p8:2 ^ (k+1)≤2 ^ 8:=Nat.pow_le_pow_right (by decide) hk
      have h3:=h2
      rw [Nat.pow_succ] at h3
      have la:=mH (k+1) (w.take (w.length - w.length / 2))
      have lb:=mH (k+1) (w.drop (w.length - w.length / 2))
      have sa:=xS k (w.take (w.length - w.length / 2)).length (by rw [iL];lia) (by rw [iL];lia)
      have sb:=xS k (w.drop (w.length - w.length / 2)).length (by rw [iM];lia) (by rw [iM];lia)
      have p4:4 ^ k≤4 ^ 7:=Nat.pow_le_pow_right (by decide) (by exact Nat.le_of_lt_succ ‹_›)
      have ec:=xV (ma (k+1) (w.take (w.length - w.length / 2))) (ma (k+1) (w.drop (w.length - w.length / 2))) (by lia)
      have e:ma (k+1+1) w=ma (k+1) (w.take (w.length - w.length / 2))++ma (k+1) (w.drop (w.length - w.length / 2))++NH.contr (ma (k+1) (w.take (w.length - w.length / 2)))++NH.contr (ma (k+1) (w.drop (w.length - w.length / 2))):=by
        rw [ma,if_neg h]
      rw [e]
      exact tj _ w ((w.length - w.length / 2:Nat):Int) w.length _ _ _ _ _ (by lia) rfl (by lia) (jV w.length) (ti w _ (by exact Nat.sub_le _ _)) (td w _ (by exact Nat.sub_le _ _)) (ih _ (by exact Nat.le_of_lt ‹_›) (by rw [iL];lia) (by rw [iL];lia)) (ih _ (by exact Nat.le_of_lt ‹_›) (by rw [iM];lia) (by rw [iM];lia)) ec (jk _)
theorem zP (self:List PyData→Option Sl) (n h h' A B:Int) (n1:n≠1) (d:lQ 2=true) (hh:n / 2=h') (e0:n - h'=h) (ea:self [.int h]=some (.sh (.int A))) (eb:self [.int h']=some (.sh (.int B))) (ok:fA 2 (A+B)=true):d5 1 1 (eD self) [.int n]=some (.sh (.int (2*(A+B)))):=by
  simp only [d5,List.length_cons,List.length_nil,Nat.zero_add,gJ,eD,aG,ca,eI,ag,aa,bx,List.map_cons,List.map_nil,Nat.sub_self,List.replicate,List.cons_append,List.nil_append,List.getElem?_cons_zero,Sl.isBr,Bool.false_and,Bool.false_eq_true,pC,i5,fT,look,Sl.val,Option.bind_some,if_false,fk,n1,decide_false,Option.map_some,aN,aV,ak,ae,bP,mQ,sr,if_true,aj,aT,gP,fG,fq,Bool.not_false,Bool.true_or,Bool.and_true,d,hh,e0,bQ,ea,eb,ok,bV,bJ,cV]
theorem rR (self:List PyData→Option Sl):d5 1 1 (eD self) [.int 1]=some (.sh (.int 1)):=by
  simp only [d5,List.length_cons,List.length_nil,Nat.zero_add,gJ,eD,aG,ca,eI,ag,aa,bx,List.map_cons,List.map_nil,Nat.sub_self,List.replicate,List.cons_append,List.nil_append,List.getElem?_cons_zero,Sl.isBr,Bool.false_and,Bool.false_eq_true,pC,i5,fT,look,Sl.val,Option.bind_some,if_false,fk,decide_true,Option.map_some,aN,aV,if_true,ak,ae,bP,mQ,sr,aj,aT,gP,fG,fq,Bool.not_false,Bool.true_or,Bool.and_true,bV,bJ,cV]
theorem zQ:∀(k n:Nat),1≤n→n≤2 ^ k→eO (k+1) [.int (n:Int)]=some (.sh (.int ((qm (k+1) n:Nat):Int))):=by
  intro k
  induction k with
  | zero=>
    intro n h1 h2
    have:n=1:=by exact Nat.le_antisymm ‹_› ‹_›
    subst this
    exact rR _
  | succ k ih=>
    intro n h1 h2
    by_cases h:n=1
    · subst h
      exact rR _
    · rw [Nat.pow_succ] at h2
      have e:qm (k+1+1) n=2*(qm (k+1) (n - n / 2)+qm (k+1) (n / 2)):=by rw [qm,if_neg h]
      rw [e,Int.natCast_mul,Int.natCast_add]
      exact zP _ n ((n - n / 2:Nat):Int) ((n / 2:Nat):Int) _ _ (by lia) (by decide) (by (solve_by_elim (maxDepth:=2) only [*,Nat.le_trans,Nat.lt_of_lt_of_le,Nat.lt_of_le_of_lt,Nat.le_of_lt])) (by lia) (ih _ (by lia) (by lia)) (ih _ (by lia) (by lia)) (hW (by decide) (by decide))
theorem Dw (self:List PyData→Option Sl) (n h h' A B:Int) (n1:n≠1) (e0:aZ [.int n]=some (.sh (.int h))) (hh:n - h=h') (ea:self [.int h]=some (.sh (.int A))) (eb:self [.int h']=some (.sh (.int B))) (ok:fA 2 (A+B)=true):d5 1 2 (bU self) [.int n]=some (.sh (.int (2*(A+B)))):=by
  simp only [d5,List.length_cons,List.length_nil,Nat.zero_add,gJ,bU,aG,ca,eI,ag,aa,bx,List.map_cons,List.map_nil,Nat.reduceSub,List.replicate,List.cons_append,List.nil_append,List.getElem?_cons_zero,Sl.isBr,Bool.false_and,Bool.false_eq_true,pC,i5,fT,look,Sl.val,Option.bind_some,if_false,fk,n1,decide_false,Option.map_some,aN,aV,aC,ak,ae,aj,PL.settle,frz,frzAll,sr,mQ,if_true,aT,gP,fG,fq,Bool.not_false,Bool.true_or,Bool.and_true,bQ,e0,Nat.reduceAdd,Nat.reduceLT,List.set_cons_succ,List.set_cons_zero,List.getElem?_cons_succ,ea,hh,eb,ok,bV,bJ,cV]
theorem xW (self:List PyData→Option Sl):d5 1 2 (bU self) [.int 1]=some (.sh (.int 1)):=by
  simp only [d5,List.length_cons,List.length_nil,Nat.zero_add,gJ,bU,aG,ca,eI,ag,aa,bx,List.map_cons,List.map_nil,Nat.reduceSub,List.replicate,List.cons_append,List.nil_append,List.getElem?_cons_zero,Sl.isBr,Bool.false_and,Bool.false_eq_true,pC,i5,fT,look,Sl.val,Option.bind_some,if_false,fk,decide_true,Option.map_some,aN,aV,if_true,aC,ak,ae,aj,PL.settle,frz,frzAll,sr,mQ,aT,gP,fG,fq,Bool.not_false,Bool.true_or,Bool.and_true,bV,bJ,cV]
theorem Dx:∀(k n:Nat),1≤n→n≤2 ^ k→cg (k+1) [.int (n:Int)]=some (.sh (.int ((qm (k+1) n:Nat):Int))):=by
  intro k
  induction k with
  | zero=>
    intro n h1 h2
    have:n=1:=by exact Nat.le_antisymm ‹_› ‹_›
    subst this
    exact xW _
  | succ k ih=>
    intro n h1 h2
    by_cases h:n=1
    · subst h
      exact xW _
    · rw [Nat.pow_succ] at h2
      have e:qm (k+1+1) n=2*(qm (k+1) (n - n / 2)+qm (k+1) (n / 2)):=by rw [qm,if_neg h]
      rw [e,Int.natCast_mul,Int.natCast_add]
      exact Dw _ n ((n - n / 2:Nat):Int) ((n / 2:Nat):Int) _ _ (by lia) (jV n) (by lia) (ih _ (by lia) (by lia)) (ih _ (by lia) (by lia)) (hW (by decide) (by decide))
def DM (F:List (List Nat)):Prop:=∀w∈F,1≤w.length∧w.length≤10
def sz (w:List Nat):Nat:=qm 8 w.length
def xX (w:List Nat):PyData:= .int ((sz w:Nat):Int)
theorem xY (l:List (List Nat)):bd (l.map xX)=true:=by
  induction l with
  | nil=>rfl
  | cons a l ih=>show (cV (xX a)&&bd (l.map xX))=true;rw [ih];rfl
theorem uC:∀l:List (List Nat),oI (l.map xX)=some (l.map fun w=>((sz w:Nat):Int))
  | []=>rfl
  | a::l=>by
    show (oI (l.map xX)).map (((sz a:Nat):Int):: ·)=_
    rw [uC l]
    rfl
theorem xZ (l:List (List Nat)):(l.map fun w=>((sz w:Nat):Int)).sum=(((l.map sz).sum:Nat):Int):=by
  induction l with
  | nil=>rfl
  | cons a l ih=>simp [ih]
theorem qo {E:List Sl} {w:List Nat} {f:bq} (hf:f E=some (.sh (af w),E)) (hl:w.length≤1000000):bB d7 (ae false f aj) E=some (.sh (.int (w.length:Int)),E):=by
  unfold af at hf
  simp only [bB,ae,hf,Sl.isBr,Bool.false_and,Bool.false_eq_true,aj,Option.map_some,if_false,Option.bind_some,d7,bQ,look,Sl.val,ke,hl,if_true]
theorem o7:∀(F:List (List Nat)) (x:Sl),DM F→cB fv bA dM (F.map af) [x]=some (F.map xX)
  | [],x,_=>rfl
  | w::F,x,h=>by
    have hw:=h w (List.mem_cons_self ..)
    have l:=qo (E:=[.sh (af w)]) (f:=aa 0) rfl (show w.length≤1000000 by lia)
    have c:dM [.sh (af w)]=some (.sh (xX w),[.sh (af w)]):=aI (ss:=[.sh (.int (w.length:Int))]) (Dv l) rfl (Dx 7 w.length hw.1 (by lia))
    exact h7 (E1:=[.sh (af w)]) rfl c (o7 F _ fun v hv=>h v (List.mem_cons_of_mem _ hv))
theorem rS:∀(F:List (List Nat)) (x:Sl),DM F→cB jt bA iF (F.map af) [x]=some (F.map xX)
  | [],x,_=>rfl
  | w::F,x,h=>by
    have hw:=h w (List.mem_cons_self ..)
    have l:=qo (E:=[.sh (af w)]) (f:=aa 0) rfl (show w.length≤1000000 by lia)
    have c:iF [.sh (af w)]=some (.sh (xX w),[.sh (af w)]):=aI (ss:=[.sh (.int (w.length:Int))]) (Dv l) rfl (zQ 7 w.length hw.1 (by lia))
    exact h7 (E1:=[.sh (af w)]) rfl c (rS F _ fun v hv=>h v (List.mem_cons_of_mem _ hv))
theorem x8 {it:mD} {tg:gI} {el:bq} {E:List Sl} {ds:List PyData} {F:List (List Nat)} (hi:it E=some (ds,E)) (hl:cB tg bA el ds (jj [none] E)=some (F.map xX)) (ll:F.length≤1000000):bB pP (ae false (bn [none] it tg bA el) aj) E=some (.sh (.int (((F.map sz).sum:Nat):Int)),E):=by
  have p:bn [none] it tg bA el E=some (.ow (F.map xX),E):=fS hi hl (xY _) (by rw [List.length_map];exact ll)
  simp only [bB,ae,aj,p,Option.bind_some,Option.map_some,bQ,look,Sl.val,pP,uC,xZ,Bool.false_and,Bool.false_eq_true,if_false]
theorem Dy:(Str.ofString "")=⟨([]:List Nat).toArray⟩:=by decide+kernel
theorem Dz (u v:List Nat):yo (.str ⟨u.toArray⟩) (.str ⟨v.toArray⟩)=some (decide (u=v)):=by
  rw [zo]
  congr 1
  exact decide_eq_decide.mpr xT
theorem uD (u:List Nat):yo (.str ⟨u.toArray⟩) (.str "")=some (decide (u=[])):=by
  rw [Dy]
  exact Dz u []
theorem tm {U:List Nat} {L:List (List Nat)} {f:List Nat→Prop} (t:NhFam.Told U L f) (m:NhFam.xy U f):NhFam.au L=L:=(NhFam.d9 t.sub).uniq t fun w hw=>t.up_iff m hw
theorem lJ {U:List Nat} {L:List (List Nat)} (u:Uni U) (h:∀w∈L,NhFam.Sub U w):fW L=L:=by
  unfold fW
  induction L with
  | nil=>rfl
  | cons w L ih=>
    rw [List.map_cons,ih fun v hv=>h v (List.mem_cons_of_mem _ hv),xM (h w (List.mem_cons_self ..)).1 (u.azw (h w (List.mem_cons_self ..)))]
structure Rul (U:List Nat) (L:List (List Nat)):Prop where
  u:Uni U
  w:Wrt U L
  sub:∀v∈L,NhFam.Sub U v
  least:NhFam.au L=L
  ne:∀v∈L,v≠[]
  nil:L≠[]
theorem BZ {E:List Sl} {f:bq} {u:List Nat} (hf:f E=some (.sh (af u),E)):eI (ag i5 false f (pC (.str ""))) E=some (decide (u=[]),E):=by
  have q:=uD u
  unfold af at hf
  simp only [eI,ag,hf,Sl.isBr,Bool.false_and,Bool.false_eq_true,pC,i5,fT,look,Sl.val,Option.bind_some,if_false,q,Option.map_some]
theorem tw {U:List Nat} {L:List (List Nat)} (r:Rul U L):aR [.list (L.map af)]=some (.ow (L.map af)):=by
  have a:=jU r.u r.w
  rw [lJ r.u r.sub,r.least] at a
  have c:ak aQ (ae false (aa 0) aj) [.sh (.list (L.map af))]=some (.ow (L.map af),[.sh (.list (L.map af))]):=aI (ss:=[.sh (.list (L.map af))]) rfl rfl a
  have g:aR [.list (L.map af)]=(cD [.sh (.list (L.map af))]).bind fun a=>match a.2 with | .rt r=>bV r | .nx=>some (.sh .none) | _=>none:=rfl
  have fl:=cK L
  rw [g,cD]
  simp only [aN,c,Option.map_some,Option.bind_some,bV,bJ,fl,if_true]
theorem oi {U:List Nat} {L:List (List Nat)} (r:Rul U L):dh [.list (L.map af)]=some (.sh .none):=by
  obtain ⟨w,L',e⟩:∃w L',L=w::L':=by
    cases L with
    | nil=>exact absurd rfl r.nil
    | cons w L'=>exact ⟨w,L',rfl⟩
  have hw:w≠[]:=r.ne w (by rw [e];exact List.mem_cons_self ..)
  have ll:=r.w.len
  have n0:¬((L.length:Int)=0):=by rw [e];simp;lia
  have lb:L.length≤1000000:=by lia
  have az':∀w∈L,∀a∈w,az a:=fun w hw=>r.u.azw (r.sub w hw)
  have g:dh [.list (L.map af)]=(fO [.sh (.list (L.map af))]).bind fun a=>match a.2 with | .rt r=>bV r | .nx=>some (.sh .none) | _=>none:=rfl
  have s1:ca (j4 (fB (eW (kj (ie .list) (aa 0)))) (eI (ag i5 false (bB d7 (ae false (aa 0) aj)) (pC (.int 0))))) gY aV [.sh (.list (L.map af))]=some ([.sh (.list (L.map af))], .nx):=by
    simp only [ca,j4,fB,eW,kj,aa,List.getElem?_cons_zero,look,Sl.val,ie,Ty.is,yp,Option.map_some,Option.bind_some,jJ,Bool.not_true,eI,ag,bB,ae,Sl.isBr,Bool.false_and,Bool.false_eq_true,aj,if_false,d7,pC,i5,fT,bQ,List.length_map,fk,n0,decide_false,aV]
  have c:ak aR (ae false (aa 0) aj) [.sh (.list (L.map af))]=some (.ow (L.map af),[.sh (.list (L.map af))]):=aI (ss:=[.sh (.list (L.map af))]) rfl rfl (tw r)
  have s2:ca (eI (ag qK false (ak aR (ae false (aa 0) aj)) (aa 0))) gY aV [.sh (.list (L.map af))]=some ([.sh (.list (L.map af))], .nx):=g9 (AA (L:=L) c rfl rfl rfl az') rfl
  have s3:ca (eI (ag i5 false (ag mE false (aa 0) (pC (.int 0))) (pC (.str "")))) gY aV [.sh (.list (L.map af))]=some ([.sh (.list (L.map af))], .nx):=by
    have i:ag mE false (aa 0) (pC (.int 0)) [.sh (.list (L.map af))]=some (.sh (af w),[.sh (.list (L.map af))]):=by
      rw [e,List.map_cons]
      unfold af
      simp only [ag,aa,List.getElem?_cons_zero,Sl.isBr,Bool.false_and,Bool.false_eq_true,pC,mE,look,Sl.val,gP,fG,Option.bind_some,if_false,Df,Option.map_some]
    have k:=BZ i
    rw [decide_eq_false hw] at k
    exact g9 k rfl
  rw [g,fO,aB s1,aB s2,s3]
  rfl
theorem Rul.meet {U:List Nat} {L:List (List Nat)} (r:Rul U L):NhFam.Told U (NhFam.nv L (av L.flatten)) (NhFam.i_ L):=by
  have:=lz r.u r.w
  rwa [lJ r.u r.sub] at this
def mt (L:List (List Nat)):List (List Nat):=NhFam.nv L (av L.flatten)
theorem Rul.few {U:List Nat} {L:List (List Nat)} (r:Rul U L):DM (mt L):=fun w hw=>by
  have s:=r.meet.sub w hw
  have f:=((r.meet.mem w).mp hw).2.1
  refine ⟨?_,r.u.short s⟩
  cases L with
  | nil=>exact absurd rfl r.nil
  | cons v L'=>
    obtain ⟨x,_,hx⟩:=f v (List.mem_cons_self ..)
    exact List.length_pos_of_mem hx
theorem uE {U:List Nat} {L:List (List Nat)} (r:Rul U L):aH [.list (L.map af)]=some (.ow ((mt L).map af)):=by
  have:=mz r.u r.w
  rwa [lJ r.u r.sub] at this
theorem o8 {U:List Nat} {L:List (List Nat)} (r:Rul U L):aF [.list (L.map af)]=some (.sh (.int ((((mt L).map sz).sum:Nat):Int))):=by
  have s1:eU (ak dh (ae false (aa 0) aj)) [.sh (.list (L.map af))]=some ([.sh (.list (L.map af))], .nx):=uB (aI (ss:=[.sh (.list (L.map af))]) rfl rfl (oi r))
  have c2:ak aH (ae false (aa 0) aj) [.sh (.list (L.map af))]=some (.ow ((mt L).map af),[.sh (.list (L.map af))]):=aI (ss:=[.sh (.list (L.map af))]) rfl rfl (uE r)
  have i2:aO (ak aH (ae false (aa 0) aj)) [.sh (.list (L.map af))]=some ((mt L).map af,[.sh (.list (L.map af))]):=by
    unfold aO
    rw [c2]
    rfl
  have ll:=nJ r.u r.meet
  have s2:=x8 i2 (o7 (mt L) .no r.few) (by unfold mt;lia)
  have g:aF [.list (L.map af)]=(dR [.sh (.list (L.map af))]).bind fun a=>match a.2 with | .rt r=>bV r | .nx=>some (.sh .none) | _=>none:=rfl
  rw [g,dR,aB s1]
  simp only [aN,s2,Option.map_some,Option.bind_some,bV]
  rfl
theorem vW (a b:List Pc) (h:a.length+b.length≤1000000):gd [.list (a.map ja), .list (b.map ja)]=some (.ow ((a++b).map ja)):=by
  have fl:=jk (a++b)
  rw [List.map_append] at fl ⊢
  simp only [gd,d5,List.length_cons,List.length_nil,Nat.zero_add,Nat.reduceAdd,gJ,kE,aN,ag,aa,bx,List.map_cons,List.map_nil,Nat.sub_self,List.replicate,List.cons_append,List.nil_append,List.getElem?_cons_zero,Sl.isBr,Bool.false_and,Bool.false_eq_true,aT,look,Sl.val,gP,fG,if_false,Option.bind_some,List.getElem?_cons_succ,Bool.not_false,Bool.true_or,Bool.and_true,List.length_map,h,decide_true,if_true,bV,bJ,fl]
def uF (F:List (List Nat)):List Pc:=F.flatMap (ma 8)
theorem zR (F:List (List Nat)):(uF F).length=(F.map sz).sum:=by
  induction F with
  | nil=>rfl
  | cons w F ih=>
    have e:uF (w::F)=ma 8 w++uF F:=rfl
    rw [e,List.length_append,ih,mH]
    simp [sz]
theorem uG (x0:Sl):∀(F:List (List Nat)) (c:List Pc) (a:Sl),DM F→c.length+(F.map sz).sum≤100000→∃a',bu fP eN (F.map af) [x0, .ow (c.map ja),a]=some ([x0, .ow ((c++uF F).map ja),a'], .nx)
  | [],c,a,_,_=>⟨a,by rw [show uF []=[] from rfl,List.append_nil];rfl⟩
  | w::F,c,a,h,hl=>by
    have hw:=h w (List.mem_cons_self ..)
    have lw:(ma 8 w).length=sz w:=mH 8 w
    simp only [List.map_cons,List.sum_cons] at hl
    have p:cQ [af w]=some (.ow ((ma 8 w).map ja)):=vV 7 w (by decide) hw.1 (by lia)
    have c1:ak cQ (ae false (aa 2) aj) [x0, .ow (c.map ja), .sh (af w)]=some (.ow ((ma 8 w).map ja),[x0, .ow (c.map ja), .sh (af w)]):=aI (ss:=[.sh (af w)]) rfl rfl p
    have c2:ak gd (ae false (aa 1) (ae false (ak cQ (ae false (aa 2) aj)) aj)) [x0, .ow (c.map ja), .sh (af w)]=some (.ow ((c++ma 8 w).map ja),[x0, .ow (c.map ja), .sh (af w)]):=
      aI (ss:=[.al 1, .ow ((ma 8 w).map ja)]) (Cn rfl c1) rfl (vW c (ma 8 w) (by lia))
    have st:(fP (af w) [x0, .ow (c.map ja),a]).bind eN=some ([x0, .ow ((c++ma 8 w).map ja), .sh (af w)], .nx):=by
      show eN [x0, .ow (c.map ja), .sh (af w)]=_
      exact iX c2 (show 1 < 3 by decide)
    obtain ⟨a',e⟩:=uG x0 F (c++ma 8 w) (.sh (af w)) (fun v hv=>h v (List.mem_cons_of_mem _ hv)) (by rw [List.length_append];lia)
    refine ⟨a',?_⟩
    rw [List.map_cons,bu,st]
    have e2:c++uF (w::F)=(c++ma 8 w)++uF F:=by rw [List.append_assoc];rfl
    rw [e2]
    exact e
theorem zS {U:List Nat} {L:List (List Nat)} (r:Rul U L) (h8:((mt L).map sz).sum≤800):dN [.list (L.map af)]=some (.ow ((uF (mt L)).map ja)):=by
  obtain ⟨a,e⟩:=uG (.sh (.list (L.map af))) (mt L) [] .no r.few (by simp;lia)
  have c1:ak aF (ae false (aa 0) aj) [.sh (.list (L.map af)), .no, .no]=some (.sh (.int ((((mt L).map sz).sum:Nat):Int)),[.sh (.list (L.map af)), .no, .no]):=aI (ss:=[.sh (.list (L.map af))]) rfl rfl (o8 r)
  have d:decide ((800:Int) < ((((mt L).map sz).sum:Nat):Int))=false:=decide_eq_false (by lia)
  have s1:ca (eI (ag (fT (gu .gt)) false (ak aF (ae false (aa 0) aj)) (pC (.int 800)))) gY aV [.sh (.list (L.map af)), .no, .no]=some ([.sh (.list (L.map af)), .no, .no], .nx):=by
    refine g9 ?_ rfl
    generalize ak aF (ae false (aa 0) aj)=f at c1
    simp only [eI,ag,c1,Sl.isBr,Bool.false_and,Bool.false_eq_true,pC,fT,look,Sl.val,gu,Cm.i,Cm.s,Option.bind_some,if_false,d,Option.map_some]
  have s2:aC 1 (cA cM) [.sh (.list (L.map af)), .no, .no]=some ([.sh (.list (L.map af)), .ow [], .no], .nx):=by simp only [aC,cA,cM,Option.bind_some,List.length_nil,Nat.reduceLeDiff,if_true,PL.settle,frz,frzAll,List.length_cons,Nat.zero_add,Nat.reduceAdd,Nat.reduceLT,List.set_cons_succ,List.set_cons_zero]
  have c3:ak aH (ae false (aa 0) aj) [.sh (.list (L.map af)), .ow [], .no]=some (.ow ((mt L).map af),[.sh (.list (L.map af)), .ow [], .no]):=aI (ss:=[.sh (.list (L.map af))]) rfl rfl (uE r)
  have i3:aO (ak aH (ae false (aa 0) aj)) [.sh (.list (L.map af)), .ow [], .no]=some ((mt L).map af,[.sh (.list (L.map af)), .ow [], .no]):=by
    unfold aO
    rw [c3]
    rfl
  have s3:dm (aO (ak aH (ae false (aa 0) aj))) fP eN [.sh (.list (L.map af)), .ow [], .no]=some ([.sh (.list (L.map af)), .ow ((uF (mt L)).map ja),a], .nx):=by
    unfold dm
    rw [i3,Option.bind_some]
    exact e
  have g:dN [.list (L.map af)]=(iD [.sh (.list (L.map af)), .no, .no]).bind fun a=>match a.2 with | .rt r=>bV r | .nx=>some (.sh .none) | _=>none:=rfl
  have fl:=jk (uF (mt L))
  rw [g,iD,aB s1,aB s2,aB s3]
  simp only [aN,aa,List.getElem?_cons_succ,List.getElem?_cons_zero,Option.bind_some,List.set_cons_succ,List.set_cons_zero,Option.map_some,bV,bJ,fl,if_true]
theorem jx {α:Type} (f:α→Bool):∀l:List α,iQ (l.map fun a=>PyData.bool (f a))=some (l.map f)
  | []=>rfl
  | a::l=>by
    show (iQ (l.map fun a=>PyData.bool (f a))).map (f a:: ·)=_
    rw [jx f l]
    rfl
theorem lK {α:Type} (f:α→Bool):∀l:List α,bd (l.map fun a=>PyData.bool (f a))=true
  | []=>rfl
  | a::l=>by show (cV (.bool (f a))&&_)=true;rw [lK f l];rfl
theorem x9 {f:bq} {E:List Sl} {ds:List PyData} (h:f E=some (.ow ds,E)):aO f E=some (ds,E):=by
  unfold aO
  rw [h]
  rfl
theorem rT:ef=bR:=rfl
theorem B3 (w:List Nat) (a:Nat):b8 [.sh (.str ⟨#[a]⟩), .sh (af w)]=some (.sh (.bool (decide (a∈w))),[.sh (.str ⟨#[a]⟩), .sh (af w)]):=by
  have o:=uo w a
  simp only [b8,ag,aa,af,List.getElem?_cons_zero,Sl.isBr,Bool.false_and,Bool.false_eq_true,zi,fT,look,Sl.val,if_false,Cl,Option.bind_some,List.getElem?_cons_succ,o,Bool.not_not,Option.map_some]
theorem uH (w:List Nat):∀(v:List Nat) (x:Sl),cB cZ bA b8 (v.map cw) [x, .sh (af w)]=some (v.map fun a=>PyData.bool (decide (a∈w)))
  | [],x=>rfl
  | a::v,x=>by
    have t:cZ (cw a) [x, .sh (af w)]=some [.sh (cw a), .sh (af w)]:=rfl
    exact h7 t (B3 w a) (uH w v _)
theorem B4 (v w:List Nat):(v.map fun a=>decide (a∈w)).all id=decide (NhFam.le v w):=by
  rw [List.all_map]
  exact Bool.eq_iff_iff.mpr (by rw [decide_eq_true_iff];simp [NhFam.le])
theorem B5 (w:List Nat) (x1:Sl) (v:List Nat) (hv:v.length≤1000):eW (bB sC (ae false (bn [none,some 0] (aO (aa 2)) cZ bA b8) aj)) [.sh (af w),x1, .sh (af v)]=some (decide (NhFam.le v w),[.sh (af w),x1, .sh (af v)]):=by
  have it:aO (aa 2) [.sh (af w),x1, .sh (af v)]=some (v.map cw,[.sh (af w),x1, .sh (af v)]):=by
    simp only [aO,aa,af,List.getElem?_cons_succ,List.getElem?_cons_zero,frz,Option.bind_some,qk]
  have k:=fS (js:=[none,some 0]) it (uH w v .no) (lK _ v) (by rw [List.length_map];lia)
  have bo:=jx (fun a=>decide (a∈w)) v
  have al:=B4 v w
  simp only [eW,bB,ae,aj,k,Option.bind_some,Option.map_some,bQ,look,Sl.val,sC,bo,al,jJ,Bool.false_and,Bool.false_eq_true,if_false]
theorem rV (w:List Nat) (x1:Sl):∀(K:List (List Nat)) (a:Sl),(∀k∈K,k.length≤1000)→∃E,bu bi aU (K.map af) [.sh (af w),x1,a]=some (E,if K.any (fun k=>decide (NhFam.le k w)) then .rt (.sh (.bool true)) else .nx)
  | [],a,_=>⟨_,rfl⟩
  | k::K,a,h=>by
    have t1:=B5 w x1 k (h k (List.mem_cons_self ..))
    have tg:bi (af k) [.sh (af w),x1,a]=some [.sh (af w),x1, .sh (af k)]:=rfl
    by_cases q:NhFam.le k w
    · rw [decide_eq_true q] at t1
      refine ⟨[.sh (af w),x1, .sh (af k)],?_⟩
      have st:(bi (af k) [.sh (af w),x1,a]).bind aU=some ([.sh (af w),x1, .sh (af k)], .rt (.sh (.bool true))):=by
        rw [tg,Option.bind_some,aU]
        exact g_ t1 rfl
      rw [List.map_cons,bu,st,List.any_cons,decide_eq_true q]
      rfl
    · rw [decide_eq_false q] at t1
      obtain ⟨E,ih⟩:=rV w x1 K (.sh (af k)) fun v hv=>h v (List.mem_cons_of_mem _ hv)
      refine ⟨E,?_⟩
      have st:(bi (af k) [.sh (af w),x1,a]).bind aU=some ([.sh (af w),x1, .sh (af k)], .nx):=by
        rw [tg,Option.bind_some,aU]
        exact g9 t1 rfl
      rw [List.map_cons,bu,st,List.any_cons,decide_eq_false q,Bool.false_or]
      exact ih
theorem x_ (w:List Nat) (K:List (List Nat)) (h:∀k∈K,k.length≤1000):bI [af w, .list (K.map af)]=some (.sh (.bool (K.any fun k=>decide (NhFam.le k w)))):=by
  obtain ⟨E,e⟩:=rV w (.sh (.list (K.map af))) K .no h
  have g:bI [af w, .list (K.map af)]=(em [.sh (af w), .sh (.list (K.map af)), .no]).bind fun a=>match a.2 with | .rt r=>bV r | .nx=>some (.sh .none) | _=>none:=rfl
  have it:aO (aa 1) [.sh (af w), .sh (.list (K.map af)), .no]=some (K.map af,[.sh (af w), .sh (.list (K.map af)), .no]):=rfl
  rw [g,em]
  cases q:K.any (fun k=>decide (NhFam.le k w)) with
  | true=>
    rw [q] at e
    have fo:dm (aO (aa 1)) bi aU [.sh (af w), .sh (.list (K.map af)), .no]=some (E, .rt (.sh (.bool true))):=by
      unfold dm
      rw [it,Option.bind_some]
      exact e
    simp only [aG,fo,Option.bind_some]
    rfl
  | false=>
    rw [q] at e
    have fo:dm (aO (aa 1)) bi aU [.sh (af w), .sh (.list (K.map af)), .no]=some (E, .nx):=by
      unfold dm
      rw [it,Option.bind_some]
      exact e
    rw [aB fo]
    rfl
theorem ya (x0 x2:Sl):∀(S K:List (List Nat)) (a:Sl),(∀k∈S,k.length≤1000)→(∀k∈K,k.length≤1000)→K.length+S.length≤2000→∃a',bu dv cH (S.map af) [x0, .ow (K.map af),x2,a]=some ([x0, .ow ((NhFam.cY K S).map af),x2,a'], .nx)
  | [],K,a,_,_,_=>⟨a,rfl⟩
  | w::S,K,a,hS,hK,hl=>by
    have tg:dv (af w) [x0, .ow (K.map af),x2,a]=some [x0, .ow (K.map af),x2, .sh (af w)]:=rfl
    have c3:ak bI (ae false (aa 3) (ae false (aa 1) aj)) [x0, .ow (K.map af),x2, .sh (af w)]=some (.sh (.bool (K.any (fun k=>decide (NhFam.le k w)))),[x0, .ow (K.map af),x2, .sh (af w)]):=aI (ss:=[.sh (af w), .al 1]) rfl rfl (x_ w K hK)
    have c2:fB (eW (ak bI (ae false (aa 3) (ae false (aa 1) aj)))) [x0, .ow (K.map af),x2, .sh (af w)]=some (!K.any (fun k=>decide (NhFam.le k w)),[x0, .ow (K.map af),x2, .sh (af w)]):=by
      simp only [fB,eW,c3,Option.bind_some,look,Sl.val,jJ,Option.map_some]
    simp only [List.length_cons] at hl
    by_cases h:K.any (fun k=>decide (NhFam.le k w))=true
    · rw [h] at c2
      have st:(dv (af w) [x0, .ow (K.map af),x2,a]).bind cH=some ([x0, .ow (K.map af),x2, .sh (af w)], .nx):=by
        rw [tg,Option.bind_some,cH]
        exact g9 c2 rfl
      obtain ⟨a',e⟩:=ya x0 x2 S K (.sh (af w)) (fun v hv=>hS v (List.mem_cons_of_mem _ hv)) hK (by exact Nat.le_of_lt ‹_›)
      refine ⟨a',?_⟩
      rw [List.map_cons,bu,st,NhFam.cY,if_pos h]
      exact e
    · have h':K.any (fun k=>decide (NhFam.le k w))=false:=by simpa using h
      rw [h'] at c2
      have b1:K.length < 1000000:=by lia
      have st:(dv (af w) [x0, .ow (K.map af),x2,a]).bind cH=some ([x0, .ow ((K++[w]).map af),x2, .sh (af w)], .nx):=by
        rw [tg,Option.bind_some,cH]
        refine g_ c2 ?_
        simp only [eU,cW,List.getElem?_cons_succ,List.getElem?_cons_zero,aa,frz,Option.bind_some,List.length_map,b1,List.set_cons_succ,List.set_cons_zero,if_true,Option.map_some,List.map_append,List.map_cons,List.map_nil]
      obtain ⟨a',e⟩:=ya x0 x2 S (K++[w]) (.sh (af w)) (fun v hv=>hS v (List.mem_cons_of_mem _ hv)) (fun v hv=>by
        rcases List.mem_append.mp hv with q | q
        · exact hK v q
        · rw [List.mem_singleton.mp q];exact hS w (List.mem_cons_self ..)) (by simp;lia)
      refine ⟨a',?_⟩
      rw [List.map_cons,bu,st,NhFam.cY,if_neg h]
      exact e
def yr (a b:List Nat):Bool:=decide (a≤b)
def nO (G:List (List Nat)):List (List Nat):=G.mergeSort yr
theorem o9 (a b c:List Nat) (h:yr a b=true) (k:yr b c=true):yr a c=true:=decide_eq_true (List.le_trans (of_decide_eq_true h) (of_decide_eq_true k))
theorem o_ (a b:List Nat):(yr a b||yr b a)=true:=by
  rcases List.le_total a b with h | h
  · simp [yr,h]
  · simp [yr,h]
theorem srtW_mem {G:List (List Nat)} {w:List Nat}:w∈nO G↔w∈G:=(List.mergeSort_perm G _).mem_iff
theorem yb (G:List (List Nat)):(nO G).length=G.length:=(List.mergeSort_perm G _).length_eq
theorem yc (G:List (List Nat)):gv (G.map rZ)=(nO G).map rZ:=
  List.Perm.eq_of_pairwise (fun _ _ _ _ h k=>kr h k) (List.pairwise_mergeSort iy jC _) (List.pairwise_map.mpr ((List.pairwise_mergeSort o9 o_ G).imp fun {a b} h=>h)) ((List.mergeSort_perm _ pQ).trans ((List.mergeSort_perm G yr).symm.map rZ))
theorem B6 (w:List Nat) (n:Nat) (hw:w.length≤1000):cG [.sh (af w), .sh (.int (n:Int))]=some (decide (w.length=n),[.sh (af w), .sh (.int (n:Int))]):=by
  have l:=qo (E:=[.sh (af w), .sh (.int (n:Int))]) (f:=aa 0) rfl (show w.length≤1000000 by lia)
  have:=rM (f:=bB d7 (ae false (aa 0) aj)) (g:=aa 1) (E:=[.sh (af w), .sh (.int (n:Int))]) (y:=(n:Int)) l rfl
  rw [show decide ((w.length:Int)=(n:Int))=decide (w.length=n) from decide_eq_decide.mpr (by lia)] at this
  exact this
theorem uI (n:Nat):∀(F:List (List Nat)) (x:Sl),(∀w∈F,w.length≤1000)→cB cE cG cF (F.map af) [x, .sh (.int (n:Int))]=some ((F.filter fun w=>decide (w.length=n)).map af)
  | [],x,_=>rfl
  | w::F,x,h=>by
    have t:cE (af w) [x, .sh (.int (n:Int))]=some [.sh (af w), .sh (.int (n:Int))]:=rfl
    have k:=uz (elt:=cF) t (B6 w n (h w (List.mem_cons_self ..))) rfl (uI n F _ fun v hv=>h v (List.mem_cons_of_mem _ hv))
    rw [List.map_cons,k,List.filter_cons]
    split <;> rfl
def jy (F:List (List Nat)) (lo:Nat):Nat→List (List Nat)
  | 0=>[]
  | n+1=>nO (F.filter fun w=>decide (w.length=lo))++jy F (lo+1) n
theorem nP:∀(A K B:List (List Nat)),NhFam.cY K (A++B)=NhFam.cY (NhFam.cY K A) B
  | [],K,B=>rfl
  | a::A,K,B=>by
    rw [List.cons_append,NhFam.cY,NhFam.cY]
    split
    · exact nP A K B
    · exact nP A _ B
theorem nQ {w:List Nat}:∀{A K:List (List Nat)},w∈NhFam.cY K A→w∈K∨w∈A
  | [],K,h=> .inl h
  | a::A,K,h=>by
    rw [NhFam.cY] at h
    split at h
    · exact (nQ h).imp id (List.mem_cons_of_mem _)
    · rcases nQ h with q | q
      · rcases List.mem_append.mp q with q | q
        · exact .inl q
        · exact .inr (by rw [List.mem_singleton.mp q];exact List.mem_cons_self ..)
      · exact .inr (List.mem_cons_of_mem _ q)
theorem kQ:∀(A K:List (List Nat)),(NhFam.cY K A).length≤K.length+A.length
  | [],K=>by simp [NhFam.cY]
  | a::A,K=>by
    rw [NhFam.cY]
    split
    · have:=kQ A K;simp;(solve_by_elim (maxDepth:=3) only [*,Nat.le_trans,Nat.lt_of_lt_of_le,Nat.lt_of_le_of_lt,Nat.le_of_lt])
    · have:=kQ A (K++[a]);simp at this ⊢;lia
theorem yd (F:List (List Nat)) (hF:∀w∈F,w.length≤1000):∀(n lo:Nat) (K:List (List Nat)) (a b:Sl),(∀k∈K,k.length≤1000)→K.length+(jy F lo n).length≤2000→F.length≤2000→∃a' b',bu dw dC (iq lo n) [.sh (.list (F.map af)), .ow (K.map af),a,b]=some ([.sh (.list (F.map af)), .ow ((NhFam.cY K (jy F lo n)).map af),a',b'], .nx)
  | 0,lo,K,a,b,_,_,_=>⟨a,b,rfl⟩
  | n+1,lo,K,a,b,hK,hl,hl2=>by
    have tg:dw (.int (lo:Int)) [.sh (.list (F.map af)), .ow (K.map af),a,b]=some [.sh (.list (F.map af)), .ow (K.map af), .sh (.int (lo:Int)),b]:=rfl
    have hfl:(F.filter fun w=>decide (w.length=lo)).length≤F.length:=List.length_filter_le _ _
    have p1:bn [none,some 2] (aO (aa 0)) cE cG cF [.sh (.list (F.map af)), .ow (K.map af), .sh (.int (lo:Int)),b]=some (.ow ((F.filter fun w=>decide (w.length=lo)).map af),[.sh (.list (F.map af)), .ow (K.map af), .sh (.int (lo:Int)),b]):=fS (js:=[none,some 2]) rfl (uI lo F .no hF) (cK _) (by rw [List.length_map];lia)
    have c64:((F.filter fun w=>decide (w.length=lo)).map rZ).length < 65536:=by rw [List.length_map];lia
    have p2:jn (bn [none,some 2] (aO (aa 0)) cE cG cF) [.sh (.list (F.map af)), .ow (K.map af), .sh (.int (lo:Int)),b]=some (.ow ((nO (F.filter fun w=>decide (w.length=lo))).map af),[.sh (.list (F.map af)), .ow (K.map af), .sh (.int (lo:Int)),b]):=by
      unfold jn
      rw [p1,Option.bind_some]
      show ((i7 ((F.filter fun w=>decide (w.length=lo)).map af)).bind _)=_
      rw [nG,Option.bind_some]
      show (if ((F.filter fun w=>decide (w.length=lo)).map rZ).length < 65536 then _ else _)=_
      rw [if_pos c64]
      show some (Sl.ow ((gv ((F.filter fun w=>decide (w.length=lo)).map rZ)).map PyData.str),_)=_
      rw [yc,List.map_map]
      rfl
    have i2:aO (jn (bn [none,some 2] (aO (aa 0)) cE cG cF)) [.sh (.list (F.map af)), .ow (K.map af), .sh (.int (lo:Int)),b]=some ((nO (F.filter fun w=>decide (w.length=lo))).map af,[.sh (.list (F.map af)), .ow (K.map af), .sh (.int (lo:Int)),b]):=x9 p2
    have hS:∀k∈nO (F.filter fun w=>decide (w.length=lo)),k.length≤1000:=fun k hk=>hF k (List.mem_filter.mp (srtW_mem.mp hk)).1
    simp only [jy,List.length_append] at hl
    obtain ⟨b',e⟩:=ya (.sh (.list (F.map af))) (.sh (.int (lo:Int))) (nO (F.filter fun w=>decide (w.length=lo))) K b hS hK (by lia)
    have st:(dw (.int (lo:Int)) [.sh (.list (F.map af)), .ow (K.map af),a,b]).bind dC=some ([.sh (.list (F.map af)), .ow ((NhFam.cY K (nO (F.filter fun w=>decide (w.length=lo)))).map af), .sh (.int (lo:Int)),b'], .nx):=by
      rw [tg,Option.bind_some,dC]
      unfold dm
      rw [i2,Option.bind_some]
      exact e
    have:=kQ (nO (F.filter fun w=>decide (w.length=lo))) K
    obtain ⟨a2,b2,e2⟩:=yd F hF n (lo+1) (NhFam.cY K (nO (F.filter fun w=>decide (w.length=lo)))) (.sh (.int (lo:Int))) b' (fun k hk=>(nQ hk).elim (hK k) (hS k)) (by lia) hl2
    refine ⟨a2,b2,?_⟩
    rw [iv,bu,st,jy,nP]
    exact e2
theorem qp (F:List (List Nat)) {w:List Nat}:∀(n lo:Nat),w∈jy F lo n↔w∈F∧lo≤w.length∧w.length < lo+n
  | 0,lo=>by simp [jy]
  | n+1,lo=>by
    rw [jy,List.mem_append,srtW_mem,List.mem_filter,qp F n (lo+1),decide_eq_true_iff]
    constructor
    · rintro (⟨a,b⟩ | ⟨a,b,c⟩)
      · exact ⟨a,by exact Nat.le_of_eq (Eq.symm ‹_›),by lia⟩
      · exact ⟨a,by exact Nat.le_of_lt ‹_›,by lia⟩
    · rintro ⟨a,b,c⟩
      by_cases h:w.length=lo
      · exact .inl ⟨a,h⟩
      · exact .inr ⟨a,by lia,by lia⟩
theorem B7 {a b:List Nat} (h:a.length=b.length) (k:yr a b=true):¬NhFam.jm b a:=fun z=>by
  have z':=NhSG.ltKy_iff.mp z
  simp only [NhFam.key] at z'
  rcases z' with z' | ⟨_,z'⟩
  · lia
  · exact absurd z' (of_decide_eq_true k)
theorem uJ (F:List (List Nat)):∀(n lo:Nat),(jy F lo n).Pairwise fun a b=>¬NhFam.jm b a
  | 0,lo=>List.Pairwise.nil
  | n+1,lo=>by
    rw [jy,List.pairwise_append]
    refine ⟨?_,uJ F n (lo+1),fun a ha b hb=>?_⟩
    · refine List.Pairwise.imp_of_mem (fun {a b} ha hb h=>B7 ?_ h) (List.pairwise_mergeSort o9 o_ _)
      have h1:=of_decide_eq_true (List.mem_filter.mp (srtW_mem.mp ha)).2
      have h2:=of_decide_eq_true (List.mem_filter.mp (srtW_mem.mp hb)).2
      lia
    · have h1:=of_decide_eq_true (List.mem_filter.mp (srtW_mem.mp ha)).2
      have h2:=((qp F n (lo+1)).mp hb).2.1
      exact NhFam.ly (NhFam.nq (by lia))
theorem uK (F:List (List Nat)):∀(n lo:Nat),(jy F lo n).length≤(F.filter fun w=>decide (lo≤w.length)).length
  | 0,lo=>Nat.zero_le _
  | n+1,lo=>by
    rw [jy,List.length_append,yb]
    have h:=uK F n (lo+1)
    have k:∀G:List (List Nat),(G.filter fun w=>decide (w.length=lo)).length+(G.filter fun w=>decide (lo+1≤w.length)).length=(G.filter fun w=>decide (lo≤w.length)).length:=fun G=>by
      induction G with
      | nil=>rfl
      | cons w G ih=>
        simp only [List.filter_cons]
        rcases Nat.lt_trichotomy w.length lo with q | q | q
        · rw [if_neg (by simp;lia),if_neg (by simp;exact Nat.lt_succ_of_lt ‹_›),if_neg (by simp;assumption)];exact ih
        · rw [if_pos (by simp;assumption),if_neg (by simp;lia),if_pos (by simp;exact Nat.le_of_eq (Eq.symm ‹_›)),List.length_cons,List.length_cons];lia
        · rw [if_neg (by simp;lia),if_pos (by simp;assumption),if_pos (by simp;exact Nat.le_of_lt ‹_›),List.length_cons,List.length_cons];lia
    have:=k F
    lia
theorem ye {U:List Nat} {F:List (List Nat)} (hF:∀v∈F,NhFam.Sub U v) (hl:∀v∈F,v.length < 27):NhFam.cY [] (jy F 0 27)=NhFam.au F:=by
  have me:∀w,w∈jy F 0 27↔w∈F:=fun w=>(qp F 27 0).trans ⟨fun h=>h.1,fun h=>⟨h,Nat.zero_le _,by have:=hl w h;assumption⟩⟩
  obtain ⟨a,b⟩:=NhFam.iU (jy F 0 27) [] [] (fun v hv=>(hF v ((me v).mp (by simpa using hv))).1) (fun v hv=>by cases hv) (fun v hv=>by cases hv) (fun v hv=>by cases hv) (uJ F 27 0) (fun v hv=>by cases hv) .nil
  have t:NhFam.Told U (NhFam.cY [] (jy F 0 27)) (NhFam.up F):=by
    refine ⟨a,fun w=>(b w).trans ?_⟩
    rw [NhFam.qe hF]
    simp only [List.nil_append,me]
  exact t.uniq (NhFam.d9 hF) fun w _=>Iff.rfl
theorem DA {E:List Sl}:mW (ae false (pC (.int 0)) (ae false (pC (.int 27)) aj)) E=some (iq 0 27,E):=by
  simp only [mW,ae,pC,Sl.isBr,Bool.false_and,Bool.false_eq_true,aj,Option.map_some,if_false,Option.bind_some,bQ,look,Sl.val]
  rfl
theorem iY {U:List Nat} {F:List (List Nat)} (u:Uni U) (hF:∀v∈F,NhFam.Sub U v) (hl:F.length≤1100):bb [.list (F.map af)]=some (.ow ((NhFam.au F).map af)):=by
  have sh:∀v∈F,v.length≤10:=fun v hv=>u.short (hF v hv)
  have cl:(jy F 0 27).length≤1100:=Nat.le_trans (uK F 27 0) (Nat.le_trans (List.length_filter_le _ _) hl)
  obtain ⟨a,b,e⟩:=yd F (fun v hv=>by have:=sh v hv;lia) 27 0 [] .no .no (fun _ h=>by cases h) (by simp;lia) (by lia)
  rw [ye hF fun v hv=>by have:=sh v hv;lia] at e
  have g:bb [.list (F.map af)]=(gA [.sh (.list (F.map af)), .no, .no, .no]).bind fun a=>match a.2 with | .rt r=>bV r | .nx=>some (.sh .none) | _=>none:=rfl
  have s1:aC 1 (cA cM) [.sh (.list (F.map af)), .no, .no, .no]=some ([.sh (.list (F.map af)), .ow [], .no, .no], .nx):=by simp only [aC,cA,cM,Option.bind_some,List.length_nil,Nat.reduceLeDiff,if_true,PL.settle,frz,frzAll,List.length_cons,Nat.zero_add,Nat.reduceAdd,Nat.reduceLT,List.set_cons_succ,List.set_cons_zero]
  have fo:dm (mW (ae false (pC (.int 0)) (ae false (pC (.int 27)) aj))) dw dC [.sh (.list (F.map af)), .ow [], .no, .no]=some ([.sh (.list (F.map af)), .ow ((NhFam.au F).map af),a,b], .nx):=by
    unfold dm
    rw [DA,Option.bind_some]
    exact e
  have fl:=cK (NhFam.au F)
  rw [g,gA,aB s1,aB fo]
  simp only [aN,aa,List.getElem?_cons_succ,List.getElem?_cons_zero,Option.bind_some,List.set_cons_succ,List.set_cons_zero,Option.map_some,bV,bJ,fl,if_true]
def gk (cell step:Int) (k:Nat):Nat:=97+((cell+(k:Int)*step) % 26).toNat
theorem tz {cell step:Int} (hs:∀d:Nat,1≤d→d < 26→((d:Int)*step) % 26≠0) {j k:Nat} (h:j < k) (hk:k < 26):gk cell step j≠gk cell step k:=by
  intro e
  unfold gk at e
  have m0:=Int.emod_nonneg (cell+(k:Int)*step) (show (26:Int)≠0 by decide)
  have n0:=Int.emod_nonneg (cell+(j:Int)*step) (show (26:Int)≠0 by decide)
  have e2:(cell+(k:Int)*step) % 26=(cell+(j:Int)*step) % 26:=by omega
  have e3:=Int.emod_eq_emod_iff_emod_sub_eq_zero.mp e2
  apply hs (k - j) (by exact Nat.sub_pos_of_lt ‹_›) (by exact Nat.lt_of_le_of_lt (Nat.sub_le _ _) ‹_›)
  rw [←e3]
  congr 1
  rw [show ((k - j:Nat):Int)=(k:Int) - j by lia,Int.sub_mul]
  lia
theorem pc (cell step:Int) (k:Nat):az (gk cell step k):=by
  unfold gk az
  have m0:=Int.emod_nonneg (cell+(k:Int)*step) (show (26:Int)≠0 by decide)
  have m1:=Int.emod_lt_of_pos (cell+(k:Int)*step) (show (0:Int) < 26 by decide)
  generalize (cell+(k:Int)*step) % 26=z at m0 m1
  lia
theorem mI {E:List Sl} {f:bq} {w:List Nat} (hf:f E=some (.ow (w.map cw),E)) (hl:w.length≤1000000):dQ "" f E=some (.sh (af w),E):=by
  have so:=lY w
  have l:=uq w
  simp only [dQ,kj,oF,hf,Option.bind_some,look,Sl.val,so,l,hl,if_true,Option.map_some,rL,af]
theorem DB (at_ step k:Int) (m:fA step k=true):dD [.sh (.int k), .sh (.str "abcdefghijklmnopqrstuvwxyz"), .sh (.int at_), .sh (.int step)]=some (.sh (cw (97+((at_+step*k) % 26).toNat)),[.sh (.int k), .sh (.str "abcdefghijklmnopqrstuvwxyz"), .sh (.int at_), .sh (.int step)]):=by
  simp only [dD,ag,aa,List.getElem?_cons_succ,List.getElem?_cons_zero,Sl.isBr,Bool.false_and,Bool.false_eq_true,fq,look,Sl.val,gP,fG,if_false,aT,pC,eJ,fT,mQ,Option.bind_some,mE,Bool.not_false,Bool.true_or,Bool.and_true,m,if_true,Int.reduceLT,decide_true,Option.map_some,xg,Do,cw]
theorem AB (at_ step:Int) (h1:0≤step) (h2:step≤100):∀(n lo:Nat) (x:Sl),cB eC bA dD (iq lo n) [x, .sh (.str "abcdefghijklmnopqrstuvwxyz"), .sh (.int at_), .sh (.int step)]=some (((List.range' lo n).map (gk at_ step)).map cw)
  | 0,lo,x=>rfl
  | n+1,lo,x=>by
    have e:=AB at_ step h1 h2 n (lo+1) (.sh (.int lo))
    have s:=DB at_ step lo (hW (by lia) (by lia))
    rw [Int.mul_comm step] at s
    have t:eC (.int lo) [x, .sh (.str "abcdefghijklmnopqrstuvwxyz"), .sh (.int at_), .sh (.int step)]=some [.sh (.int lo), .sh (.str "abcdefghijklmnopqrstuvwxyz"), .sh (.int at_), .sh (.int step)]:=rfl
    rw [show ((lo+1:Nat):Int)=(lo:Int)+1 by (solve_by_elim (maxDepth:=2) only [*,Nat.le_trans,Nat.lt_of_lt_of_le,Nat.lt_of_le_of_lt,Nat.le_of_lt])] at e
    rw [iv,List.range'_succ,List.map_cons,List.map_cons]
    exact h7 t s e
theorem B8:∀i,i < 6→∃v:Int,([1,3,5,7,9,11].map PyData.int)[i]? =some (.int v)∧0≤v∧v≤100∧∀d:Nat,1≤d→d < 26→((d:Int)*v) % 26≠0
  | 0,_=>⟨1,rfl,by decide,by decide,by lia⟩
  | 1,_=>⟨3,rfl,by decide,by decide,by lia⟩
  | 2,_=>⟨5,rfl,by decide,by decide,by lia⟩
  | 3,_=>⟨7,rfl,by decide,by decide,by lia⟩
  | 4,_=>⟨9,rfl,by decide,by decide,by lia⟩
  | 5,_=>⟨11,rfl,by decide,by decide,by lia⟩
theorem B9 (cell many step at_ i:Int) (hm:1+cell % 6=many) (hi:cell / 6 % 6=i) (ha:cell / 6 / 6 % 26=at_) (hs:atI ([1,3,5,7,9,11].map PyData.int) i=some (.int step)) (d6:lQ 6=true):
    ∃E:List Sl,E=[.sh (.int cell), .sh (.int 6), .sh (.str "abcdefghijklmnopqrstuvwxyz"), .sh (.int many), .sh (.int step), .sh (.int at_)]∧∀r:dH,aG (aC 2 (pC (.str "abcdefghijklmnopqrstuvwxyz"))) (aG (aC 3 (ag aT false (pC (.int 1)) (ag eJ false (aa 0) (aa 1)))) (aG (aC 4 (ag mE false (cA (oB [1,3,5,7,9,11])) (ag eJ false (ag bP false (aa 0) (aa 1)) (pC (.int 6))))) (aG (aC 5 (ag eJ false (ag bP false (ag bP false (aa 0) (aa 1)) (pC (.int 6))) (pC (.int 26)))) r))) [.sh (.int cell), .sh (.int 6), .no, .no, .no, .no]=r E:=by
  refine ⟨_,rfl,fun r=>?_⟩
  have s2:aC 2 (pC (.str "abcdefghijklmnopqrstuvwxyz")) [.sh (.int cell), .sh (.int 6), .no, .no, .no, .no]=some ([.sh (.int cell), .sh (.int 6), .sh (.str "abcdefghijklmnopqrstuvwxyz"), .no, .no, .no], .nx):=rfl
  have m6:ag eJ false (aa 0) (aa 1) [.sh (.int cell), .sh (.int 6), .sh (.str "abcdefghijklmnopqrstuvwxyz"), .no, .no, .no]=some (.sh (.int (cell % 6)),[.sh (.int cell), .sh (.int 6), .sh (.str "abcdefghijklmnopqrstuvwxyz"), .no, .no, .no]):=jw rfl rfl (by decide)
  have s3:aC 3 (ag aT false (pC (.int 1)) (ag eJ false (aa 0) (aa 1))) [.sh (.int cell), .sh (.int 6), .sh (.str "abcdefghijklmnopqrstuvwxyz"), .no, .no, .no]=some ([.sh (.int cell), .sh (.int 6), .sh (.str "abcdefghijklmnopqrstuvwxyz"), .sh (.int many), .no, .no], .nx):=by
    have:=fR (i:=3) (hJ (g:=pC (.int 1)) (x:=1) rfl m6) (show 3 < 6 by decide)
    rw [hm] at this
    exact this
  have f6:ag bP false (aa 0) (aa 1) [.sh (.int cell), .sh (.int 6), .sh (.str "abcdefghijklmnopqrstuvwxyz"), .sh (.int many), .no, .no]=some (.sh (.int (cell / 6)),[.sh (.int cell), .sh (.int 6), .sh (.str "abcdefghijklmnopqrstuvwxyz"), .sh (.int many), .no, .no]):=jI rfl rfl d6
  have i6:ag eJ false (ag bP false (aa 0) (aa 1)) (pC (.int 6)) [.sh (.int cell), .sh (.int 6), .sh (.str "abcdefghijklmnopqrstuvwxyz"), .sh (.int many), .no, .no]=some (.sh (.int i),[.sh (.int cell), .sh (.int 6), .sh (.str "abcdefghijklmnopqrstuvwxyz"), .sh (.int many), .no, .no]):=by
    rw [←hi]
    exact jw f6 rfl (by decide)
  have s4:aC 4 (ag mE false (cA (oB [1,3,5,7,9,11])) (ag eJ false (ag bP false (aa 0) (aa 1)) (pC (.int 6)))) [.sh (.int cell), .sh (.int 6), .sh (.str "abcdefghijklmnopqrstuvwxyz"), .sh (.int many), .no, .no]=some ([.sh (.int cell), .sh (.int 6), .sh (.str "abcdefghijklmnopqrstuvwxyz"), .sh (.int many), .sh (.int step), .no], .nx):=by
    have z:ag mE false (cA (oB [1,3,5,7,9,11])) (ag eJ false (ag bP false (aa 0) (aa 1)) (pC (.int 6))) [.sh (.int cell), .sh (.int 6), .sh (.str "abcdefghijklmnopqrstuvwxyz"), .sh (.int many), .no, .no]=some (.sh (.int step),[.sh (.int cell), .sh (.int 6), .sh (.str "abcdefghijklmnopqrstuvwxyz"), .sh (.int many), .no, .no]):=by
      generalize ag eJ false (ag bP false (aa 0) (aa 1)) (pC (.int 6))=f at i6
      simp only [List.map_cons,List.map_nil] at hs
      simp only [ag,cA,oB,List.map_cons,List.map_nil,Option.bind_some,List.length_cons,List.length_nil,Nat.zero_add,Nat.reduceAdd,Nat.reduceLeDiff,if_true,Sl.isBr,Bool.false_and,Bool.false_eq_true,mE,look,Sl.val,gP,fG,if_false,i6,hs,Option.map_some]
    exact fR z (show 4 < 6 by decide)
  have g6:ag bP false (aa 0) (aa 1) [.sh (.int cell), .sh (.int 6), .sh (.str "abcdefghijklmnopqrstuvwxyz"), .sh (.int many), .sh (.int step), .no]=some (.sh (.int (cell / 6)),[.sh (.int cell), .sh (.int 6), .sh (.str "abcdefghijklmnopqrstuvwxyz"), .sh (.int many), .sh (.int step), .no]):=jI rfl rfl d6
  have s5:aC 5 (ag eJ false (ag bP false (ag bP false (aa 0) (aa 1)) (pC (.int 6))) (pC (.int 26))) [.sh (.int cell), .sh (.int 6), .sh (.str "abcdefghijklmnopqrstuvwxyz"), .sh (.int many), .sh (.int step), .no]=some ([.sh (.int cell), .sh (.int 6), .sh (.str "abcdefghijklmnopqrstuvwxyz"), .sh (.int many), .sh (.int step), .sh (.int at_)], .nx):=by
    have:=fR (i:=5) (jw (g:=pC (.int 26)) (y:=26) (jI (g:=pC (.int 6)) (y:=6) g6 rfl d6) rfl (by decide)) (show 5 < 6 by decide)
    rw [ha] at this
    exact this
  rw [aB s2,aB s3,aB s4,aB s5]
theorem qr (cell:Int):∃U:List Nat,dO [.int cell, .int 6]=some (.sh (af U))∧Uni U∧1≤U.length∧U.length≤6:=by
  have m0:=Int.emod_nonneg (cell / 6) (show (6:Int)≠0 by decide)
  have m1:=Int.emod_lt_of_pos (cell / 6) (show (0:Int) < 6 by decide)
  have c0:=Int.emod_nonneg cell (show (6:Int)≠0 by decide)
  have c1:=Int.emod_lt_of_pos cell (show (0:Int) < 6 by decide)
  obtain ⟨i,hi⟩:∃i:Nat,cell / 6 % 6=i:=⟨(cell / 6 % 6).toNat,by lia⟩
  obtain ⟨n,hn⟩:∃n:Nat,1+cell % 6=n:=⟨(1+cell % 6).toNat,by lia⟩
  obtain ⟨v,ev,v0,v1,v2⟩:=B8 i (by lia)
  obtain ⟨E,hE,st⟩:=B9 cell n v (cell / 6 / 6 % 26) i hn hi rfl (by rw [iu,ev]) (by decide)
  have e:=AB (cell / 6 / 6 % 26) v v0 v1 n 0 .no
  simp only [Int.natCast_zero] at e
  generalize cell / 6 / 6 % 26=t at hE e
  have az':∀a∈(List.range' 0 n).map (gk t v),az a:=fun a ha=>by
    obtain ⟨k,_,rfl⟩:=List.mem_map.mp ha
    exact pc t v k
  have nd:((List.range' 0 n).map (gk t v)).Nodup:=by
    rw [List.Nodup,List.pairwise_map]
    refine List.Pairwise.imp_of_mem ?_ (List.pairwise_lt_range' (s:=0) (n:=n))
    intro a b ha hb hab
    exact tz v2 hab (by have:=List.mem_range'_1.mp hb;lia)
  have ln:((List.range' 0 n).map (gk t v)).length=n:=by simp
  generalize (List.range' 0 n).map (gk t v)=w at e az' nd ln
  have i1:f_ (ae false (aa 3) aj) E=some (iq 0 n,E):=nK (z:=(n:Int)) (by rw [hE];rfl) rfl (by lia)
  have p1:bn [none,some 2,some 5,some 4] (f_ (ae false (aa 3) aj)) eC bA dD E=some (.ow (w.map cw),E):=fS i1 (by rw [hE];exact e) (ju _) (by rw [List.length_map];lia)
  have p2:=mI (vU p1 (by lia) nd az') (by have:=l_ nd az';lia)
  have cnt:=l_ nd az'
  refine ⟨av w,?_,⟨bH w,fun a ha=>az' a (inOrd_mem.mp ha).2,by lia⟩,by lia,by lia⟩
  have g:dO [.int cell, .int 6]=(gB [.sh (.int cell), .sh (.int 6), .no, .no, .no, .no]).bind fun a=>match a.2 with | .rt r=>bV r | .nx=>some (.sh .none) | _=>none:=rfl
  rw [g,gB,st]
  simp only [aN,p2,Option.map_some,Option.bind_some,bV]
  rfl
theorem Es (v:Nat) (one:List Nat):cn [.sh (cw v), .sh (af one)]=some (decide (v∈one),[.sh (cw v), .sh (af one)]):=Az rfl rfl (xE one v)
theorem AC (one:List Nat):∀(v:List Nat) (x:Sl),cB ck cn cm (v.map cw) [x, .sh (af one)]=some ((v.filter fun a=>decide (a∈one)).map cw)
  | [],x=>rfl
  | a::v,x=>by
    have t:ck (cw a) [x, .sh (af one)]=some [.sh (cw a), .sh (af one)]:=rfl
    have k:=uz (elt:=cm) t (Es a one) rfl (AC one v _)
    rw [List.map_cons,k,List.filter_cons]
    split <;> rfl
def Co (one v:List Nat):Bool:= !decide (∀x∈v,x∉one)
theorem B_ (one v:List Nat):decide ((0:Int) < ((v.filter fun a=>decide (a∈one)).length:Int))=Co one v:=by
  unfold Co
  rw [←decide_not]
  refine decide_eq_decide.mpr ⟨fun h z=>?_,fun h=>?_⟩
  · have:v.filter (fun a=>decide (a∈one))=[]:=List.filter_eq_nil_iff.mpr fun a ha=>by simpa using z a ha
    rw [this] at h
    simp at h
  · have:v.filter (fun a=>decide (a∈one))≠[]:=fun z=>h fun x hx=>by
      have:=List.filter_eq_nil_iff.mp z x hx
      simpa using this
    have:=List.length_pos_iff.mpr this
    omega
theorem Et (one v:List Nat) (hv:v.length≤1000):cq [.sh (af v), .sh (af one)]=some (.sh (.bool (Co one v)),[.sh (af v), .sh (af one)]):=by
  have it:aO (aa 0) [.sh (af v), .sh (af one)]=some (v.map cw,[.sh (af v), .sh (af one)]):=by
    simp only [aO,aa,af,List.getElem?_cons_zero,frz,Option.bind_some,qk]
  have hl:(v.filter fun a=>decide (a∈one)).length≤v.length:=List.length_filter_le _ _
  have k:=fS (js:=[none,some 1]) it (AC one v .no) (ju _) (by rw [List.length_map];lia)
  have lb:(v.filter fun a=>decide (a∈one)).length≤1000000:=by lia
  have q:=B_ one v
  have l:bB d7 (ae false (bn [none,some 1] (aO (aa 0)) ck cn cm) aj) [.sh (af v), .sh (af one)]=some (.sh (.int ((v.filter fun a=>decide (a∈one)).length:Int)),[.sh (af v), .sh (af one)]):=by
    simp only [bB,Dv k,Option.bind_some,bQ,look,Sl.val,Option.map_some,d7,List.length_map,lb,if_true]
  unfold cq
  generalize bB d7 (ae false (bn [none,some 1] (aO (aa 0)) ck cn cm) aj)=f at l ⊢
  simp only [ag,l,Sl.isBr,Bool.false_and,Bool.false_eq_true,pC,fT,look,Sl.val,gu,Cm.i,Cm.s,Option.bind_some,if_false,q,Option.map_some]
theorem AD (one:List Nat):∀(L:List (List Nat)) (x:Sl),(∀v∈L,v.length≤1000)→cB dE bA cq (L.map af) [x, .sh (af one)]=some (L.map fun v=>PyData.bool (Co one v))
  | [],x,_=>rfl
  | v::L,x,h=>by
    have t:dE (af v) [x, .sh (af one)]=some [.sh (af v), .sh (af one)]:=rfl
    exact h7 t (Et one v (h v (List.mem_cons_self ..))) (AD one L _ fun u hu=>h u (List.mem_cons_of_mem _ hu))
theorem ES (L:List (List Nat)) (one:List Nat) (x1 x2:Sl) (h:∀v∈L,v.length≤1000) (hl:L.length≤1000):eW (bB sC (ae false (bn [none,some 3] (aO (aa 0)) dE bA cq) aj)) [.sh (.list (L.map af)),x1,x2, .sh (af one)]=some (NhFam.dJ L one,[.sh (.list (L.map af)),x1,x2, .sh (af one)]):=by
  have k:=fS (js:=[none,some 3]) (it:=aO (aa 0)) (E:=[.sh (.list (L.map af)),x1,x2, .sh (af one)]) rfl (AD one L .no h) (lK _ L) (by rw [List.length_map];lia)
  have bo:=jx (fun v=>Co one v) L
  have al:(L.map fun v=>Co one v).all id=NhFam.dJ L one:=by
    rw [List.all_map]
    rfl
  simp only [eW,bB,Dv k,Option.bind_some,Option.map_some,bQ,look,Sl.val,sC,bo,al,jJ]
theorem Ca (L:List (List Nat)) (x1:Sl) (h:∀v∈L,v.length≤1000) (hl:L.length≤1000):∀(S K:List (List Nat)) (a:Sl),K.length+S.length≤2000→∃a',bu bN bv (S.map af) [.sh (.list (L.map af)),x1, .ow (K.map af),a]=some ([.sh (.list (L.map af)),x1, .ow ((K++S.filter (NhFam.dJ L)).map af),a'], .nx)
  | [],K,a,_=>⟨a,by rw [List.filter_nil,List.append_nil];rfl⟩
  | w::S,K,a,hk=>by
    simp only [List.length_cons] at hk
    have c:=ES L w x1 (.ow (K.map af)) h hl
    have tg:bN (af w) [.sh (.list (L.map af)),x1, .ow (K.map af),a]=some [.sh (.list (L.map af)),x1, .ow (K.map af), .sh (af w)]:=rfl
    cases q:NhFam.dJ L w with
    | true=>
      rw [q] at c
      have b1:K.length < 1000000:=by lia
      have st:(bN (af w) [.sh (.list (L.map af)),x1, .ow (K.map af),a]).bind bv=some ([.sh (.list (L.map af)),x1, .ow ((K++[w]).map af), .sh (af w)], .nx):=by
        rw [tg,Option.bind_some,bv]
        refine g_ c ?_
        simp only [eU,cW,List.getElem?_cons_succ,List.getElem?_cons_zero,aa,frz,Option.bind_some,List.length_map,b1,List.set_cons_succ,List.set_cons_zero,if_true,Option.map_some,List.map_append,List.map_cons,List.map_nil]
      obtain ⟨a',e⟩:=Ca L x1 h hl S (K++[w]) (.sh (af w)) (by simp;lia)
      refine ⟨a',?_⟩
      rw [List.map_cons,bu,st,List.filter_cons,q,if_pos rfl,show K++w::S.filter (NhFam.dJ L)=(K++[w])++S.filter (NhFam.dJ L) by simp]
      exact e
    | false=>
      rw [q] at c
      have st:(bN (af w) [.sh (.list (L.map af)),x1, .ow (K.map af),a]).bind bv=some ([.sh (.list (L.map af)),x1, .ow (K.map af), .sh (af w)], .nx):=by
        rw [tg,Option.bind_some,bv]
        exact g9 c rfl
      obtain ⟨a',e⟩:=Ca L x1 h hl S K (.sh (af w)) (by exact Nat.le_of_lt ‹_›)
      refine ⟨a',?_⟩
      rw [List.map_cons,bu,st,List.filter_cons,q,if_neg (by simp)]
      exact e
theorem nR {U:List Nat} {L:List (List Nat)} (r:Rul U L):bF [.list (L.map af),af U]=some (.ow ((mt L).map af)):=by
  have u:=r.u
  have ll:=r.w.len
  have G:∀w,w∈(NhFam.fV U).filter (NhFam.dJ L)↔NhFam.Sub U w∧NhFam.i_ L w:=fun w=>by
    rw [List.mem_filter,NhFam.iC u.srt,NhFam.oX]
  have tu:NhFam.Told U (NhFam.au ((NhFam.fV U).filter (NhFam.dJ L))) (NhFam.i_ L):=NhFam.rz u.srt u.srt (NhFam.le.refl U) (fun v w _ _ l h z hz=>by obtain ⟨x,a,b⟩:=h z hz;exact ⟨x,a,l x b⟩) G fun w _ h=>NhFam.oY (fun v hv=>(r.sub v hv).2) h
  have eq:NhFam.au ((NhFam.fV U).filter (NhFam.dJ L))=mt L:=tu.uniq r.meet fun w _=>Iff.rfl
  have few:=ql u (NhFam.dJ L)
  have pl:=iY u (F:=(NhFam.fV U).filter (NhFam.dJ L)) (fun v hv=>((G v).mp hv).1) (by lia)
  rw [eq] at pl
  have al:(NhFam.fV U).length≤1024:=by
    have:=ql u (fun _=>true)
    rwa [List.filter_eq_self.mpr (fun _ _=>rfl)] at this
  obtain ⟨a,e⟩:=Ca L (.sh (af U)) (fun v hv=>by have:=u.short (r.sub v hv);lia) (by lia) (NhFam.fV U) [] .no (by simp;lia)
  rw [List.nil_append] at e
  have s1:aC 2 (cA cM) [.sh (.list (L.map af)), .sh (af U), .no, .no]=some ([.sh (.list (L.map af)), .sh (af U), .ow [], .no], .nx):=by simp only [aC,cA,cM,af,Option.bind_some,List.length_nil,Nat.reduceLeDiff,if_true,PL.settle,frz,frzAll,List.length_cons,Nat.zero_add,Nat.reduceAdd,Nat.reduceLT,List.set_cons_succ,List.set_cons_zero]
  have c2:ak ef (ae false (aa 1) aj) [.sh (.list (L.map af)), .sh (af U), .ow [], .no]=some (.ow ((NhFam.fV U).map af),[.sh (.list (L.map af)), .sh (af U), .ow [], .no]):=aI (ss:=[.sh (af U)]) rfl rfl (by rw [rT];exact xJ U u.len)
  have fo:dm (aO (ak ef (ae false (aa 1) aj))) bN bv [.sh (.list (L.map af)), .sh (af U), .ow [], .no]=some ([.sh (.list (L.map af)), .sh (af U), .ow (((NhFam.fV U).filter (NhFam.dJ L)).map af),a], .nx):=by
    unfold dm
    rw [x9 c2,Option.bind_some]
    exact e
  have c3:ak bb (ae false (aa 2) aj) [.sh (.list (L.map af)), .sh (af U), .ow (((NhFam.fV U).filter (NhFam.dJ L)).map af),a]=some (.ow ((mt L).map af),[.sh (.list (L.map af)), .sh (af U), .ow (((NhFam.fV U).filter (NhFam.dJ L)).map af),a]):=aI (ss:=[.al 2]) rfl rfl pl
  have g:bF [.list (L.map af),af U]=(fi [.sh (.list (L.map af)), .sh (af U), .no, .no]).bind fun a=>match a.2 with | .rt r=>bV r | .nx=>some (.sh .none) | _=>none:=rfl
  have fl:=cK (mt L)
  rw [g,fi,aB s1,aB fo]
  simp only [aN,c3,Option.map_some,Option.bind_some,bV,bJ,fl,if_true]
def bt (v:Int) (j:Nat):Bool:=decide (Builtin.bitAnd (v / 2 ^ j) 1=1)
theorem DC (v:Int) (j:Nat) (x:Sl):dX [.sh (.int (j:Int)),x, .sh (.int v)]=some (bt v j,[.sh (.int (j:Int)),x, .sh (.int v)]):=by
  have hj:(0:Int)≤(j:Int):=by (solve_by_elim (maxDepth:=2) only [*,Nat.le_trans,Nat.lt_of_lt_of_le,Nat.lt_of_le_of_lt,Nat.le_of_lt])
  unfold bt
  simp only [dX,eI,ag,aa,List.getElem?_cons_succ,List.getElem?_cons_zero,Sl.isBr,Bool.false_and,Bool.false_eq_true,sy,fT,look,Sl.val,mQ,if_false,Option.bind_some,hj,decide_true,Int.toNat_natCast,if_true,Option.map_some,pC,pM,i5,fk]
theorem DD (U:List Nat) (j a:Nat) (x:Sl) (h:U[j]? =some a) (hl:U.length≤1000):dW [.sh (.int (j:Int)), .sh (af U),x]=some (.sh (cw a),[.sh (.int (j:Int)), .sh (af U),x]):=by
  have at_:atI (⟨U.toArray⟩:Str).cps.toList (j:Int)=some a:=by rw [iu];exact h
  have lb:(⟨U.toArray⟩:Str).length≤1000000:=by rw [ke];lia
  unfold af cw
  simp only [dW,ag,aa,List.getElem?_cons_succ,List.getElem?_cons_zero,Sl.isBr,Bool.false_and,Bool.false_eq_true,mE,look,Sl.val,gP,fG,if_false,Option.bind_some,lb,if_true,at_,Option.map_some]
def lM (v:Int):List Nat→Nat→List Nat
  | [],_=>[]
  | a::w,lo=>if bt v lo then a::lM v w (lo+1) else lM v w (lo+1)
theorem kR (v:Int):∀(w:List Nat) (lo:Nat),(lM v w lo).Sublist w
  | [],_=>List.Sublist.slnil
  | a::w,lo=>by
    rw [lM]
    split
    · exact (kR v w _).cons₂ a
    · exact (kR v w _).cons a
theorem yf (v:Int) (U:List Nat) (hl:U.length≤1000):∀(w:List Nat) (lo:Nat) (x:Sl),U.drop lo=w→cB e_ dX dW (iq lo w.length) [x, .sh (af U), .sh (.int v)]=some ((lM v w lo).map cw)
  | [],lo,x,_=>rfl
  | a::w,lo,x,h=>by
    have hx:U[lo]? =some a:=by rw [←List.head?_drop,h];rfl
    have hw:U.drop (lo+1)=w:=by rw [←List.tail_drop,h];rfl
    have t:e_ (.int (lo:Int)) [x, .sh (af U), .sh (.int v)]=some [.sh (.int (lo:Int)), .sh (af U), .sh (.int v)]:=rfl
    have ih:=yf v U hl w (lo+1) (.sh (.int (lo:Int))) hw
    rw [show ((lo+1:Nat):Int)=(lo:Int)+1 by (solve_by_elim (maxDepth:=2) only [*,Nat.le_trans,Nat.lt_of_lt_of_le,Nat.lt_of_le_of_lt,Nat.le_of_lt])] at ih
    have k:=uz t (DC v lo _) (DD U lo a _ hx hl) ih
    rw [List.length_cons,iv,k,lM]
    split <;> rfl
theorem DE (v:Int) (U:List Nat) (hl:U.length≤1000) (x0 x1 x3 x4 x5 x7:Sl):dQ "" (bn [none,some 2,some 6] (f_ (ae false (bB d7 (ae false (aa 2) aj)) aj)) e_ dX dW) [x0,x1, .sh (af U),x3,x4,x5, .sh (.int v),x7]=some (.sh (af (lM v U 0)),[x0,x1, .sh (af U),x3,x4,x5, .sh (.int v),x7]):=by
  have l:=qo (E:=[x0,x1, .sh (af U),x3,x4,x5, .sh (.int v),x7]) (f:=aa 2) rfl (show U.length≤1000000 by lia)
  have i1:=nK l rfl hl
  have sl:=(kR v U 0).length_le
  have c:=yf v U hl U 0 .no rfl
  have p1:=fS (js:=[none,some 2,some 6]) i1 c (ju _) (by rw [List.length_map];lia)
  exact mI p1 (by lia)
def Drn (U:List Nat) (O:List (List Nat)):Prop:=∀w∈O,w≠[]∧w.Sublist U
theorem Drn.app {U:List Nat} {A B:List (List Nat)} (a:Drn U A) (b:Drn U B):Drn U (A++B):=fun w h=>(List.mem_append.mp h).elim (a w) (b w)
theorem Cb (cell:Int) (k:Nat) (hk:k≤100) (x0 x1 x2 x3 x6 x7:Sl):∃v:Int,∀r:dH,aG (aC 6 (ag sy false (ag bP false (aa 4) (pC (.int 3))) (ag fq false (pC (.int 6)) (aa 5)))) (aG (ca (eI (ag (fT (gu .lt)) false (bB nU (ae false (aa 4) aj)) (ag mR false (pC (.int 10)) (pC (.int 18))))) (aC 6 (ak bE (ae false (aa 4) (ae false (ag aT false (pC (.int 30)) (aa 5)) aj)))) aV) r) [x0,x1,x2,x3, .sh (.int cell), .sh (.int (k:Int)),x6,x7]=r [x0,x1,x2,x3, .sh (.int cell), .sh (.int (k:Int)), .sh (.int v),x7]:=by
  obtain ⟨z,ez⟩:=nC cell (30+k) (by lia)
  rw [show ((30+k:Nat):Int)=30+(k:Int) by (solve_by_elim (maxDepth:=2) only [*,Nat.le_trans,Nat.lt_of_lt_of_le,Nat.lt_of_le_of_lt,Nat.le_of_lt])] at ez
  have d3:lQ 3=true:=by decide
  have m6:fA 6 (k:Int)=true:=hW (by decide) (by decide)
  have h6:(0:Int)≤6*(k:Int):=by (solve_by_elim (maxDepth:=2) only [*,Nat.le_trans,Nat.lt_of_lt_of_le,Nat.lt_of_le_of_lt,Nat.le_of_lt])
  obtain ⟨v0,s1⟩:∃v0:Int,aC 6 (ag sy false (ag bP false (aa 4) (pC (.int 3))) (ag fq false (pC (.int 6)) (aa 5))) [x0,x1,x2,x3, .sh (.int cell), .sh (.int (k:Int)),x6,x7]=some ([x0,x1,x2,x3, .sh (.int cell), .sh (.int (k:Int)), .sh (.int v0),x7], .nx):=by
    simp only [aC,ag,aa,List.getElem?_cons_succ,List.getElem?_cons_zero,Sl.isBr,Bool.false_and,Bool.false_eq_true,pC,bP,fT,look,Sl.val,mQ,Option.bind_some,if_false,d3,if_true,Option.map_some,fq,gP,fG,Bool.not_false,Bool.true_or,Bool.and_true,sy,m6,h6,decide_true,PL.settle,frz,frzAll,List.length_cons,List.length_nil,Nat.zero_add,Nat.reduceAdd,Nat.reduceLT,List.set_cons_succ,List.set_cons_zero]
    exact ⟨_,rfl⟩
  by_cases c1:(if cell < 0 then -cell else cell) < 1000000000000000000
  · have c:eI (ag (fT (gu .lt)) false (bB nU (ae false (aa 4) aj)) (ag mR false (pC (.int 10)) (pC (.int 18)))) [x0,x1,x2,x3, .sh (.int cell), .sh (.int (k:Int)), .sh (.int v0),x7]=some (true,[x0,x1,x2,x3, .sh (.int cell), .sh (.int (k:Int)), .sh (.int v0),x7]):=by
      simp only [eI,ag,bB,ae,aa,List.getElem?_cons_succ,List.getElem?_cons_zero,Sl.isBr,Bool.false_and,Bool.false_eq_true,aj,Option.map_some,if_false,Option.bind_some,nU,bQ,look,Sl.val,pC,mR,fT,mQ,Int.reducePow,Int.reduceNeg,Int.reduceLE,Int.reduceLT,and_self,decide_true,Int.reduceToNat,if_true,gu,Cm.i,Cm.s,c1]
    have ad:ag aT false (pC (.int 30)) (aa 5) [x0,x1,x2,x3, .sh (.int cell), .sh (.int (k:Int)), .sh (.int v0),x7]=some (.sh (.int (30+(k:Int))),[x0,x1,x2,x3, .sh (.int cell), .sh (.int (k:Int)), .sh (.int v0),x7]):=hJ rfl rfl
    have m:ak bE (ae false (aa 4) (ae false (ag aT false (pC (.int 30)) (aa 5)) aj)) [x0,x1,x2,x3, .sh (.int cell), .sh (.int (k:Int)), .sh (.int v0),x7]=some (.sh (.int z),[x0,x1,x2,x3, .sh (.int cell), .sh (.int (k:Int)), .sh (.int v0),x7]):=aI (ss:=[.sh (.int cell), .sh (.int (30+(k:Int)))]) (Cn rfl ad) rfl ez
    have s2:ca (eI (ag (fT (gu .lt)) false (bB nU (ae false (aa 4) aj)) (ag mR false (pC (.int 10)) (pC (.int 18))))) (aC 6 (ak bE (ae false (aa 4) (ae false (ag aT false (pC (.int 30)) (aa 5)) aj)))) aV [x0,x1,x2,x3, .sh (.int cell), .sh (.int (k:Int)), .sh (.int v0),x7]=some ([x0,x1,x2,x3, .sh (.int cell), .sh (.int (k:Int)), .sh (.int z),x7], .nx):=g_ c (fR m (show 6 < 8 by decide))
    exact ⟨z,fun r=>by rw [aB s1,aB s2]⟩
  · have c:eI (ag (fT (gu .lt)) false (bB nU (ae false (aa 4) aj)) (ag mR false (pC (.int 10)) (pC (.int 18)))) [x0,x1,x2,x3, .sh (.int cell), .sh (.int (k:Int)), .sh (.int v0),x7]=some (false,[x0,x1,x2,x3, .sh (.int cell), .sh (.int (k:Int)), .sh (.int v0),x7]):=by
      simp only [eI,ag,bB,ae,aa,List.getElem?_cons_succ,List.getElem?_cons_zero,Sl.isBr,Bool.false_and,Bool.false_eq_true,aj,Option.map_some,if_false,Option.bind_some,nU,bQ,look,Sl.val,pC,mR,fT,mQ,Int.reducePow,Int.reduceNeg,Int.reduceLE,Int.reduceLT,and_self,decide_true,Int.reduceToNat,if_true,gu,Cm.i,Cm.s,c1,decide_false]
    have s2:ca (eI (ag (fT (gu .lt)) false (bB nU (ae false (aa 4) aj)) (ag mR false (pC (.int 10)) (pC (.int 18))))) (aC 6 (ak bE (ae false (aa 4) (ae false (ag aT false (pC (.int 30)) (aa 5)) aj)))) aV [x0,x1,x2,x3, .sh (.int cell), .sh (.int (k:Int)), .sh (.int v0),x7]=some ([x0,x1,x2,x3, .sh (.int cell), .sh (.int (k:Int)), .sh (.int v0),x7], .nx):=g9 c rfl
    exact ⟨v0,fun r=>by rw [aB s1,aB s2]⟩
theorem Cc {E:List Sl} {f:bq} {u:List Nat} (hf:f E=some (.sh (af u),E)):eI (ag qK false f (pC (.str ""))) E=some (!decide (u=[]),E):=by
  have q:=uD u
  unfold af at hf
  simp only [eI,ag,hf,Sl.isBr,Bool.false_and,Bool.false_eq_true,pC,qK,fT,look,Sl.val,Option.bind_some,if_false,q,Option.map_some]
theorem DF (U:List Nat) (hU:U.length≤1000) (cell:Int) (k:Nat) (hk:k≤100) (x0 x1 x5 x6 x7:Sl) (F:List (List Nat)) (hF:F.length≤1000):∃(O:List (List Nat)) (v o:Sl),(fb (.int (k:Int)) [x0,x1, .sh (af U), .ow (F.map af), .sh (.int cell),x5,x6,x7]).bind fe=some ([x0,x1, .sh (af U), .ow ((F++O).map af), .sh (.int cell), .sh (.int (k:Int)),v,o], .nx)∧O.length≤1∧Drn U O:=by
  obtain ⟨v,hv⟩:=Cb cell k hk x0 x1 (.sh (af U)) (.ow (F.map af)) x6 x7
  have s3:=fR (i:=7) (DE v U hU x0 x1 (.ow (F.map af)) (.sh (.int cell)) (.sh (.int (k:Int))) x7) (show 7 < 8 by decide)
  have tg:fb (.int (k:Int)) [x0,x1, .sh (af U), .ow (F.map af), .sh (.int cell),x5,x6,x7]=some [x0,x1, .sh (af U), .ow (F.map af), .sh (.int cell), .sh (.int (k:Int)),x6,x7]:=rfl
  have c:=Cc (E:=[x0,x1, .sh (af U), .ow (F.map af), .sh (.int cell), .sh (.int (k:Int)), .sh (.int v), .sh (af (lM v U 0))]) (f:=aa 7) (u:=lM v U 0) rfl
  rw [tg,Option.bind_some,fe,hv,aB s3]
  by_cases h:lM v U 0=[]
  · rw [decide_eq_true h] at c
    exact ⟨[],_,_,by rw [List.append_nil];exact g9 c rfl,by simp,fun _ h=>by cases h⟩
  · rw [decide_eq_false h] at c
    have b1:F.length < 1000000:=by lia
    refine ⟨[lM v U 0], .sh (.int v), .sh (af (lM v U 0)),g_ c ?_,by simp,fun w hw=>?_⟩
    · show eU (cW 3 (aa 7)) [x0,x1, .sh (af U), .ow (F.map af), .sh (.int cell), .sh (.int (k:Int)), .sh (.int v), .sh (af (lM v U 0))]=_
      simp only [eU,cW,List.getElem?_cons_succ,List.getElem?_cons_zero,aa,frz,Option.bind_some,List.length_map,b1,List.set_cons_succ,List.set_cons_zero,if_true,Option.map_some,List.map_append,List.map_cons,List.map_nil]
    · rw [List.mem_singleton.mp hw]
      exact ⟨h,kR v U 0⟩
theorem AE (U:List Nat) (hU:U.length≤1000) (cell:Int) (x0 x1:Sl):∀(n lo:Nat) (F:List (List Nat)) (x5 x6 x7:Sl),lo+n≤100→F.length+n≤1000→∃(O:List (List Nat)) (a v o:Sl),bu fb fe (iq lo n) [x0,x1, .sh (af U), .ow (F.map af), .sh (.int cell),x5,x6,x7]=some ([x0,x1, .sh (af U), .ow ((F++O).map af), .sh (.int cell),a,v,o], .nx)∧O.length≤n∧Drn U O
  | 0,lo,F,x5,x6,x7,_,_=>⟨[],x5,x6,x7,by rw [List.append_nil];rfl,Nat.le_refl _,fun _ h=>by cases h⟩
  | n+1,lo,F,x5,x6,x7,h1,h2=>by
    obtain ⟨O,v,o,e,l,d⟩:=DF U hU cell lo (by exact Nat.le_trans (Nat.le_add_right _ _) ‹_›) x0 x1 x5 x6 x7 F (by exact Nat.le_trans (Nat.le_add_right _ _) ‹_›)
    obtain ⟨O2,a2,v2,o2,e2,l2,d2⟩:=AE U hU cell x0 x1 n (lo+1) (F++O) (.sh (.int (lo:Int))) v o (by lia) (by rw [List.length_append];lia)
    rw [show ((lo+1:Nat):Int)=(lo:Int)+1 by (solve_by_elim (maxDepth:=2) only [*,Nat.le_trans,Nat.lt_of_lt_of_le,Nat.lt_of_le_of_lt,Nat.le_of_lt])] at e2
    refine ⟨O++O2,a2,v2,o2,?_,by rw [List.length_append];lia,d.app d2⟩
    rw [iv,bu,e,←List.append_assoc]
    exact e2
theorem AF (U:List Nat) (hU:U.length≤1000) (x0 x1:Sl):∀(cs:List Int) (F:List (List Nat)) (x4 x5 x6 x7:Sl),F.length+3*cs.length≤1000→∃(O:List (List Nat)) (b a v o:Sl),bu fg di (cs.map .int) [x0,x1, .sh (af U), .ow (F.map af),x4,x5,x6,x7]=some ([x0,x1, .sh (af U), .ow ((F++O).map af),b,a,v,o], .nx)∧O.length≤3*cs.length∧Drn U O
  | [],F,x4,x5,x6,x7,_=>⟨[],x4,x5,x6,x7,by rw [List.append_nil];rfl,Nat.le_refl _,fun _ h=>by cases h⟩
  | c::cs,F,x4,x5,x6,x7,h=>by
    simp only [List.length_cons] at h
    have m0:=Int.emod_nonneg c (show (3:Int)≠0 by decide)
    have m1:=Int.emod_lt_of_pos c (show (0:Int) < 3 by decide)
    obtain ⟨n,hn⟩:∃n:Nat,1+c % 3=n:=⟨(1+c % 3).toNat,by lia⟩
    obtain ⟨O,a,v,o,e,l,d⟩:=AE U hU c x0 x1 n 0 F x5 x6 x7 (by lia) (by lia)
    have ad:ag aT false (pC (.int 1)) (ag eJ false (aa 4) (pC (.int 3))) [x0,x1, .sh (af U), .ow (F.map af), .sh (.int c),x5,x6,x7]=some (.sh (.int (1+c % 3)),[x0,x1, .sh (af U), .ow (F.map af), .sh (.int c),x5,x6,x7]):=hJ rfl (jw (f:=aa 4) (g:=pC (.int 3)) (y:=3) rfl rfl (by decide))
    have st:(fg (.int c) [x0,x1, .sh (af U), .ow (F.map af),x4,x5,x6,x7]).bind di=some ([x0,x1, .sh (af U), .ow ((F++O).map af), .sh (.int c),a,v,o], .nx):=by
      show di [x0,x1, .sh (af U), .ow (F.map af), .sh (.int c),x5,x6,x7]=_
      unfold di dm
      rw [nK ad hn (by lia),Option.bind_some]
      exact e
    obtain ⟨O2,b2,a2,v2,o2,e2,l2,d2⟩:=AF U hU x0 x1 cs (F++O) (.sh (.int c)) a v o (by rw [List.length_append];lia)
    refine ⟨O++O2,b2,a2,v2,o2,?_,by rw [List.length_append,List.length_cons];lia,d.app d2⟩
    rw [List.map_cons,bu,st,←List.append_assoc]
    exact e2
theorem rW {U:List Nat} (u:Uni U) (ns:List Int) (hl:ns.length≤63):∃O:List (List Nat),eB [.list (ns.map .int), .int 1,af U]=some (.ow ((NhFam.au (O++[U])).map af))∧Drn U O∧O.length≤192:=by
  have e0:=oZ ns 1
  have uu:=u.len
  obtain ⟨O,b,a,v,o,e,l,d⟩:=AF U (by lia) (.sh (.list (ns.map .int))) (.sh (.int 1)) (ns.getD 1 0::cutL ns (some (1+1)) (some (1+8))) [] .no .no .no .no (by have:=qP ns (some (1+1)) (some (1+8));simp only [List.length_nil,List.length_cons];lia)
  have lc:=qP ns (some ((1:Int)+1)) (some (1+8))
  have lb2:1+(cutL ns (some ((1:Int)+1)) (some (1+8))).length≤1000000:=by lia
  refine ⟨O,?_,d,by simp only [List.length_cons] at l;lia⟩
  have it:aO (ag aT false (cA (dI (ak bj (ae false (aa 0) (ae false (aa 1) aj))) cM)) (jb false (aa 0) (d4 (ag aT false (aa 1) (pC (.int 1)))) (d4 (ag aT false (aa 1) (pC (.int 8)))))) [.sh (.list (ns.map .int)), .sh (.int 1), .sh (af U), .ow [], .no, .no, .no, .no]=some ((ns.getD 1 0::cutL ns (some (1+1)) (some (1+8))).map .int,[.sh (.list (ns.map .int)), .sh (.int 1), .sh (af U), .ow [], .no, .no, .no, .no]):=by
    have e0':bj [.list (ns.map .int), .int 1]=some (.sh (.int (ns.getD 1 0))):=e0
    simp only [aO,ag,cA,dI,ak,ae,aa,List.getElem?_cons_zero,Sl.isBr,Bool.false_and,Bool.false_eq_true,aj,Option.map_some,if_false,Option.bind_some,List.getElem?_cons_succ,bQ,look,Sl.val,e0',frz,cM,List.length_cons,List.length_nil,Nat.zero_add,Nat.reduceLeDiff,if_true,jb,d4,pC,aT,gP,fG,Bool.not_false,Bool.true_or,Bool.and_true,mY,vg,Bool.or_true,List.length_map,lb2,decide_true,List.cons_append,List.nil_append,List.map_cons]
  have s1:aC 3 (cA cM) [.sh (.list (ns.map .int)), .sh (.int 1), .sh (af U), .no, .no, .no, .no, .no]=some ([.sh (.list (ns.map .int)), .sh (.int 1), .sh (af U), .ow [], .no, .no, .no, .no], .nx):=by
    unfold af
    simp only [aC,cA,cM,Option.bind_some,List.length_nil,Nat.reduceLeDiff,if_true,PL.settle,frz,frzAll,List.length_cons,Nat.zero_add,Nat.reduceAdd,Nat.reduceLT,List.set_cons_succ,List.set_cons_zero]
  rw [List.nil_append] at e
  have fo:dm (aO (ag aT false (cA (dI (ak bj (ae false (aa 0) (ae false (aa 1) aj))) cM)) (jb false (aa 0) (d4 (ag aT false (aa 1) (pC (.int 1)))) (d4 (ag aT false (aa 1) (pC (.int 8))))))) fg di [.sh (.list (ns.map .int)), .sh (.int 1), .sh (af U), .ow [], .no, .no, .no, .no]=some ([.sh (.list (ns.map .int)), .sh (.int 1), .sh (af U), .ow (O.map af),b,a,v,o], .nx):=by
    unfold dm
    rw [it,Option.bind_some]
    exact e
  have lO:O.length≤192:=by simp only [List.length_cons] at l;lia
  have lb3:O.length+1≤1000000:=by lia
  have p3:ag aT false (aa 3) (cA (dI (aa 2) cM)) [.sh (.list (ns.map .int)), .sh (.int 1), .sh (af U), .ow (O.map af),b,a,v,o]=some (.ow ((O++[U]).map af),[.sh (.list (ns.map .int)), .sh (.int 1), .sh (af U), .ow (O.map af),b,a,v,o]):=by
    simp only [ag,aa,List.getElem?_cons_succ,List.getElem?_cons_zero,Sl.isBr,Bool.false_and,Bool.false_eq_true,cA,dI,frz,cM,Option.map_some,aT,look,Sl.val,gP,fG,if_false,Option.bind_some,List.length_cons,List.length_nil,Nat.zero_add,Nat.reduceLeDiff,if_true,Option.any_some,Bool.not_false,Bool.true_or,Bool.and_true,List.length_map,lb3,decide_true,List.map_append,List.map_cons,List.map_nil]
  have pl:=iY u (F:=O++[U]) (fun w hw=>by
    rcases List.mem_append.mp hw with q | q
    · exact ⟨List.Pairwise.sublist (d w q).2 u.srt,fun x hx=>(d w q).2.subset hx⟩
    · rw [List.mem_singleton.mp q];exact ⟨u.srt,NhFam.le.refl U⟩) (by simp;lia)
  have c4:ak bb (ae false (ag aT false (aa 3) (cA (dI (aa 2) cM))) aj) [.sh (.list (ns.map .int)), .sh (.int 1), .sh (af U), .ow (O.map af),b,a,v,o]=some (.ow ((NhFam.au (O++[U])).map af),[.sh (.list (ns.map .int)), .sh (.int 1), .sh (af U), .ow (O.map af),b,a,v,o]):=aI (ss:=[.ow ((O++[U]).map af)]) (Dv p3) rfl pl
  have g:eB [.list (ns.map .int), .int 1,af U]=(g8 [.sh (.list (ns.map .int)), .sh (.int 1), .sh (af U), .no, .no, .no, .no, .no]).bind fun a=>match a.2 with | .rt r=>bV r | .nx=>some (.sh .none) | _=>none:=rfl
  have fl:=cK (NhFam.au (O++[U]))
  rw [g,g8,aB s1,aB fo]
  simp only [aN,c4,Option.map_some,Option.bind_some,bV,bJ,fl,if_true]
theorem yg (w:List Nat):(w.map fj).map PyData.str=w.map cw:=by rw [List.map_map];rfl
theorem vX {E:List Sl} {f:bq} {s:Sl} {w:List Nat} (hf:f E=some (s,E)) (hs:look E s=some (.list (w.map cw))) (h:∀y∈w,az y) (hl:w.length≤3900):dQ "" (dr f) E=some (.sh (af (av w)),E):=by
  have d:=kO fun y hy=>gH (h y hy)
  have d2:(w.map fj).length < 4000∧(jc (w.map fj)).length < 64:=⟨by rw [List.length_map];lia,Nat.lt_of_le_of_lt (qj fun y hy=>gH (h y hy)) (by decide)⟩
  have so:=nE w
  refine mI ?_ (lE w)
  unfold dr
  simp only [hf,Option.bind_some,hs,so,d2,and_self,if_true,d,yg]
theorem vY {E:List Sl} {f:bq} {w:List Nat} (hf:f E=some (.sh (af w),E)) (h:∀y∈w,az y) (hl:w.length≤3900):dQ "" (dr f) E=some (.sh (af (av w)),E):=by
  have d:=kO fun y hy=>gH (h y hy)
  have d2:(w.map fj).length < 4000∧(jc (w.map fj)).length < 64:=⟨by rw [List.length_map];lia,Nat.lt_of_le_of_lt (qj fun y hy=>gH (h y hy)) (by decide)⟩
  refine mI ?_ (lE w)
  unfold dr
  unfold af at hf
  simp only [hf,Option.bind_some,look,Sl.val,Ay,d2,and_self,if_true,d,yg]
def zT (cell:Int) (n:Nat):List Nat:=(List.range' 0 n).map (gk cell 3)
theorem uL (cell:Int):∀(n lo:Nat) (x:Sl),cB gO bA fQ (iq lo n) [x, .sh (.str "abcdefghijklmnopqrstuvwxyz"), .sh (.int cell)]=some (((List.range' lo n).map (gk cell 3)).map cw)
  | 0,lo,x=>rfl
  | n+1,lo,x=>by
    have e:=uL cell n (lo+1) (.sh (.int lo))
    have m:fA 3 (lo:Int)=true:=hW (by (solve_by_elim (maxDepth:=2) only [*,Nat.le_trans,Nat.lt_of_lt_of_le,Nat.lt_of_le_of_lt,Nat.le_of_lt])) (by (solve_by_elim (maxDepth:=2) only [*,Nat.le_trans,Nat.lt_of_lt_of_le,Nat.lt_of_le_of_lt,Nat.le_of_lt]))
    have s:fQ [.sh (.int lo), .sh (.str "abcdefghijklmnopqrstuvwxyz"), .sh (.int cell)]=some (.sh (cw (97+((cell+3*(lo:Int)) % 26).toNat)),[.sh (.int lo), .sh (.str "abcdefghijklmnopqrstuvwxyz"), .sh (.int cell)]):=by
      simp only [fQ,ag,aa,List.getElem?_cons_succ,List.getElem?_cons_zero,Sl.isBr,Bool.false_and,Bool.false_eq_true,pC,fq,look,Sl.val,gP,fG,if_false,Option.bind_some,Bool.not_false,Bool.true_or,Bool.and_true,aT,eJ,fT,mQ,mE,m,if_true,Int.reduceLT,decide_true,Option.map_some,xg,Do,cw]
    rw [Int.mul_comm 3] at s
    have t:gO (.int lo) [x, .sh (.str "abcdefghijklmnopqrstuvwxyz"), .sh (.int cell)]=some [.sh (.int lo), .sh (.str "abcdefghijklmnopqrstuvwxyz"), .sh (.int cell)]:=rfl
    rw [show ((lo+1:Nat):Int)=(lo:Int)+1 by (solve_by_elim (maxDepth:=2) only [*,Nat.le_trans,Nat.lt_of_lt_of_le,Nat.lt_of_le_of_lt,Nat.le_of_lt])] at e
    rw [iv,List.range'_succ,List.map_cons,List.map_cons]
    exact h7 t s e
theorem zU (cell:Int) (n:Nat):∀a∈zT cell n,az a:=fun a ha=>by
  obtain ⟨k,_,rfl⟩:=List.mem_map.mp ha
  exact pc cell 3 k
theorem yh (cell:Int) (n:Nat):(zT cell n).length=n:=by simp [zT]
theorem zV {α:Type} (P:List α) (i n:Nat) (h:i+n≤P.length):cutL P (some (i:Int)) (some ((i+n:Nat):Int))=(P.drop i).take n:=by
  have l1:(P.take i).length=i:=by rw [List.length_take];lia
  have l2:((P.drop i).take n).length=n:=by rw [List.length_take,List.length_drop];lia
  refine xi (a:=P.take i) (b:=(P.drop i).drop n) ?_ (by rw [l1]) (by rw [l1,l2];(solve_by_elim (maxDepth:=2) only [*,Nat.le_trans,Nat.lt_of_lt_of_le,Nat.lt_of_le_of_lt,Nat.le_of_lt]))
  rw [List.append_assoc,List.take_append_drop,List.take_append_drop]
theorem zW {E:List Sl} {f a b:bq} {j:Nat} {P:List Nat} {x y:Int} (hf:f E=some (.al j,E)) (hj:E[j]? =some (.ow (P.map cw))) (ha:a E=some (.sh (.int x),E)) (hb:b E=some (.sh (.int y),E)):jb false f (d4 a) (d4 b) E=some (.ow ((cutL P (some x) (some y)).map cw),E):=by
  simp only [jb,hf,Sl.isBr,Bool.false_and,Bool.false_eq_true,d4,look,Sl.val,gP,fG,if_false,Option.bind_some,ha,hb,hj,Option.any_some,Bool.not_false,mY,Bool.true_or,if_true]
theorem Cd (P:List Nat) (k m i n:Nat) (v:Int) (hk:k≤1000) (hi:(k:Int)*(m:Int)=(i:Int)) (hn:1+v % (m:Int)=(n:Int)) (m0:1≤m) (h:i+n≤P.length) (x0 x2 x4 x7:Sl):jb false (aa 3) (d4 (ag fq false (aa 5) (aa 1))) (d4 (ag aT false (ag aT false (ag fq false (aa 5) (aa 1)) (pC (.int 1))) (ag eJ false (aa 6) (aa 1)))) [x0, .sh (.int (m:Int)),x2, .ow (P.map cw),x4, .sh (.int (k:Int)), .sh (.int v),x7]=some (.ow (((P.drop i).take n).map cw),[x0, .sh (.int (m:Int)),x2, .ow (P.map cw),x4, .sh (.int (k:Int)), .sh (.int v),x7]):=by
  have mm:fA (k:Int) (m:Int)=true:=hW (by (solve_by_elim (maxDepth:=2) only [*,Nat.le_trans,Nat.lt_of_lt_of_le,Nat.lt_of_le_of_lt,Nat.le_of_lt])) (by omega)
  have a:=nD (g:=aa 5) (f:=aa 1) (E:=[x0, .sh (.int (m:Int)),x2, .ow (P.map cw),x4, .sh (.int (k:Int)), .sh (.int v),x7]) rfl rfl mm
  have b:=hJ (hJ (f:=pC (.int 1)) (y:=1) a rfl) (jw (f:=aa 6) (g:=aa 1) (E:=[x0, .sh (.int (m:Int)),x2, .ow (P.map cw),x4, .sh (.int (k:Int)), .sh (.int v),x7]) (x:=v) (y:=(m:Int)) rfl rfl (by omega))
  have e:(i:Int)+1+v % (m:Int)=((i+n:Nat):Int):=by omega
  rw [hi] at a
  rw [hi,e] at b
  have c:=zW (f:=aa 3) (j:=3) (P:=P) rfl rfl a b
  rw [zV P i n h] at c
  exact c
theorem Ce {E:List Sl} {f:bq} {j:Nat} {W:List Nat} (hf:f E=some (.al j,E)) (hj:E[j]? =some (.ow (W.map cw))):jb false f (d4 (pC (.int 1))) jM E=some (.ow ((W.drop 1).map cw),E):=by
  have c:=vh W (k:=1) (by decide)
  rw [show (1:Int).toNat=1 from rfl] at c
  simp only [jb,hf,Sl.isBr,Bool.false_and,Bool.false_eq_true,d4,pC,look,Sl.val,Option.bind_some,jM,gP,fG,if_false,hj,Option.any_some,Bool.not_false,mY,c,Bool.true_or,if_true]
theorem zX {E:List Sl} {f:bq} {j:Nat} {W:List Nat} (hf:f E=some (.al j,E)) (hj:E[j]? =some (.ow (W.map cw))) (hl:W.length≤1000000):bB d7 (ae false f aj) E=some (.sh (.int (W.length:Int)),E):=by
  simp only [bB,ae,hf,Sl.isBr,Bool.false_and,Bool.false_eq_true,aj,Option.map_some,if_false,Option.bind_some,d7,bQ,look,hj,Sl.val,List.length_map]
theorem Cf {E:List Sl} {f g:bq} {j:Nat} {W:List Nat} {n a:Nat} (hf:f E=some (.al j,E)) (hj:E[j]? =some (.ow (W.map cw))) (hg:g E=some (.sh (.int (n:Int)),E)) (hn:W[n]? =some a):ag mE false f g E=some (.sh (cw a),E):=by
  have q:atI (W.map cw) (n:Int)=some (cw a):=by rw [iu,List.getElem?_map,hn];rfl
  have fl:cV (cw a)=true:=rfl
  simp only [ag,hf,Sl.isBr,Bool.false_and,Bool.false_eq_true,mE,look,Sl.val,gP,fG,if_false,Option.bind_some,hg,hj,Option.any_some,q,Option.map_some]
theorem zY {E:List Sl} {f g:bq} {A B:List Nat} (hf:f E=some (.ow (A.map cw),E)) (hg:g E=some (.ow (B.map cw),E)) (hl:A.length+B.length≤1000000):ag aT false f g E=some (.ow ((A++B).map cw),E):=by
  simp only [ag,hf,Sl.isBr,Bool.false_and,Bool.false_eq_true,aT,look,Sl.val,gP,fG,if_false,Option.bind_some,hg,Bool.not_false,Bool.true_or,Bool.and_true,List.length_map,hl,decide_true,if_true,List.map_append]
theorem zZ {E:List Sl} {f:bq} {a:Nat} (hf:f E=some (.sh (cw a),E)):cA (dI f cM) E=some (.ow ([a].map cw),E):=by
  unfold cw at hf
  simp only [cA,dI,hf,frz,cM,Option.map_some,Option.bind_some,List.length_cons,List.length_nil,Nat.zero_add,Nat.reduceLeDiff,if_true,List.map_cons,cw,List.map_nil]
theorem yi (cell:Int) (m:Nat) (m0:1≤m) (m1:m≤100) (P:List Nat) (hP:P.length=2*m) (az':∀a∈P,az a) (k:Nat) (hk:k < 2) (x2 x5 x6 x7:Sl) (F:List (List Nat)) (hF:F.length≤1000):∃(w:List Nat) (v o:Sl),(dP (.int (k:Int)) [.sh (.int cell), .sh (.int (m:Int)),x2, .ow (P.map cw), .ow (F.map af),x5,x6,x7]).bind c_=some ([.sh (.int cell), .sh (.int (m:Int)),x2, .ow (P.map cw), .ow ((F++[av w]).map af), .sh (.int (k:Int)),v,o], .nx)∧w≠[]∧w.length≤m∧∀a∈w,az a:=by
  obtain ⟨v,ev⟩:=nC cell (50+k) (by lia)
  rw [show ((50+k:Nat):Int)=50+(k:Int) by (solve_by_elim (maxDepth:=2) only [*,Nat.le_trans,Nat.lt_of_lt_of_le,Nat.lt_of_le_of_lt,Nat.le_of_lt])] at ev
  have tg:dP (.int (k:Int)) [.sh (.int cell), .sh (.int (m:Int)),x2, .ow (P.map cw), .ow (F.map af),x5,x6,x7]=some [.sh (.int cell), .sh (.int (m:Int)),x2, .ow (P.map cw), .ow (F.map af), .sh (.int (k:Int)),x6,x7]:=rfl
  have ad:ag aT false (pC (.int 50)) (aa 5) [.sh (.int cell), .sh (.int (m:Int)),x2, .ow (P.map cw), .ow (F.map af), .sh (.int (k:Int)),x6,x7]=some (.sh (.int (50+(k:Int))),[.sh (.int cell), .sh (.int (m:Int)),x2, .ow (P.map cw), .ow (F.map af), .sh (.int (k:Int)),x6,x7]):=hJ rfl rfl
  have c6:ak bE (ae false (aa 0) (ae false (ag aT false (pC (.int 50)) (aa 5)) aj)) [.sh (.int cell), .sh (.int (m:Int)),x2, .ow (P.map cw), .ow (F.map af), .sh (.int (k:Int)),x6,x7]=some (.sh (.int v),[.sh (.int cell), .sh (.int (m:Int)),x2, .ow (P.map cw), .ow (F.map af), .sh (.int (k:Int)),x6,x7]):=aI (ss:=[.sh (.int cell), .sh (.int (50+(k:Int)))]) (Cn rfl ad) rfl ev
  have s6:aC 6 (ak bE (ae false (aa 0) (ae false (ag aT false (pC (.int 50)) (aa 5)) aj))) [.sh (.int cell), .sh (.int (m:Int)),x2, .ow (P.map cw), .ow (F.map af), .sh (.int (k:Int)),x6,x7]=some ([.sh (.int cell), .sh (.int (m:Int)),x2, .ow (P.map cw), .ow (F.map af), .sh (.int (k:Int)), .sh (.int v),x7], .nx):=fR c6 (show 6 < 8 by decide)
  have v0:=Int.emod_nonneg v (show (m:Int)≠0 by lia)
  have v1:=Int.emod_lt_of_pos v (show (0:Int) < (m:Int) by lia)
  obtain ⟨n,hn⟩:∃n:Nat,1+v % (m:Int)=(n:Int):=⟨(1+v % (m:Int)).toNat,by lia⟩
  have km:k*m≤m:=by
    rcases Nat.lt_or_ge k 1 with h | h
    · have:k=0:=by lia
      subst this
      lia
    · have:k=1:=by lia
      subst this
      lia
  have c7:=Cd P k m (k*m) n v (by lia) (by rw [Int.natCast_mul]) hn m0 (by lia) (.sh (.int cell)) x2 (.ow (F.map af)) x7
  have lW:((P.drop (k*m)).take n).length=n:=by rw [List.length_take,List.length_drop];omega
  have aW:∀a∈(P.drop (k*m)).take n,az a:=fun a ha=>az' a (List.mem_of_mem_drop (List.mem_of_mem_take ha))
  generalize (P.drop (k*m)).take n=W at c7 lW aW
  have s7:=iX (i:=7) c7 (show 7 < 8 by decide)
  simp only [List.set_cons_succ,List.set_cons_zero] at s7
  have fin:∀(w:List Nat) (o:Sl),w≠[]→w.length≤m→(∀a∈w,az a)→o= .ow (w.map cw)→eU (cW 4 (dQ "" (dr (aa 7)))) [.sh (.int cell), .sh (.int (m:Int)),x2, .ow (P.map cw), .ow (F.map af), .sh (.int (k:Int)), .sh (.int v),o]=some ([.sh (.int cell), .sh (.int (m:Int)),x2, .ow (P.map cw), .ow ((F++[av w]).map af), .sh (.int (k:Int)), .sh (.int v),o], .nx):=by
    intro w o _ lw aw ho
    subst ho
    have j:=vX (E:=[.sh (.int cell), .sh (.int (m:Int)),x2, .ow (P.map cw), .ow (F.map af), .sh (.int (k:Int)), .sh (.int v), .ow (w.map cw)]) (f:=aa 7) (s:= .al 7) rfl rfl aw (by omega)
    have b1:F.length < 1000000:=by omega
    generalize dQ "" (dr (aa 7))=f at j
    simp only [eU,cW,List.getElem?_cons_succ,List.getElem?_cons_zero,j,frz,Option.bind_some,List.length_map,b1,List.set_cons_succ,List.set_cons_zero,if_true,Option.map_some,List.map_append,List.map_cons,List.map_nil]
  have fd:=jI (E:=[.sh (.int cell), .sh (.int (m:Int)),x2, .ow (P.map cw), .ow (F.map af), .sh (.int (k:Int)), .sh (.int v), .ow (W.map cw)]) (f:=aa 6) (g:=pC (.int 11)) (x:=v) (y:=11) rfl rfl (by decide)
  have md:=jw fd (g:=pC (.int 2)) (y:=2) rfl (by decide)
  have eq:=rM md (g:=pC (.int 1)) (y:=1) rfl
  by_cases h:v / 11 % 2=1
  · rw [decide_eq_true h] at eq
    have l7:=zX (E:=[.sh (.int cell), .sh (.int (m:Int)),x2, .ow (P.map cw), .ow (F.map af), .sh (.int (k:Int)), .sh (.int v), .ow (W.map cw)]) (f:=aa 3) (j:=3) (W:=P) rfl rfl (by omega)
    have f22:=jI (E:=[.sh (.int cell), .sh (.int (m:Int)),x2, .ow (P.map cw), .ow (F.map af), .sh (.int (k:Int)), .sh (.int v), .ow (W.map cw)]) (f:=aa 6) (g:=pC (.int 22)) (x:=v) (y:=22) rfl rfl (by decide)
    have m22:=jw f22 l7 (by omega)
    have j0:=Int.emod_nonneg (v / 22) (show (P.length:Int)≠0 by omega)
    have j1:=Int.emod_lt_of_pos (v / 22) (show (0:Int) < (P.length:Int) by omega)
    obtain ⟨j,hj⟩:∃j:Nat,v / 22 % (P.length:Int)=(j:Int):=⟨(v / 22 % (P.length:Int)).toNat,by omega⟩
    rw [hj] at m22
    obtain ⟨a,ha⟩:∃a,P[j]? =some a:=⟨_,List.getElem?_eq_getElem (by omega)⟩
    have ix:=Cf (f:=aa 3) (j:=3) (W:=P) rfl rfl m22 ha
    have l1:=zZ ix
    have d1:=Ce (E:=[.sh (.int cell), .sh (.int (m:Int)),x2, .ow (P.map cw), .ow (F.map af), .sh (.int (k:Int)), .sh (.int v), .ow (W.map cw)]) (f:=aa 7) (j:=7) (W:=W) rfl rfl
    have dl:(W.drop 1).length=n - 1:=by rw [List.length_drop];omega
    have a7:=zY d1 l1 (by simp only [List.length_cons,List.length_nil];omega)
    have s8:=iX (i:=7) a7 (show 7 < 8 by decide)
    simp only [List.set_cons_succ,List.set_cons_zero] at s8
    have i8:=g_ eq (a:=aC 7 (ag aT false (jb false (aa 7) (d4 (pC (.int 1))) jM) (cA (dI (ag mE false (aa 3) (ag eJ false (ag bP false (aa 6) (pC (.int 22))) (bB d7 (ae false (aa 3) aj)))) cM)))) (b:=aV) s8
    refine ⟨W.drop 1++[a], .sh (.int v), .ow ((W.drop 1++[a]).map cw),?_,by simp,by simp only [List.length_append,List.length_cons,List.length_nil];omega,fun y hy=>?_⟩
    · rw [tg,Option.bind_some,c_,aB s6,aB s7,aB i8]
      exact fin _ _ (by simp) (by simp only [List.length_append,List.length_cons,List.length_nil];omega) (fun y hy=>by
        rcases List.mem_append.mp hy with q | q
        · exact aW y (List.mem_of_mem_drop q)
        · rw [List.mem_singleton.mp q];exact az' a (List.mem_of_getElem? ha)) rfl
    · rcases List.mem_append.mp hy with q | q
      · exact aW y (List.mem_of_mem_drop q)
      · rw [List.mem_singleton.mp q];exact az' a (List.mem_of_getElem? ha)
  · rw [decide_eq_false h] at eq
    have i8:=g9 eq (a:=aC 7 (ag aT false (jb false (aa 7) (d4 (pC (.int 1))) jM) (cA (dI (ag mE false (aa 3) (ag eJ false (ag bP false (aa 6) (pC (.int 22))) (bB d7 (ae false (aa 3) aj)))) cM)))) (b:=aV) (r:=some (_, .nx)) rfl
    have ne:W≠[]:=fun z=>by rw [z] at lW;simp at lW;omega
    refine ⟨W, .sh (.int v), .ow (W.map cw),?_,ne,by omega,aW⟩
    rw [tg,Option.bind_some,c_,aB s6,aB s7,aB i8]
    exact fin W _ ne (by omega) aW rfl
theorem tB (cell:Int) (m:Nat) (m0:1≤m) (m1:m≤5):∃w1 w2:List Nat,eG [.int cell, .int (m:Int)]=some (.ow ((NhFam.au [av w1,av w2]).map af))∧(w1≠[]∧w1.length≤m∧∀a∈w1,az a)∧(w2≠[]∧w2.length≤m∧∀a∈w2,az a):=by
  have s2:aC 2 (pC (.str "abcdefghijklmnopqrstuvwxyz")) [.sh (.int cell), .sh (.int (m:Int)), .no, .no, .no, .no, .no, .no]=some ([.sh (.int cell), .sh (.int (m:Int)), .sh (.str "abcdefghijklmnopqrstuvwxyz"), .no, .no, .no, .no, .no], .nx):=rfl
  have mu:=nD (g:=pC (.int 2)) (f:=aa 1) (x:=2) (y:=(m:Int)) (E:=[.sh (.int cell), .sh (.int (m:Int)), .sh (.str "abcdefghijklmnopqrstuvwxyz"), .no, .no, .no, .no, .no]) rfl rfl (hW (by decide) (by decide))
  have r3:=nK (c:=2*m) mu (by omega) (by omega)
  have e3:=uL cell (2*m) 0 .no
  simp only [Int.natCast_zero] at e3
  have p3:=fS (js:=[none,some 2,some 0]) r3 e3 (ju _) (by simp;omega)
  have s3:=iX (i:=3) p3 (show 3 < 8 by decide)
  simp only [List.set_cons_succ,List.set_cons_zero] at s3
  have lP:=yh cell (2*m)
  have aP:=zU cell (2*m)
  unfold zT at lP aP
  generalize (List.range' 0 (2*m)).map (gk cell 3)=P at s3 lP aP
  have s4:aC 4 (cA cM) [.sh (.int cell), .sh (.int (m:Int)), .sh (.str "abcdefghijklmnopqrstuvwxyz"), .ow (P.map cw), .no, .no, .no, .no]=some ([.sh (.int cell), .sh (.int (m:Int)), .sh (.str "abcdefghijklmnopqrstuvwxyz"), .ow (P.map cw), .ow ([].map af), .no, .no, .no], .nx):=by
    simp only [aC,cA,cM,Option.bind_some,List.length_nil,Nat.reduceLeDiff,if_true,PL.settle,frz,frzAll,List.length_cons,Nat.zero_add,Nat.reduceAdd,Nat.reduceLT,List.set_cons_succ,List.set_cons_zero,List.map_nil]
  obtain ⟨w1,v1,o1,e1,g1⟩:=yi cell m m0 (by omega) P lP aP 0 (by decide) (.sh (.str "abcdefghijklmnopqrstuvwxyz")) .no .no .no [] (by simp)
  obtain ⟨w2,v2,o2,e2,g2⟩:=yi cell m m0 (by omega) P lP aP 1 (by decide) (.sh (.str "abcdefghijklmnopqrstuvwxyz")) (.sh (.int ((0:Nat):Int))) v1 o1 ([]++[av w1]) (by simp)
  refine ⟨w1,w2,?_,g1,g2⟩
  have lo:bu dP c_ (iq 0 2) [.sh (.int cell), .sh (.int (m:Int)), .sh (.str "abcdefghijklmnopqrstuvwxyz"), .ow (P.map cw), .ow ([].map af), .no, .no, .no]=some ([.sh (.int cell), .sh (.int (m:Int)), .sh (.str "abcdefghijklmnopqrstuvwxyz"), .ow (P.map cw), .ow ([av w1,av w2].map af), .sh (.int ((1:Nat):Int)),v2,o2], .nx):=by
    have z:iq 0 2=[PyData.int ((0:Nat):Int),PyData.int ((1:Nat):Int)]:=rfl
    rw [z,bu,e1]
    show bu dP c_ [PyData.int ((1:Nat):Int)] _=_
    rw [bu,e2]
    rfl
  have it2:f_ (ae false (pC (.int 2)) aj) [.sh (.int cell), .sh (.int (m:Int)), .sh (.str "abcdefghijklmnopqrstuvwxyz"), .ow (P.map cw), .ow ([].map af), .no, .no, .no]=some (iq 0 2,[.sh (.int cell), .sh (.int (m:Int)), .sh (.str "abcdefghijklmnopqrstuvwxyz"), .ow (P.map cw), .ow ([].map af), .no, .no, .no]):=nK (c:=2) (f:=pC (.int 2)) (z:=2) rfl rfl (by decide)
  have fo:dm (f_ (ae false (pC (.int 2)) aj)) dP c_ [.sh (.int cell), .sh (.int (m:Int)), .sh (.str "abcdefghijklmnopqrstuvwxyz"), .ow (P.map cw), .ow ([].map af), .no, .no, .no]=some ([.sh (.int cell), .sh (.int (m:Int)), .sh (.str "abcdefghijklmnopqrstuvwxyz"), .ow (P.map cw), .ow ([av w1,av w2].map af), .sh (.int ((1:Nat):Int)),v2,o2], .nx):=by
    unfold dm
    rw [it2,Option.bind_some]
    exact lo
  have uni:Uni (av (w1++w2)):=⟨bH _,fun a ha=>by
    rcases List.mem_append.mp (inOrd_mem.mp ha).2 with q | q
    · exact g1.2.2 a q
    · exact g2.2.2 a q,by
    have l:=(NhFam.eK (bH (w1++w2)) (bH (w1++w2)) (NhFam.le.refl _)).length_le
    have nd:(av (w1++w2)).Nodup:=(bH _).nodup
    have:=nd.length_le_of_subset (l₂:=w1++w2) (fun x hx=>(inOrd_mem.mp hx).2)
    rw [List.length_append] at this
    omega⟩
  have sub:∀v∈[av w1,av w2],NhFam.Sub (av (w1++w2)) v:=fun v hv=>by
    rcases List.mem_cons.mp hv with q | q
    · subst q
      exact ⟨bH _,fun x hx=>inOrd_mem.mpr ⟨(inOrd_mem.mp hx).1,List.mem_append.mpr (.inl (inOrd_mem.mp hx).2)⟩⟩
    · rw [List.mem_singleton.mp q]
      exact ⟨bH _,fun x hx=>inOrd_mem.mpr ⟨(inOrd_mem.mp hx).1,List.mem_append.mpr (.inr (inOrd_mem.mp hx).2)⟩⟩
  have pl:=iY uni sub (by simp)
  have c5:ak bb (ae false (aa 4) aj) [.sh (.int cell), .sh (.int (m:Int)), .sh (.str "abcdefghijklmnopqrstuvwxyz"), .ow (P.map cw), .ow ([av w1,av w2].map af), .sh (.int ((1:Nat):Int)),v2,o2]=some (.ow ((NhFam.au [av w1,av w2]).map af),[.sh (.int cell), .sh (.int (m:Int)), .sh (.str "abcdefghijklmnopqrstuvwxyz"), .ow (P.map cw), .ow ([av w1,av w2].map af), .sh (.int ((1:Nat):Int)),v2,o2]):=aI (ss:=[.al 4]) rfl rfl pl
  have g:eG [.int cell, .int (m:Int)]=(iE [.sh (.int cell), .sh (.int (m:Int)), .no, .no, .no, .no, .no, .no]).bind fun a=>match a.2 with | .rt r=>bV r | .nx=>some (.sh .none) | _=>none:=rfl
  have fl:=cK (NhFam.au [av w1,av w2])
  rw [g,iE,aB s2,aB s3]
  rw [aB s4,aB fo]
  simp only [aN,c5,Option.map_some,Option.bind_some,bV,bJ,fl,if_true]
theorem uM (f:List Nat→Nat):∀(L M:List (List Nat)),L.Nodup→(∀w∈L,w∈M)→(L.map f).sum≤(M.map f).sum
  | [],M,_,_=>Nat.zero_le _
  | a::L,M,n,h=>by
    have ha:=h a (List.mem_cons_self ..)
    have p:=(List.perm_cons_erase ha).map f
    have e:(M.map f).sum=f a+((M.erase a).map f).sum:=by
      rw [p.sum_nat,List.map_cons,List.sum_cons]
    have ih:=uM f L (M.erase a) (List.nodup_cons.mp n).2 fun w hw=>(List.mem_erase_of_ne fun z=>(List.nodup_cons.mp n).1 (by rw [←z];exact hw)).mpr (h w (List.mem_cons_of_mem _ hw))
    rw [List.map_cons,List.sum_cons,e]
    omega
theorem rX:∀(U:List Nat) (acc:List (List Nat)),(U.foldl (fun acc a=>acc++acc.map (· ++[a])) acc).map List.length=U.foldl (fun (acc:List Nat) _=>acc++acc.map (· +1)) (acc.map List.length)
  | [],acc=>rfl
  | a::U,acc=>by
    rw [List.foldl_cons,List.foldl_cons,rX U]
    congr 1
    rw [List.map_append,List.map_map,List.map_map]
    congr 1
    exact List.map_congr_left fun w _=>by simp
theorem z_ {U:List Nat} (h:U.length≤6):((NhFam.fV U).map sz).sum≤800:=by
  have e:(NhFam.fV U).map sz=((NhFam.fV U).map List.length).map (qm 8):=by rw [List.map_map];rfl
  rw [e,NhFam.fV,rX]
  rcases U with _ | ⟨a,_ | ⟨b,_ | ⟨c,_ | ⟨d,_ | ⟨f,_ | ⟨g,_ | ⟨i,U⟩⟩⟩⟩⟩⟩⟩
  all_goals first | decide | (simp only [List.foldl_cons,List.foldl_nil];decide) | (simp at h)
theorem kf {U:List Nat} {L:List (List Nat)} {f:List Nat→Prop} (t:NhFam.Told U L f):L.Nodup:=NhFam.jE t.srt
theorem Aa {U:List Nat} {L:List (List Nat)} (r:Rul U L) (h:U.length≤6):((mt L).map sz).sum≤800:=Nat.le_trans (uM sz (mt L) (NhFam.fV U) (kf r.meet) fun w hw=>(NhFam.iC r.u.srt).mpr (r.meet.sub w hw)) (z_ h)
theorem Cg {w:List Nat} (h:w.length≤2):sz w≤4:=by
  unfold sz
  have k:∀n,n≤2→qm 8 n≤4:=by decide
  exact k _ h
theorem vZ (x y:Nat):(av [x,y]).length≤2:=by
  have:=(bH [x,y]).nodup.length_le_of_subset (l₂:=[x,y]) (fun z hz=>(inOrd_mem.mp hz).2)
  simpa using this
def DN (U:List Nat):List (List Nat):=U.flatMap fun x=>U.map fun y=>av [x,y]
theorem Ab (U:List Nat):(DN U).length=U.length*U.length:=by
  unfold DN
  rw [List.length_flatMap]
  have:(U.map fun x=>(U.map fun y=>av [x,y]).length)=U.map fun _=>U.length:=List.map_congr_left fun x _=>by rw [List.length_map]
  rw [this,List.map_const',List.sum_replicate_nat]
theorem yj {U A B:List Nat} {L:List (List Nat)} (r:Rul U L) (h:∀v∈L,v=A∨v=B) (hA:A∈L) (hB:B∈L):∀w∈mt L,w∈DN U:=fun w hw=>by
  obtain ⟨sw,fw,mw⟩:=(r.meet.mem w).mp hw
  obtain ⟨x,xA,xw⟩:=fw A hA
  obtain ⟨y,yB,yw⟩:=fw B hB
  have xU:=sw.2 x xw
  have yU:=sw.2 y yw
  have rg:∀z∈([x,y]:List Nat),z∈av [x,y]:=fun z hz=>inOrd_mem.mpr ⟨gH (r.u.lt z (by
    rcases List.mem_cons.mp hz with q | q
    · rw [q];exact xU
    · rw [List.mem_singleton.mp q];exact yU)),hz⟩
  have le_:∀V:List Nat,x∈V→y∈V→NhFam.le (av [x,y]) V:=fun V a b z hz=>by
    rcases List.mem_cons.mp (inOrd_mem.mp hz).2 with q | q
    · rw [q];exact a
    · rw [List.mem_singleton.mp q];exact b
  have e:av [x,y]=w:=mw _ ⟨bH _,le_ U xU yU⟩ (fun v hv=>by
    rcases h v hv with q | q
    · exact ⟨x,by rw [q];exact xA,rg x (by simp)⟩
    · exact ⟨y,by rw [q];exact yB,rg y (by simp)⟩) (le_ w xw yw)
  rw [←e]
  exact List.mem_flatMap.mpr ⟨x,xU,List.mem_map.mpr ⟨y,yU,rfl⟩⟩
theorem yk (f:List Nat→Nat) (k:Nat):∀L:List (List Nat),(∀w∈L,f w≤k)→(L.map f).sum≤k*L.length
  | [],_=>Nat.zero_le _
  | a::L,h=>by
    have:=yk f k L fun w hw=>h w (List.mem_cons_of_mem _ hw)
    have:=h a (List.mem_cons_self ..)
    rw [List.map_cons,List.sum_cons,List.length_cons,Nat.mul_succ]
    omega
theorem Ac {U:List Nat} {L:List (List Nat)} (r:Rul U L) (h:L.length≤2):((mt L).map sz).sum≤800:=by
  obtain ⟨A,B,hL,hA,hB⟩:∃A B,(∀v∈L,v=A∨v=B)∧A∈L∧B∈L:=by
    have:=r.nil
    rcases L with _ | ⟨A,_ | ⟨B,_ | ⟨C,L⟩⟩⟩
    · exact absurd rfl this
    · exact ⟨A,A,fun v hv=> .inl (List.mem_singleton.mp hv),by simp,by simp⟩
    · exact ⟨A,B,fun v hv=>by simpa using hv,by simp,by simp⟩
    · simp at h
  have pr:=yj r hL hA hB
  have ln:=lI (mt L) (DN U) (kf r.meet) pr
  rw [Ab] at ln
  have uu:=r.u.len
  have m:=Nat.mul_le_mul uu uu
  have:=yk sz 4 (mt L) fun w hw=>by
    obtain ⟨x,_,hx⟩:=List.mem_flatMap.mp (pr w hw)
    obtain ⟨y,_,rfl⟩:=List.mem_map.mp hx
    exact Cg (vZ x y)
  omega
theorem Rul.of {U:List Nat} {F:List (List Nat)} (u:Uni U) (hF:∀v∈F,NhFam.Sub U v) (ne:∀v∈F,v≠[]) (n0:F≠[]) (hl:(NhFam.au F).length≤190):Rul U (NhFam.au F):=by
  have t:=NhFam.d9 hF
  have inF:∀v∈NhFam.au F,v∈F:=fun v hv=>((NhFam.qe hF).mp ((t.mem v).mp hv)).1
  refine ⟨u,⟨fun v hv=>(t.sub v hv).2,fun v hv=>by have:=u.short (t.sub v hv);omega,hl⟩,t.sub,tm t (NhFam.qd U F),fun v hv=>ne v (inF v hv),fun z=>?_⟩
  obtain ⟨w,hw⟩:=List.exists_mem_of_ne_nil F n0
  have:=(t.up_iff (NhFam.qd U F) (hF w hw)).mpr ⟨w,hw,NhFam.le.refl w⟩
  obtain ⟨v,hv,_⟩:=this
  rw [z] at hv
  cases hv
theorem Rul.shrink {U:List Nat} {L:List (List Nat)} (r:Rul U L):Rul (av L.flatten) L:=by
  have le_:∀v∈L,NhFam.le v (av L.flatten):=fun v hv x hx=>inOrd_mem.mpr ⟨gH (r.u.azw (r.sub v hv) x hx),List.mem_flatten.mpr ⟨v,hv,hx⟩⟩
  exact ⟨r.u.small (lH r.u r.w),⟨le_,r.w.tl,r.w.len⟩,fun v hv=>⟨(r.sub v hv).1,le_ v hv⟩,r.least,r.ne,r.nil⟩
theorem ym {E:List Sl} {f:bq} {s:Sl} {L:List (List Nat)} (hf:f E=some (s,E)) (hs:look E s=some (.list (L.map af))) (hl:L.flatten.length≤1000000):dQ "" f E=some (.sh (af L.flatten),E):=by
  have so:=lG L
  have l:=rP L
  simp only [dQ,kj,oF,hf,Option.bind_some,hs,so,l,hl,if_true,Option.map_some,uw,af]
theorem qu (ns:List Int) (k:Nat) (E:List Sl) (hE:E[0]? =some (.sh (.list (ns.map .int)))):ak bj (ae false (aa 0) (ae false (pC (.int (k:Int))) aj)) E=some (.sh (.int (ns.getD k 0)),E):=by
  have v0:aa 0 E=some (.sh (.list (ns.map .int)),E):=by simp only [aa,hE,Option.bind_some]
  exact aI (ss:=[.sh (.list (ns.map .int)), .sh (.int (k:Int))]) (Cn v0 rfl) rfl (oZ ns k)
structure Rdy (U:List Nat) (L:List (List Nat)):Prop where
  r:Rul U L
  h8:((mt L).map sz).sum≤800
abbrev Eu:dH:=aC 1 (ak dO (ae false (ak bj (ae false (aa 0) (ae false (pC (.int 0)) aj))) (ae false (pC (.int 6)) aj)))
abbrev Ev:dH:=aC 2 (ak eB (ae false (aa 0) (ae false (pC (.int 1)) (ae false (aa 1) aj))))
abbrev DO:dH:=ca (eI (ag i5 false (ag eJ false (ag bP false (ak bj (ae false (aa 0) (ae false (pC (.int 0)) aj))) (pC (.int 3))) (pC (.int 8))) (pC (.int 5)))) (aG (aC 2 (ak eG (ae false (ak bj (ae false (aa 0) (ae false (pC (.int 1)) aj))) (ae false (pC (.int 5)) aj)))) (aC 1 (dQ "" (dr (dQ "" (aa 2)))))) aV
theorem DG (ns:List Int) (hl:ns.length≤63):∃U L,Rdy U L∧∀r:dH,aG Eu (aG Ev (aG DO r)) [.sh (.list (ns.map .int)), .no, .no, .no, .no, .no, .no]=r [.sh (.list (ns.map .int)), .sh (af U), .ow (L.map af), .no, .no, .no, .no]:=by
  have a0:=qu ns 0 [.sh (.list (ns.map .int)), .no, .no, .no, .no, .no, .no] rfl
  obtain ⟨U0,e0,u0,n1,n6⟩:=qr (ns.getD 0 0)
  have s0:Eu [.sh (.list (ns.map .int)), .no, .no, .no, .no, .no, .no]=some ([.sh (.list (ns.map .int)), .sh (af U0), .no, .no, .no, .no, .no], .nx):=fR (i:=1) (aI (ss:=[.sh (.int (ns.getD 0 0)), .sh (.int 6)]) (Cn a0 rfl) rfl e0) (show 1 < 7 by decide)
  obtain ⟨O,e1,d1,l1⟩:=rW u0 ns hl
  have a1:ae false (aa 0) (ae false (pC (.int 1)) (ae false (aa 1) aj)) [.sh (.list (ns.map .int)), .sh (af U0), .no, .no, .no, .no, .no]=some ([.sh (.list (ns.map .int)), .sh (.int 1), .sh (af U0)],[.sh (.list (ns.map .int)), .sh (af U0), .no, .no, .no, .no, .no]):=rfl
  have s1:Ev [.sh (.list (ns.map .int)), .sh (af U0), .no, .no, .no, .no, .no]=some ([.sh (.list (ns.map .int)), .sh (af U0), .ow ((NhFam.au (O++[U0])).map af), .no, .no, .no, .no], .nx):=iX (i:=2) (aI a1 rfl e1) (show 2 < 7 by decide)
  have a2:=qu ns 0 [.sh (.list (ns.map .int)), .sh (af U0), .ow ((NhFam.au (O++[U0])).map af), .no, .no, .no, .no] rfl
  have c2:=rM (jw (jI a2 (g:=pC (.int 3)) (y:=3) rfl (by decide)) (g:=pC (.int 8)) (y:=8) rfl (by decide)) (g:=pC (.int 5)) (y:=5) rfl
  by_cases h:ns.getD 0 0 / 3 % 8=5
  · rw [decide_eq_true h] at c2
    obtain ⟨w1,w2,e3,g1,g2⟩:=tB (ns.getD 1 0) 5 (by decide) (by decide)
    have a3:=qu ns 1 [.sh (.list (ns.map .int)), .sh (af U0), .ow ((NhFam.au (O++[U0])).map af), .no, .no, .no, .no] rfl
    have s3:aC 2 (ak eG (ae false (ak bj (ae false (aa 0) (ae false (pC (.int 1)) aj))) (ae false (pC (.int 5)) aj))) [.sh (.list (ns.map .int)), .sh (af U0), .ow ((NhFam.au (O++[U0])).map af), .no, .no, .no, .no]=some ([.sh (.list (ns.map .int)), .sh (af U0), .ow ((NhFam.au [av w1,av w2]).map af), .no, .no, .no, .no], .nx):=iX (i:=2) (aI (ss:=[.sh (.int (ns.getD 1 0)), .sh (.int ((5:Nat):Int))]) (Cn a3 rfl) rfl e3) (show 2 < 7 by decide)
    have uni:Uni (av (w1++w2)):=⟨bH _,fun a ha=>by
      rcases List.mem_append.mp (inOrd_mem.mp ha).2 with q | q
      · exact g1.2.2 a q
      · exact g2.2.2 a q,by
      have:=(bH (w1++w2)).nodup.length_le_of_subset (l₂:=w1++w2) (fun x hx=>(inOrd_mem.mp hx).2)
      have:=g1.2.1
      have:=g2.2.1
      simp only [List.length_append] at *
      omega⟩
    have sub:∀v∈[av w1,av w2],NhFam.Sub (av (w1++w2)) v:=fun v hv=>by
      rcases List.mem_cons.mp hv with q | q
      · subst q
        exact ⟨bH _,fun x hx=>inOrd_mem.mpr ⟨(inOrd_mem.mp hx).1,List.mem_append.mpr (.inl (inOrd_mem.mp hx).2)⟩⟩
      · rw [List.mem_singleton.mp q]
        exact ⟨bH _,fun x hx=>inOrd_mem.mpr ⟨(inOrd_mem.mp hx).1,List.mem_append.mpr (.inr (inOrd_mem.mp hx).2)⟩⟩
    have nn:∀w:List Nat,w≠[]→(∀a∈w,az a)→av w≠[]:=fun w hw ha z=>by
      obtain ⟨a,ia⟩:=List.exists_mem_of_ne_nil w hw
      have:a∈av w:=inOrd_mem.mpr ⟨gH (ha a ia),ia⟩
      rw [z] at this
      cases this
    have ll:(NhFam.au [av w1,av w2]).length≤2:=by
      have:=kQ (NhFam.hZ [av w1,av w2]) []
      have e:(NhFam.hZ [av w1,av w2]).length=2:=(List.mergeSort_perm _ _).length_eq
      unfold NhFam.au
      simp only [List.length_nil] at this
      omega
    have r0:=Rul.of uni sub (fun v hv=>by
      rcases List.mem_cons.mp hv with q | q
      · rw [q];exact nn w1 g1.1 g1.2.2
      · rw [List.mem_singleton.mp q];exact nn w2 g2.1 g2.2.2) (by simp) (by omega)
    have r:=r0.shrink
    generalize NhFam.au [av w1,av w2]=L at s3 ll r
    have fl:L.flatten.length≤L.length*20:=rQ r.w.tl
    have azF:∀y∈L.flatten,az y:=fun y hy=>by
      obtain ⟨v,hv,hy⟩:=List.mem_flatten.mp hy
      exact r.u.azw (r.sub v hv) y hy
    have j1:=ym (E:=[.sh (.list (ns.map .int)), .sh (af U0), .ow (L.map af), .no, .no, .no, .no]) (f:=aa 2) (s:= .al 2) (L:=L) rfl rfl (by omega)
    have s4:aC 1 (dQ "" (dr (dQ "" (aa 2)))) [.sh (.list (ns.map .int)), .sh (af U0), .ow (L.map af), .no, .no, .no, .no]=some ([.sh (.list (ns.map .int)), .sh (af (av L.flatten)), .ow (L.map af), .no, .no, .no, .no], .nx):=fR (i:=1) (vY j1 azF (by omega)) (show 1 < 7 by decide)
    have s2:DO [.sh (.list (ns.map .int)), .sh (af U0), .ow ((NhFam.au (O++[U0])).map af), .no, .no, .no, .no]=some ([.sh (.list (ns.map .int)), .sh (af (av L.flatten)), .ow (L.map af), .no, .no, .no, .no], .nx):=g_ c2 (by rw [aB s3];exact s4)
    exact ⟨av L.flatten,L,⟨r,Ac r ll⟩,fun q=>by rw [aB s0,aB s1,aB s2]⟩
  · rw [decide_eq_false h] at c2
    have s2:DO [.sh (.list (ns.map .int)), .sh (af U0), .ow ((NhFam.au (O++[U0])).map af), .no, .no, .no, .no]=some ([.sh (.list (ns.map .int)), .sh (af U0), .ow ((NhFam.au (O++[U0])).map af), .no, .no, .no, .no], .nx):=g9 c2 rfl
    have sub:∀w∈O++[U0],NhFam.Sub U0 w:=fun w hw=>by
      rcases List.mem_append.mp hw with q | q
      · exact ⟨List.Pairwise.sublist (d1 w q).2 u0.srt,fun x hx=>(d1 w q).2.subset hx⟩
      · rw [List.mem_singleton.mp q];exact ⟨u0.srt,NhFam.le.refl U0⟩
    have t:=NhFam.d9 sub
    have cnt:=lI _ (NhFam.fV U0) (kf t) fun w hw=>(NhFam.iC u0.srt).mpr (t.sub w hw)
    rw [NhFam.nu] at cnt
    have p6:2 ^ U0.length≤2 ^ 6:=Nat.pow_le_pow_right (by decide) n6
    have r:=Rul.of u0 sub (fun v hv=>by
      rcases List.mem_append.mp hv with q | q
      · exact (d1 v q).1
      · rw [List.mem_singleton.mp q];intro z;rw [z] at n1;simp at n1) (by simp) (by omega)
    exact ⟨U0,_,⟨r,Aa r n6⟩,fun q=>by rw [aB s0,aB s1,aB s2]⟩
theorem Ad {E:List Sl} {f:bq} {j:Nat} {L:List (List Nat)} (hf:f E=some (.al j,E)) (hj:E[j]? =some (.ow (L.map af))) (hl:L.length≤1000000):kZ f E=some (.ow (L.map af),E):=by
  have fl:=cK L
  simp only [kZ,hf,look,Sl.val,gP,fG,Option.bind_some,hj,Option.any_some,Bool.not_false,fl,Bool.or_true,if_true]
theorem v5:rC=aG Eu (aG Ev (aG DO (aG (aC 3 (kZ (aa 2))) (aG (aC 4 (ak aF (ae false (aa 3) aj))) (aG (aC 5 (bB pP (ae false (bn [none] (aO (ak bF (ae false (aa 2) (ae false (aa 1) aj)))) jt bA iF) aj))) (aG (ca (j4 (fB (eW (kj (ie .int) (aa 4)))) (j4 (eW (kj (ie .bool) (aa 4))) (j4 (eI (ag qK false (aa 4) (aa 5))) (eI (ag qK false (aa 3) (aa 2)))))) (aN (pC (.bool false))) aV) (aG (aC 6 (ak dN (ae false (aa 3) aj))) (aN (kl (kj (ie .list) (aa 6)) (kl (ag i5 false (bB d7 (ae false (aa 6) aj)) (aa 5)) (ag i5 false (aa 3) (aa 2)))))))))))):=rfl
theorem Ci (ns:List Int) (hl:ns.length≤63):ka [.list (ns.map .int)]=some (.sh (.bool true)):=by
  obtain ⟨U,L,⟨r,h8⟩,st⟩:=DG ns hl
  have ll:=r.w.len
  have az':∀w∈L,∀a∈w,az a:=fun w hw=>r.u.azw (r.sub w hw)
  have lm:=nJ r.u r.meet
  have s3:aC 3 (kZ (aa 2)) [.sh (.list (ns.map .int)), .sh (af U), .ow (L.map af), .no, .no, .no, .no]=some ([.sh (.list (ns.map .int)), .sh (af U), .ow (L.map af), .ow (L.map af), .no, .no, .no], .nx):=iX (i:=3) (Ad (j:=2) rfl rfl (by omega)) (show 3 < 7 by decide)
  generalize hS:((((mt L).map sz).sum:Nat):Int)=S
  have s4:aC 4 (ak aF (ae false (aa 3) aj)) [.sh (.list (ns.map .int)), .sh (af U), .ow (L.map af), .ow (L.map af), .no, .no, .no]=some ([.sh (.list (ns.map .int)), .sh (af U), .ow (L.map af), .ow (L.map af), .sh (.int S), .no, .no], .nx):=by
    rw [←hS]
    have c4:ak aF (ae false (aa 3) aj) [.sh (.list (ns.map .int)), .sh (af U), .ow (L.map af), .ow (L.map af), .no, .no, .no]=some (.sh (.int ((((mt L).map sz).sum:Nat):Int)),[.sh (.list (ns.map .int)), .sh (af U), .ow (L.map af), .ow (L.map af), .no, .no, .no]):=aI (ss:=[.al 3]) rfl rfl (o8 r)
    exact fR (i:=4) c4 (show 4 < 7 by decide)
  have c5:ak bF (ae false (aa 2) (ae false (aa 1) aj)) [.sh (.list (ns.map .int)), .sh (af U), .ow (L.map af), .ow (L.map af), .sh (.int S), .no, .no]=some (.ow ((mt L).map af),[.sh (.list (ns.map .int)), .sh (af U), .ow (L.map af), .ow (L.map af), .sh (.int S), .no, .no]):=aI (ss:=[.al 2, .sh (af U)]) rfl rfl (nR r)
  have s5:aC 5 (bB pP (ae false (bn [none] (aO (ak bF (ae false (aa 2) (ae false (aa 1) aj)))) jt bA iF) aj)) [.sh (.list (ns.map .int)), .sh (af U), .ow (L.map af), .ow (L.map af), .sh (.int S), .no, .no]=some ([.sh (.list (ns.map .int)), .sh (af U), .ow (L.map af), .ow (L.map af), .sh (.int S), .sh (.int S), .no], .nx):=by
    have:=x8 (x9 c5) (rS (mt L) .no r.few) (by unfold mt;omega)
    rw [hS] at this
    exact fR (i:=5) this (show 5 < 7 by decide)
  have n6:=AA (L:=L) (E:=[.sh (.list (ns.map .int)), .sh (af U), .ow (L.map af), .ow (L.map af), .sh (.int S), .sh (.int S), .no]) (f:=aa 3) (g:=aa 2) (s1:= .al 3) (s2:= .al 2) rfl rfl rfl rfl az'
  have i6:eI (ag qK false (aa 4) (aa 5)) [.sh (.list (ns.map .int)), .sh (af U), .ow (L.map af), .ow (L.map af), .sh (.int S), .sh (.int S), .no]=some (false,[.sh (.list (ns.map .int)), .sh (af U), .ow (L.map af), .ow (L.map af), .sh (.int S), .sh (.int S), .no]):=by
    simp only [eI,ag,aa,List.getElem?_cons_succ,List.getElem?_cons_zero,Sl.isBr,Bool.false_and,Bool.false_eq_true,qK,fT,look,Sl.val,if_false,Option.bind_some,fk,decide_true,Option.map_some,Bool.not_true]
  have s6:ca (j4 (fB (eW (kj (ie .int) (aa 4)))) (j4 (eW (kj (ie .bool) (aa 4))) (j4 (eI (ag qK false (aa 4) (aa 5))) (eI (ag qK false (aa 3) (aa 2)))))) (aN (pC (.bool false))) aV [.sh (.list (ns.map .int)), .sh (af U), .ow (L.map af), .ow (L.map af), .sh (.int S), .sh (.int S), .no]=some ([.sh (.list (ns.map .int)), .sh (af U), .ow (L.map af), .ow (L.map af), .sh (.int S), .sh (.int S), .no], .nx):=by
    have o1:fB (eW (kj (ie .int) (aa 4))) [.sh (.list (ns.map .int)), .sh (af U), .ow (L.map af), .ow (L.map af), .sh (.int S), .sh (.int S), .no]=some (false,[.sh (.list (ns.map .int)), .sh (af U), .ow (L.map af), .ow (L.map af), .sh (.int S), .sh (.int S), .no]):=by simp only [fB,eW,kj,aa,List.getElem?_cons_succ,List.getElem?_cons_zero,look,Sl.val,ie,Ty.is,yp,Option.map_some,Option.bind_some,jJ,Bool.not_true]
    have o2:eW (kj (ie .bool) (aa 4)) [.sh (.list (ns.map .int)), .sh (af U), .ow (L.map af), .ow (L.map af), .sh (.int S), .sh (.int S), .no]=some (false,[.sh (.list (ns.map .int)), .sh (af U), .ow (L.map af), .ow (L.map af), .sh (.int S), .sh (.int S), .no]):=by simp only [eW,kj,aa,List.getElem?_cons_succ,List.getElem?_cons_zero,look,Sl.val,ie,Ty.is,yp,Option.map_some,Option.bind_some,jJ]
    exact g9 (xC o1 (xC o2 (xC i6 n6))) rfl
  have c7:ak dN (ae false (aa 3) aj) [.sh (.list (ns.map .int)), .sh (af U), .ow (L.map af), .ow (L.map af), .sh (.int S), .sh (.int S), .no]=some (.ow ((uF (mt L)).map ja),[.sh (.list (ns.map .int)), .sh (af U), .ow (L.map af), .ow (L.map af), .sh (.int S), .sh (.int S), .no]):=aI (ss:=[.al 3]) rfl rfl (zS r h8)
  have s7:aC 6 (ak dN (ae false (aa 3) aj)) [.sh (.list (ns.map .int)), .sh (af U), .ow (L.map af), .ow (L.map af), .sh (.int S), .sh (.int S), .no]=some ([.sh (.list (ns.map .int)), .sh (af U), .ow (L.map af), .ow (L.map af), .sh (.int S), .sh (.int S), .ow ((uF (mt L)).map ja)], .nx):=iX (i:=6) c7 (show 6 < 7 by decide)
  have lc:=zR (mt L)
  have lb:(uF (mt L)).length≤1000000:=by omega
  have le:((uF (mt L)).length:Int)=S:=by rw [lc,hS]
  have dq:=xR az'
  have g:ka [.list (ns.map .int)]=(rC [.sh (.list (ns.map .int)), .no, .no, .no, .no, .no, .no]).bind fun a=>match a.2 with | .rt r=>bV r | .nx=>some (.sh .none) | _=>none:=rfl
  rw [g,v5,st,aB s3,aB s4,aB s5,aB s6,aB s7]
  simp only [aN,kl,kj,aa,List.getElem?_cons_succ,List.getElem?_cons_zero,look,Sl.val,ie,Ty.is,yp,Option.map_some,Option.bind_some,ag,bB,ae,Sl.isBr,Bool.false_and,Bool.false_eq_true,aj,if_false,d7,i5,fT,bQ,List.length_map,le,fk,decide_true,dq,bV,bJ,cV,if_true]
end Nhk52
namespace Nhk52
open PySem L2 Nh PL
theorem il {fd:FuncData} {xs:List Str} (h:∀a0,bindArgs fd ⟨[a0],[]⟩=pure (xs.zip [a0])):∀us:List Value,us.length=1→bindArgs fd ⟨us,[]⟩=pure (xs.zip us)
  | [a0],_=>h a0
theorem oj {fd:FuncData} {xs:List Str} (h:∀a0 a1,bindArgs fd ⟨[a0,a1],[]⟩=pure (xs.zip [a0,a1])):∀us:List Value,us.length=2→bindArgs fd ⟨us,[]⟩=pure (xs.zip us)
  | [a0,a1],_=>h a0 a1
theorem Ew {fd:FuncData} {xs:List Str} (h:∀a0 a1 a2,bindArgs fd ⟨[a0,a1,a2],[]⟩=pure (xs.zip [a0,a1,a2])):∀us:List Value,us.length=3→bindArgs fd ⟨us,[]⟩=pure (xs.zip us)
  | [a0,a1,a2],_=>h a0 a1 a2
theorem Cj {l:PySem.W.OpenLaw} {w:World} {K:PySem.W.Frag} {h:Heap} {mg:Str→Option Value} {fa f1 f2 f3 f4 f5 f6 f7 f8 f9 f10 f11 f12 f13 f14 f15 f16 f17 f18 f19 f20 f21 f22 f23 f24 f25 f26 f27 f28 f29 f30 f31 f32 f33:Addr} (X:K.In h) (G:h.Ns mainGlobals mg) (hfa:mg "law"=some (.ref fa))
    {od1 od2 od3 od4 od5 od6 od7 od8 od9 od10 od11 od12 od13 od14 od15 od16 od17 od18 od19 od20 od21 od22 od23 od24 od25 od26 od27 od28 od29 od30 od31 od32 od33 an1 an2 an3 an4 an5 an6 an7 an8 an9 an10 an11 an12 an13 an14 an15 an16 an17 an18 an19 an20 an21 an22 an23 an24 an25 an26 an27 an28 an29 an30 an31 an32 an33:Option Addr} {sl1 sl2 sl3 sl4 sl5 sl6 sl7 sl8 sl9 sl10 sl11 sl12 sl13 sl14 sl15 sl16 sl17 sl18 sl19 sl20 sl21 sl22 sl23 sl24 sl25 sl26 sl27 sl28 sl29 sl30 sl31 sl32 sl33:Array (Option Value)} {oc1 kV1 dc1 pm1 cd1 ct1 oc2 kV2 dc2 pm2 cd2 ct2 oc3 kV3 dc3 pm3 cd3 ct3 oc4 kV4 dc4 pm4 cd4 ct4 oc5 kV5 dc5 pm5 cd5 ct5 oc6 kV6 dc6 pm6 cd6 ct6 oc7 kV7 dc7 pm7 ct7 oc8 kV8 dc8 pm8 cd8 ct8 oc9 kV9 dc9 pm9 cd9 ct9 oc10 kV10 dc10 pm10 cd10 ct10 oc11 kV11 dc11 pm11 cd11 ct11 oc12 kV12 dc12 pm12 cd12 ct12 oc13 kV13 dc13 pm13 cd13 ct13 oc14 kV14 dc14 pm14 cd14 ct14 oc15 kV15 dc15 pm15 cd15 ct15 oc16 kV16 dc16 pm16 cd16 ct16 oc17 kV17 dc17 pm17 cd17 ct17 oc18 kV18 dc18 pm18 cd18 ct18 oc19 kV19 dc19 pm19 cd19 ct19 oc20 kV20 dc20 pm20 cd20 ct20 oc21 kV21 dc21 pm21 cd21 ct21 oc22 kV22 dc22 pm22 cd22 ct22 oc23 kV23 dc23 pm23 cd23 ct23 oc24 kV24 dc24 pm24 cd24 ct24 oc25 kV25 dc25 pm25 cd25 ct25 oc26 kV26 dc26 pm26 cd26 ct26 oc27 kV27 dc27 pm27 cd27 ct27 oc28 kV28 dc28 pm28 cd28 ct28 oc29 kV29 dc29 pm29 cd29 ct29 oc30 kV30 dc30 pm30 cd30 ct30 oc31 kV31 dc31 pm31 cd31 ct31 oc32 kV32 dc32 pm32 cd32 ct32 oc33 kV33 dc33 pm33 cd33 ct33:Value}
    (a1:PySem.W.nsIn K mainGlobals "is_nail"=some (some (.ref f1))) (l1:K.lookup f1=some ⟨oc1,od1, .func (PySem.W.fnOf "is_nail" "is_nail" (aE gR) (aA gR) (ah gR) .none kV1 dc1 pm1 an1 cd1 ct1),sl1⟩) (c1:PySem.W.codeIn K cd1 "is_nail"=true) (k1:PySem.W.keepIn K (.ref f1)=true)
    (a2:PySem.W.nsIn K mainGlobals "joined"=some (some (.ref f2))) (l2:K.lookup f2=some ⟨oc2,od2, .func (PySem.W.fnOf "joined" "joined" (aE iG) (aA iG) (ah iG) .none kV2 dc2 pm2 an2 cd2 ct2),sl2⟩) (c2:PySem.W.codeIn K cd2 "joined"=true) (k2:PySem.W.keepIn K (.ref f2)=true)
    (a3:PySem.W.nsIn K mainGlobals "contrary"=some (some (.ref f3))) (l3:K.lookup f3=some ⟨oc3,od3, .func (PySem.W.fnOf "contrary" "contrary" (aE gf) (aA gf) (ah gf) .none kV3 dc3 pm3 an3 cd3 ct3),sl3⟩) (c3:PySem.W.codeIn K cd3 "contrary"=true) (k3:PySem.W.keepIn K (.ref f3)=true)
    (a4:PySem.W.nsIn K mainGlobals "there_and_back"=some (some (.ref f4))) (l4:K.lookup f4=some ⟨oc4,od4, .func (PySem.W.fnOf "there_and_back" "there_and_back" (aE cr) (aA cr) (ah cr) .none kV4 dc4 pm4 an4 cd4 ct4),sl4⟩) (c4:PySem.W.codeIn K cd4 "there_and_back"=true) (k4:PySem.W.keepIn K (.ref f4)=true)
    (a5:PySem.W.nsIn K mainGlobals "set_of"=some (some (.ref f5))) (l5:K.lookup f5=some ⟨oc5,od5, .func (PySem.W.fnOf "set_of" "set_of" (aE iH) (aA iH) (ah iH) .none kV5 dc5 pm5 an5 cd5 ct5),sl5⟩) (c5:PySem.W.codeIn K cd5 "set_of"=true) (k5:PySem.W.keepIn K (.ref f5)=true)
    (a6:PySem.W.nsIn K mainGlobals "bits_of"=some (some (.ref f6))) (l6:K.lookup f6=some ⟨oc6,od6, .func (PySem.W.fnOf "bits_of" "bits_of" (aE gS) (aA gS) (ah gS) .none kV6 dc6 pm6 an6 cd6 ct6),sl6⟩) (c6:PySem.W.codeIn K cd6 "bits_of"=true) (k6:PySem.W.keepIn K (.ref f6)=true)
    {cT PT:Addr} {vsT:Array Value} {ocT:Value} {odT:Option Addr} {slT:Array (Option Value)} (a7:PySem.W.nsIn K mainGlobals "in_told_order"=some (some (.ref f7))) (l7:K.lookup f7=some ⟨oc7,od7, .func (PySem.W.fnOf "in_told_order" "in_told_order" (aE cR) (aA cR) (ah cR) .none kV7 dc7 pm7 an7 (.ref cT) ct7),sl7⟩) (c7:PySem.W.codeIn K (.ref cT) "in_told_order"=true) (k7:PySem.W.keepIn K (.ref f7)=true)
    (t1:K.lookup cT=some ⟨ocT,odT, .fields vsT,slT⟩) (t2:(vsT[11]? :Option Value)=some (.ref PT)) (t3:PySem.W.codeHdIn K cT PT=true)
    (a8:PySem.W.nsIn K mainGlobals "has_part_among"=some (some (.ref f8))) (l8:K.lookup f8=some ⟨oc8,od8, .func (PySem.W.fnOf "has_part_among" "has_part_among" (aE cu) (aA cu) (ah cu) .none kV8 dc8 pm8 an8 cd8 ct8),sl8⟩) (c8:PySem.W.codeIn K cd8 "has_part_among"=true) (k8:PySem.W.keepIn K (.ref f8)=true)
    (a9:PySem.W.nsIn K mainGlobals "meets_each"=some (some (.ref f9))) (l9:K.lookup f9=some ⟨oc9,od9, .func (PySem.W.fnOf "meets_each" "meets_each" (aE eP) (aA eP) (ah eP) .none kV9 dc9 pm9 an9 cd9 ct9),sl9⟩) (c9:PySem.W.codeIn K cd9 "meets_each"=true) (k9:PySem.W.keepIn K (.ref f9)=true)
    (a10:PySem.W.nsIn K mainGlobals "least_of"=some (some (.ref f10))) (l10:K.lookup f10=some ⟨oc10,od10, .func (PySem.W.fnOf "least_of" "least_of" (aE gg) (aA gg) (ah gg) .none kV10 dc10 pm10 an10 cd10 ct10),sl10⟩) (c10:PySem.W.codeIn K cd10 "least_of"=true) (k10:PySem.W.keepIn K (.ref f10)=true)
    (a11:PySem.W.nsIn K mainGlobals "all_sets"=some (some (.ref f11))) (l11:K.lookup f11=some ⟨oc11,od11, .func (PySem.W.fnOf "all_sets" "all_sets" (aE gh) (aA gh) (ah gh) .none kV11 dc11 pm11 an11 cd11 ct11),sl11⟩) (c11:PySem.W.codeIn K cd11 "all_sets"=true) (k11:PySem.W.keepIn K (.ref f11)=true)
    (a12:PySem.W.nsIn K mainGlobals "check_many"=some (some (.ref f12))) (l12:K.lookup f12=some ⟨oc12,od12, .func (PySem.W.fnOf "check_many" "check_many" (aE eQ) (aA eQ) (ah eQ) .none kV12 dc12 pm12 an12 cd12 ct12),sl12⟩) (c12:PySem.W.codeIn K cd12 "check_many"=true) (k12:PySem.W.keepIn K (.ref f12)=true)
    (a13:PySem.W.nsIn K mainGlobals "nails_among"=some (some (.ref f13))) (l13:K.lookup f13=some ⟨oc13,od13, .func (PySem.W.fnOf "nails_among" "nails_among" (aE dY) (aA dY) (ah dY) .none kV13 dc13 pm13 an13 cd13 ct13),sl13⟩) (c13:PySem.W.codeIn K cd13 "nails_among"=true) (k13:PySem.W.keepIn K (.ref f13)=true)
    (a14:PySem.W.nsIn K mainGlobals "least_sets"=some (some (.ref f14))) (l14:K.lookup f14=some ⟨oc14,od14, .func (PySem.W.fnOf "least_sets" "least_sets" (aE eR) (aA eR) (ah eR) .none kV14 dc14 pm14 an14 cd14 ct14),sl14⟩) (c14:PySem.W.codeIn K cd14 "least_sets"=true) (k14:PySem.W.keepIn K (.ref f14)=true)
    (a15:PySem.W.nsIn K mainGlobals "meeting_sets"=some (some (.ref f15))) (l15:K.lookup f15=some ⟨oc15,od15, .func (PySem.W.fnOf "meeting_sets" "meeting_sets" (aE dF) (aA dF) (ah dF) .none kV15 dc15 pm15 an15 cd15 ct15),sl15⟩) (c15:PySem.W.codeIn K cd15 "meeting_sets"=true) (k15:PySem.W.keepIn K (.ref f15)=true)
    (a16:PySem.W.nsIn K mainGlobals "least_or_no_rule"=some (some (.ref f16))) (l16:K.lookup f16=some ⟨oc16,od16, .func (PySem.W.fnOf "least_or_no_rule" "least_or_no_rule" (aE bO) (aA bO) (ah bO) .none kV16 dc16 pm16 an16 cd16 ct16),sl16⟩) (c16:PySem.W.codeIn K cd16 "least_or_no_rule"=true) (k16:PySem.W.keepIn K (.ref f16)=true)
    (a17:PySem.W.nsIn K mainGlobals "check_rule"=some (some (.ref f17))) (l17:K.lookup f17=some ⟨oc17,od17, .func (PySem.W.fnOf "check_rule" "check_rule" (aE eS) (aA eS) (ah eS) .none kV17 dc17 pm17 an17 cd17 ct17),sl17⟩) (c17:PySem.W.codeIn K cd17 "check_rule"=true) (k17:PySem.W.keepIn K (.ref f17)=true)
    (a18:PySem.W.nsIn K mainGlobals "first_half"=some (some (.ref f18))) (l18:K.lookup f18=some ⟨oc18,od18, .func (PySem.W.fnOf "first_half" "first_half" (aE eT) (aA eT) (ah eT) .none kV18 dc18 pm18 an18 cd18 ct18),sl18⟩) (c18:PySem.W.codeIn K cd18 "first_half"=true) (k18:PySem.W.keepIn K (.ref f18)=true)
    (a19:PySem.W.nsIn K mainGlobals "halves_round"=some (some (.ref f19))) (l19:K.lookup f19=some ⟨oc19,od19, .func (PySem.W.fnOf "halves_round" "halves_round" (aE cI) (aA cI) (ah cI) .none kV19 dc19 pm19 an19 cd19 ct19),sl19⟩) (c19:PySem.W.codeIn K cd19 "halves_round"=true) (k19:PySem.W.keepIn K (.ref f19)=true)
    (a20:PySem.W.nsIn K mainGlobals "round_pieces"=some (some (.ref f20))) (l20:K.lookup f20=some ⟨oc20,od20, .func (PySem.W.fnOf "round_pieces" "round_pieces" (aE cJ) (aA cJ) (ah cJ) .none kV20 dc20 pm20 an20 cd20 ct20),sl20⟩) (c20:PySem.W.codeIn K cd20 "round_pieces"=true) (k20:PySem.W.keepIn K (.ref f20)=true)
    (a21:PySem.W.nsIn K mainGlobals "pieces_needed"=some (some (.ref f21))) (l21:K.lookup f21=some ⟨oc21,od21, .func (PySem.W.fnOf "pieces_needed" "pieces_needed" (aE cS) (aA cS) (ah cS) .none kV21 dc21 pm21 an21 cd21 ct21),sl21⟩) (c21:PySem.W.codeIn K cd21 "pieces_needed"=true) (k21:PySem.W.keepIn K (.ref f21)=true)
    (a22:PySem.W.nsIn K mainGlobals "cord_of"=some (some (.ref f22))) (l22:K.lookup f22=some ⟨oc22,od22, .func (PySem.W.fnOf "cord_of" "cord_of" (aE gT) (aA gT) (ah gT) .none kV22 dc22 pm22 an22 cd22 ct22),sl22⟩) (c22:PySem.W.codeIn K cd22 "cord_of"=true) (k22:PySem.W.keepIn K (.ref f22)=true)
    (a23:PySem.W.nsIn K mainGlobals "_law_at"=some (some (.ref f23))) (l23:K.lookup f23=some ⟨oc23,od23, .func (PySem.W.fnOf "_law_at" "_law_at" (aE iK) (aA iK) (ah iK) .none kV23 dc23 pm23 an23 cd23 ct23),sl23⟩) (c23:PySem.W.codeIn K cd23 "_law_at"=true) (k23:PySem.W.keepIn K (.ref f23)=true)
    (a24:PySem.W.nsIn K mainGlobals "_law_mix"=some (some (.ref f24))) (l24:K.lookup f24=some ⟨oc24,od24, .func (PySem.W.fnOf "_law_mix" "_law_mix" (aE gU) (aA gU) (ah gU) .none kV24 dc24 pm24 an24 cd24 ct24),sl24⟩) (c24:PySem.W.codeIn K cd24 "_law_mix"=true) (k24:PySem.W.keepIn K (.ref f24)=true)
    (a25:PySem.W.nsIn K mainGlobals "_law_sets"=some (some (.ref f25))) (l25:K.lookup f25=some ⟨oc25,od25, .func (PySem.W.fnOf "_law_sets" "_law_sets" (aE gi) (aA gi) (ah gi) .none kV25 dc25 pm25 an25 cd25 ct25),sl25⟩) (c25:PySem.W.codeIn K cd25 "_law_sets"=true) (k25:PySem.W.keepIn K (.ref f25)=true)
    (a26:PySem.W.nsIn K mainGlobals "_law_has_part"=some (some (.ref f26))) (l26:K.lookup f26=some ⟨oc26,od26, .func (PySem.W.fnOf "_law_has_part" "_law_has_part" (aE dG) (aA dG) (ah dG) .none kV26 dc26 pm26 an26 cd26 ct26),sl26⟩) (c26:PySem.W.codeIn K cd26 "_law_has_part"=true) (k26:PySem.W.keepIn K (.ref f26)=true)
    (a27:PySem.W.nsIn K mainGlobals "_law_least"=some (some (.ref f27))) (l27:K.lookup f27=some ⟨oc27,od27, .func (PySem.W.fnOf "_law_least" "_law_least" (aE fD) (aA fD) (ah fD) .none kV27 dc27 pm27 an27 cd27 ct27),sl27⟩) (c27:PySem.W.codeIn K cd27 "_law_least"=true) (k27:PySem.W.keepIn K (.ref f27)=true)
    (a28:PySem.W.nsIn K mainGlobals "_law_rule"=some (some (.ref f28))) (l28:K.lookup f28=some ⟨oc28,od28, .func (PySem.W.fnOf "_law_rule" "_law_rule" (aE gj) (aA gj) (ah gj) .none kV28 dc28 pm28 an28 cd28 ct28),sl28⟩) (c28:PySem.W.codeIn K cd28 "_law_rule"=true) (k28:PySem.W.keepIn K (.ref f28)=true)
    (a29:PySem.W.nsIn K mainGlobals "_law_nails"=some (some (.ref f29))) (l29:K.lookup f29=some ⟨oc29,od29, .func (PySem.W.fnOf "_law_nails" "_law_nails" (aE fE) (aA fE) (ah fE) .none kV29 dc29 pm29 an29 cd29 ct29),sl29⟩) (c29:PySem.W.codeIn K cd29 "_law_nails"=true) (k29:PySem.W.keepIn K (.ref f29)=true)
    (a30:PySem.W.nsIn K mainGlobals "_law_meeting"=some (some (.ref f30))) (l30:K.lookup f30=some ⟨oc30,od30, .func (PySem.W.fnOf "_law_meeting" "_law_meeting" (aE dZ) (aA dZ) (ah dZ) .none kV30 dc30 pm30 an30 cd30 ct30),sl30⟩) (c30:PySem.W.codeIn K cd30 "_law_meeting"=true) (k30:PySem.W.keepIn K (.ref f30)=true)
    (a31:PySem.W.nsIn K mainGlobals "_law_size"=some (some (.ref f31))) (l31:K.lookup f31=some ⟨oc31,od31, .func (PySem.W.fnOf "_law_size" "_law_size" (aE fz) (aA fz) (ah fz) .none kV31 dc31 pm31 an31 cd31 ct31),sl31⟩) (c31:PySem.W.codeIn K cd31 "_law_size"=true) (k31:PySem.W.keepIn K (.ref f31)=true)
    (a32:PySem.W.nsIn K mainGlobals "_law_two"=some (some (.ref f32))) (l32:K.lookup f32=some ⟨oc32,od32, .func (PySem.W.fnOf "_law_two" "_law_two" (aE gV) (aA gV) (ah gV) .none kV32 dc32 pm32 an32 cd32 ct32),sl32⟩) (c32:PySem.W.codeIn K cd32 "_law_two"=true) (k32:PySem.W.keepIn K (.ref f32)=true)
    (a33:PySem.W.nsIn K mainGlobals "law"=some (some (.ref f33))) (l33:K.lookup f33=some ⟨oc33,od33, .func (PySem.W.fnOf "law" "law" (aE kM) (aA kM) (ah kM) .none kV33 dc33 pm33 an33 cd33 ct33),sl33⟩) (c33:PySem.W.codeIn K cd33 "law"=true) (k33:PySem.W.keepIn K (.ref f33)=true)
    {t_LETTERS:Tok} (g_LETTERS:PySem.W.nsIn K mainGlobals "LETTERS"=some (some (.str "abcdefghijklmnopqrstuvwxyz" t_LETTERS)))
    {t_MOST_NAILS:Tok} (g_MOST_NAILS:PySem.W.nsIn K mainGlobals "MOST_NAILS"=some (some (.int 10 t_MOST_NAILS)))
    {t_MOST_PIECES:Tok} (g_MOST_PIECES:PySem.W.nsIn K mainGlobals "MOST_PIECES"=some (some (.int 800 t_MOST_PIECES)))
    (z1:PySem.W.nsIn K mainGlobals "len"=some none)
    (z2:PySem.W.nsIn K mainGlobals "range"=some none)
    (z3:PySem.W.nsIn K mainGlobals "abs"=some none)
    (z4:PySem.W.nsIn K mainGlobals "min"=some none)
    (z5:PySem.W.nsIn K mainGlobals "max"=some none)
    (z6:PySem.W.nsIn K mainGlobals "reversed"=some none)
    (z7:PySem.W.nsIn K mainGlobals "enumerate"=some none)
    (z8:PySem.W.nsIn K mainGlobals "isinstance"=some none)
    (z9:PySem.W.nsIn K mainGlobals "list"=some none)
    (z10:PySem.W.nsIn K mainGlobals "tuple"=some none)
    (z11:PySem.W.nsIn K mainGlobals "str"=some none)
    (z12:PySem.W.nsIn K mainGlobals "int"=some none)
    (z13:PySem.W.nsIn K mainGlobals "bool"=some none)
    (z14:PySem.W.nsIn K mainGlobals "sorted"=some none)
    (z15:PySem.W.nsIn K mainGlobals "zip"=some none)
    (z16:PySem.W.nsIn K mainGlobals "sum"=some none)
    (z17:PySem.W.nsIn K mainGlobals "any"=some none)
    (z18:PySem.W.nsIn K mainGlobals "all"=some none)
    (z19:PySem.W.nsIn K mainGlobals "set"=some none)
    (z20:PySem.W.nsIn K mainGlobals "dict"=some none):
    ∃fd:FuncData,(∀(s:Shared) (v:Value),BindsTo s fd ⟨[v],[]⟩ [("_law_script",v)])∧∀base:Heap,K.In base→base.Ns mainGlobals mg→FnOk l.prog w K mg base u6 13 fa fd ["_law_script"] (cL K ka):=by
  have e:=hfa.symm.trans (PySem.W.mg_of X G a33)
  cases e
  have F0:=sk (st:=kM) l33 c33 k33
  have B:Bn mg:=Dl X G z1 z2 z3 z4 z5 z6 z7 z8 z9 z10 z11 z12 z13 z14 z15 z16 z17 z18 z19 z20
  have G_LETTERS:=PySem.W.mg_of X G g_LETTERS
  have G_MOST_NAILS:=PySem.W.mg_of X G g_MOST_NAILS
  have G_MOST_PIECES:=PySem.W.mg_of X G g_MOST_PIECES
  have e_is_nail:Def K mg "is_nail" gR ["thing"]:=bp X G a1 l1 c1 k1 fun _ _ _ _ _ _=>fun us hl=>il (fun _=>rfl) us hl
  have e_joined:Def K mg "joined" iG ["one","other"]:=bp X G a2 l2 c2 k2 fun _ _ _ _ _ _=>fun us hl=>oj (fun _ _=>rfl) us hl
  have e_contrary:Def K mg "contrary" gf ["cord"]:=bp X G a3 l3 c3 k3 fun _ _ _ _ _ _=>fun us hl=>il (fun _=>rfl) us hl
  have e_there_and_back:Def K mg "there_and_back" cr ["one","other"]:=bp X G a4 l4 c4 k4 fun _ _ _ _ _ _=>fun us hl=>oj (fun _ _=>rfl) us hl
  have e_set_of:Def K mg "set_of" iH ["nails"]:=bp X G a5 l5 c5 k5 fun _ _ _ _ _ _=>fun us hl=>il (fun _=>rfl) us hl
  have e_bits_of:Def K mg "bits_of" gS ["nails"]:=bp X G a6 l6 c6 k6 fun _ _ _ _ _ _=>fun us hl=>il (fun _=>rfl) us hl
  have e_in_told_order:DefT K mg "in_told_order" cR ["sets"] cT PT:=⟨⟨f7,_,_,_,_,_,_,_,_,l7,c7,k7,PySem.W.mg_of X G a7, .all (fun us hl=>il (fun _=>rfl) us hl)⟩,t3,xu a7 l7 rfl t1 t2⟩
  have e_has_part_among:Def K mg "has_part_among" cu ["bits","parts"]:=bp X G a8 l8 c8 k8 fun _ _ _ _ _ _=>fun us hl=>oj (fun _ _=>rfl) us hl
  have e_meets_each:Def K mg "meets_each" eP ["bits","others"]:=bp X G a9 l9 c9 k9 fun _ _ _ _ _ _=>fun us hl=>oj (fun _ _=>rfl) us hl
  have e_least_of:Def K mg "least_of" gg ["sets"]:=bp X G a10 l10 c10 k10 fun _ _ _ _ _ _=>fun us hl=>il (fun _=>rfl) us hl
  have e_all_sets:Def K mg "all_sets" gh ["nails"]:=bp X G a11 l11 c11 k11 fun _ _ _ _ _ _=>fun us hl=>il (fun _=>rfl) us hl
  have e_check_many:Def K mg "check_many" eQ ["nails"]:=bp X G a12 l12 c12 k12 fun _ _ _ _ _ _=>fun us hl=>il (fun _=>rfl) us hl
  have e_nails_among:Def K mg "nails_among" dY ["sets"]:=bp X G a13 l13 c13 k13 fun _ _ _ _ _ _=>fun us hl=>il (fun _=>rfl) us hl
  have e_least_sets:Def K mg "least_sets" eR ["family"]:=bp X G a14 l14 c14 k14 fun _ _ _ _ _ _=>fun us hl=>il (fun _=>rfl) us hl
  have e_meeting_sets:Def K mg "meeting_sets" dF ["family"]:=bp X G a15 l15 c15 k15 fun _ _ _ _ _ _=>fun us hl=>il (fun _=>rfl) us hl
  have e_least_or_no_rule:Def K mg "least_or_no_rule" bO ["sets"]:=bp X G a16 l16 c16 k16 fun _ _ _ _ _ _=>fun us hl=>il (fun _=>rfl) us hl
  have e_check_rule:Def K mg "check_rule" eS ["thing"]:=bp X G a17 l17 c17 k17 fun _ _ _ _ _ _=>fun us hl=>il (fun _=>rfl) us hl
  have e_first_half:Def K mg "first_half" eT ["number"]:=bp X G a18 l18 c18 k18 fun _ _ _ _ _ _=>fun us hl=>il (fun _=>rfl) us hl
  have e_halves_round:Def K mg "halves_round" cI ["nails"]:=bp X G a19 l19 c19 k19 fun _ _ _ _ _ _=>fun us hl=>il (fun _=>rfl) us hl
  have e_round_pieces:Def K mg "round_pieces" cJ ["number"]:=bp X G a20 l20 c20 k20 fun _ _ _ _ _ _=>fun us hl=>il (fun _=>rfl) us hl
  have e_pieces_needed:Def K mg "pieces_needed" cS ["rule"]:=bp X G a21 l21 c21 k21 fun _ _ _ _ _ _=>fun us hl=>il (fun _=>rfl) us hl
  have e_cord_of:Def K mg "cord_of" gT ["rule"]:=bp X G a22 l22 c22 k22 fun _ _ _ _ _ _=>fun us hl=>il (fun _=>rfl) us hl
  have e_law_at:Def K mg "_law_at" iK ["_law_script","_law_k"]:=bp X G a23 l23 c23 k23 fun _ _ _ _ _ _=>fun us hl=>oj (fun _ _=>rfl) us hl
  have e_law_mix:Def K mg "_law_mix" gU ["_law_cell","_law_k"]:=bp X G a24 l24 c24 k24 fun _ _ _ _ _ _=>fun us hl=>oj (fun _ _=>rfl) us hl
  have e_law_sets:Def K mg "_law_sets" gi ["_law_nails_here"]:=bp X G a25 l25 c25 k25 fun _ _ _ _ _ _=>fun us hl=>il (fun _=>rfl) us hl
  have e_law_has_part:Def K mg "_law_has_part" dG ["_law_one","_law_sets_here"]:=bp X G a26 l26 c26 k26 fun _ _ _ _ _ _=>fun us hl=>oj (fun _ _=>rfl) us hl
  have e_law_least:Def K mg "_law_least" fD ["_law_sets_here"]:=bp X G a27 l27 c27 k27 fun _ _ _ _ _ _=>fun us hl=>il (fun _=>rfl) us hl
  have e_law_rule:Def K mg "_law_rule" gj ["_law_script","_law_first","_law_nails_here"]:=bp X G a28 l28 c28 k28 fun _ _ _ _ _ _=>fun us hl=>Ew (fun _ _ _=>rfl) us hl
  have e_law_nails:Def K mg "_law_nails" fE ["_law_cell","_law_most"]:=bp X G a29 l29 c29 k29 fun _ _ _ _ _ _=>fun us hl=>oj (fun _ _=>rfl) us hl
  have e_law_meeting:Def K mg "_law_meeting" dZ ["_law_sets_here","_law_nails_here"]:=bp X G a30 l30 c30 k30 fun _ _ _ _ _ _=>fun us hl=>oj (fun _ _=>rfl) us hl
  have e_law_size:Def K mg "_law_size" fz ["_law_many"]:=bp X G a31 l31 c31 k31 fun _ _ _ _ _ _=>fun us hl=>il (fun _=>rfl) us hl
  have e_law_two:Def K mg "_law_two" gV ["_law_cell","_law_most"]:=bp X G a32 l32 c32 k32 fun _ _ _ _ _ _=>fun us hl=>oj (fun _ _=>rfl) us hl
  refine ⟨PySem.W.fnOf "law" "law" (aE kM) (aA kM) (ah kM) .none kV33 dc33 pm33 an33 cd33 ct33,fun s v=> .of_eq rfl,fun base _ _=>?_⟩
  have D_is_nail:=sT (P:=l.prog) (w:=w) (base:=base) e_is_nail B
  have D_joined:=vJ (P:=l.prog) (w:=w) (base:=base) e_joined B
  have D_contrary:=rE (P:=l.prog) (w:=w) (base:=base) e_contrary B
  have D_there_and_back:=kI (P:=l.prog) (w:=w) (base:=base) e_there_and_back B D_contrary
  have D_set_of:=vK (P:=l.prog) (w:=w) (base:=base) e_set_of B D_is_nail
  have D_bits_of:=sU (P:=l.prog) (w:=w) (base:=base) e_bits_of B G_LETTERS
  have D_in_told_order:=lB (P:=l.prog) (w:=w) (base:=base) e_in_told_order B
  have D_has_part_among:=kJ (P:=l.prog) (w:=w) (base:=base) e_has_part_among B
  have D_meets_each:=nY (P:=l.prog) (w:=w) (base:=base) e_meets_each B
  have D_least_of:=rF (P:=l.prog) (w:=w) (base:=base) e_least_of B D_in_told_order D_bits_of D_has_part_among
  have D_all_sets:=rG (P:=l.prog) (w:=w) (base:=base) e_all_sets B
  have D_check_many:=n3 (P:=l.prog) (w:=w) (base:=base) e_check_many B G_MOST_NAILS
  have D_nails_among:=ny (P:=l.prog) (w:=w) (base:=base) e_nails_among B D_set_of
  have D_least_sets:=n5 (P:=l.prog) (w:=w) (base:=base) e_least_sets B D_set_of D_least_of
  have D_meeting_sets:=mo (P:=l.prog) (w:=w) (base:=base) e_meeting_sets B D_least_sets D_bits_of D_nails_among D_check_many D_all_sets D_meets_each D_least_of
  have D_least_or_no_rule:=jL (P:=l.prog) (w:=w) (base:=base) e_least_or_no_rule B D_least_sets
  have D_check_rule:=n_ (P:=l.prog) (w:=w) (base:=base) e_check_rule B D_least_or_no_rule
  have D_first_half:=oe (P:=l.prog) (w:=w) (base:=base) e_first_half B
  have D_halves_round:=mq (P:=l.prog) (w:=w) (base:=base) e_halves_round B D_first_half D_there_and_back
  have D_round_pieces:=mr (P:=l.prog) (w:=w) (base:=base) e_round_pieces B D_first_half
  have D_pieces_needed:=lD (P:=l.prog) (w:=w) (base:=base) e_pieces_needed B D_check_rule D_meeting_sets D_round_pieces
  have D_cord_of:=sV (P:=l.prog) (w:=w) (base:=base) e_cord_of B G_MOST_PIECES D_pieces_needed D_meeting_sets D_halves_round D_joined
  have D_law_at:=vM (P:=l.prog) (w:=w) (base:=base) e_law_at B
  have D_law_mix:=sW (P:=l.prog) (w:=w) (base:=base) e_law_mix B
  have D_law_sets:=rH (P:=l.prog) (w:=w) (base:=base) e_law_sets B
  have D_law_has_part:=mv (P:=l.prog) (w:=w) (base:=base) e_law_has_part B
  have D_law_least:=qg (P:=l.prog) (w:=w) (base:=base) e_law_least B D_law_has_part
  have D_law_rule:=rJ (P:=l.prog) (w:=w) (base:=base) e_law_rule B D_law_at D_law_mix D_law_least
  have D_law_nails:=qh (P:=l.prog) (w:=w) (base:=base) e_law_nails B
  have D_law_meeting:=nz (P:=l.prog) (w:=w) (base:=base) e_law_meeting B D_law_sets D_law_least
  have D_law_size:=rK (P:=l.prog) (w:=w) (base:=base) e_law_size B
  have D_law_two:=sX (P:=l.prog) (w:=w) (base:=base) e_law_two B D_law_mix D_law_least
  exact BW F0 B D_law_at D_law_nails D_law_rule D_law_two D_pieces_needed D_law_meeting D_law_size D_cord_of
theorem Ex {l:PySem.W.OpenLaw} {q:Program} {loose:List Str} {XP:(Str→Option Value)→Heap→Prop} {YP:World→Heap→Prop} {d:DefRec} {K:Params→PySem.W.Frag} (hn:l.most=some 63) (hdf:d.params.defaults=[])
    (hY:∀(w:World) (h:Heap),YP w h→(K w.params).In h∧uc (K w.params) h)
    (F:∀(w:World) (mg:Str→Option Value) (fa:Addr) (h:Heap),(K w.params).In h→h.Ns mainGlobals mg→mg d.name=some (.ref fa)→
      ∃fd:FuncData,(∀(s:Shared) (u:Value),BindsTo s fd ⟨[u],[]⟩ [("_law_script",u)])∧∀base:Heap,(K w.params).In base→base.Ns mainGlobals mg→FnOk l.prog w (K w.params) mg base u6 13 fa fd ["_law_script"] (cL (K w.params) ka)):
    PySem.W.WalkO q loose XP YP l.row.toRowW d [] (fun f vs=>PySem.call f vs):=
  L2.xh (n:=63) (k:=13) (x:="_law_script") (CX:=fun _=>u6) (sp:=fun w=>cL (K w.params) ka) hn (by decide) hdf ⟨rfl,by decide,by decide⟩ hY F (fun _ _ a ns hl hS=>BG (Ci ns hl) hS) fun _ _ _ _ _ z=>z
end Nhk52
open PySem PySem.W PyProof.Rows
namespace PySem.W.Fast
theorem tw6067019482073708672:True:=⟨⟩
theorem tw673208923382938848:True:=⟨⟩
theorem tw18425086261123875136:True:=⟨⟩
theorem tw13638600615113144640:True:=⟨⟩
theorem tw8748575612666271168:True:=⟨⟩
theorem tw12209709046590722592:True:=⟨⟩
theorem tw12583395140849746560:True:=⟨⟩
theorem tw8814757241404496544:True:=⟨⟩
theorem tw17964854625836067520:True:=⟨⟩
theorem tw3171645842172028672:True:=⟨⟩
theorem tw13768046587350964032:True:=⟨⟩
theorem tw6722801632931908448:True:=⟨⟩
theorem tw2688717401634402240:True:=⟨⟩
theorem tw16822749690122988577:True:=⟨⟩
theorem tw5381378728861952161:True:=⟨⟩
theorem tw15210684534778919073:True:=⟨⟩
theorem tw4031748887041685793:True:=⟨⟩
theorem tw16331235525834799457:True:=⟨⟩
theorem tw12974382885522905569:True:=⟨⟩
theorem tw4002364888927097409:True:=⟨⟩
theorem tw4718015941530336897:True:=⟨⟩
theorem tw10701758872173232769:True:=⟨⟩
theorem tw13146514667035379746:True:=⟨⟩
theorem tw15777737990632312162:True:=⟨⟩
theorem tw7342285147492076994:True:=⟨⟩
theorem tw8445611627556106690:True:=⟨⟩
theorem tw6527616251066009058:True:=⟨⟩
theorem tw10120850016125431362:True:=⟨⟩
theorem tw11005414096709538722:True:=⟨⟩
theorem tw14674285434513034178:True:=⟨⟩
theorem tw824402951731073251:True:=⟨⟩
theorem tw2029733227689485891:True:=⟨⟩
theorem tw12874870126544418403:True:=⟨⟩
theorem tw112126506377966211:True:=⟨⟩
theorem tw6634291164191723331:True:=⟨⟩
theorem tw2246815099517753540:True:=⟨⟩
theorem tw17333483932738164964:True:=⟨⟩
theorem tw2263569677131456900:True:=⟨⟩
theorem tw3840999264581803556:True:=⟨⟩
theorem tw9916543461635627652:True:=⟨⟩
theorem tw6007691915593845572:True:=⟨⟩
theorem tw8415738376017171300:True:=⟨⟩
theorem tw17724863765134438308:True:=⟨⟩
theorem tw227709907174848677:True:=⟨⟩
theorem tw15737928082303803621:True:=⟨⟩
theorem tw3970079216117416229:True:=⟨⟩
theorem tw17164876546242495813:True:=⟨⟩
theorem tw6605570076415567269:True:=⟨⟩
theorem tw14122858922184222277:True:=⟨⟩
theorem tw15430772524257174117:True:=⟨⟩
theorem tw16590088072358480549:True:=⟨⟩
theorem tw5244088194671221413:True:=⟨⟩
theorem tw13888866156915115717:True:=⟨⟩
theorem tw15370952269702124261:True:=⟨⟩
theorem tw18008276979991539493:True:=⟨⟩
theorem tw18173419228423940997:True:=⟨⟩
theorem tw17255003945630312389:True:=⟨⟩
theorem tw12643699860466414565:True:=⟨⟩
theorem tw2996257441299953990:True:=⟨⟩
theorem tw7420350981819271558:True:=⟨⟩
theorem tw4507181958155392422:True:=⟨⟩
theorem tw498491271128146534:True:=⟨⟩
theorem tw1358584827962018534:True:=⟨⟩
theorem tw1726302944560882502:True:=⟨⟩
theorem tw13664304239845735079:True:=⟨⟩
theorem tw8611867253965773543:True:=⟨⟩
theorem tw13511759788520046439:True:=⟨⟩
theorem tw6337590682840901640:True:=⟨⟩
theorem tw1871156418860599336:True:=⟨⟩
theorem tw13791104225760408904:True:=⟨⟩
theorem tw2131195355189289512:True:=⟨⟩
theorem tw13510673280621335208:True:=⟨⟩
theorem tw874021729629417160:True:=⟨⟩
theorem tw12327001724606720744:True:=⟨⟩
theorem tw11409248863793642312:True:=⟨⟩
theorem tw5364713853324278664:True:=⟨⟩
theorem tw12278687455191919721:True:=⟨⟩
theorem tw879296285979951433:True:=⟨⟩
theorem tw15262689720676207945:True:=⟨⟩
theorem tw11789365831478671081:True:=⟨⟩
theorem tw10127064550984421161:True:=⟨⟩
theorem tw486668474913514377:True:=⟨⟩
theorem tw14883435835526480906:True:=⟨⟩
theorem tw15711649989440398378:True:=⟨⟩
theorem tw460906955118363946:True:=⟨⟩
theorem tw4366238037650820490:True:=⟨⟩
theorem tw4471692959680055722:True:=⟨⟩
theorem tw6039061154514386378:True:=⟨⟩
theorem tw248630237617629706:True:=⟨⟩
theorem tw11642712936329494154:True:=⟨⟩
theorem tw14657245573626560202:True:=⟨⟩
theorem tw13370836505851476906:True:=⟨⟩
theorem tw12306041864332765130:True:=⟨⟩
theorem tw14118636582685632555:True:=⟨⟩
theorem tw292245111485374539:True:=⟨⟩
theorem tw882731405085705355:True:=⟨⟩
theorem tw16148235842769455275:True:=⟨⟩
theorem tw2913151863855642827:True:=⟨⟩
theorem tw16377656012670772555:True:=⟨⟩
theorem tw1471608677981100427:True:=⟨⟩
theorem tw15131814430972983851:True:=⟨⟩
theorem tw18259815697123615339:True:=⟨⟩
theorem tw12023597132913179339:True:=⟨⟩
theorem tw5176054135122942955:True:=⟨⟩
theorem tw2885955810491669483:True:=⟨⟩
theorem tw8738383354517651468:True:=⟨⟩
theorem tw1873457998099136556:True:=⟨⟩
theorem tw715983106242033996:True:=⟨⟩
theorem tw15097429645733074284:True:=⟨⟩
theorem tw7328193482338394732:True:=⟨⟩
theorem tw17384855881162745452:True:=⟨⟩
theorem tw13628232103608466412:True:=⟨⟩
theorem tw4773226337752412173:True:=⟨⟩
theorem tw16478547355974893581:True:=⟨⟩
theorem tw4025998758659805485:True:=⟨⟩
theorem tw4284325653777529357:True:=⟨⟩
theorem tw11467330944519392813:True:=⟨⟩
theorem tw16197684243658360717:True:=⟨⟩
theorem tw14512072810264279981:True:=⟨⟩
theorem tw10525590146203870157:True:=⟨⟩
theorem tw5930282703041014830:True:=⟨⟩
theorem tw8534277041852457166:True:=⟨⟩
theorem tw9655359312504757614:True:=⟨⟩
theorem tw7209782481015427470:True:=⟨⟩
theorem tw1087540152857490862:True:=⟨⟩
theorem tw6008377283458676174:True:=⟨⟩
theorem tw11120807619938913934:True:=⟨⟩
theorem tw15320894279138643694:True:=⟨⟩
theorem tw2920593882969609070:True:=⟨⟩
theorem tw964151565641553774:True:=⟨⟩
theorem tw5136500122009387886:True:=⟨⟩
theorem tw12120166817453624463:True:=⟨⟩
theorem tw1267745850962523279:True:=⟨⟩
theorem tw3458533184351062415:True:=⟨⟩
theorem tw6399506720321114831:True:=⟨⟩
theorem tw17149787490558484271:True:=⟨⟩
theorem tw8845078411626753264:True:=⟨⟩
theorem tw5519085937574514992:True:=⟨⟩
theorem tw18388500486347314576:True:=⟨⟩
theorem tw85118738867185200:True:=⟨⟩
theorem tw1035919932059249552:True:=⟨⟩
theorem tw1014922158966311025:True:=⟨⟩
theorem tw11652987373672200465:True:=⟨⟩
theorem tw3916776316597354993:True:=⟨⟩
theorem tw2534436266994770449:True:=⟨⟩
theorem tw16000502245113724433:True:=⟨⟩
theorem tw18027883112669039281:True:=⟨⟩
theorem tw13992055738381216657:True:=⟨⟩
theorem tw18056462055809760241:True:=⟨⟩
theorem tw12196337534039724050:True:=⟨⟩
theorem tw14742424999053683826:True:=⟨⟩
theorem tw11814880320887086354:True:=⟨⟩
theorem tw12039770052853347698:True:=⟨⟩
theorem tw16699246118134511186:True:=⟨⟩
theorem tw12394309587248108210:True:=⟨⟩
theorem tw3287496581812622098:True:=⟨⟩
theorem tw17381474370352284626:True:=⟨⟩
theorem tw6352973614847316019:True:=⟨⟩
theorem tw12828682868328198195:True:=⟨⟩
theorem tw1815495994154395795:True:=⟨⟩
theorem tw13315631951545594099:True:=⟨⟩
theorem tw1947487982816376083:True:=⟨⟩
theorem tw13454087200648514867:True:=⟨⟩
theorem tw17099934055633115507:True:=⟨⟩
theorem tw3513732470336008563:True:=⟨⟩
theorem tw8748920586869874035:True:=⟨⟩
theorem tw5276436247516661139:True:=⟨⟩
theorem tw18249546923730483603:True:=⟨⟩
theorem tw11445560631594706355:True:=⟨⟩
theorem tw15588834758199829107:True:=⟨⟩
theorem tw9754129598040114835:True:=⟨⟩
theorem tw3416626778425726835:True:=⟨⟩
theorem tw9830966906091489235:True:=⟨⟩
theorem tw9835823696629152820:True:=⟨⟩
theorem tw13007388489696804116:True:=⟨⟩
theorem tw6276637405811167764:True:=⟨⟩
theorem tw18239037632628382356:True:=⟨⟩
theorem tw4242790216622845684:True:=⟨⟩
theorem tw15255620537967146900:True:=⟨⟩
theorem tw16500540235824558068:True:=⟨⟩
theorem tw10779166587528494325:True:=⟨⟩
theorem tw2272521711979414069:True:=⟨⟩
theorem tw7507342500785893973:True:=⟨⟩
theorem tw5246595085891166901:True:=⟨⟩
theorem tw12738209734942610229:True:=⟨⟩
theorem tw13034585520637771669:True:=⟨⟩
theorem tw7849699530975159221:True:=⟨⟩
theorem tw740152365962471349:True:=⟨⟩
theorem tw8441310419835980150:True:=⟨⟩
theorem tw15178774905794207158:True:=⟨⟩
theorem tw5526752342670184982:True:=⟨⟩
theorem tw16918388489020628598:True:=⟨⟩
theorem tw11280785057616165686:True:=⟨⟩
theorem tw15766937674866589558:True:=⟨⟩
theorem tw7002160601444328374:True:=⟨⟩
theorem tw5809487899308193975:True:=⟨⟩
theorem tw3996364697846489335:True:=⟨⟩
theorem tw8026477147739230615:True:=⟨⟩
theorem tw8246488788398564855:True:=⟨⟩
theorem tw13750568001743721271:True:=⟨⟩
theorem tw8716772850028241719:True:=⟨⟩
theorem tw3770674332356335479:True:=⟨⟩
theorem tw14539204206341122232:True:=⟨⟩
theorem tw12532744474793041144:True:=⟨⟩
theorem tw6863923532914686296:True:=⟨⟩
theorem tw1928544536636381720:True:=⟨⟩
theorem tw11822064320317276792:True:=⟨⟩
theorem tw13248640299270259801:True:=⟨⟩
theorem tw3094751761982061753:True:=⟨⟩
theorem tw17797992528240634233:True:=⟨⟩
theorem tw10746837810543952281:True:=⟨⟩
theorem tw5346958237985491449:True:=⟨⟩
theorem tw13886938208099182105:True:=⟨⟩
theorem tw4685416311316226841:True:=⟨⟩
theorem tw15549987707114539897:True:=⟨⟩
theorem tw3995871122634558586:True:=⟨⟩
theorem tw8825018498912504090:True:=⟨⟩
theorem tw4747913272665258362:True:=⟨⟩
theorem tw14799824666952172954:True:=⟨⟩
theorem tw14688065481556356890:True:=⟨⟩
theorem tw404092136505112378:True:=⟨⟩
theorem tw14548557891740376954:True:=⟨⟩
theorem tw4056747240108984347:True:=⟨⟩
theorem tw7651362230735117435:True:=⟨⟩
theorem tw1179355786543959195:True:=⟨⟩
theorem tw2963124000539522555:True:=⟨⟩
theorem tw9907647008219842043:True:=⟨⟩
theorem tw5181541486770838139:True:=⟨⟩
theorem tw6504529881241885371:True:=⟨⟩
theorem tw17085351972730179259:True:=⟨⟩
theorem tw11571119880336678811:True:=⟨⟩
theorem tw16253426707781023707:True:=⟨⟩
theorem tw8828247091047610460:True:=⟨⟩
theorem tw16670786374995040700:True:=⟨⟩
theorem tw9870123292186336732:True:=⟨⟩
theorem tw16695093225280051804:True:=⟨⟩
theorem tw6513307188306931548:True:=⟨⟩
theorem tw15200532914435787708:True:=⟨⟩
theorem tw6193060532017391741:True:=⟨⟩
theorem tw8745230682018474173:True:=⟨⟩
theorem tw1535996807515415933:True:=⟨⟩
theorem tw6754363084469979645:True:=⟨⟩
theorem tw2684531058746905373:True:=⟨⟩
theorem tw1778537767249601437:True:=⟨⟩
theorem tw14674435714537448510:True:=⟨⟩
theorem tw10463861602151402622:True:=⟨⟩
theorem tw8897415085057709214:True:=⟨⟩
theorem tw163939311704594814:True:=⟨⟩
theorem tw4772660801269502398:True:=⟨⟩
theorem tw11815989701938060798:True:=⟨⟩
theorem tw16712855783530139166:True:=⟨⟩
theorem tw11893737172827576158:True:=⟨⟩
theorem tw17346490999401472926:True:=⟨⟩
theorem tw7405187558746148862:True:=⟨⟩
theorem tw10903564527369980031:True:=⟨⟩
theorem tw18427200000213346463:True:=⟨⟩
theorem tw13144344031582291135:True:=⟨⟩
theorem tw16958620529101698271:True:=⟨⟩
theorem tw5999250082376682879:True:=⟨⟩
theorem tw4451081564951288191:True:=⟨⟩
theorem tw6721947930203676063:True:=⟨⟩
theorem tw7233746121644356159:True:=⟨⟩
theorem tw2184447071531247231:True:=⟨⟩
theorem tw17640230787612774111:True:=⟨⟩
theorem tw14827313260398289663:True:=⟨⟩
theorem tw1769754009480183272:True:=⟨⟩
end PySem.W.Fast
set_option maxRecDepth 100000 in
set_option maxHeartbeats 0 in
theorem PySem.Challenge.cw_nailhang_k52_pieces_needed_holds : PySem.Challenge.rw_nailhang_k52_pieces_needed.Holds := by
  w_on;o_law;k_head;(case hw=>w_witness2)
  k_fill
  refine Nhk52.Ex (l:=PySem.Challenge.rw_nailhang_k52_pieces_needed) rfl rfl (fun w h Y=>⟨PySem.W.km_in_of Y,by
    refine' PL.xv (PySem.W.km_in_of Y) ?y1 ?y2 ?y3 ?y4 ?y5 ?y6 ?y7 (PySem.W.km_tabs_of Y _ ?y8)
    (case y1=>k_is)
    (case y2=>k_is)
    (case y3=>exact rfl)
    (case y4=>k_is)
    (case y5=>exact rfl)
    (case y6=>kernel_rfl)
    (case y7=>kernel_rfl)
    (case y8=>k_mem)⟩) ?F
  case F=>
    intro w mg fa h KX G hmg
    refine' Nhk52.Cj KX G hmg ?a1 ?l1 ?c1 ?k1 ?a2 ?l2 ?c2 ?k2 ?a3 ?l3 ?c3 ?k3 ?a4 ?l4 ?c4 ?k4 ?a5 ?l5 ?c5 ?k5 ?a6 ?l6 ?c6 ?k6 ?a7 ?l7 ?c7 ?k7 ?t1 ?t2 ?t3 ?a8 ?l8 ?c8 ?k8 ?a9 ?l9 ?c9 ?k9 ?a10 ?l10 ?c10 ?k10 ?a11 ?l11 ?c11 ?k11 ?a12 ?l12 ?c12 ?k12 ?a13 ?l13 ?c13 ?k13 ?a14 ?l14 ?c14 ?k14 ?a15 ?l15 ?c15 ?k15 ?a16 ?l16 ?c16 ?k16 ?a17 ?l17 ?c17 ?k17 ?a18 ?l18 ?c18 ?k18 ?a19 ?l19 ?c19 ?k19 ?a20 ?l20 ?c20 ?k20 ?a21 ?l21 ?c21 ?k21 ?a22 ?l22 ?c22 ?k22 ?a23 ?l23 ?c23 ?k23 ?a24 ?l24 ?c24 ?k24 ?a25 ?l25 ?c25 ?k25 ?a26 ?l26 ?c26 ?k26 ?a27 ?l27 ?c27 ?k27 ?a28 ?l28 ?c28 ?k28 ?a29 ?l29 ?c29 ?k29 ?a30 ?l30 ?c30 ?k30 ?a31 ?l31 ?c31 ?k31 ?a32 ?l32 ?c32 ?k32 ?a33 ?l33 ?c33 ?k33 ?g_LETTERS ?g_MOST_NAILS ?g_MOST_PIECES ?z1 ?z2 ?z3 ?z4 ?z5 ?z6 ?z7 ?z8 ?z9 ?z10 ?z11 ?z12 ?z13 ?z14 ?z15 ?z16 ?z17 ?z18 ?z19 ?z20
    (case a1=>k_is)
    (case l1=>k_is)
    (case c1=>k_is)
    (case k1=>k_is)
    (case a2=>k_is)
    (case l2=>k_is)
    (case c2=>k_is)
    (case k2=>k_is)
    (case a3=>k_is)
    (case l3=>k_is)
    (case c3=>k_is)
    (case k3=>k_is)
    (case a4=>k_is)
    (case l4=>k_is)
    (case c4=>k_is)
    (case k4=>k_is)
    (case a5=>k_is)
    (case l5=>k_is)
    (case c5=>k_is)
    (case k5=>k_is)
    (case a6=>k_is)
    (case l6=>k_is)
    (case c6=>k_is)
    (case k6=>k_is)
    (case a7=>k_is)
    (case l7=>k_is)
    (case c7=>k_is)
    (case k7=>k_is)
    (case t1=>k_is)
    (case t2=>exact rfl)
    (case t3=>kernel_rfl)
    (case a8=>k_is)
    (case l8=>k_is)
    (case c8=>k_is)
    (case k8=>k_is)
    (case a9=>k_is)
    (case l9=>k_is)
    (case c9=>k_is)
    (case k9=>k_is)
    (case a10=>k_is)
    (case l10=>k_is)
    (case c10=>k_is)
    (case k10=>k_is)
    (case a11=>k_is)
    (case l11=>k_is)
    (case c11=>k_is)
    (case k11=>k_is)
    (case a12=>k_is)
    (case l12=>k_is)
    (case c12=>k_is)
    (case k12=>k_is)
    (case a13=>k_is)
    (case l13=>k_is)
    (case c13=>k_is)
    (case k13=>k_is)
    (case a14=>k_is)
    (case l14=>k_is)
    (case c14=>k_is)
    (case k14=>k_is)
    (case a15=>k_is)
    (case l15=>k_is)
    (case c15=>k_is)
    (case k15=>k_is)
    (case a16=>k_is)
    (case l16=>k_is)
    (case c16=>k_is)
    (case k16=>k_is)
    (case a17=>k_is)
    (case l17=>k_is)
    (case c17=>k_is)
    (case k17=>k_is)
    (case a18=>k_is)
    (case l18=>k_is)
    (case c18=>k_is)
    (case k18=>k_is)
    (case a19=>k_is)
    (case l19=>k_is)
    (case c19=>k_is)
    (case k19=>k_is)
    (case a20=>k_is)
    (case l20=>k_is)
    (case c20=>k_is)
    (case k20=>k_is)
    (case a21=>k_is)
    (case l21=>k_is)
    (case c21=>k_is)
    (case k21=>k_is)
    (case a22=>k_is)
    (case l22=>k_is)
    (case c22=>k_is)
    (case k22=>k_is)
    (case a23=>k_is)
    (case l23=>k_is)
    (case c23=>k_is)
    (case k23=>k_is)
    (case a24=>k_is)
    (case l24=>k_is)
    (case c24=>k_is)
    (case k24=>k_is)
    (case a25=>k_is)
    (case l25=>k_is)
    (case c25=>k_is)
    (case k25=>k_is)
    (case a26=>k_is)
    (case l26=>k_is)
    (case c26=>k_is)
    (case k26=>k_is)
    (case a27=>k_is)
    (case l27=>k_is)
    (case c27=>k_is)
    (case k27=>k_is)
    (case a28=>k_is)
    (case l28=>k_is)
    (case c28=>k_is)
    (case k28=>k_is)
    (case a29=>k_is)
    (case l29=>k_is)
    (case c29=>k_is)
    (case k29=>k_is)
    (case a30=>k_is)
    (case l30=>k_is)
    (case c30=>k_is)
    (case k30=>k_is)
    (case a31=>k_is)
    (case l31=>k_is)
    (case c31=>k_is)
    (case k31=>k_is)
    (case a32=>k_is)
    (case l32=>k_is)
    (case c32=>k_is)
    (case k32=>k_is)
    (case a33=>k_is)
    (case l33=>k_is)
    (case c33=>k_is)
    (case k33=>k_is)
    (case g_LETTERS=>k_is)
    (case g_MOST_NAILS=>k_is)
    (case g_MOST_PIECES=>k_is)
    (case z1=>k_is)
    (case z2=>k_is)
    (case z3=>k_is)
    (case z4=>k_is)
    (case z5=>k_is)
    (case z6=>k_is)
    (case z7=>k_is)
    (case z8=>k_is)
    (case z9=>k_is)
    (case z10=>k_is)
    (case z11=>k_is)
    (case z12=>k_is)
    (case z13=>k_is)
    (case z14=>k_is)
    (case z15=>k_is)
    (case z16=>k_is)
    (case z17=>k_is)
    (case z18=>k_is)
    (case z19=>k_is)
    (case z20=>k_is)
