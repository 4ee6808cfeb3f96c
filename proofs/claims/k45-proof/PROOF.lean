import PyProof.Rows.All
import KE.KLam
import KE.KNestM
import PyProof.OldK
import Wide.All
import OpenK.AllK
import Wide.FinOn
import Lean
import PyProof.EqAt
import PyProof.EqKinds
import PyProof.TupleCall
import KE.KRevIter
import PyProof.Rows.SeqMore
import PyProof.Rows.ListMulArg
import PyProof.ZipIter
import PyProof.Rows.ZipGen
import PyProof.EnumMake
import PyProof.StrWalks
import PyProof.SliceStr2
import PyProof.StrBlockH
import PyProof.FString5
import PyProof.Rows.StrJoin2
import PyProof.Rows.Range3
import KE.KDictLaws
import PyProof.ConsumeWalk
import PyProof.SumWalkG
import PyProof.Rows.SeqCalls
import PyProof.Rows.SeqGen
import PyProof.Rows.MinMaxN
import PyProof.Rows.CallKwBuiltin
import PyProof.Rows.SortStr
import PyProof.StrOps2
import PyProof.Rows.StrMul
import PyProof.IsRules
import PyProof.Rows.SetFrom
import PyProof.CollectStr
import PyProof.Rows.SortRuns
import PyProof.Rows.SortKey
import KE.KSortTup
import PyProof.StrOps
import PyProof.StrCalls
import PyProof.Rows.StrNews
import PyProof.StrLawsOccR
import PyProof.RulesTry
import PyProof.StrLawsIn
import PyProof.StrLawsNeg
import PyProof.StrLawsTight
import PyProof.StrLawsChain
import PySem.Challenge.RW_nailhang_k45_rules_written_and_read
set_option Elab.async false
set_option linter.all false
set_option maxRecDepth 100000
set_option maxHeartbeats 4000000
local macro_rules | `(tactic| omega) => `(tactic| lia)
noncomputable section
namespace L2
open PySem PySem.Spec PyProof.Rows
abbrev dL:=Sum Int Str
def xi:dL→Value→Bool
  | .inl k,v=>Value.isInt k v
  | .inr x,v=>Value.isStrOf x v
def AS (w:World):dL→Int
  | .inl k=>hashInt k
  | .inr x=>hashStr w x
theorem bM:∀{k:dL} {v:Value},xi k v=true→(∃i t,k=Sum.inl i∧v=Value.int i t)∨(∃x t,k=Sum.inr x∧v=Value.str x t)
  | .inl i,v,h=>by
    obtain ⟨t,e⟩:=Value.isInt_shape (k:=i) (v:=v) h
    exact .inl ⟨i,t,rfl,e⟩
  | .inr x,v,h=>by
    obtain ⟨t,e⟩:=Value.isStrOf_shape (x:=x) (v:=v) h
    exact .inr ⟨x,t,rfl,e⟩
theorem xK (a b:Int):decide ((Sum.inl a:dL)=Sum.inl b)=(a == b):=by
  by_cases e:a=b
  · subst e;simp
  · have h:¬(Sum.inl a:dL)=Sum.inl b:=fun q=>e (Sum.inl.inj q)
    rw [decide_eq_false h]
    exact (beq_eq_false_iff_ne.mpr e).symm
theorem xL (a b:Str):decide ((Sum.inr a:dL)=Sum.inr b)=decide (a=b):=by
  by_cases e:a=b
  · subst e;simp
  · have h:¬(Sum.inr a:dL)=Sum.inr b:=fun q=>e (Sum.inr.inj q)
    rw [decide_eq_false h,decide_eq_false e]
theorem xM (a:Int) (b:Str):decide ((Sum.inl a:dL)=Sum.inr b)=false:=decide_eq_false (fun q=>nomatch q)
theorem xN (a:Str) (b:Int):decide ((Sum.inr a:dL)=Sum.inl b)=false:=decide_eq_false (fun q=>nomatch q)
def jL (prog:Program) (w:World):PySem.KeyKind prog w dL where
  is:=xi
  hash:=AS w
  inj:=fun v a b ha hb=>by
    rcases bM ha with ⟨i,t,rfl,rfl⟩ | ⟨x,t,rfl,rfl⟩
    · rcases bM hb with ⟨j,u,rfl,e⟩ | ⟨y,u,rfl,e⟩
      · injection e with e1 _;rw [e1]
      · exact nomatch e
    · rcases bM hb with ⟨j,u,rfl,e⟩ | ⟨y,u,rfl,e⟩
      · exact nomatch e
      · injection e with e1 _;rw [e1]
  byValue:=fun k v h=>by
    rcases bM h with ⟨i,t,rfl,rfl⟩ | ⟨x,t,rfl,rfl⟩ <;> rfl
  pyHash:=fun hv h=>by
    rcases bM hv with ⟨i,t,rfl,rfl⟩ | ⟨x,t,rfl,rfl⟩
    · exact wpAny_pyHash_int h
    · exact wpAny_pyHash_str h
  eqBool:=fun hu hv h=>by
    rcases bM hu with ⟨i,t,rfl,rfl⟩ | ⟨x,t,rfl,rfl⟩
    · rcases bM hv with ⟨j,u,rfl,rfl⟩ | ⟨y,u,rfl,rfl⟩
      · rw [xK] at h;exact wpAny_eqBool_int h
      · rw [xM] at h;exact SeqAt.EqAt.int_str i t y u _ _ _ _ h
    · rcases bM hv with ⟨j,u,rfl,rfl⟩ | ⟨y,u,rfl,rfl⟩
      · rw [xN] at h;exact SeqAt.EqAt.str_int x t j u _ _ _ _ h
      · rw [xL] at h;exact wpAny_eqBool_str h
  «strs»:=fun k x t v h=>by
    rcases bM h with ⟨i,u,rfl,e⟩ | ⟨y,u,rfl,e⟩
    · exact nomatch e
    · injection e with e1 _
      subst e1
      cases v <;> rfl
end L2
namespace L2
open PySem PySem.Spec PyProof.Rows
inductive V where
  | non | bl (b:Bool) | int (i:Int) | str (x:Str) | byt (b:Array UInt8) | flt (b:UInt64) | ref (a:Addr) | ty (n:String)
  deriving DecidableEq
def RelV:V→Value→Prop
  | .non,u=>u=Value.none
  | .bl b,u=>u=Value.bool b
  | .int i,u=>∃t,u=Value.int i t
  | .str x,u=>∃t,u=Value.str x t
  | .byt b,u=>∃t,u=Value.bytes b t
  | .flt b,u=>∃t,u=Value.float b t
  | .ref a,u=>u=Value.ref a
  | .ty n,u=>u=Value.type n
abbrev Vals:List V→List Value→Prop:=Paired RelV
theorem Vals.length {xs:List V} {us:List Value} (r:Vals xs us):xs.length=us.length:=Paired.length r
theorem Vals.get:∀{xs:List V} {us:List Value} {i:Nat} {x:V},Vals xs us→xs[i]? =some x→∃u,us[i]? =some u∧RelV x u
  | _,_,_,_, .nil,e=>by simp at e
  | _,_,0,_, .cons r _,e=>by simp at e;subst e;exact ⟨_,rfl,r⟩
  | _,_,i+1,x, .cons _ t,e=>by
    obtain ⟨u,h1,h2⟩:=Vals.get (i:=i) (x:=x) t (by simpa using e)
    exact ⟨u,by simpa using h1,h2⟩
theorem Vals.set {x:V} {u:Value} (r:RelV x u):∀{xs:List V} {us:List Value} (i:Nat),Vals xs us→Vals (xs.set i x) (us.set i u)
  | _,_,_, .nil=> .nil
  | _,_,0, .cons _ t=> .cons r t
  | _,_,i+1, .cons q t=> .cons q (Vals.set r i t)
theorem Vals.append:∀{xs ys:List V} {us ws:List Value},Vals xs us→Vals ys ws→Vals (xs++ys) (us++ws)
  | _,_,_,_, .nil,s=>s
  | _,_,_,_, .cons r t,s=> .cons r (Vals.append t s)
theorem Vals.take:∀{xs:List V} {us:List Value} (n:Nat),Vals xs us→Vals (xs.take n) (us.take n)
  | _,_,0,_=> .nil
  | _,_,_+1, .nil=> .nil
  | _,_,n+1, .cons r t=> .cons r (Vals.take n t)
theorem Vals.drop:∀{xs:List V} {us:List Value} (n:Nat),Vals xs us→Vals (xs.drop n) (us.drop n)
  | _,_,0,r=>r
  | _,_,_+1, .nil=> .nil
  | _,_,n+1, .cons _ t=>Vals.drop n t
def RelO:Option V→Option Value→Prop
  | some v,some u=>RelV v u
  | none,none=>True
  | _,_=>False
def KV {κ:Type}:List (κ×V)→List (κ×Value)→Prop:=Paired fun (p:κ×V) (q:κ×Value)=>p.1=q.1∧RelV p.2 q.2
def kV:dL→V
  | .inl i=> .int i
  | .inr x=> .str x
inductive HO where
  /-- a list -/
  | lst (xs:List V)
  /-- a tuple (never changes) -/
  | tup (xs:List V)
  /-- a dict whose keys are ints and texts;one whose keys are tuples of ints and texts (the empty one is both) -/
  | dK (kvs:List (dL×V)) | dT (kvs:List (List dL×V))
  /-- a set of ints:its members,its size -/
  | set (S:Int→Bool) (n:Nat)
  /-- an instance of the class at C,its dict at dx,its attributes -/
  | ins (C dx:Addr) (fs:List (Str×V))
  /-- the dict of the instance at x -/
  | own (x:Addr)
  /-- the dict of an exception -/
  | xd (fs:List (Str×V))
  /-- a bound method,f of x -/
  | met (f x:Addr)
  /-- a range object lo,lo+1, .. below hi -/
  | rng (lo hi:Int)
  /-- a thing that is known to the object (the script;a dict while a loop walks it):read,never written while it is so -/
  | frz (o:Obj) (u:HO)
  /-- a code object's table -/
  | tbl (q:Str)
  /-- any other thing,by what is true of its one object (a def of one's own:SetO a S n:=HO.ext fun h=> ..) -/
  | ext (φ:Heap→Prop)
abbrev Hp:=Addr→Option HO
def upd (H:Hp) (a:Addr) (o:HO):Hp:=fun b=>if b=a then some o else H b
theorem bx {H:Hp} {a:Addr} {o:HO}:upd H a o a=some o:=by unfold upd;rw [if_pos rfl]
theorem aH {H:Hp} {a b:Addr} {o:HO} (h:b≠a):upd H a o b=H b:=by unfold upd;rw [if_neg h]
theorem xj {H:Hp} {a b:Addr} {o u:HO} (h:H a=some o) (h':H b=some u) (d:o≠u):a≠b:=by
  intro e;subst e;rw [h] at h';exact d (Option.some.inj h')
theorem aY {H:Hp} {a b:Addr} {o:HO} (h:H a=some o) (h':H b=none):a≠b:=by
  intro e;subst e;rw [h] at h';cases h'
section
variable (P:Program) (w:World)
def ObjOk (H:Hp) (h:Heap) (a:Addr):HO→Prop
  | .lst xs=>xs.length≤sizeLine∧∃(its:List Value) (n:Nat),Vals xs its∧h.get? a=some {cls:= .type "list",data:= .seq its.toArray n}
  | .tup xs=>xs.length≤sizeLine∧∃its:List Value,Vals xs its∧IsTup h a its.toArray
  | .dK kvs=>kvs.length≤sizeLine∧(a == sysModules)=false∧∃vs,KV kvs vs∧h.DictOf (jL P w) a vs
  | .dT kvs=>kvs.length≤sizeLine∧(a == sysModules)=false∧∃xs:List (List dL×Addr×Value),
      Paired (fun (p:List dL×V) (q:List dL×Addr×Value)=>p.1=q.1∧H q.2.1=some (.tup (p.1.map kV))∧RelV p.2 q.2.2) kvs xs∧
      ∃o es ep,h.get? a=some o∧o.ExactDict∧o.data= .dict es ep∧es.toList=xs.map (entryOfKey (tupleKind (jL P w)))∧(xs.map (·.1)).Nodup
  | .set S n=>h.SetOf (intKind P w) a S n
  | .ins C dx fs=>H dx=some (.own a)∧fs.length≤1000∧dx≠a∧h.get? a=some (PySem.W.instObj C dx)∧
      ∃mA,h.Ns1 dx mA∧(∀f,RelO (fs.lookup f) (mA f))∧PySem.Within mA (fs.map (·.1))
  | .own _=>∃o,h.get? a=some o
  | .xd fs=>∃mA,h.Ns1 a mA∧∀f,RelO (fs.lookup f) (mA f)
  | .rng lo hi=>∃t u v,h.get? a=some {cls:= .type "range",data:= .fields #[.int lo t, .int hi u, .int 1 v]}
  | .frz o u=>h.get? a=some o∧ObjOk H h a u
  | .tbl q=>∃ps:Array Value,h.get? a=some (PySem.W.tabObj ps)∧TriplesOk ps.toList∧∀pos cv,codeAmong pos ps.toList=some cv→∃c,cv=Value.ref c∧H c=some (.own a)∧h.CodeRec cv q
  | .met f x=>h.get? a=some (PySem.W.methodObj (.ref f) (.ref x))
  | .ext φ=>φ h∧(∃o,h.get? a=some o)∧∀h1 h2:Heap,φ h1→(∀o,h1.get? a=some o→h2.get? a=some o)→φ h2
def HOk (H:Hp) (h:Heap):Prop:=∀a o,H a=some o→ObjOk P w H h a o
end
section
variable {P:Program} {w:World} {H H':Hp} {h h':Heap} {a:Addr} {o:HO}
theorem ObjOk.lt (x:ObjOk P w H h a o):a < h.objs.size:=by
  cases o with
  | lst xs=>obtain ⟨_,_,_,_,e⟩:=x;exact Heap.lt_size e
  | tup xs=>obtain ⟨_,_,_,p⟩:=x;exact p.lt
  | dK kvs=>obtain ⟨_,_,_,_,o,_,_,e,_⟩:=x;exact Heap.lt_size e
  | dT kvs=>obtain ⟨_,_,_,_,o,_,_,e,_⟩:=x;exact Heap.lt_size e
  | set S n=>obtain ⟨o,_,_,_,e,_⟩:=x;exact Heap.lt_size e
  | ins C dx fs=>obtain ⟨_,_,_,e,_⟩:=x;exact Heap.lt_size e
  | own y=>obtain ⟨_,e⟩:=x;exact Heap.lt_size e
  | xd fs=>obtain ⟨_,⟨_,_,_,e,_⟩,_⟩:=x;exact Heap.lt_size e
  | rng lo hi=>obtain ⟨_,_,_,e⟩:=x;exact Heap.lt_size e
  | frz ob u=>obtain ⟨e,_⟩:=x;exact Heap.lt_size e
  | tbl q=>obtain ⟨_,e,_⟩:=x;exact Heap.lt_size e
  | met f y=>exact Heap.lt_size (show h.get? a=some _ from x)
  | ext φ=>obtain ⟨_,⟨_,e⟩,_⟩:=x;exact Heap.lt_size e
theorem Paired.mapP {α β:Type} {F G:α→β→Prop} {l₁:List α} {l₂:List β} (h:Paired F l₁ l₂) (f:∀a b,F a b→G a b):Paired G l₁ l₂:=by
  induction h with
  | nil=>exact .nil
  | cons r _ t=>exact .cons (f _ _ r) t
theorem ObjOk.stay (x:ObjOk P w H h a o) (k:∀b u,(b=a∨H b=some (.own a))→h.get? b=some u→h'.get? b=some u)
    (ho:∀b,H b=some (.own a)→H' b=some (.own a)) (ht:∀b xs,H b=some (.tup xs)→H' b=some (.tup xs)):ObjOk P w H' h' a o:=by
  induction o with
  | lst xs=>obtain ⟨z,its,n,r,e⟩:=x;exact ⟨z,its,n,r,k _ _ (.inl rfl) e⟩
  | tup xs=>obtain ⟨z,its,r,ob,e,c⟩:=x;exact ⟨z,its,r,ob,k _ _ (.inl rfl) e,c⟩
  | dK kvs=>obtain ⟨z,y,vs,r,ob,es,ep,e,c⟩:=x;exact ⟨z,y,vs,r,ob,es,ep,k _ _ (.inl rfl) e,c⟩
  | dT kvs=>
    obtain ⟨z,y,xs,r,ob,es,ep,e,c⟩:=x
    exact ⟨z,y,xs,Paired.mapP r fun p q z=>⟨z.1,ht _ _ z.2.1,z.2.2⟩,ob,es,ep,k _ _ (.inl rfl) e,c⟩
  | set S n=>obtain ⟨ob,es,ep,t,e,c⟩:=x;exact ⟨ob,es,ep,t,k _ _ (.inl rfl) e,c⟩
  | ins C dx fs=>
    obtain ⟨d,z,ne,e,mA,⟨od,es,ep,e2,c⟩,r⟩:=x
    exact ⟨ho _ d,z,ne,k _ _ (.inl rfl) e,mA,⟨od,es,ep,k _ _ (.inr d) e2,c⟩,r⟩
  | own y=>obtain ⟨ob,e⟩:=x;exact ⟨ob,k _ _ (.inl rfl) e⟩
  | xd fs=>obtain ⟨mA,⟨od,es,ep,e,c⟩,r⟩:=x;exact ⟨mA,⟨od,es,ep,k _ _ (.inl rfl) e,c⟩,r⟩
  | rng lo hi=>obtain ⟨t,u,v,e⟩:=x;exact ⟨t,u,v,k _ _ (.inl rfl) e⟩
  | frz ob u ih=>obtain ⟨e,q⟩:=x;exact ⟨k _ _ (.inl rfl) e,ih q⟩
  | tbl q=>
    obtain ⟨ps,e,t,r⟩:=x
    refine ⟨ps,k _ _ (.inl rfl) e,t,fun pos cv z=>?_⟩
    obtain ⟨c,ec,ho',c2,oc,vs,tq,hc,hoc,hd⟩:=r pos cv z
    subst ec
    cases hc
    exact ⟨c,rfl,ho _ ho',c,oc,vs,tq,rfl,k _ _ (.inr ho') hoc,hd⟩
  | met f y=>
    have e:h.get? a=some (PySem.W.methodObj (.ref f) (.ref y)):=x
    show h'.get? a=some (PySem.W.methodObj (.ref f) (.ref y))
    exact k a _ (.inl rfl) e
  | ext φ=>obtain ⟨p,⟨o,e⟩,st⟩:=x;exact ⟨st _ _ p fun o q=>k _ _ (.inl rfl) q,⟨o,k _ _ (.inl rfl) e⟩,st⟩
theorem HOk.lt (x:HOk P w H h) (e:H a=some o):a < h.objs.size:=(x a o e).lt
theorem HOk.fresh (x:HOk P w H h) (e:h.objs.size≤a):H a=none:=by
  cases q:H a with
  | none=>rfl
  | some u=>exact absurd (Nat.lt_of_lt_of_le (x.lt q) e) (Nat.lt_irrefl _)
theorem HOk.kept (x:HOk P w H h) (k:∀b u,h.get? b=some u→h'.get? b=some u):HOk P w H h':=fun a o e=>
  (x a o e).stay (fun b u _ q=>k b u q) (fun _ q=>q) fun _ _ q=>q
theorem HOk.laid (x:HOk P w H h) (k:∀b u,h.get? b=some u→h'.get? b=some u) (hp:h.objs.size≤a) (new:ObjOk P w (upd H a o) h' a o):HOk P w (upd H a o) h':=fun b u e=>by
  have hn:=x.fresh hp
  by_cases hb:b=a
  · subst hb;rw [bx] at e;cases e;exact new
  · rw [aH hb] at e
    exact (x b u e).stay (fun c v _ q=>k c v q) (fun c q=>by rw [aH (aY q hn)];exact q) fun c xs q=>by rw [aH (aY q hn)];exact q
end
def Rd (H:Hp) (a:Addr) (u:HO):Prop:=H a=some u∨∃o,H a=some (.frz o u)
theorem Rd.of {H:Hp} {a:Addr} {u:HO} (h:H a=some u):Rd H a u:= .inl h
theorem Rd.ok {P:Program} {w:World} {H:Hp} {h:Heap} {a:Addr} {u:HO} (r:Rd H a u) (x:HOk P w H h):ObjOk P w H h a u:=by
  rcases r with r | ⟨o,r⟩
  · exact x a u r
  · obtain ⟨_,q⟩:=x a _ r
    exact q
def AM:Option HO→Prop
  | some (.lst _)=>True
  | some (.dK _)=>True
  | some (.dT _)=>True
  | some (.set _ _)=>True
  | some (.ins _ _ _)=>True
  | some (.ext _)=>True
  | _=>False
section
variable {P:Program} {w:World} {H:Hp} {h h':Heap} {x e:Addr} {o':HO}
theorem HOk.write (ok:HOk P w H h) (mu:AM (H x)) (he:e=x∨H e=some (.own x)) (k:∀b u,b≠e→h.get? b=some u→h'.get? b=some u) (heo:∃u,h'.get? e=some u)
    (new:ObjOk P w (upd H x o') h' x o'):HOk P w (upd H x o') h':=fun b u q=>by
  have nown:∀c y,H c=some (.own y)→c≠x:=fun c y r z=>by subst z;rw [r] at mu;exact mu
  have ntup:∀c xs,H c=some (.tup xs)→c≠x:=fun c xs r z=>by subst z;rw [r] at mu;exact mu
  by_cases hb:b=x
  · subst hb;rw [bx] at q;cases q;exact new
  · rw [aH hb] at q
    by_cases hbe:b=e
    · have q':H b=some (.own x):=by
        rcases he with z | z
        · exact absurd (hbe.trans z) hb
        · rw [hbe];exact z
      rw [q] at q';cases q'
      obtain ⟨v,hv⟩:=heo
      exact ⟨v,by rw [hbe];exact hv⟩
    · refine (ok b u q).stay (fun c v hc r=>k c v ?_ r) (fun c r=>by rw [aH (nown c b r)];exact r) fun c xs r=>by rw [aH (ntup c xs r)];exact r
      rcases hc with rfl | hc
      · exact hbe
      · rintro rfl
        rcases he with z | z
        · exact nown c b hc z
        · rw [hc] at z;cases z;exact hb rfl
end
structure Un (fs ex:List Addr) (H H':Hp) (h h':Heap):Prop where
  keep:∀b o,h.get? b=some o→H b=none→b∉fs→b∉ex→h'.get? b=some o
  slot:∀b o,h.get? b=some o→H b=none→b∈fs→b∉ex→∃sl,h'.get? b=some {o with slots:=sl}
  free:∀b o,h.get? b=some o→H b=none→b∉ex→H' b=none
  there:∀b o,h.get? b=some o→b∉ex→∃o',h'.get? b=some o'
  tups:∀b xs,H b=some (.tup xs)→H' b=some (.tup xs)
  frzs:∀b o u,H b=some (.frz o u)→H' b=some (.frz o u)
  tbls:∀b ps,H b=some (.tbl ps)→H' b=some (.tbl ps)
section
variable {fs fs' ex ex':List Addr} {H H1 H2:Hp} {h h1 h2 h':Heap} {a x e:Addr} {o:HO}
theorem Un.any (u:Un fs ex H H1 h h1) {b:Addr} {ob:Obj} (q:h.get? b=some ob) (n:H b=none) (hx:b∉ex):∃sl,h1.get? b=some {ob with slots:=sl}:=by
  by_cases hb:b∈fs
  · exact u.slot b ob q n hb hx
  · exact ⟨ob.slots,u.keep b ob q n hb hx⟩
theorem Un.trans (a:Un fs ex H H1 h h1) (b:Un fs ex H1 H2 h1 h2):Un fs ex H H2 h h2 where
  keep:=fun c ob q n hc hx=>b.keep c ob (a.keep c ob q n hc hx) (a.free c ob q n hx) hc hx
  slot:=fun c ob q n hc hx=>by
    obtain ⟨sl,e1⟩:=a.slot c ob q n hc hx
    obtain ⟨sl',e2⟩:=b.slot c _ e1 (a.free c ob q n hx) hc hx
    exact ⟨sl',e2⟩
  free:=fun c ob q n hx=>by
    obtain ⟨o',e1⟩:=a.there c ob q hx
    exact b.free c o' e1 (a.free c ob q n hx) hx
  there:=fun c ob q hx=>by
    obtain ⟨o',e1⟩:=a.there c ob q hx
    exact b.there c o' e1 hx
  tups:=fun c xs q=>b.tups c xs (a.tups c xs q)
  frzs:=fun c ob xs q=>b.frzs c ob xs (a.frzs c ob xs q)
  tbls:=fun c ps q=>b.tbls c ps (a.tbls c ps q)
theorem Un.kept (k:∀b u,h.get? b=some u→h'.get? b=some u):Un fs ex H H h h':=
  ⟨fun b ob q _ _ _=>k b ob q,fun b ob q _ _ _=>⟨ob.slots,k b ob q⟩,fun _ _ _ n _=>n,fun b ob q _=>⟨ob,k b ob q⟩,fun _ _ q=>q,fun _ _ _ q=>q,fun _ _ q=>q⟩
theorem Un.refl:Un fs ex H H h h:=Un.kept fun _ _ q=>q
theorem Un.laid (k:∀b u,h.get? b=some u→h'.get? b=some u) (hp:h.objs.size≤a) (hn:H a=none):Un fs ex H (upd H a o) h h' where
  keep:=fun b u q _ _ _=>k b u q
  slot:=fun b u q _ _ _=>⟨u.slots,k b u q⟩
  free:=fun b u q n _=>by rw [aH (Nat.ne_of_lt (Nat.lt_of_lt_of_le (Heap.lt_size q) hp))];exact n
  there:=fun b u q _=>⟨u,k b u q⟩
  tups:=fun b xs q=>by rw [aH (aY q hn)];exact q
  frzs:=fun b u xs q=>by rw [aH (aY q hn)];exact q
  tbls:=fun b ps q=>by rw [aH (aY q hn)];exact q
theorem Un.write (mu:AM (H x)) (he:e=x∨H e=some (.own x)) (k:∀b u,b≠e→h.get? b=some u→h'.get? b=some u) (heo:∃u,h'.get? e=some u):Un fs ex H (upd H x o) h h':=by
  have hx:∀b,H b=none→b≠x:=fun b n z=>by subst z;rw [n] at mu;exact mu
  have hb:∀b,H b=none→b≠e:=fun b n z=>by
    subst z
    rcases he with r | r
    · exact hx b n r
    · rw [n] at r;cases r
  have hm:∀b u,H b=some u→¬AM (some u)→b≠x:=fun b u q nm z=>by subst z;rw [q] at mu;exact nm mu
  refine ⟨fun b u q n _ _=>k b u (hb b n) q,fun b u q n _ _=>⟨u.slots,k b u (hb b n) q⟩,fun b u q n _=>by rw [aH (hx b n)];exact n,fun b u q _=>?_,
    fun b xs q=>by rw [aH (hm b _ q fun z=>z)];exact q,fun b u xs q=>by rw [aH (hm b _ q fun z=>z)];exact q,fun b ps q=>by rw [aH (hm b _ q fun z=>z)];exact q⟩
  by_cases hbe:b=e
  · subst hbe;exact heo
  · exact ⟨u,k b u hbe q⟩
theorem Un.mono (u:Un fs ex H H1 h h1) (hs:∀b∈fs,b∈fs') (hx:∀b∈ex,b∈ex'):Un fs' ex' H H1 h h1:=
  ⟨fun b ob q n hb he=>u.keep b ob q n (fun z=>hb (hs b z)) fun z=>he (hx b z),fun _ _ q n _ he=>u.any q n fun z=>he (hx _ z),fun b ob q n he=>u.free b ob q n fun z=>he (hx b z),fun b ob q he=>u.there b ob q fun z=>he (hx b z),u.tups,u.frzs,u.tbls⟩
end
def AN (h:Heap) (H:Hp):List Addr:=(List.range h.objs.size).filter fun a=>(H a).isSome
def nI (h:Heap) (H:Hp):Heap:=PySem.W.hideAll h (AN h H)
theorem rH (h:Heap) (H:Hp):(nI h H).objs.size=h.objs.size:=PySem.W.hideAll_size _ _
theorem jO {h:Heap} {H:Hp} {b:Addr} {o:Obj} (e:h.get? b=some o) (n:H b=none):(nI h H).get? b=some o:=
  PySem.W.hideAll_get _ e fun hm=>by
    have q:(H b).isSome=true:=(List.mem_filter.mp hm).2
    rw [n] at q;simp at q
theorem vG {h:Heap} {H:Hp} {b:Addr} {o:Obj} (e:(nI h H).get? b=some o):h.get? b=some o∧H b=none:=by
  have e':h.get? b=some o:=PySem.W.of_hideAll (AN h H) e
  refine ⟨e',?_⟩
  cases q:H b with
  | none=>rfl
  | some x=>
    have hm:b∈AN h H:=List.mem_filter.mpr ⟨List.mem_range.mpr (Heap.lt_size e'),by simp [q]⟩
    have z:(nI h H).get? b=none:=PySem.W.hideAll_none (AN h H) hm
    rw [z] at e;cases e
def vH (g h:Heap) (L:Addr):List (Addr×Obj):=(List.range h.objs.size).filterMap fun a=>if a=L∨(g.get? a).isSome=true then none else (h.get? a).map fun o=>(a,o)
def aW (g h:Heap) (L d:Addr):List (Addr×Obj):=(vH g h L).filter fun p=>decide (p.1≠d)
end L2
namespace L2
open PySem PySem.Spec PyProof.Rows
def tP (K:PySem.W.Frag):Option Addr:=match PySem.W.nsIn K mainGlobals "in_told_order" with
  | some (some (.ref f))=>match K.lookup f with
    | some ⟨_,_, .func fd,_⟩=>match fd.code with
      | .ref c=>match K.lookup c with
        | some ⟨_,_, .fields vs,_⟩=>match (vs[11]? :Option Value) with
          | some (.ref P)=>some P
          | _=>none
        | _=>none
      | _=>none
    | _=>none
  | _=>none
def jF (K:PySem.W.Frag) (b:Addr):Option Str:=if tP K=some b then some (Str.ofString "in_told_order.<locals>.<lambda>") else none
structure Mod (K:PySem.W.Frag) (mg:Str→Option Value) (base:Heap):Prop where
  kin:K.In base
  glob:base.Ns mainGlobals mg
  blt:∃mb,base.Ns builtinsNs mb∧∀x:Str,x≠"__name__"→mb x=bootBuiltins x
  nolimit:base.NoLimit
  bmain:∃bm ob,mg "__builtins__"=some (.ref bm)∧bm≠builtinsNs∧base.get? bm=some ob∧ob.cls= .type "module"∧ob.dict=some builtinsNs∧ob.data= .plain
structure Cx where
  prog:Program
  w:World
  K:PySem.W.Frag
  mg:Str→Option Value
  base:Heap
  A:Around
  N:List Str
  s₀:Shared
  H₀:Hp
  env:Env
  outer:List Env
  stack:List Env
  ex:List Addr
  fn:Str→Bool
  calm:Bool
  pn:List (Addr×Obj)
  xe:Value→Shared→Prop
def tN (l:List Env):List Addr:=l.filterMap (·.frame)
abbrev Cx.fs (X:Cx):List Addr:=tN X.outer
def zG (sc:Scope) (x:Str):Prop:=sc.names.lookup x=some .local∨sc.names.lookup x=some .cell∨sc.names.lookup x=some .free
def xO (sc:Scope) (x:Str):Prop:=sc.names.lookup x=some .local∨sc.names.lookup x=some .cell
def AT (env:Env) (h:Heap) (m:Str→Option Value) (x:Str) (u:Value):Prop:=
  (env.kindOf x=some .local∧m x=some u)∨((env.kindOf x=some .cell∨env.kindOf x=some .free)∧∃c,env.cells.lookup x=some c∧h.IsCell c (some u))
structure Cx.Ok (X:Cx):Prop where
  mod:Mod X.K X.mg X.base
  kind:X.env.scope.kind= .function
  glob:X.env.globals=mainGlobals
  blt:X.env.builtins=builtinsNs
  above:X.s₀.heap.objs.size≤X.env.locals
  inj:∀x y c,X.env.cells.lookup x=some c→X.env.cells.lookup y=some c→x=y
  has:∀x,(X.env.kindOf x=some .cell∨X.env.kindOf x=some .free)→∃c,X.env.cells.lookup x=some c
  cab:∀x c,X.fn x=true→X.env.cells.lookup x=some c→X.s₀.heap.objs.size≤c
  hd:X.calm=true→X.A.handled=none
  frames:X.A.frames=some X.stack
  stk:X.stack=X.outer∨(X.stack=X.env::X.outer∧X.env.frame=some X.env.locals)
  exf:∀b∈X.ex,b≠X.env.locals∧∀x c,X.env.cells.lookup x=some c→c≠b
  bs:∀b o,X.base.get? b=some o→X.s₀.heap.get? b=some o∧X.H₀ b=none
  bsz:X.base.objs.size≤X.s₀.heap.objs.size
  noex:∀b o,X.base.get? b=some o→b∉X.ex
  exfs:∀b∈X.ex,b∉X.fs
  funs:X.s₀.heap.FunFrames X.base X.outer
  frf:∀b∈X.fs,X.H₀ b=none
  tab:∀b q,jF X.K b=some q→X.H₀ b=some (.tbl q)
structure Inv (X:Cx) (pins:List (Addr×Obj)) (σ:List (Option V)) (H:Hp) (s:Shared):Prop where
  ok:X.Ok
  os:s.os=X.s₀.os
  bare:AllBare s.gens
  base:Un X.fs X.ex X.H₀ H X.s₀.heap s.heap
  loc:∃m,s.heap.Ns X.env.locals m∧∀(i:Nat) (x:Str) (v:V),X.N[i]? =some x→σ[i]? =some (some v)→zG X.env.scope x→∃u,RelV v u∧AT X.env s.heap m x u
  cell:∀x c,X.env.cells.lookup x=some c→∃v,s.heap.IsCell c v
  free:H X.env.locals=none
  freeC:∀x c,X.env.cells.lookup x=some c→H c=none
  pin:∀p∈X.pn++pins,s.heap.get? p.1=some p.2∧H p.1=none∧p.1≠X.env.locals∧p.1∉X.fs∧∀v,p.2.data≠ .cell v
  hok:HOk X.prog X.w H s.heap
  len:σ.length=X.N.length
section
variable {X:Cx} {pins:List (Addr×Obj)} {σ:List (Option V)} {H H':Hp} {s:Shared} {h':Heap}
theorem Cx.Ok.nofr (ok:X.Ok) {b:Addr} {o:Obj} (e:X.base.get? b=some o):b∉X.fs:=fun hb=>by
  have:=(ok.funs.mem hb).1
  rw [e] at this;cases this
theorem Inv.bs (I:Inv X pins σ H s):∀b o,X.base.get? b=some o→s.heap.get? b=some o∧H b=none:=fun b o e=>
  ⟨I.base.keep b o (I.ok.bs b o e).1 (I.ok.bs b o e).2 (I.ok.nofr e) (I.ok.noex b o e),I.base.free b o (I.ok.bs b o e).1 (I.ok.bs b o e).2 (I.ok.noex b o e)⟩
theorem Inv.bk (I:Inv X pins σ H s):∀b o,X.base.get? b=some o→s.heap.get? b=some o:=fun b o e=>(I.bs b o e).1
theorem Inv.mod (I:Inv X pins σ H s):Mod X.K X.mg X.base:=I.ok.mod
theorem Inv.tab (I:Inv X pins σ H s):∀b q,jF X.K b=some q→H b=some (.tbl q):=fun b q e=>I.base.tbls b q (I.ok.tab b q e)
theorem Inv.kIn (I:Inv X pins σ H s):X.K.In s.heap:=I.ok.mod.kin.keeps I.bk
theorem Inv.nolimit (I:Inv X pins σ H s):s.heap.NoLimit:=I.ok.mod.nolimit.keeps I.bk
theorem Inv.fr (I:Inv X pins σ H s):∃m,Fr X.base X.env.locals s.heap m:=
  let ⟨m,hn,_⟩:=I.loc
  ⟨m,hn,I.bk,Nat.le_trans I.ok.bsz I.ok.above⟩
theorem Inv.lt (I:Inv X pins σ H s):X.env.locals < s.heap.objs.size:=let ⟨_,hn,_⟩:=I.loc;hn.lt
theorem Inv.sz (I:Inv X pins σ H s):X.s₀.heap.objs.size≤s.heap.objs.size:=Nat.le_trans I.ok.above (Nat.le_of_lt I.lt)
theorem Inv.nofs (I:Inv X pins σ H s) {a:Addr} (h:s.heap.objs.size≤a):a∉X.fs:=fun hb=>by
  obtain ⟨_,o,ho,_⟩:=I.ok.funs.mem hb
  exact absurd (Nat.lt_of_lt_of_le (Heap.lt_size ho) (Nat.le_trans I.sz h)) (Nat.lt_irrefl _)
theorem Inv.cne (I:Inv X pins σ H s):∀x c,X.env.cells.lookup x=some c→c≠X.env.locals:=fun x c e z=>by
  obtain ⟨v,o,ho,hd⟩:=I.cell x c e
  obtain ⟨m,⟨o',es,ep,ho',hd',_⟩,_⟩:=I.loc
  rw [z,ho'] at ho;cases ho;rw [hd'] at hd;cases hd
theorem Inv.funs (I:Inv X pins σ H s):s.heap.FunFrames X.base X.outer:=by
  have all:∀(l:List Env),(∀b∈tN l,b∈X.fs)→X.s₀.heap.FunFrames X.base l→s.heap.FunFrames X.base l:=by
    intro l
    induction l with
    | nil=>intro _ _;trivial
    | cons env r ih=>
      intro hs hl
      obtain ⟨hk,⟨L,o,hf,hn,ho,hd⟩,hr⟩:=hl
      have hL:L∈X.fs:=hs L (by unfold tN;rw [List.filterMap_cons,hf];exact List.mem_cons_self)
      obtain ⟨sl,e⟩:=I.base.slot L o ho (I.ok.frf L hL) hL fun z=>I.ok.exfs L z hL
      exact ⟨hk,⟨L,_,hf,hn,e,hd⟩,ih (fun b hb=>hs b (by unfold tN;rw [List.filterMap_cons,hf];exact List.mem_cons_of_mem _ hb)) hr⟩
  exact all X.outer (fun _ hb=>hb) I.ok.funs
theorem Inv.stack (I:Inv X pins σ H s):s.heap.FunFrames X.base X.stack:=by
  rcases I.ok.stk with e | ⟨e,hf⟩
  · rw [e];exact I.funs
  · rw [e]
    obtain ⟨m,hn,_⟩:=I.loc
    refine .cons (by rw [I.ok.kind];decide) hf hn ?_ I.funs
    exact Heap.get?_none_of_le (Nat.le_trans I.ok.bsz I.ok.above)
theorem Inv.stkSub (I:Inv X pins σ H s):∀b∈tN X.stack,b∈X.env.locals::X.fs:=fun b hb=>by
  rcases I.ok.stk with e | ⟨e,hf⟩
  · rw [e] at hb;exact List.mem_cons_of_mem _ hb
  · rw [e] at hb
    unfold tN at hb
    rw [List.filterMap_cons,hf] at hb
    exact hb
theorem Inv.stkFree (I:Inv X pins σ H s):∀b∈tN X.stack,H b=none:=fun b hb=>by
  rcases List.mem_cons.mp (I.stkSub b hb) with e | hb
  · rw [e];exact I.free
  · obtain ⟨_,o,ho,_⟩:=I.ok.funs.mem hb
    exact I.base.free b o ho (I.ok.frf b hb) fun z=>I.ok.exfs b z hb
theorem Inv.step {g':Array GenState} {t':Nat} {d':Drawn} {ch:List Addr} (I:Inv X pins σ H s)
    (hch:∀b∈ch,(b∈X.ex∨X.s₀.heap.objs.size≤b)∧b≠X.env.locals∧(∀x c,X.env.cells.lookup x=some c→c≠b)∧∀p∈X.pn++pins,p.1≠b)
    (keep:∀b o,b≠X.env.locals→b∉X.fs→b∉ch→s.heap.get? b=some o→H b=none→h'.get? b=some o)
    (slot:∀b o,b≠X.env.locals→b∈X.fs→b∉ch→s.heap.get? b=some o→H b=none→∃sl,h'.get? b=some {o with slots:=sl}) (free:∀b o,b∉ch→s.heap.get? b=some o→H b=none→H' b=none)
    (there:∀b o,b∉ch→s.heap.get? b=some o→∃o',h'.get? b=some o')
    (tups:∀b xs,H b=some (.tup xs)→H' b=some (.tup xs)) (frzs:∀b o u,H b=some (.frz o u)→H' b=some (.frz o u)) (tbls:∀b ps,H b=some (.tbl ps)→H' b=some (.tbl ps))
    (ns:∀m,s.heap.Ns X.env.locals m→h'.Ns X.env.locals m) (hok:HOk X.prog X.w H' h') (hg:AllBare g'):
    Inv X pins σ H' {s with heap:=h',gens:=g',drawn:=d',toks:=t'}:=by
  have neL:∀b o,X.s₀.heap.get? b=some o→b≠X.env.locals:=fun b o e=>Nat.ne_of_lt (Nat.lt_of_lt_of_le (Heap.lt_size e) I.ok.above)
  have neC:∀b o,X.s₀.heap.get? b=some o→b∉X.ex→b∉ch:=fun b o e hx hb=>by
    rcases (hch b hb).1 with z | z
    · exact hx z
    · exact absurd (Nat.lt_of_lt_of_le (Heap.lt_size e) z) (Nat.lt_irrefl _)
  have cellK:∀x c,X.env.cells.lookup x=some c→∀v,s.heap.IsCell c v→h'.IsCell c v:=fun x c e v ⟨o,ho,hd⟩=>by
    have nch:c∉ch:=fun z=>(hch c z).2.2.1 x c e rfl
    by_cases hc:c∈X.fs
    · obtain ⟨sl,q⟩:=slot c o (I.cne x c e) hc nch ho (I.freeC x c e)
      exact ⟨_,q,hd⟩
    · exact ⟨o,keep c o (I.cne x c e) hc nch ho (I.freeC x c e),hd⟩
  refine ⟨I.ok,I.os,hg,⟨fun b o e n hb hx=>?_,fun b o e n hb hx=>?_,fun b o e n hx=>?_,fun b o e hx=>?_,fun b xs e=>tups b xs (I.base.tups b xs e),fun b o xs e=>frzs b o xs (I.base.frzs b o xs e),fun b ps e=>?_⟩,?_,fun x c e=>?_,?_,fun x c e=>?_,fun p hp=>?_,hok,I.len⟩
  · exact keep b o (neL b o e) hb (neC b o e hx) (I.base.keep b o e n hb hx) (I.base.free b o e n hx)
  · obtain ⟨sl,e1⟩:=I.base.slot b o e n hb hx
    obtain ⟨sl',e2⟩:=slot b _ (neL b o e) hb (neC b o e hx) e1 (I.base.free b o e n hx)
    exact ⟨sl',e2⟩
  · obtain ⟨o',e1⟩:=I.base.there b o e hx
    exact free b o' (neC b o e hx) e1 (I.base.free b o e n hx)
  · obtain ⟨o',e1⟩:=I.base.there b o e hx
    exact there b o' (neC b o e hx) e1
  · exact tbls b _ (I.base.tbls b ps e)
  · obtain ⟨m,hn,hl⟩:=I.loc
    refine ⟨m,ns m hn,fun i x v e1 e2 e3=>?_⟩
    obtain ⟨u,r,l⟩:=hl i x v e1 e2 e3
    refine ⟨u,r,?_⟩
    rcases l with l | ⟨k,c,e,z⟩
    · exact .inl l
    · exact .inr ⟨k,c,e,cellK x c e _ z⟩
  · obtain ⟨v,z⟩:=I.cell x c e
    exact ⟨v,cellK x c e v z⟩
  · obtain ⟨m,⟨o,_,_,ho,_⟩,_⟩:=I.loc
    exact free _ o (fun z=>(hch _ z).2.1 rfl) ho I.free
  · obtain ⟨v,o,ho,hd⟩:=I.cell x c e
    exact free c o (fun z=>(hch c z).2.2.1 x c e rfl) ho (I.freeC x c e)
  · obtain ⟨e,n,ne,nf,d⟩:=I.pin p hp
    have nch:p.1∉ch:=fun z=>(hch p.1 z).2.2.2 p hp rfl
    exact ⟨keep p.1 p.2 ne nf nch e n,free p.1 p.2 nch e n,ne,nf,d⟩
theorem Inv.un {t':Nat} (I:Inv X pins σ H s) (u:Un X.fs [] H H' s.heap h') (hok:HOk X.prog X.w H' h'):Inv X pins σ H' {s with heap:=h',toks:=t'}:=by
  obtain ⟨m,⟨o,es,ep,ho,r⟩,_⟩:=id I.loc
  obtain ⟨sl,hL⟩:=u.any ho I.free (by simp)
  exact I.step (g':=s.gens) (d':=s.drawn) (ch:=[]) (fun _ z=>nomatch z) (fun b o _ hb _ e n=>u.keep b o e n hb (by simp)) (fun b o _ hb _ e n=>u.slot b o e n hb (by simp)) (fun b o _ e n=>u.free b o e n (by simp)) (fun b o _ e=>u.there b o e (by simp)) u.tups u.frzs u.tbls (fun m' hm=>by
    obtain ⟨o',es',ep',ho',r'⟩:=hm
    rw [ho] at ho';cases ho'
    exact ⟨_,es',ep',hL,r'⟩) hok I.bare
theorem Inv.call {g':Array GenState} {t':Nat} {d':Drawn} {ch:List Addr} (I:Inv X pins σ H s) (u:Un (tN X.stack) ch H H' s.heap h') (hok:HOk X.prog X.w H' h') (hg:AllBare g')
    (hch:∀b∈ch,(b∈X.ex∨X.s₀.heap.objs.size≤b)∧b≠X.env.locals∧(∀x c,X.env.cells.lookup x=some c→c≠b)∧∀p∈X.pn++pins,p.1≠b):
    Inv X pins σ H' {s with heap:=h',gens:=g',drawn:=d',toks:=t'}:=by
  obtain ⟨m,⟨o,es,ep,ho,r⟩,_⟩:=id I.loc
  obtain ⟨sl,hL⟩:=u.any ho I.free fun z=>(hch _ z).2.1 rfl
  exact I.step (ch:=ch) hch (fun b o hL hb hc e n=>u.keep b o e n (fun z=>(List.mem_cons.mp (I.stkSub b z)).elim hL hb) hc) (fun b o _ _ hc e n=>u.any e n hc) (fun b o hc e n=>u.free b o e n hc) (fun b o hc e=>u.there b o e hc) u.tups u.frzs u.tbls (fun m' hm=>by
    obtain ⟨o',es',ep',ho',r'⟩:=hm
    rw [ho] at ho';cases ho'
    exact ⟨_,es',ep',hL,r'⟩) hok hg
theorem Inv.turned {t':Nat} {it:Addr} (I:Inv X pins σ H s) (k:∀b o,b≠it→s.heap.get? b=some o→h'.get? b=some o) (hn:H it=none) (hL:it≠X.env.locals)
    (h1:it∈X.ex∨X.s₀.heap.objs.size≤it) (h2:∀x c,X.env.cells.lookup x=some c→c≠it) (h3:∀p∈X.pn++pins,p.1≠it):Inv X pins σ H {s with heap:=h',toks:=t'}:=by
  have nit:∀b u,H b=some u→b≠it:=fun b u e z=>by rw [z,hn] at e;cases e
  refine I.step (g':=s.gens) (d':=s.drawn) (ch:=[it]) (fun b hb=>?_) (fun b o _ _ hc e _=>k b o (fun z=>hc (by simp [z])) e) (fun b o _ _ hc e _=>⟨o.slots,k b o (fun z=>hc (by simp [z])) e⟩) (fun _ _ _ _ n=>n)
    (fun b o hc e=>⟨o,k b o (fun z=>hc (by simp [z])) e⟩) (fun _ _ e=>e) (fun _ _ _ e=>e) (fun _ _ e=>e) (fun m hm=>?_) (fun b u e=>?_) I.bare
  · have e:b=it:=by simpa using hb
    subst e
    exact ⟨h1,hL,h2,h3⟩
  · obtain ⟨o,es,ep,ho,r⟩:=hm
    exact ⟨o,es,ep,k _ o (Ne.symm hL) ho,r⟩
  · refine (I.hok b u e).stay (fun c v hc q=>k c v ?_ q) (fun _ q=>q) fun _ _ q=>q
    rcases hc with z | z
    · rw [z];exact nit b u e
    · exact nit c _ z
theorem Inv.tok (I:Inv X pins σ H s) (t:Nat):Inv X pins σ H {s with toks:=t}:=I.un (h':=s.heap) (t':=t) Un.refl I.hok
theorem Inv.kept {t':Nat} (I:Inv X pins σ H s) (k:∀b u,s.heap.get? b=some u→h'.get? b=some u):Inv X pins σ H {s with heap:=h',toks:=t'}:=I.un (Un.kept k) (I.hok.kept k)
theorem Inv.laid {a:Addr} {o:HO} {t':Nat} (I:Inv X pins σ H s) (k:∀b u,s.heap.get? b=some u→h'.get? b=some u) (hp:s.heap.objs.size≤a) (new:ObjOk X.prog X.w (upd H a o) h' a o):
    Inv X pins σ (upd H a o) {s with heap:=h',toks:=t'}:=I.un (Un.laid k hp (I.hok.fresh hp)) (I.hok.laid k hp new)
theorem Inv.write {x e:Addr} {o:HO} {t':Nat} (I:Inv X pins σ H s) (mu:AM (H x)) (he:e=x∨H e=some (.own x)) (k:∀b u,b≠e→s.heap.get? b=some u→h'.get? b=some u) (heo:∃u,h'.get? e=some u)
    (new:ObjOk X.prog X.w (upd H x o) h' x o):Inv X pins σ (upd H x o) {s with heap:=h',toks:=t'}:=I.un (Un.write mu he k heo) (I.hok.write mu he k heo new)
theorem Inv.pins_of {pins':List (Addr×Obj)} (I:Inv X pins σ H s) (h:∀p∈pins',s.heap.get? p.1=some p.2∧H p.1=none∧p.1≠X.env.locals∧p.1∉X.fs∧∀v,p.2.data≠ .cell v):Inv X pins' σ H s:=
  ⟨I.ok,I.os,I.bare,I.base,I.loc,I.cell,I.free,I.freeC,fun p hp=>(List.mem_append.mp hp).elim (fun z=>I.pin p (List.mem_append_left _ z)) (h p),I.hok,I.len⟩
theorem nJ {N:List Str} (hN:N.Nodup) {i j:Nat} {x:Str} (a:N[i]? =some x) (b:N[j]? =some x):i=j:=by
  obtain ⟨h1,e1⟩:=List.getElem?_eq_some_iff.mp a
  obtain ⟨h2,e2⟩:=List.getElem?_eq_some_iff.mp b
  exact (List.getElem_inj hN).mp (e1.trans e2.symm)
theorem rJ {M:Model} {A:Around} {E:Value→Shared→Prop} {i:Nat} {x:Str} {v:V} {u:Value} {Q:Unit→Shared→Prop} (I:Inv X pins σ H s) (hN:X.N.Nodup) (hi:X.N[i]? =some x) (hx:xO X.env.scope x) (r:RelV v u)
    (h:∀s',Inv X pins (σ.set i (some v)) H s'→(∃a,Heap.SameBut a s.heap s'.heap∧(a=X.env.locals∨X.env.cells.lookup x=some a))→Q () s') (hf:X.fn x=true∨X.env.scope.names.lookup x=some .local:=by first | exact .inl rfl | exact .inr rfl | assumption):wpAny M A (storeName X.env x u) Q E s:=by
  obtain ⟨m,hn,hl⟩:=id I.loc
  have hcls:(X.env.scope.kind == .class||(X.env.scope.kind == .module&&X.env.locals != X.env.globals))=false:=by rw [I.ok.kind];rfl
  have hiσ:i < σ.length:=by rw [I.len];exact (List.getElem?_eq_some_iff.mp hi).1
  have cne:=I.cne
  have tracked:∀{a:Addr} {h':Heap},(∃o,s.heap.get? a=some o∧H a=none)→Heap.SameBut a s.heap h'→HOk X.prog X.w H h':=fun {a h'} ha hs b ob e=>by
    obtain ⟨_,_,hfree⟩:=ha
    refine (I.hok b ob e).stay (fun c w' hc q=>(hs.2 c ?_).trans q) (fun _ q=>q) fun _ _ q=>q
    rintro rfl
    rcases hc with rfl | hc
    · rw [hfree] at e;cases e
    · rw [hfree] at hc;cases hc
  rcases hx with hk | hk
  · refine wpAny_storeName_local hk hn (fun h' hn' hs=>?_) hcls
    obtain ⟨oL,_,_,hoL,_⟩:=id hn
    refine h _ ⟨I.ok,I.os,I.bare,⟨fun b o e n hb hx=>?_,fun b o e n hb hx=>?_,I.base.free,fun b o e hx=>?_,I.base.tups,I.base.frzs,I.base.tbls⟩,⟨_,hn',fun j y v' e1 e2 e3=>?_⟩,fun y c e=>?_,I.free,I.freeC,fun p hp=>?_,tracked ⟨oL,hoL,I.free⟩ hs,by simpa using I.len⟩ ⟨_,hs, .inl rfl⟩
    · exact (hs.2 b (Nat.ne_of_lt (Nat.lt_of_lt_of_le (Heap.lt_size e) I.ok.above))).trans (I.base.keep b o e n hb hx)
    · obtain ⟨sl,e1⟩:=I.base.slot b o e n hb hx
      exact ⟨sl,(hs.2 b (Nat.ne_of_lt (Nat.lt_of_lt_of_le (Heap.lt_size e) I.ok.above))).trans e1⟩
    · obtain ⟨o',e1⟩:=I.base.there b o e hx
      exact ⟨o',(hs.2 b (Nat.ne_of_lt (Nat.lt_of_lt_of_le (Heap.lt_size e) I.ok.above))).trans e1⟩
    · by_cases hj:j=i
      · subst hj
        rw [hi] at e1;cases e1
        rw [List.getElem?_set_self hiσ] at e2
        cases e2
        exact ⟨u,r, .inl ⟨hk,by simp⟩⟩
      · rw [List.getElem?_set_ne (Ne.symm hj)] at e2
        obtain ⟨u',r',q⟩:=hl j y v' e1 e2 e3
        refine ⟨u',r',?_⟩
        rcases q with ⟨k,e⟩ | ⟨k,c,e,z⟩
        · refine .inl ⟨k,?_⟩
          have:y≠x:=fun e=>hj (nJ hN e1 (e▸hi))
          simp [this,e]
        · exact .inr ⟨k,c,e,z.sameBut hs (cne y c e)⟩
    · obtain ⟨w',z⟩:=I.cell y c e
      exact ⟨w',z.sameBut hs (cne y c e)⟩
    · obtain ⟨e,n,ne,nf,d⟩:=I.pin p hp
      exact ⟨(hs.2 p.1 ne).trans e,n,ne,nf,d⟩
  · have hfn:X.fn x=true:=by
      rcases hf with z | z
      · exact z
      · rw [z] at hk;cases hk
    obtain ⟨c,hc⟩:=I.ok.has x (.inl hk)
    obtain ⟨w',z⟩:=I.cell x c hc
    refine wpAny_storeName_cell I.ok.kind hk hc z (fun h' hc' hs=>?_)
    obtain ⟨oc,hoc,hocd⟩:=id z
    refine h {s with heap:=h'} ⟨I.ok,I.os,I.bare,⟨fun b o e n hb hx=>?_,fun b o e n hb hx=>?_,I.base.free,fun b o e hx=>?_,I.base.tups,I.base.frzs,I.base.tbls⟩,⟨m,hn.sameBut hs (Ne.symm (cne x c hc)),fun j y v' e1 e2 e3=>?_⟩,fun y c' e=>?_,I.free,I.freeC,fun p hp=>?_,tracked ⟨oc,hoc,I.freeC x c hc⟩ hs,by simpa using I.len⟩ ⟨c,hs, .inr hc⟩
    · exact (hs.2 b (Nat.ne_of_lt (Nat.lt_of_lt_of_le (Heap.lt_size e) (I.ok.cab x c hfn hc)))).trans (I.base.keep b o e n hb hx)
    · obtain ⟨sl,e1⟩:=I.base.slot b o e n hb hx
      exact ⟨sl,(hs.2 b (Nat.ne_of_lt (Nat.lt_of_lt_of_le (Heap.lt_size e) (I.ok.cab x c hfn hc)))).trans e1⟩
    · obtain ⟨o',e1⟩:=I.base.there b o e hx
      exact ⟨o',(hs.2 b (Nat.ne_of_lt (Nat.lt_of_lt_of_le (Heap.lt_size e) (I.ok.cab x c hfn hc)))).trans e1⟩
    · by_cases hj:j=i
      · subst hj
        rw [hi] at e1;cases e1
        rw [List.getElem?_set_self hiσ] at e2
        cases e2
        exact ⟨u,r, .inr ⟨.inl hk,c,hc,hc'⟩⟩
      · rw [List.getElem?_set_ne (Ne.symm hj)] at e2
        obtain ⟨u',r',q⟩:=hl j y v' e1 e2 e3
        refine ⟨u',r',?_⟩
        rcases q with q | ⟨k,c',e,z'⟩
        · exact .inl q
        · refine .inr ⟨k,c',e,z'.sameBut hs ?_⟩
          rintro rfl
          exact hj (nJ hN e1 (I.ok.inj _ _ _ e hc▸hi))
    · by_cases hcc:c'=c
      · subst hcc;exact ⟨_,hc'⟩
      · obtain ⟨w2,z2⟩:=I.cell y c' e
        exact ⟨w2,z2.sameBut hs hcc⟩
    · obtain ⟨e,n,ne,nf,d⟩:=I.pin p hp
      refine ⟨(hs.2 p.1 ?_).trans e,n,ne,nf,d⟩
      intro q
      rw [q,hoc] at e
      have q':oc=p.2:=Option.some.inj e
      exact d w' (by rw [←q'];exact hocd)
theorem nK {M:Model} {A:Around} {E:Value→Shared→Prop} {i:Nat} {x:Str} {v:V} {u:Value} {Q:Unit→Shared→Prop} (I:Inv X pins σ H s) (hN:X.N.Nodup) (hi:X.N[i]? =some x) (hx:xO X.env.scope x) (r:RelV v u)
    (h:∀s',Inv X pins (σ.set i (some v)) H s'→Q () s') (hf:X.fn x=true∨X.env.scope.names.lookup x=some .local:=by first | exact .inl rfl | exact .inr rfl | assumption):wpAny M A (storeName X.env x u) Q E s:=
  rJ I hN hi hx r (fun s' I' _=>h s' I') hf
theorem Inv.call' {s':Shared} {ch:List Addr} (I:Inv X pins σ H s) (ho:s'.os=s.os) (u:Un (tN X.stack) ch H H' s.heap s'.heap) (hok:HOk X.prog X.w H' s'.heap) (hg:AllBare s'.gens)
    (hch:∀b∈ch,(b∈X.ex∨X.s₀.heap.objs.size≤b)∧b≠X.env.locals∧(∀x c,X.env.cells.lookup x=some c→c≠b)∧∀p∈X.pn++pins,p.1≠b):Inv X pins σ H' s':=by
  obtain ⟨h',g',d',t',o'⟩:=s'
  have e:o'=s.os:=ho
  subst e
  exact I.call (g':=g') (t':=t') (d':=d') u hok hg hch
end
abbrev XK:=Value→Option Addr→Hp→Prop
abbrev St:=List (Option V)
abbrev VK:=V→Hp→Prop
abbrev TE:=St→Hp→VK→Prop
abbrev TT:=St→Hp→(Bool→Hp→Prop)→Prop
abbrev TA:=St→Hp→(List V→Hp→Prop)→Prop
structure Ends where
  nx:St→Hp→Prop
  rt:VK
  bk:St→Hp→Prop:=fun _ _=>False
  ct:St→Hp→Prop:=fun _ _=>False
abbrev TS:=Ends→St→Hp→Prop
def EP (X:Cx) (pins:List (Addr×Obj)) (σ:St) (Q:VK) (u:Value) (s':Shared):Prop:=∃v H',Inv X pins σ H' s'∧RelV v u∧Q v H'
def TP (X:Cx) (pins:List (Addr×Obj)) (σ:St) (Q:Bool→Hp→Prop) (b:Bool) (s':Shared):Prop:=∃H',Inv X pins σ H' s'∧Q b H'
def AP (X:Cx) (pins:List (Addr×Obj)) (σ:St) (Q:List V→Hp→Prop) (us:List Value) (s':Shared):Prop:=∃vs H',Inv X pins σ H' s'∧Vals vs us∧Q vs H'
def SP (X:Cx) (pins:List (Addr×Obj)) (D:Ends) (f:Flow) (s':Shared):Prop:=
  match f with
  | .next=>∃σ' H',Inv X pins σ' H' s'∧D.nx σ' H'
  | .brk=>∃σ' H',Inv X pins σ' H' s'∧D.bk σ' H'
  | .cont=>∃σ' H',Inv X pins σ' H' s'∧D.ct σ' H'
  | .ret u=>∃v σ' H',Inv X pins σ' H' s'∧RelV v u∧D.rt v H'
def PE (X:Cx) (e:Expr) (t:TE):Prop:=
  ∀(pins:List (Addr×Obj)) (s:Shared) (σ:St) (H:Hp) (Q:VK),Inv X pins σ H s→t σ H Q→wpAny (model X.prog X.w) X.A (eval e X.env) (EP X pins σ Q) X.xe s
def PT (X:Cx) (e:Expr) (t:TT):Prop:=
  ∀(pins:List (Addr×Obj)) (s:Shared) (σ:St) (H:Hp) (Q:Bool→Hp→Prop),Inv X pins σ H s→t σ H Q→wpAny (model X.prog X.w) X.A (isTrue e X.env (eval e X.env)) (TP X pins σ Q) X.xe s
def PW (X:Cx) (e:Expr) (t:TT):Prop:=
  ∀(whole:Sem Value) (pins:List (Addr×Obj)) (s:Shared) (σ:St) (H:Hp) (Q:Bool→Hp→Prop),Inv X pins σ H s→t σ H Q→wpAny (model X.prog X.w) X.A (isTrue e X.env whole) (TP X pins σ Q) X.xe s
theorem PW.pt {X:Cx} {e:Expr} {t:TT} (h:PW X e t):PT X e t:=h _
def PA (X:Cx) (es:List Expr) (t:TA):Prop:=
  ∀(pos:Pos) (pins:List (Addr×Obj)) (s:Shared) (σ:St) (H:Hp) (Q:List V→Hp→Prop),Inv X pins σ H s→t σ H Q→wpAny (model X.prog X.w) X.A (spliced (backTo pos (starEach es X.env))) (AP X pins σ Q) X.xe s
def PS (X:Cx) (st:Stmt) (t:TS):Prop:=
  ∀(pins:List (Addr×Obj)) (s:Shared) (σ:St) (H:Hp) (D:Ends),Inv X pins σ H s→t D σ H→wpAny (model X.prog X.w) X.A (exec st X.env) (SP X pins D) X.xe s
def PSs (X:Cx) (st:List Stmt) (t:TS):Prop:=
  ∀(pins:List (Addr×Obj)) (s:Shared) (σ:St) (H:Hp) (D:Ends),Inv X pins σ H s→t D σ H→wpAny (model X.prog X.w) X.A (execs st X.env) (SP X pins D) X.xe s
theorem cZ {α:Type} {t:Sem α} {Q Q':α→Shared→Prop} {M:Model} {A:Around} {E:Value→Shared→Prop} {s:Shared} (h:wpAny M A t Q E s) (hQ:∀a s,Q a s→Q' a s):wpAny M A t Q' E s:=wpAny_mono h hQ fun _ _ x=>x
end L2
namespace L2
open PySem PySem.Spec PyProof.Rows
section
variable {X:Cx}
def AU (i:Nat):TE:=fun σ H Q=>∃v,σ[i]? =some (some v)∧Q v H
def tC (v:V):TE:=fun _ H Q=>Q v H
theorem pc {i:Nat} {x:Str} {pos:Pos} (hN:X.N[i]? =some x) (hv:zG X.env.scope x) (hd:(x == ("__debug__":Str))=false:=by decide) (hcd:(x == ("__classdict__":Str))=false:=by decide):PE X (.Name x pos) (AU i):=by
  intro pins s σ H Q I h
  obtain ⟨v,e,h⟩:=h
  obtain ⟨m,hn,hl⟩:=I.loc
  obtain ⟨u,r,l⟩:=hl i x v hN e hv
  have fin:EP X pins σ Q u s:=⟨v,H,I,r,h⟩
  rcases l with ⟨hk,hm⟩ | ⟨hk,c,hc,hcell⟩
  · exact wpAny_Name (wpAny_loadName_local I.ok.kind hk hn hm fin) hd
  · rcases hk with hk | hk
    · exact wpAny_Name (wpAny_loadName_cell I.ok.kind hk hc hcell fin) hd
    · exact wpAny_Name (wpAny_loadName_free I.ok.kind hk hc hcell fin hcd) hd
theorem xP {i j pos}:PE X (.Constant (.int i) j pos) (tC (.int i)):=fun _ _ _ H _ I h=>wpAny_Constant_int ⟨.int i,H,I.tok _,⟨_,rfl⟩,h⟩
theorem zH {b j pos}:PE X (.Constant (.bool b) j pos) (tC (.bl b)):=fun _ _ _ H _ I h=>Constant_bool ⟨.bl b,H,I,rfl,h⟩
theorem xQ {j pos}:PE X (.Constant .none j pos) (tC .non):=fun _ _ _ H _ I h=>Constant_none ⟨.non,H,I,rfl,h⟩
theorem tQ {x j pos}:PE X (.Constant (.str x) j pos) (tC (.str x)):=fun _ _ _ H _ I h=>Calls.Constant_str ⟨.str x,H,I.tok _,⟨_,rfl⟩,h⟩
def Gl (X:Cx) (x:Str):Prop:=X.env.kindOf x=some .globalImplicit
theorem me {E:Value→Shared→Prop} {pins:List (Addr×Obj)} {s:Shared} {σ:St} {H:Hp} {x:Str} {u:Value} {pos:Pos} {Q:Value→Shared→Prop} (I:Inv X pins σ H s) (hg:Gl X x) (hm:X.mg x=some u) (h:Q u s)
    (hd:(x == ("__debug__":Str))=false:=by decide):wpAny (model X.prog X.w) X.A (eval (.Name x pos) X.env) Q E s:=
  Calls.Name_function_global I.ok.kind hg (Calls.loadGlobal_global (by rw [I.ok.glob];exact I.mod.glob.keeps I.bk) hm h) hd
theorem g9 {E:Value→Shared→Prop} {pins:List (Addr×Obj)} {s:Shared} {σ:St} {H:Hp} {x:Str} {u:Value} {pos:Pos} {Q:Value→Shared→Prop} (I:Inv X pins σ H s) (hg:Gl X x) (hm:X.mg x=none) (hv:bootBuiltins x=some u) (h:Q u s)
    (hn:x≠"__name__":=by decide) (hd:(x == ("__debug__":Str))=false:=by decide):wpAny (model X.prog X.w) X.A (eval (.Name x pos) X.env) Q E s:=by
  obtain ⟨mb,h1,h2⟩:=I.mod.blt
  exact Calls.Name_function_global I.ok.kind hg (Calls.loadGlobal_builtin (by rw [I.ok.glob];exact I.mod.glob.keeps I.bk) hm (by rw [I.ok.blt];exact h1.keeps I.bk) ((h2 x hn).trans hv) h) hd
theorem vI {x:Str} {v:V} {u:Value} {pos:Pos} (hg:Gl X x) (hm:X.mg x=some u) (r:RelV v u) (hd:(x == ("__debug__":Str))=false:=by decide):PE X (.Name x pos) (tC v):=
  fun _ _ _ H _ I h=>me I hg hm ⟨v,H,I,r,h⟩ hd
theorem vJ {x:Str} {v:V} {u:Value} {pos:Pos} (hg:Gl X x) (hm:X.mg x=none) (hv:bootBuiltins x=some u) (r:RelV v u) (hn:x≠"__name__":=by decide) (hd:(x == ("__debug__":Str))=false:=by decide):PE X (.Name x pos) (tC v):=
  fun _ _ _ H _ I h=>g9 I hg hm hv ⟨v,H,I,r,h⟩ hn hd
variable {a b:Expr} {ta tb:TE} {pos:Pos}
variable {tA tB':TT} {aW:List Expr}
def AV (t u:TT):TT:=fun σ H Q=>t σ H fun c H1=>if c=true then u σ H1 Q else Q false H1
def BQ (t u:TT):TT:=fun σ H Q=>t σ H fun c H1=>if c=true then Q true H1 else u σ H1 Q
def AW (t:TT):TT:=fun σ H Q=>t σ H fun c H1=>Q (!c) H1
theorem vK (ha:PT X a tA):PW X (.BoolOp .And [a] pos) tA:=by
  intro wh pins s σ H Q I h
  refine isTrue_and (cZ (ha pins s σ H Q I h) fun c s1 e=>?_)
  cases c with
  | true=>exact isTrue_and_nil e
  | false=>exact e
theorem xR (ha:PT X a tA):PW X (.BoolOp .Or [a] pos) tA:=by
  intro wh pins s σ H Q I h
  refine isTrue_or (cZ (ha pins s σ H Q I h) fun c s1 e=>?_)
  cases c with
  | false=>exact isTrue_or_nil e
  | true=>exact e
theorem xS (ha:PT X a tA) (hb:PW X (.BoolOp .And (b::aW) pos) tB'):PW X (.BoolOp .And (a::b::aW) pos) (AV tA tB'):=by
  intro wh pins s σ H Q I h
  refine isTrue_and (cZ (ha pins s σ H _ I h) fun c s1 ⟨H1,I1,q1⟩=>?_)
  cases c with
  | true=>exact hb wh pins s1 σ H1 Q I1 q1
  | false=>exact ⟨H1,I1,q1⟩
theorem zI (ha:PT X a tA) (hb:PW X (.BoolOp .Or (b::aW) pos) tB'):PW X (.BoolOp .Or (a::b::aW) pos) (BQ tA tB'):=by
  intro wh pins s σ H Q I h
  refine isTrue_or (cZ (ha pins s σ H _ I h) fun c s1 ⟨H1,I1,q1⟩=>?_)
  cases c with
  | true=>exact ⟨H1,I1,q1⟩
  | false=>exact hb wh pins s1 σ H1 Q I1 q1
theorem xT (ha:PT X a tA):PT X (.UnaryOp .Not a pos) (AW tA):=by
  intro pins s σ H Q I h
  exact isTrue_not (ha pins s σ H (fun c H1=>Q (!c) H1) I h)
def zJ (ta tb:TE):TE:=fun σ H Q=>ta σ H fun x H1=>∃c,x= .bl c∧if c=true then tb σ H1 Q else Q (.bl false) H1
theorem xU {op} {t:TE} (h:PE X a t):PE X (.BoolOp op [a] pos) t:=fun pins s σ H Q I hw=>BoolOp_one (h pins s σ H Q I hw)
theorem xV (ha:PE X a ta) (hb:PE X (.BoolOp .And (b::aW) pos) tb):PE X (.BoolOp .And (a::b::aW) pos) (zJ ta tb):=by
  intro pins s σ H Q I h
  refine BoolOp_and (cZ (ha pins s σ H _ I h) fun v s1 ⟨x,H1,I1,r1,q1⟩=>?_)
  obtain ⟨c,rfl,q1⟩:=q1
  cases r1
  refine wpAny_truthy_bool ?_
  cases c with
  | true=>exact hb pins s1 σ H1 Q I1 q1
  | false=>exact ⟨.bl false,H1,I1,rfl,q1⟩
end
end L2
namespace L2
open PySem PySem.Spec PyProof.Rows
def SqL (K:PySem.W.Frag) (H:Hp) (a:Addr) (xs:List V):Prop:=
  Rd H a (.lst xs)∨
    ∃(o:Obj) (its:Array Value) (n:Nat),K.lookup a=some o∧o.cls= .type "list"∧o.dict=none∧o.data= .seq its n∧its.size≤sizeLine∧Vals xs its.toList
def SqT (K:PySem.W.Frag) (H:Hp) (a:Addr) (xs:List V):Prop:=
  Rd H a (.tup xs)∨
    ∃(o:Obj) (its:Array Value) (n:Nat),K.lookup a=some o∧o.cls= .type "tuple"∧o.data= .seq its n∧its.size≤sizeLine∧Vals xs its.toList
def AY:Value→Option V
  | .none=>some .non
  | .bool b=>some (.bl b)
  | .int i _=>some (.int i)
  | .str x _=>some (.str x)
  | .bytes b _=>some (.byt b)
  | .float b _=>some (.flt b)
  | .ref a=>some (.ref a)
  | .type n=>some (.ty n)
  | _=>none
theorem RelV.abs {x:V} {u:Value} (r:RelV x u):AY u=some x:=by
  cases x with
  | non=>cases r;rfl
  | bl _=>cases r;rfl
  | int _=>obtain ⟨t,rfl⟩:=r;rfl
  | str _=>obtain ⟨t,rfl⟩:=r;rfl
  | byt _=>obtain ⟨t,rfl⟩:=r;rfl
  | flt _=>obtain ⟨t,rfl⟩:=r;rfl
  | ref _=>cases r;rfl
  | ty _=>cases r;rfl
theorem RelV.inj {x y:V} {u:Value} (r:RelV x u) (q:RelV y u):x=y:=Option.some.inj (r.abs.symm.trans q.abs)
theorem Vals.inj {xs ys:List V} {us:List Value} (h:Vals xs us) (k:Vals ys us):xs=ys:=by
  induction h generalizing ys with
  | nil=>cases k;rfl
  | cons r _ ih=>cases k with | cons r' t'=>rw [r.inj r',ih t']
section
variable {X:Cx} {pins:List (Addr×Obj)} {σ:St} {H:Hp} {s:Shared} {a:Addr} {xs ys:List V}
theorem SqL.of {K:PySem.W.Frag} (h:H a=some (.lst xs)):SqL K H a xs:= .inl (.inl h)
theorem SqT.of {K:PySem.W.Frag} (h:H a=some (.tup xs)):SqT K H a xs:= .inl (.inl h)
theorem Inv.list (I:Inv X pins σ H s) (h:SqL X.K H a xs):∃its:List Value,Vals xs its∧PlainL s.heap a its.toArray∧xs.length≤sizeLine:=by
  rcases h with h | ⟨o,its,n,hk,hc,hd,hs,hz,r⟩
  · obtain ⟨z,its,n,r,e⟩:=h.ok I.hok
    exact ⟨its,r,⟨_,n,e,rfl,rfl,rfl⟩,z⟩
  · refine ⟨its.toList,r,⟨o,n,I.kIn a o hk,hc,hd,by simpa using hs⟩,?_⟩
    have e:=r.length
    simp only [Array.length_toList] at e
    omega
theorem Inv.tuple (I:Inv X pins σ H s) (h:SqT X.K H a xs):∃its:List Value,Vals xs its∧IsTup s.heap a its.toArray∧xs.length≤sizeLine:=by
  rcases h with h | ⟨o,its,n,hk,hc,hs,hz,r⟩
  · obtain ⟨z,its,r,p⟩:=h.ok I.hok
    exact ⟨its,r,p,z⟩
  · refine ⟨its.toList,r,⟨o,I.kIn a o hk,hc,n,by simpa using hs⟩,?_⟩
    have e:=r.length
    simp only [Array.length_toList] at e
    omega
theorem Inv.list_inj (I:Inv X pins σ H s) (h:SqL X.K H a xs) (h':SqL X.K H a ys):xs=ys:=by
  obtain ⟨its,r,⟨o,n,e,_,_,d⟩,_⟩:=I.list h
  obtain ⟨its',r',⟨o',n',e',_,_,d'⟩,_⟩:=I.list h'
  rw [e] at e';cases e'
  rw [d] at d'
  injection d' with d1 _
  have:its=its':=by simpa using congrArg Array.toList d1
  subst this
  exact r.inj r'
theorem Inv.tuple_inj (I:Inv X pins σ H s) (h:SqT X.K H a xs) (h':SqT X.K H a ys):xs=ys:=by
  obtain ⟨its,r,⟨o,e,_,n,d⟩,_⟩:=I.tuple h
  obtain ⟨its',r',⟨o',e',_,n',d'⟩,_⟩:=I.tuple h'
  rw [e] at e';cases e'
  rw [d] at d'
  injection d' with d1 _
  have:its=its':=by simpa using congrArg Array.toList d1
  subst this
  exact r.inj r'
end
abbrev Cx.wish (X:Cx) (E:Value→Shared→Prop):Cx:={X with xe:=E}
abbrev Cx.nox (X:Cx):Cx:=X.wish fun _ _=>False
theorem Cx.Ok.wish {X:Cx} (ok:X.Ok) (E:Value→Shared→Prop):(X.wish E).Ok:=
  ⟨ok.mod,ok.kind,ok.glob,ok.blt,ok.above,ok.inj,ok.has,ok.cab,ok.hd,ok.frames,ok.stk,ok.exf,ok.bs,ok.bsz,ok.noex,ok.exfs,ok.funs,ok.frf,ok.tab⟩
theorem Cx.Ok.unwish {X:Cx} {E:Value→Shared→Prop} (ok:(X.wish E).Ok):X.Ok:=
  ⟨ok.mod,ok.kind,ok.glob,ok.blt,ok.above,ok.inj,ok.has,ok.cab,ok.hd,ok.frames,ok.stk,ok.exf,ok.bs,ok.bsz,ok.noex,ok.exfs,ok.funs,ok.frf,ok.tab⟩
section
variable {X:Cx} {pins:List (Addr×Obj)} {σ:St} {H:Hp} {s:Shared} {E:Value→Shared→Prop}
theorem Inv.wish (I:Inv X pins σ H s) (E:Value→Shared→Prop):Inv (X.wish E) pins σ H s:=⟨I.ok.wish E,I.os,I.bare,I.base,I.loc,I.cell,I.free,I.freeC,I.pin,I.hok,I.len⟩
theorem Inv.unwish (I:Inv (X.wish E) pins σ H s):Inv X pins σ H s:=⟨I.ok.unwish,I.os,I.bare,I.base,I.loc,I.cell,I.free,I.freeC,I.pin,I.hok,I.len⟩
theorem SP.unwish {D:Ends} {f:Flow} {s':Shared} (h:SP (X.wish E) pins D f s'):SP X pins D f s':=by
  cases f with
  | next=>obtain ⟨σ',H',I,q⟩:=h;exact ⟨σ',H',I.unwish,q⟩
  | brk=>obtain ⟨σ',H',I,q⟩:=h;exact ⟨σ',H',I.unwish,q⟩
  | cont=>obtain ⟨σ',H',I,q⟩:=h;exact ⟨σ',H',I.unwish,q⟩
  | ret u=>obtain ⟨v,σ',H',I,r,q⟩:=h;exact ⟨v,σ',H',I.unwish,r,q⟩
theorem PE.nox {e:Expr} {t:TE} (h:PE X.nox e t):PE X e t:=fun pins s σ H Q I hw=>
  wpAny_mono (h pins s σ H Q (I.wish _) hw) (fun _ _ ⟨v,H',I',r,q⟩=>⟨v,H',I'.unwish,r,q⟩) fun _ _ z=>False.elim z
theorem PT.nox {e:Expr} {t:TT} (h:PT X.nox e t):PT X e t:=fun pins s σ H Q I hw=>
  wpAny_mono (h pins s σ H Q (I.wish _) hw) (fun _ _ ⟨H',I',q⟩=>⟨H',I'.unwish,q⟩) fun _ _ z=>False.elim z
theorem PSs.nox {st:List Stmt} {t:TS} (h:PSs X.nox st t):PSs X st t:=fun pins s σ H D I hw=>
  wpAny_mono (h pins s σ H D (I.wish _) hw) (fun _ _ q=>q.unwish) fun _ _ z=>False.elim z
end
section
variable {X:Cx} {st:Stmt} {aW:List Stmt} {t u:TS} {e:Expr} {te:TE} {pos:Pos}
def zK:TS:=fun D σ H=>D.nx σ H
def AZ (t u:TS):TS:=fun D σ H=>t {D with nx:=u D} σ H
theorem vL:PSs X [] zK:=fun _ _ σ H _ I h=>wpAny_execs_nil ⟨σ,H,I,h⟩
theorem tR (h1:PS X st t) (h2:PSs X aW u):PSs X (st::aW) (AZ t u):=by
  intro pins s σ H D I h
  refine wpAny_execs_cons (cZ (h1 pins s σ H {D with nx:=u D} I h) fun f s1 q=>?_)
  cases f with
  | next=>
    obtain ⟨σ',H',I',q⟩:=q
    exact h2 pins s1 σ' H' D I' q
  | ret v=>exact q
  | brk=>exact q
  | cont=>exact q
theorem vM (h1:PS X st t):PSs X [st] t:=by
  intro pins s σ H D I h
  refine wpAny_execs_cons (cZ (h1 pins s σ H D I h) fun f s1 q=>?_)
  cases f with
  | next=>exact wpAny_execs_nil q
  | ret v=>exact q
  | brk=>exact q
  | cont=>exact q
theorem Inv.quiet {pins:List (Addr×Obj)} {σ:St} {H:Hp} {s:Shared} (I:Inv X pins σ H s):interactive X.env=false:=by simp [interactive,I.ok.kind]
def zL (te:TE):TS:=fun D σ H=>te σ H fun _ H1=>D.nx σ H1
theorem vN (he:PE X e te) (hs:swapsWith e none pos.line X.env=pure false:=by rfl):PS X (.Expr e pos) (zL te):=by
  intro pins s σ H D I h
  exact wpAny_Expr_any (cZ (he pins s σ H _ I h) fun v s1 ⟨x,H1,I1,r1,q1⟩=>⟨σ,H1,I1,q1⟩) I.quiet hs
def A8 (te:TE):TS:=fun D σ H=>te σ H D.rt
theorem xW (he:PE X e te):PS X (.Return (some e) pos) (A8 te):=by
  intro pins s σ H D I h
  exact wpAny_Return_some (cZ (he pins s σ H _ I h) fun v s1 ⟨x,H1,I1,r1,q1⟩=>⟨x,σ,H1,I1,r1,q1⟩)
def A9 (c:TT) (t u:TS):TS:=fun D σ H=>c σ H fun b H1=>if b=true then t D σ H1 else u D σ H1
theorem zM {c:Expr} {a b:List Stmt} {tc:TT} (hc:PT X c tc) (ha:PSs X a t) (hb:PSs X b u):PS X (.If c a b pos) (A9 tc t u):=by
  intro pins s σ H D I h
  refine wpAny_If (cZ (hc pins s σ H _ I h) fun d s1 ⟨H1,I1,q1⟩=>?_)
  cases d with
  | true=>exact ha pins s1 σ H1 D I1 q1
  | false=>exact hb pins s1 σ H1 D I1 q1
def xX:TS:=fun _ _ _=>False
theorem tS:PS X st xX:=fun _ _ _ _ _ _ h=>h.elim
end
abbrev TG:=V→St→Hp→(St→Hp→Prop)→Prop
abbrev vO:=List V→St→Hp→(St→Hp→Prop)→Prop
def PG (X:Cx) (target:Expr) (t:TG):Prop:=
  ∀(pins:List (Addr×Obj)) (s:Shared) (σ:St) (H:Hp) (v:V) (u:Value) (Q:St→Hp→Prop),Inv X pins σ H s→RelV v u→t v σ H Q→
    wpAny (model X.prog X.w) X.A (assign target X.env u) (fun _ s'=>∃σ' H',Inv X pins σ' H' s'∧Q σ' H') X.xe s
def xY (X:Cx) (ts:List Expr) (t:vO):Prop:=
  ∀(pins:List (Addr×Obj)) (s:Shared) (σ:St) (H:Hp) (vs:List V) (us:List Value) (Q:St→Hp→Prop),Inv X pins σ H s→Vals vs us→t vs σ H Q→
    wpAny (model X.prog X.w) X.A (assignInOrder ((assignEach ts X.env).map (·.2)) us) (fun _ s'=>∃σ' H',Inv X pins σ' H' s'∧Q σ' H') X.xe s
section
variable {X:Cx} {pos:Pos}
def tT (i:Nat):TG:=fun v σ H Q=>Q (σ.set i (some v)) H
theorem qv {i:Nat} {x:Str} (hN:X.N.Nodup) (hi:X.N[i]? =some x) (hx:xO X.env.scope x) (hf:X.fn x=true∨X.env.scope.names.lookup x=some .local:=by first | exact .inl rfl | exact .inr rfl | assumption):PG X (.Name x pos) (tT i):=by
  intro pins s σ H v u Q I r h
  exact wpAny_assign_Name (nK I hN hi hx r (fun s' I'=>⟨_,H,I',h⟩) hf)
def A_:vO:=fun vs σ H Q=>vs=[]∧Q σ H
def zN (t:TG) (u:vO):vO:=fun vs σ H Q=>∃v r,vs=v::r∧t v σ H fun σ' H'=>u r σ' H' Q
theorem vP:xY X [] A_:=by
  intro pins s σ H vs us Q I r h
  obtain ⟨e,h⟩:=h
  subst e
  cases r
  exact assignInOrder_nil ⟨σ,H,I,h⟩
theorem tV {e:Expr} {es:List Expr} {t:TG} {u:vO} (h1:PG X e t) (h2:xY X es u)
    (hs:(assignEach (e::es) X.env).map (·.2)=assign e X.env::(assignEach es X.env).map (·.2):=by rfl):xY X (e::es) (zN t u):=by
  intro pins s σ H vs us Q I r h
  obtain ⟨v,vr,e1,h⟩:=h
  subst e1
  cases r with
  | cons r rr=>
    rw [hs]
    refine assignInOrder_cons (cZ (h1 pins s σ H _ _ _ I r h) fun _ s1 ⟨σ1,H1,I1,q1⟩=>?_)
    exact h2 pins s1 σ1 H1 _ _ Q I1 rr q1
def Ba (K:PySem.W.Frag) (n:Nat) (t:vO):TG:=fun v σ H Q=>∃a xs,v= .ref a∧SqT K H a xs∧xs.length=n∧t xs σ H Q
theorem xZ {es:List Expr} {k:Nat} {t:vO} {n:Nat} (hc:X.calm=true) (h:xY X es t)
    (hn:(assignEach es X.env).length=n:=by rfl) (hst:(assignEach es X.env).findIdx? (·.1)=none:=by rfl):PG X (.Tuple es k pos) (Ba X.K n t):=by
  intro pins s σ H v u Q I r hw
  obtain ⟨a,xs,e1,hq,hl,hw⟩:=hw
  subst e1
  cases r
  obtain ⟨its,rv,ht,hz⟩:=I.tuple hq
  refine assign_Tuple_tuple (I.ok.hd hc) ht (by simp [hn,←hl,rv.length]) hst fun h' hx=>?_
  have I1:Inv X pins σ H {s with heap:=h'}:=I.kept (t':=s.toks) fun b o e=>hx b o (Nat.ne_of_lt (Heap.lt_size e)) e
  exact h pins _ σ H xs _ Q I1 (by simpa using rv) hw
def zO (te:TE) (g:TG):TS:=fun D σ H=>te σ H fun x H1=>g x σ H1 D.nx
theorem x8 {i:Nat} {x:Str} {e:Expr} {te:TE} {pos':Pos} (hN:X.N.Nodup) (hi:X.N[i]? =some x) (hx:xO X.env.scope x) (he:PE X e te) (hs:swapsWith e (some (.Name x pos')) pos.line X.env=pure false:=by rfl) (hf:X.fn x=true∨X.env.scope.names.lookup x=some .local:=by first | exact .inl rfl | exact .inr rfl | assumption):
    PS X (.Assign [.Name x pos'] e pos) (zO te (tT i)):=by
  intro pins s σ H D I h
  refine wpAny_Assign_Name (cZ (he pins s σ H _ I h) fun v s1 ⟨y,H1,I1,r1,q1⟩=>?_) hs
  exact nK I1 hN hi hx r1 (fun s2 I2=>⟨_,H1,I2,q1⟩) hf
end
structure It where
  go:Nat→Hp→Prop
  yld:Nat→Hp→V→Hp→Prop
  stop:Nat→Hp→Prop
def kJ (X:Cx) (pins:List (Addr×Obj)) (H:Hp) (b:Addr):Prop:=
  H b=none∧b≠X.env.locals∧b∉X.fs∧(b∈X.ex∨X.s₀.heap.objs.size≤b)∧(∀x c,X.env.cells.lookup x=some c→c≠b)∧∀p∈X.pn++pins,p.1≠b
theorem Inv.fpOk {X:Cx} {pins:List (Addr×Obj)} {σ:St} {H H':Hp} {s:Shared} {b:Addr} (I:Inv X pins σ H s) (hb:s.heap.objs.size≤b) (hn:H' b=none):kJ X pins H' b:=by
  refine ⟨hn,Nat.ne_of_gt (Nat.lt_of_lt_of_le I.lt hb),I.nofs hb, .inr (Nat.le_trans I.sz hb),fun x c e z=>?_,fun p hp z=>?_⟩
  · obtain ⟨v,q⟩:=I.cell x c e
    exact absurd (Nat.lt_of_lt_of_le q.lt (by rw [z];exact hb)) (Nat.lt_irrefl _)
  · exact absurd (Nat.lt_of_lt_of_le (Heap.lt_size (I.pin p hp).1) (by rw [z];exact hb)) (Nat.lt_irrefl _)
structure Turn (P:Program) (w:World) (K:PySem.W.Frag) (tg:Expr) (J:It) (fp:List Addr) (it:Addr) (tn:Nat→Heap→Prop):Prop where
  mem:it∈fp
  obj:∀i h,tn i h→∀b∈fp,∃o,h.get? b=some o∧∀v,o.data≠ .cell v
  keep:∀i h h',tn i h→(∀b∈fp,∀o,h.get? b=some o→h'.get? b=some o)→tn i h'
  item:∀(X:Cx),X.prog=P→X.w=w→X.K=K→X.calm=true→∀(i:Nat) (pins:List (Addr×Obj)) (s:Shared) (σ:St) (H:Hp) (E:Value→Shared→Prop),Inv X pins σ H s→(∀b∈fp,kJ X pins H b)→tn i s.heap→J.go i H→
    wpAny (model P w) X.A (pyNext (.ref it)) (fun r s1=>∃u,r=some u∧
      wpAny (model P w) X.A (letOwnedTupleGo tg (.ref it) u) (fun _ s2=>∃x H',Inv X pins σ H' s2∧RelV x u∧J.yld i H x H'∧tn (i+1) s2.heap∧∀b∈fp,H' b=none) E s1) E s
  done:∀(X:Cx),X.prog=P→X.w=w→X.K=K→X.calm=true→∀(i:Nat) (pins:List (Addr×Obj)) (s:Shared) (σ:St) (H:Hp) (E:Value→Shared→Prop),Inv X pins σ H s→(∀b∈fp,kJ X pins H b)→tn i s.heap→J.stop i H→
    wpAny (model P w) X.A (pyNext (.ref it)) (fun r s1=>r=none∧Inv X pins σ H s1) E s
  self:∀(A:Around) (i:Nat) (s:Shared) (Q:Value→Shared→Prop) (E:Value→Shared→Prop),tn i s.heap→Q (.ref it) s→wpAny (model P w) A (pyIter (.ref it)) Q E s
abbrev TI:=St→Hp→(It→Hp→Prop)→Prop
def BG (X:Cx) (pins:List (Addr×Obj)) (σ:St) (tg:Expr) (R:It→Hp→Prop) (itv:Value) (s2:Shared):Prop:=
  ∃(it:Addr) (fp:List Addr) (tn:Nat→Heap→Prop) (J:It) (H':Hp),itv= .ref it∧Inv X pins σ H' s2∧Turn X.prog X.w X.K tg J fp it tn∧tn 0 s2.heap∧(∀b∈fp,kJ X pins H' b)∧R J H'
def PI (X:Cx) (tg iter:Expr) (wi:TI):Prop:=
  ∀(pins:List (Addr×Obj)) (s:Shared) (σ:St) (H:Hp) (R:It→Hp→Prop),Inv X pins σ H s→wi σ H R→
    wpAny (model X.prog X.w) X.A (eval iter X.env) (fun v s1=>wpAny (model X.prog X.w) X.A (pyIter v) (BG X pins σ tg R) X.xe s1) X.xe s
theorem qw {M:Model} {A:Around} {E:Value→Shared→Prop} {s:Shared} {tg:Expr} {it:Addr} {u:Value} {o:Obj} {n:String} {vs:Array Value} {Q:Unit→Shared→Prop} (ho:s.heap.get? it=some o) (hc:o.cls= .type n) (hd:o.data= .fields vs)
    (hn:["enumerate","zip","dict_itemiterator","dict_reverseitemiterator","odict_iterator","itertools.zip_longest","itertools.pairwise"].contains n=false) (hQ:Q () s):wpAny M A (letOwnedTupleGo tg (.ref it) u) Q E s:=by
  unfold letOwnedTupleGo
  cases tg <;> first
    | exact wpAny_pure hQ
    | (cases u <;> first
        | exact wpAny_pure hQ
        | (refine wpAny_bind (wpAny_load ho ?_)
           rw [hc,hd]
           show wpAny M A (if (["enumerate","zip","dict_itemiterator","dict_reverseitemiterator","odict_iterator","itertools.zip_longest","itertools.pairwise"].contains n&&vs[0]? == some (rawInt _))=true then _ else _) Q E s
           rw [if_neg (by intro h;rw [hn,Bool.false_and] at h;cases h)]
           exact wpAny_pure hQ))
def Bb (K:PySem.W.Frag) (a:Addr):It:=
  ⟨fun i H=>∃xs x,SqL K H a xs∧xs[i]? =some x,fun i H x H'=>H'=H∧∀xs,SqL K H a xs→xs[i]? =some x,fun i H=>∃xs,SqL K H a xs∧xs.length≤i⟩
def Bc (K:PySem.W.Frag) (a:Addr):It:=
  ⟨fun i H=>∃xs x,SqT K H a xs∧xs[i]? =some x,fun i H x H'=>H'=H∧∀xs,SqT K H a xs→xs[i]? =some x,fun i H=>∃xs,SqT K H a xs∧xs.length≤i⟩
def AO (lo:Int) (n:Nat):It:=⟨fun i _=>i < n,fun i H x H'=>H'=H∧x= .int (lo+i),fun i _=>n≤i⟩
theorem rK {P:Program} {w:World} {K:PySem.W.Frag} {tg:Expr} (a it:Addr):Turn P w K tg (Bb K a) [it] it (fun i h=>h.IsListIter it a i) where
  mem:=by simp
  obj:=fun i h st b hb=>by
    have e:b=it:=by simpa using hb
    subst e
    obtain ⟨o,e,c,d⟩:=st
    exact ⟨o,e,fun v z=>by rw [d] at z;cases z⟩
  keep:=fun i h h' st k=>st.at fun o e=>k it (by simp) o e
  item:=by
    intro X hP hw hK hc i pins s σ H E I hf st hg
    subst hP hw hK
    obtain ⟨xs,x,hq,hx⟩:=hg
    obtain ⟨its,rv,p,hz⟩:=I.list hq
    obtain ⟨u,hu,ru⟩:=rv.get hx
    obtain ⟨f0,f1,f2,f3,f4,f5⟩:=hf it (by simp)
    refine wpAny_pyNext_list_item st p.isList (x:=u) (by simpa using hu) fun h' st' sb=>?_
    have I1:Inv X pins σ H {s with heap:=h'}:=I.turned (t':=s.toks) (fun b o hb e=>(sb.2 b hb).trans e) f0 f1 f3 f4 f5
    obtain ⟨o,e,c,d⟩:=id st'
    exact ⟨u,rfl,qw (s:={s with heap:=h'}) e c d (by decide) ⟨x,H,I1,ru,⟨rfl,fun ys hy=>by rw [I.list_inj hy hq];exact hx⟩,st',fun b hb=>(hf b hb).1⟩⟩
  done:=by
    intro X hP hw hK hc i pins s σ H E I hf st hg
    subst hP hw hK
    obtain ⟨xs,hq,hx⟩:=hg
    obtain ⟨its,rv,p,hz⟩:=I.list hq
    obtain ⟨f0,f1,f2,f3,f4,f5⟩:=hf it (by simp)
    have hl:=rv.length
    exact wpAny_pyNext_list_end (I.ok.hd hc) st p.isList (by simp;omega) fun h' eb=>⟨rfl,I.turned (t':=s.toks) (fun b o hb e=>eb b o hb e) f0 f1 f3 f4 f5⟩
  self:=fun _ _ _ _ _ st h=>wpAny_pyIter_listiter st h
theorem pe {P:Program} {w:World} {K:PySem.W.Frag} {tg:Expr} (a it:Addr):Turn P w K tg (Bc K a) [it] it (fun i h=>h.IsTupleIter it a i) where
  mem:=by simp
  obj:=fun i h st b hb=>by
    have e:b=it:=by simpa using hb
    subst e
    obtain ⟨o,e,c,d⟩:=st
    exact ⟨o,e,fun v z=>by rw [d] at z;cases z⟩
  keep:=fun i h h' st k=>st.at fun o e=>k it (by simp) o e
  item:=by
    intro X hP hw hK hc i pins s σ H E I hf st hg
    subst hP hw hK
    obtain ⟨xs,x,hq,hx⟩:=hg
    obtain ⟨its,rv,p,hz⟩:=I.tuple hq
    obtain ⟨u,hu,ru⟩:=rv.get hx
    obtain ⟨f0,f1,f2,f3,f4,f5⟩:=hf it (by simp)
    refine wpAny_pyNext_tuple_item st (show s.heap.IsTuple a its.toArray from p) (x:=u) (by simpa using hu) fun h' st' sb=>?_
    have I1:Inv X pins σ H {s with heap:=h'}:=I.turned (t':=s.toks) (fun b o hb e=>(sb.2 b hb).trans e) f0 f1 f3 f4 f5
    obtain ⟨o,e,c,d⟩:=id st'
    exact ⟨u,rfl,qw (s:={s with heap:=h'}) e c d (by decide) ⟨x,H,I1,ru,⟨rfl,fun ys hy=>by rw [I.tuple_inj hy hq];exact hx⟩,st',fun b hb=>(hf b hb).1⟩⟩
  done:=by
    intro X hP hw hK hc i pins s σ H E I hf st hg
    subst hP hw hK
    obtain ⟨xs,hq,hx⟩:=hg
    obtain ⟨its,rv,p,hz⟩:=I.tuple hq
    obtain ⟨f0,f1,f2,f3,f4,f5⟩:=hf it (by simp)
    have hl:=rv.length
    exact wpAny_pyNext_tuple_end (I.ok.hd hc) st (show s.heap.IsTuple a its.toArray from p) (by simp;omega) fun h' eb=>⟨rfl,I.turned (t':=s.toks) (fun b o hb e=>eb b o hb e) f0 f1 f3 f4 f5⟩
  self:=fun _ _ _ _ _ st h=>wpAny_pyIter_tupleiter st h
theorem pf {P:Program} {w:World} {K:PySem.W.Frag} {tg:Expr} (it:Addr) (lo:Int) (n:Nat):Turn P w K tg (AO lo n) [it] it (fun i h=>IsRangeIter h it (lo+(i:Nat)*1) ((n:Int) - (i:Nat)) 1) where
  mem:=by simp
  obj:=fun i h st b hb=>by
    have e:b=it:=by simpa using hb
    subst e
    exact ⟨_,st,fun v z=>by
      have z':Data.fields _=Data.cell v:=z
      cases z'⟩
  keep:=fun i h h' st k=>k it (by simp) _ st
  item:=by
    intro X hP hw hK hc i pins s σ H E I hf st hg
    subst hP hw hK
    obtain ⟨f0,f1,f2,f3,f4,f5⟩:=hf it (by simp)
    have W:=Walks.range (prog:=X.prog) (w:=X.w) (I.ok.hd hc) it lo 1 n
    refine W.item i s _ _ hg st fun v h' tk hv st' kk=>?_
    obtain ⟨t,rfl⟩:=hv
    have I1:Inv X pins σ H {s with heap:=h',toks:=tk}:=I.turned (fun b o hb e=>kk b o (by simpa using hb) e) f0 f1 f3 f4 f5
    refine ⟨_,rfl,qw (s:={s with heap:=h',toks:=tk}) (n:="range_iterator") st' rfl rfl (by decide) ⟨.int (lo+i),H,I1,⟨t,?_⟩,⟨rfl,rfl⟩,st',fun b hb=>(hf b hb).1⟩⟩
    rw [Int.mul_one]
  done:=by
    intro X hP hw hK hc i pins s σ H E I hf st hg
    subst hP hw hK
    obtain ⟨f0,f1,f2,f3,f4,f5⟩:=hf it (by simp)
    exact wpAny_pyNext_range_end (I.ok.hd hc) st (by have:n≤i:=hg;omega) fun h' eb=>⟨rfl,I.turned (t':=s.toks) (fun b o hb e=>eb b o hb e) f0 f1 f3 f4 f5⟩
  self:=fun _ _ _ _ _ st h=>wpAny_pyIter_rangeiter st h
end L2
namespace L2
open PySem PySem.Spec PyProof.Rows
section
variable {X:Cx} {tg:Expr}
def zP (K:PySem.W.Frag) (tl:TE):TI:=fun σ H R=>tl σ H fun x H1=>∃a,x= .ref a∧(∃xs,SqL K H1 a xs)∧R (Bb K a) H1
def Bd (K:PySem.W.Frag) (tl:TE):TI:=fun σ H R=>tl σ H fun x H1=>∃a,x= .ref a∧(∃xs,SqT K H1 a xs)∧R (Bc K a) H1
theorem qx {l:Expr} {tl:TE} (hl:PE X l tl):PI X tg l (zP X.K tl):=by
  intro pins s σ H R I h
  refine cZ (hl pins s σ H _ I h) fun v s1 ⟨x,H1,I1,r1,q1⟩=>?_
  obtain ⟨a,e,⟨xs,hq⟩,q⟩:=q1
  subst e
  cases r1
  obtain ⟨its,rv,p,hz⟩:=I1.list hq
  refine wpAny_pyIter_list p.isList ?_
  refine ⟨s1.heap.objs.size,[s1.heap.objs.size],_,_,H1,rfl,I1.kept (t':=s1.toks) fun b o e=>Heap.get?_push_of_some _ e,rK a _,⟨_,Heap.get?_push_size _ rfl,rfl,rfl⟩,fun b hb=>?_,q⟩
  have e:b=s1.heap.objs.size:=by simpa using hb
  subst e
  exact I1.fpOk (Nat.le_refl _) (I1.hok.fresh (Nat.le_refl _))
theorem x9 {l:Expr} {tl:TE} (hl:PE X l tl):PI X tg l (Bd X.K tl):=by
  intro pins s σ H R I h
  refine cZ (hl pins s σ H _ I h) fun v s1 ⟨x,H1,I1,r1,q1⟩=>?_
  obtain ⟨a,e,⟨xs,hq⟩,q⟩:=q1
  subst e
  cases r1
  obtain ⟨its,rv,p,hz⟩:=I1.tuple hq
  refine wpAny_pyIter_tuple (show s1.heap.IsTuple a its.toArray from p) ?_
  refine ⟨s1.heap.objs.size,[s1.heap.objs.size],_,_,H1,rfl,I1.kept (t':=s1.toks) fun b o e=>Heap.get?_push_of_some _ e,pe a _,⟨_,Heap.get?_push_size _ rfl,rfl,rfl⟩,fun b hb=>?_,q⟩
  have e:b=s1.heap.objs.size:=by simpa using hb
  subst e
  exact I1.fpOk (Nat.le_refl _) (I1.hok.fresh (Nat.le_refl _))
theorem tW {pins:List (Addr×Obj)} {σ:St} {H:Hp} {s:Shared} {R:It→Hp→Prop} {E:Value→Shared→Prop} {lo hi:Int} {t u v:Tok} {tk:Nat} (I:Inv X pins σ H s) (h1: -(2 ^ 62)≤lo) (h2:lo < 2 ^ 62) (h3: -(2 ^ 62)≤hi) (h4:hi < 2 ^ 62)
    (q:R (AO lo (hi - lo).toNat) H):wpAny (model X.prog X.w) X.A (pyIter (.ref s.heap.objs.size)) (BG X pins σ tg R) E {s with heap:=s.heap.push {cls:= .type "range",data:= .fields #[.int lo t, .int hi u, .int 1 v]},toks:=tk}:=by
  refine wpAny_pyIter_range (IsRange.new ..) (small_one h1 h2 h3 h4) ?_
  have I1:Inv X pins σ H {s with heap:=s.heap.push {cls:= .type "range",data:= .fields #[.int lo t, .int hi u, .int 1 v]},toks:=tk}:=I.kept fun b o e=>Heap.get?_push_of_some _ e
  refine ⟨(s.heap.push {cls:= .type "range",data:= .fields #[.int lo t, .int hi u, .int 1 v]}).objs.size,[(s.heap.push {cls:= .type "range",data:= .fields #[.int lo t, .int hi u, .int 1 v]}).objs.size],_,_,H,rfl,
    I1.kept (t':=tk) fun b o e=>Heap.get?_push_of_some _ e,pf _ lo (hi - lo).toNat,?_,fun b hb=>?_,q⟩
  · have e1:lo+((0:Nat):Int)*1=lo:=by simp
    have e2:(((hi - lo).toNat:Nat):Int) - ((0:Nat):Int)=Builtin.Range.rangeSize lo hi 1:=by rw [rangeSize_one];split <;> omega
    show IsRangeIter _ _ (lo+((0:Nat):Int)*1) ((((hi - lo).toNat:Nat):Int) - ((0:Nat):Int)) 1
    rw [e1,e2]
    exact Heap.get?_push_size _ rfl
  · have e:b=(s.heap.push {cls:= .type "range",data:= .fields #[.int lo t, .int hi u, .int 1 v]}).objs.size:=by simpa using hb
    subst e
    exact I1.fpOk (Nat.le_refl _) (I1.hok.fresh (Nat.le_refl _))
def zQ (ta:TA):TI:=fun σ H R=>ta σ H fun vs H1=>∃j:Int,vs=[.int j]∧ -(2 ^ 62)≤j∧j < 2 ^ 62∧R (AO 0 j.toNat) H1
theorem rL {a:Expr} {ta:TA} {p pos:Pos} (hg:Gl X "range") (hm:X.mg "range"=none) (ha:PA X [a] ta) (hs:starEach [a] X.env=[(false,eval a X.env)]:=by rfl):PI X tg (.Call (.Name "range" p) [a] [] pos) (zQ ta):=by
  intro pins s σ H R I h
  refine Call_ (g9 I hg hm boot_range (PyProof.Rows.callWith_type1 (cZ (ha pos pins s σ H _ I h) fun us s1 ⟨vs,H1,I1,r1,q1⟩=>?_) hs rfl))
  obtain ⟨j,e,q1,q2,q⟩:=q1
  subst e
  cases r1 with
  | cons r rr=>
    cases rr
    obtain ⟨t,rfl⟩:=r
    exact call_range_1 (tW I1 (by omega) (by omega) q1 q2 (by simpa using q))
def Be (wi:TI) (g:TG) (tb:TS):TS:=fun D σ H=>wi σ H fun J H1=>∃W:Nat→Nat→St→Hp→Prop,(∃m,W 0 m σ H1)∧∀i m σ H,W i m σ H→
  (J.stop i H∧D.nx σ H)∨(J.go i H∧∃N:St→Hp→Prop,(∀σ' H',N σ' H'→∃m',m' < m∧W (i+1) m' σ' H')∧∀x H',J.yld i H x H'→g x σ H' fun σ2 H2=>tb {D with nx:=N,ct:=N,bk:=D.nx} σ2 H2)
def jP (fp:List Addr) (h:Heap):List (Addr×Obj):=fp.filterMap fun b=>(h.get? b).map fun o=>(b,o)
theorem fM {fp:List Addr} {h:Heap} {b:Addr} {o:Obj} (hb:b∈fp) (e:h.get? b=some o):(b,o)∈jP fp h:=List.mem_filterMap.mpr ⟨b,hb,by rw [e];rfl⟩
theorem rM {fp:List Addr} {h:Heap} {p:Addr×Obj} (hp:p∈jP fp h):p.1∈fp∧h.get? p.1=some p.2:=by
  obtain ⟨b,hb,e⟩:=List.mem_filterMap.mp hp
  cases q:h.get? b with
  | none=>rw [q] at e;cases e
  | some o=>
    rw [q] at e
    have e':(b,o)=p:=Option.some.inj e
    subst e'
    exact ⟨hb,q⟩
theorem Inv.pinned {pins:List (Addr×Obj)} {σ:St} {H:Hp} {s:Shared} {fp:List Addr} (I:Inv X pins σ H s) (hf:∀b∈fp,kJ X pins H b) (ho:∀b∈fp,∃o,s.heap.get? b=some o∧∀v,o.data≠ .cell v):Inv X (pins++jP fp s.heap) σ H s:=
  I.pins_of fun p hp=>(List.mem_append.mp hp).elim (fun z=>I.pin p (List.mem_append_right _ z)) fun z=>by
    obtain ⟨hb,e⟩:=rM z
    obtain ⟨f0,f1,f2,_⟩:=hf p.1 hb
    obtain ⟨o,e',d⟩:=ho p.1 hb
    rw [e] at e';cases e'
    exact ⟨e,f0,f1,f2,d⟩
theorem Inv.unpinned {pins pl:List (Addr×Obj)} {σ:St} {H:Hp} {s:Shared} (I:Inv X (pins++pl) σ H s):Inv X pins σ H s:=I.pins_of fun p hp=>I.pin p (List.mem_append_right _ (List.mem_append_left _ hp))
theorem x_ {iter:Expr} {body:List Stmt} {wi:TI} {g:TG} {tb:TS} {pos:Pos} (hp:PassesOwn (model X.prog X.w) X.A X.env X.xe) (hc:X.calm=true) (hi:PI X tg iter wi) (hg:PG X tg g) (hb:PSs X body tb)
    (hs:∀x,foldedSetIterable iter X.env x=pure x:=by intro _;rfl):PS X (.For tg iter body [] pos) (Be wi g tb):=by
  intro pins s σ H D I h
  refine wpAny_For (cZ (hi pins s σ H _ I h) fun v s1 h1=>cZ h1 fun itv s2 h2=>?_) hs
  obtain ⟨it,fp,tn,J,H2,e,I2,T,st2,f2,W,⟨m0,w0⟩,turn⟩:=h2
  subst e
  -- what stays true of the iterator's objects through the loop
  have stat:∀{H':Hp},(∀b∈fp,H' b=none)→∀b∈fp,kJ X pins H' b:=fun hn b hb=>⟨hn b hb,(f2 b hb).2⟩
  refine codeAny_forLoop_any (fun n s'=>∃i σ' H',Inv X pins σ' H' s'∧tn i s'.heap∧(∀b∈fp,H' b=none)∧W i n σ' H') ?_ m0 ⟨0,σ,H2,I2,st2,fun b hb=>(f2 b hb).1,w0⟩
  rintro n s3 ⟨i,σ3,H3,I3,st3,fr3,w3⟩
  rcases turn i n σ3 H3 w3 with ⟨stop,qn⟩ | ⟨go,N,hN,step⟩
  · refine wpAny_passesOwn hp (cZ (T.done X rfl rfl rfl hc i pins s3 σ3 H3 X.xe I3 (stat fr3) st3 stop) fun r s4 ⟨hr,I4⟩=>?_)
    subst hr
    exact wpAny_execs_nil ⟨σ3,H3,I4,qn⟩
  · refine wpAny_passesOwn hp (cZ (T.item X rfl rfl rfl hc i pins s3 σ3 H3 X.xe I3 (stat fr3) st3 go) fun r s4 ⟨u,hr,h4⟩=>?_)
    subst hr
    refine wpAny_passesOwn hp (cZ h4 fun _ s5 ⟨x,H5,I5,r5,y5,st5,fr5⟩=>?_)
    have I5':=I5.pinned (stat fr5) (T.obj _ _ st5)
    refine wpAny_passesOwn hp (cZ (hg _ s5 σ3 H5 x u _ I5' r5 (step x H5 y5)) fun _ s6 ⟨σ6,H6,I6,q6⟩=>?_)
    refine wpAny_passesOwn hp (cZ (hb _ s6 σ6 H6 _ I6 q6) fun f s7 q7=>?_)
    have again:∀{σ7:St} {H7:Hp},Inv X (pins++jP fp s5.heap) σ7 H7 s7→N σ7 H7→∃m,m < n∧∃i σ' H',Inv X pins σ' H' s7∧tn i s7.heap∧(∀b∈fp,H' b=none)∧W i m σ' H':=fun {σ7 H7} I7 n7=>by
      obtain ⟨m',hm,w7⟩:=hN σ7 H7 n7
      refine ⟨m',hm,i+1,σ7,H7,I7.unpinned,T.keep _ _ _ st5 fun b hb o e=>(I7.pin (b,o) (List.mem_append_right _ (List.mem_append_right _ (fM hb e)))).1,fun b hb=>?_,w7⟩
      obtain ⟨o,e,d⟩:=T.obj _ _ st5 b hb
      exact (I7.pin (b,o) (List.mem_append_right _ (List.mem_append_right _ (fM hb e)))).2.1
    cases f with
    | next=>obtain ⟨σ7,H7,I7,n7⟩:=q7;exact again I7 n7
    | cont=>obtain ⟨σ7,H7,I7,n7⟩:=q7;exact again I7 n7
    | brk=>obtain ⟨σ7,H7,I7,q7⟩:=q7;exact ⟨σ7,H7,I7.unpinned,q7⟩
    | ret v=>obtain ⟨x7,σ7,H7,I7,r7,q7⟩:=q7;exact ⟨x7,σ7,H7,I7.unpinned,r7,q7⟩
end
end L2
namespace L2
open PySem PySem.Spec PyProof.Rows
abbrev R2:=V→V→Hp→VK→Prop
def OpR (X:Cx) (f:Value→Value→Sem Value) (r:R2):Prop:=
  ∀(pins:List (Addr×Obj)) (s:Shared) (σ:St) (H:Hp) (x y:V) (v u:Value) (Q:VK),Inv X pins σ H s→RelV x v→RelV y u→r x y H Q→
    wpAny (model X.prog X.w) X.A (f v u) (EP X pins σ Q) X.xe s
def Bf (X:Cx) (f:Value→Sem Value) (r:V→Hp→VK→Prop):Prop:=
  ∀(pins:List (Addr×Obj)) (s:Shared) (σ:St) (H:Hp) (x:V) (v:Value) (Q:VK),Inv X pins σ H s→RelV x v→r x H Q→
    wpAny (model X.prog X.w) X.A (f v) (EP X pins σ Q) X.xe s
def CallR (X:Cx) (f:Value) (r:List V→Hp→VK→Prop):Prop:=
  ∀(pins:List (Addr×Obj)) (s:Shared) (σ:St) (H:Hp) (xs:List V) (us:List Value) (Q:VK),Inv X pins σ H s→Vals xs us→r xs H Q→
    wpAny (model X.prog X.w) X.A (call f us) (EP X pins σ Q) X.xe s
def Bg (X:Cx) (r:V→Hp→(Bool→Hp→Prop)→Prop):Prop:=
  ∀(pins:List (Addr×Obj)) (s:Shared) (σ:St) (H:Hp) (x:V) (v:Value) (Q:Bool→Hp→Prop),Inv X pins σ H s→RelV x v→r x H Q→
    wpAny (model X.prog X.w) X.A (truthy v) (TP X pins σ Q) X.xe s
def zR (r:R2) (ta tb:TE):TE:=fun σ H Q=>ta σ H fun x H1=>tb σ H1 fun y H2=>r x y H2 Q
def BR (r:V→Hp→VK→Prop) (ta:TE):TE:=fun σ H Q=>ta σ H fun x H1=>r x H1 Q
def rI (C:Int→Int→Prop) (g:Int→Int→V):R2:=fun x y H Q=>∃i j,x= .int i∧y= .int j∧C i j∧Q (g i j) H
def vQ (g:Int→Int→V):R2:=fun x y H Q=>∃i j,x= .int i∧y= .int j∧Q (g i j) H
def rU (g:Int→V):V→Hp→VK→Prop:=fun x H Q=>∃i,x= .int i∧Q (g i) H
section
variable {X:Cx} {a b c:Expr} {ta tb tc:TE} {pos:Pos}
theorem ya (ha:PE X a ta) (hb:PE X b tb) {pins:List (Addr×Obj)} {s:Shared} {σ:St} {H:Hp} {R:V→V→Hp→Prop} (I:Inv X pins σ H s)
    (h:ta σ H fun x H1=>tb σ H1 fun y H2=>R x y H2) {Q:Value→Shared→Prop} {f:Value→Value→Sem Value}
    (hf:∀v u s2 x y H2,Inv X pins σ H2 s2→RelV x v→RelV y u→R x y H2→wpAny (model X.prog X.w) X.A (f v u) Q X.xe s2):
    wpAny (model X.prog X.w) X.A (eval a X.env) (fun v s₁=>wpAny (model X.prog X.w) X.A (eval b X.env) (fun u s₂=>wpAny (model X.prog X.w) X.A (f v u) Q X.xe s₂) X.xe s₁) X.xe s:=by
  refine cZ (ha pins s σ H _ I h) fun v s1 ⟨x,H1,I1,r1,q1⟩=>?_
  refine cZ (hb pins s1 σ H1 _ I1 q1) fun u s2 ⟨y,H2,I2,r2,q2⟩=>?_
  exact hf v u s2 x y H2 I2 r1 r2 q2
theorem zS {op:Operator} {r:R2} (ho:OpR X (binaryOp op) r) (ha:PE X a ta) (hb:PE X b tb):PE X (.BinOp a op b pos) (zR r ta tb):=by
  intro pins s σ H Q I h
  exact wpAny_BinOp (ya ha hb I h fun v u s2 x y H2 I2 rx ry q=>ho pins s2 σ H2 x y v u Q I2 rx ry q)
theorem zT {op:UnaryOp} {r:V→Hp→VK→Prop} (ho:Bf X (unaryOp op) r) (ha:PE X a ta):PE X (.UnaryOp op a pos) (BR r ta):=by
  intro pins s σ H Q I h
  exact UnaryOp_ (cZ (ha pins s σ H _ I h) fun v s1 ⟨x,H1,I1,r1,q1⟩=>ho pins s1 σ H1 x v Q I1 r1 q1)
theorem zD {f:Value→Value→Sem Value} {C:Int→Int→Prop} {g:Int→Int→Int}
    (rule:∀(i j:Int) (t u:Tok) (s:Shared) (Q:Value→Shared→Prop) (E:Value→Shared→Prop),C i j→Q (.int (g i j) s.toks) {s with toks:=s.toks+1}→wpAny (model X.prog X.w) X.A (f (.int i t) (.int j u)) Q E s):
    OpR X f (rI C fun i j=> .int (g i j)):=by
  intro pins s σ H x y v u Q I rx ry h
  obtain ⟨i,j,rfl,rfl,hc,q⟩:=h
  obtain ⟨t,rfl⟩:=rx
  obtain ⟨t',rfl⟩:=ry
  exact rule i j t t' s _ _ hc ⟨.int (g i j),H,I.tok _,⟨_,rfl⟩,q⟩
theorem yb {f:Value→Value→Sem Value} {g:Int→Int→Int}
    (rule:∀(i j:Int) (t u:Tok) (s:Shared) (Q:Value→Shared→Prop) (E:Value→Shared→Prop),Q (.int (g i j) s.toks) {s with toks:=s.toks+1}→wpAny (model X.prog X.w) X.A (f (.int i t) (.int j u)) Q E s):
    OpR X f (vQ fun i j=> .int (g i j)):=by
  intro pins s σ H x y v u Q I rx ry h
  obtain ⟨i,j,rfl,rfl,q⟩:=h
  obtain ⟨t,rfl⟩:=rx
  obtain ⟨t',rfl⟩:=ry
  exact rule i j t t' s _ _ ⟨.int (g i j),H,I.tok _,⟨_,rfl⟩,q⟩
theorem vR {f:Value→Value→Sem Value} {g:Int→Int→Bool}
    (rule:∀(i j:Int) (t u:Tok) (s:Shared) (Q:Value→Shared→Prop) (E:Value→Shared→Prop),Q (.bool (g i j)) s→wpAny (model X.prog X.w) X.A (f (.int i t) (.int j u)) Q E s):
    OpR X f (vQ fun i j=> .bl (g i j)):=by
  intro pins s σ H x y v u Q I rx ry h
  obtain ⟨i,j,rfl,rfl,q⟩:=h
  obtain ⟨t,rfl⟩:=rx
  obtain ⟨t',rfl⟩:=ry
  exact rule i j t t' s _ _ ⟨.bl (g i j),H,I,rfl,q⟩
def yc (i j:Int):Prop:=0≤j∧j≤1000000∧i.natAbs < 2 ^ 64
def CMul (i j:Int):Prop:=(-(2 ^ 64) < i∧i < 2 ^ 64)∨(-(2 ^ 64) < j∧j < 2 ^ 64)
theorem CMul.ok {i j:Int} (h:CMul i j):IntMulOk i j:=by
  rcases h with ⟨h1,h2⟩ | ⟨h1,h2⟩
  · exact .of_left (intBits_le_64 h1 h2)
  · exact .of_right (intBits_le_64 h1 h2)
theorem ph (k:Nat):(0:Int)≤2 ^ k:=by
  rw [two_pow_cast]
  exact Int.natCast_nonneg _
theorem yd:OpR X (binaryOp .Add) (vQ fun i j=> .int (i+j)):=yb fun _ _ _ _ _ _ _ q=>add_int q
theorem ye:OpR X (binaryOp .Sub) (vQ fun i j=> .int (i - j)):=yb fun _ _ _ _ _ _ _ q=>sub_int q
theorem yf:OpR X (binaryOp .Mod) (rI (fun _ j=>0 < j) fun i j=> .int (i % j)):=zD fun i j _ _ _ _ _ hc q=>by
  have h1:(0:Int) < j:=hc
  exact mod_int' (by omega) (by rw [Int.fmod_eq_emod_of_nonneg i (by omega)];exact q)
theorem yg:OpR X (binaryOp .Pow) (rI yc fun i j=> .int (i ^ j.toNat)):=zD fun _ _ _ _ _ _ _ hc q=>pow_int_small hc.1 hc.2.1 hc.2.2 q
theorem yh:OpR X (binaryOp .LShift) (rI yc fun i j=> .int (i*2 ^ j.toNat)):=zD fun _ _ _ _ _ _ _ hc q=>lshift_int_small hc.1 hc.2.1 hc.2.2 q
theorem yi:OpR X (binaryOp .RShift) (rI (fun _ j=>0≤j) fun i j=> .int (i / 2 ^ j.toNat)):=zD fun i j _ _ _ _ _ hc q=>
  rshift_int hc (by rw [Int.fdiv_eq_ediv_of_nonneg i (ph _)];exact q)
theorem yj:OpR X (binaryOp .BitAnd) (vQ fun i j=> .int (Builtin.bitAnd i j)):=yb fun _ _ _ _ _ _ _ q=>and_int q
theorem BS {f:Value→Sem Value} {g:Int→Int}
    (rule:∀(i:Int) (t:Tok) (s:Shared) (Q:Value→Shared→Prop) (E:Value→Shared→Prop),Q (.int (g i) s.toks) {s with toks:=s.toks+1}→wpAny (model X.prog X.w) X.A (f (.int i t)) Q E s):
    Bf X f (rU fun i=> .int (g i)):=by
  intro pins s σ H x v Q I rx h
  obtain ⟨i,rfl,q⟩:=h
  obtain ⟨t,rfl⟩:=rx
  exact rule i t s _ _ ⟨.int (g i),H,I.tok _,⟨_,rfl⟩,q⟩
theorem yk:Bf X (unaryOp .USub) (rU fun i=> .int (-i)):=BS fun _ _ _ _ _ q=>neg_int q
end
def ym:V→V→Bool
  | .non, .non=>true | .non, .int _=>true | .int _, .non=>true | .non, .bl _=>true | .bl _, .non=>true | .non, .str _=>true | .str _, .non=>true
  | .int _, .int _=>true | .bl _, .bl _=>true | .str _, .str _=>true | .byt _, .byt _=>true
  | .int _, .str _=>true | .str _, .int _=>true | .bl _, .str _=>true | .str _, .bl _=>true
  | _,_=>false
def BH:R2:=fun x y H Q=>ym x y=true∧Q (.bl (decide (x=y))) H
def BI:R2:=fun x y H Q=>ym x y=true∧Q (.bl (!decide (x=y))) H
theorem qy {i j:Int}:decide (V.int i=V.int j)=(i == j):=by
  rw [Bool.eq_iff_iff]
  simp
theorem tX {i j:Bool}:decide (V.bl i=V.bl j)=(i == j):=by
  rw [Bool.eq_iff_iff]
  simp
theorem qz {i j:Str}:decide (V.str i=V.str j)=(i == j):=by
  rw [Bool.eq_iff_iff]
  simp
theorem qA {i j:Array UInt8}:decide (V.byt i=V.byt j)=(i.toList == j.toList):=by
  rw [Bool.eq_iff_iff]
  cases i
  cases j
  simp
section
variable {X:Cx} {a b c:Expr} {ta tb tc:TE} {pos:Pos}
theorem aJ {pins:List (Addr×Obj)} {σ:St} {H:Hp} {s:Shared} {Q:VK} {k k':Bool} (I:Inv X pins σ H s) (q:Q (.bl k) H) (e:k=k'):EP X pins σ Q (.bool k') s:=by
  subst e
  exact ⟨.bl k,H,I,rfl,q⟩
theorem xk:OpR X (compareOp .Eq) BH:=by
  intro pins s σ H x y v u Q I rx ry h
  obtain ⟨hs,q⟩:=h
  cases x with
  | non=>
    cases rx
    cases y with
    | non=>cases ry;exact PySem.EqNone.eq_none_none (aJ I q (by simp))
    | bl j=>cases ry;exact PySem.EqNone.eq_none_bool (aJ I q (by simp))
    | int j=>obtain ⟨t',rfl⟩:=ry;exact PySem.EqNone.eq_none_int (aJ I q (by simp))
    | str j=>obtain ⟨t',rfl⟩:=ry;exact PySem.EqNone.eq_none_str (aJ I q (by simp))
    | _=>exact absurd (show false=true from hs) Bool.false_ne_true
  | bl i=>
    cases rx
    cases y with
    | non=>cases ry;exact PySem.EqNone.eq_bool_none (aJ I q (by simp))
    | bl j=>cases ry;exact eq_bool (aJ I q tX)
    | str j=>obtain ⟨t',rfl⟩:=ry;exact PySem.EqMixed.eq_bool_str (aJ I q (by simp))
    | _=>exact absurd (show false=true from hs) Bool.false_ne_true
  | int i=>
    obtain ⟨t,rfl⟩:=rx
    cases y with
    | non=>cases ry;exact PySem.EqNone.eq_int_none (aJ I q (by simp))
    | int j=>obtain ⟨t',rfl⟩:=ry;exact eq_int (aJ I q qy)
    | str j=>obtain ⟨t',rfl⟩:=ry;exact PySem.EqMixed.eq_int_str (aJ I q (by simp))
    | _=>exact absurd (show false=true from hs) Bool.false_ne_true
  | str i=>
    obtain ⟨t,rfl⟩:=rx
    cases y with
    | non=>cases ry;exact PySem.EqNone.eq_str_none (aJ I q (by simp))
    | bl j=>cases ry;exact PySem.EqMixed.eq_str_bool (aJ I q (by simp))
    | int j=>obtain ⟨t',rfl⟩:=ry;exact PySem.EqMixed.eq_str_int (aJ I q (by simp))
    | str j=>obtain ⟨t',rfl⟩:=ry;exact eq_str (aJ I q qz)
    | _=>exact absurd (show false=true from hs) Bool.false_ne_true
  | byt i=>
    obtain ⟨t,rfl⟩:=rx
    cases y with
    | byt j=>obtain ⟨t',rfl⟩:=ry;exact PySem.W.eq_bytes (aJ I q qA)
    | _=>exact absurd (show false=true from hs) Bool.false_ne_true
  | _=>cases y <;> exact absurd (show false=true from hs) Bool.false_ne_true
theorem zU:OpR X (compareOp .NotEq) BI:=by
  intro pins s σ H x y v u Q I rx ry h
  obtain ⟨hs,q⟩:=h
  cases x with
  | non=>
    cases rx
    cases y with
    | non=>cases ry;exact PySem.EqNone.ne_none_none (aJ I q (by simp))
    | bl j=>cases ry;exact PySem.EqNone.ne_none_bool (aJ I q (by simp))
    | int j=>obtain ⟨t',rfl⟩:=ry;exact PySem.EqNone.ne_none_int (aJ I q (by simp))
    | str j=>obtain ⟨t',rfl⟩:=ry;exact PySem.EqNone.ne_none_str (aJ I q (by simp))
    | _=>exact absurd (show false=true from hs) Bool.false_ne_true
  | bl i=>
    cases rx
    cases y with
    | non=>cases ry;exact PySem.EqNone.ne_bool_none (aJ I q (by simp))
    | bl j=>cases ry;exact ne_bool (aJ I q (congrArg not tX))
    | str j=>obtain ⟨t',rfl⟩:=ry;exact PySem.EqMixed.ne_bool_str (aJ I q (by simp))
    | _=>exact absurd (show false=true from hs) Bool.false_ne_true
  | int i=>
    obtain ⟨t,rfl⟩:=rx
    cases y with
    | non=>cases ry;exact PySem.EqNone.ne_int_none (aJ I q (by simp))
    | int j=>obtain ⟨t',rfl⟩:=ry;exact ne_int (aJ I q (congrArg not qy))
    | str j=>obtain ⟨t',rfl⟩:=ry;exact PySem.EqMixed.ne_int_str (aJ I q (by simp))
    | _=>exact absurd (show false=true from hs) Bool.false_ne_true
  | str i=>
    obtain ⟨t,rfl⟩:=rx
    cases y with
    | non=>cases ry;exact PySem.EqNone.ne_str_none (aJ I q (by simp))
    | bl j=>cases ry;exact PySem.EqMixed.ne_str_bool (aJ I q (by simp))
    | int j=>obtain ⟨t',rfl⟩:=ry;exact PySem.EqMixed.ne_str_int (aJ I q (by simp))
    | str j=>obtain ⟨t',rfl⟩:=ry;exact ne_str (aJ I q (congrArg not qz))
    | _=>exact absurd (show false=true from hs) Bool.false_ne_true
  | byt i=>
    obtain ⟨t,rfl⟩:=rx
    cases y with
    | byt j=>obtain ⟨t',rfl⟩:=ry;exact PySem.W.ne_bytes (aJ I q (congrArg not qA))
    | _=>exact absurd (show false=true from hs) Bool.false_ne_true
  | _=>cases y <;> exact absurd (show false=true from hs) Bool.false_ne_true
theorem zV:OpR X (compareOp .Lt) (vQ fun i j=> .bl (decide (i < j))):=vR fun _ _ _ _ _ _ _ q=>lt_int q
theorem zW:OpR X (compareOp .LtE) (vQ fun i j=> .bl (decide (i≤j))):=vR fun _ _ _ _ _ _ _ q=>le_int q
theorem zX:OpR X (compareOp .Gt) (vQ fun i j=> .bl (decide (j < i))):=vR fun _ _ _ _ _ _ _ q=>gt_int q
theorem zY:OpR X (compareOp .GtE) (vQ fun i j=> .bl (decide (j≤i))):=vR fun _ _ _ _ _ _ _ q=>ge_int q
theorem rN:OpR X (compareOp .Lt) (fun x y H Q=>∃i j,x= .str i∧y= .str j∧Q (.bl (decide (i.cps.toList < j.cps.toList))) H):=by
  intro pins s σ H x y v u Q I rx ry h
  obtain ⟨i,j,rfl,rfl,q⟩:=h
  obtain ⟨t,rfl⟩:=rx
  obtain ⟨t',rfl⟩:=ry
  exact lt_str (aJ I q rfl)
theorem rO:OpR X (compareOp .In) (fun x y H Q=>∃i j,x= .str i∧y= .str j∧Q (.bl (!(Builtin.Str.occurrences j i 0 j.length 1).isEmpty)) H):=by
  intro pins s σ H x y v u Q I rx ry h
  obtain ⟨i,j,rfl,rfl,q⟩:=h
  obtain ⟨t,rfl⟩:=rx
  obtain ⟨t',rfl⟩:=ry
  exact in_str (aJ I q rfl)
theorem yn:OpR X (compareOp .Is) (fun x y H Q=>y= .non∧Q (.bl (decide (x= .non))) H):=by
  intro pins s σ H x y v u Q I rx ry h
  obtain ⟨rfl,q⟩:=h
  cases ry
  refine is_none_gen (aJ I q ?_)
  cases x <;> first
    | (cases rx;rfl)
    | (obtain ⟨t,rfl⟩:=rx;rfl)
theorem OpR.or {f:Value→Value→Sem Value} {r r':R2} (h:OpR X f r) (h':OpR X f r'):OpR X f (fun x y H Q=>r x y H Q∨r' x y H Q):=by
  intro pins s σ H x y v u Q I rx ry q
  rcases q with q | q
  · exact h pins s σ H x y v u Q I rx ry q
  · exact h' pins s σ H x y v u Q I rx ry q
theorem jQ (b:Expr) {op:CmpOp} (h:op≠ .In:=by decide) (h2:op≠ .NotIn:=by decide):behindInMarks op b=false:=by
  have e1:(op == CmpOp.In)=false:=by cases op <;> first | rfl | exact absurd rfl h
  have e2:(op == CmpOp.NotIn)=false:=by cases op <;> first | rfl | exact absurd rfl h2
  cases b <;> simp [behindInMarks,e1,e2]
theorem vS {op:CmpOp} {r:R2} (ho:OpR X (compareOp op) r) (ha:PE X a ta) (hb:PE X b tb) (hm:behindInMarks op b=false):PE X (.Compare a [op] [b] pos) (zR r ta tb):=by
  intro pins s σ H Q I h
  exact wpAny_Compare1 (ya ha hb I h fun v u s2 x y H2 I2 rx ry q=>ho pins s2 σ H2 x y v u Q I2 rx ry q) hm
def xm (t:TE):TT:=fun σ H Q=>t σ H fun x H'=>∃k,x= .bl k∧Q k H'
theorem vT {op:CmpOp} {r:R2} (ho:OpR X (compareOp op) r) (ha:PE X a ta) (hb:PE X b tb) (hm:behindInMarks op b=false):PT X (.Compare a [op] [b] pos) (xm (zR r ta tb)):=by
  intro pins s σ H Q I h
  refine wpAny_isTrue_Compare1 (cZ (ha pins s σ H _ I h) fun v s1 ⟨x,H1,I1,r1,q1⟩=>cZ (hb pins s1 σ H1 _ I1 q1) fun u s2 ⟨y,H2,I2,r2,q2⟩=>
    cZ (ho pins s2 σ H2 x y v u _ I2 r1 r2 q2) fun c s3 ⟨z,H3,I3,r3,k,e,q3⟩=>?_) hm
  subst e
  cases r3
  exact wpAny_truthy_bool ⟨H3,I3,q3⟩
def pi (r r':R2) (ta tb tc:TE):TE:=fun σ H Q=>ta σ H fun x H1=>tb σ H1 fun y H2=>r x y H2 fun z H3=>∃k,z= .bl k∧
  (if k=true then tc σ H3 fun w' H4=>r' y w' H4 Q else Q (.bl false) H3)
theorem tY {op op':CmpOp} {r r':R2} (ho:OpR X (compareOp op) r) (ho':OpR X (compareOp op') r') (ha:PE X a ta) (hb:PE X b tb) (hc:PE X c tc)
    (hm:lastMarks [op,op'] [b,c]=false:=by with_unfolding_all rfl):PE X (.Compare a [op,op'] [b,c] pos) (pi r r' ta tb tc):=by
  intro pins s σ H Q I h
  refine Compare_chain (cZ (ha pins s σ H _ I h) fun v s1 ⟨x,H1,I1,r1,q1⟩=>chain_link (cZ (hb pins s1 σ H1 _ I1 q1) fun u s2 ⟨y,H2,I2,r2,q2⟩=>
    cZ (ho pins s2 σ H2 x y v u _ I2 r1 r2 q2) fun d s3 ⟨z,H3,I3,r3,k,e,q3⟩=>?_)) hm
  subst e
  cases r3
  refine wpAny_truthy_bool ?_
  cases k with
  | false=>exact ite_ff ⟨.bl false,H3,I3,rfl,q3⟩
  | true=>exact ite_tt (chain_last (cZ (hc pins s3 σ H3 _ I3 q3) fun w' s4 ⟨z',H4,I4,r4,q4⟩=>ho' pins s4 σ H4 y z' u w' Q I4 r2 r4 q4))
theorem tZ {op op':CmpOp} {r r':R2} (ho:OpR X (compareOp op) r) (ho':OpR X (compareOp op') r') (ha:PE X a ta) (hb:PE X b tb) (hc:PE X c tc)
    (hm:lastMarks [op,op'] [b,c]=false:=by with_unfolding_all rfl):PT X (.Compare a [op,op'] [b,c] pos) (xm (pi r r' ta tb tc)):=by
  intro pins s σ H Q I h
  refine isTrue_chain (cZ (ha pins s σ H _ I h) fun v s1 ⟨x,H1,I1,r1,q1⟩=>test_link (cZ (hb pins s1 σ H1 _ I1 q1) fun u s2 ⟨y,H2,I2,r2,q2⟩=>
    cZ (ho pins s2 σ H2 x y v u _ I2 r1 r2 q2) fun d s3 ⟨z,H3,I3,r3,k,e,q3⟩=>?_)) hm
  subst e
  cases r3
  refine wpAny_truthy_bool ?_
  cases k with
  | false=>
    obtain ⟨k',e',q'⟩:=q3
    cases e'
    exact ite_ff ⟨H3,I3,q'⟩
  | true=>
    refine ite_tt (test_last (cZ (hc pins s3 σ H3 _ I3 q3) fun w' s4 ⟨z',H4,I4,r4,q4⟩=>cZ (ho' pins s4 σ H4 y z' u w' _ I4 r2 r4 q4) fun d' s5 ⟨z2,H5,I5,r5,k2,e2,q5⟩=>?_))
    subst e2
    cases r5
    exact wpAny_truthy_bool ⟨H5,I5,q5⟩
def t5 (K:PySem.W.Frag) (x:V) (H:Hp) (k:Bool):Prop:=
  match x with
  | .non=>k=false
  | .bl b=>k=b
  | .int i=>k=(i != 0)
  | .str y=>y.length≤sizeLine∧k=((y.length:Int) != 0)
  | .byt y=>y.size≤sizeLine∧k=((y.size:Int) != 0)
  | .ref p=>(∃xs,SqL K H p xs∧k= !xs.isEmpty)∨(∃xs,SqT K H p xs∧k= !xs.isEmpty)∨∃kvs,H p=some (.dK kvs)∧k= !kvs.isEmpty
  | _=>False
theorem pj {κ:Type} {kvs:List (κ×V)} {vs:List (κ×Value)} (r:KV kvs vs):(!vs.isEmpty)= !kvs.isEmpty:=by
  cases r <;> rfl
theorem jR {xs:List V} {its:List Value} (r:Vals xs its):(!its.toArray.isEmpty)= !xs.isEmpty:=by
  cases r <;> simp
theorem iZ:(sizeLine:Nat) < 2 ^ 63:=by rw [sizeLine_eq];decide
theorem yo:Bg X (fun x H Q=>∃k,t5 X.K x H k∧Q k H):=by
  intro pins s σ H x v Q I rx h
  obtain ⟨k,e,q⟩:=h
  have hl:=iZ
  have hs:sizeLine=16777216:=sizeLine_eq
  cases x with
  | non=>
    cases rx
    have e':k=false:=e
    subst e'
    exact truthy_none ⟨H,I,q⟩
  | bl b=>
    cases rx
    have e':k=b:=e
    subst e'
    exact wpAny_truthy_bool ⟨H,I,q⟩
  | int i=>
    obtain ⟨t,rfl⟩:=rx
    have e':k=(i != 0):=e
    subst e'
    exact PySem.P.truthy_int ⟨H,I,q⟩
  | str y=>
    obtain ⟨t,rfl⟩:=rx
    obtain ⟨hy,e'⟩:y.length≤sizeLine∧k=((y.length:Int) != 0):=e
    subst e'
    exact PySem.P.truthy_str (by omega) ⟨H,I.tok _,q⟩
  | byt y=>
    obtain ⟨t,rfl⟩:=rx
    obtain ⟨hy,e'⟩:y.size≤sizeLine∧k=((y.size:Int) != 0):=e
    subst e'
    exact PySem.W.truthy_bytes (by omega) ⟨H,I.tok _,q⟩
  | ref p=>
    cases rx
    have e':(∃xs,SqL X.K H p xs∧k= !xs.isEmpty)∨(∃xs,SqT X.K H p xs∧k= !xs.isEmpty)∨∃kvs,H p=some (.dK kvs)∧k= !kvs.isEmpty:=e
    rcases e' with ⟨xs,hx,e'⟩ | ⟨xs,hx,e'⟩ | ⟨kvs,hx,e'⟩
    · subst e'
      obtain ⟨its,r,pl,hz⟩:=I.list hx
      have hlen:=r.length
      exact wpAny_truthy_list pl.isList (by simp only [List.size_toArray];omega) ⟨H,I.tok _,by rw [jR r];exact q⟩
    · subst e'
      obtain ⟨its,r,pl,hz⟩:=I.tuple hx
      have hlen:=r.length
      exact truthy_tuple pl (by simp only [List.size_toArray];omega) ⟨H,I.tok _,by rw [jR r];exact q⟩
    · subst e'
      obtain ⟨hz,hS,vs,r,m⟩:kvs.length≤sizeLine∧(p == sysModules)=false∧∃vs,KV kvs vs∧s.heap.DictOf (jL X.prog X.w) p vs:=I.hok p _ hx
      have hlen:kvs.length=vs.length:=Paired.length r
      exact wpAny_truthy_dict hS m (by omega) ⟨H,I.tok _,by rw [pj r];exact q⟩
  | _=>exact (show False from e).elim
theorem t6 (ha:PE X a ta) (he:∀whole,isTrue a X.env whole=(do let v ←whole;standAt a.pos;holding [v] (truthy v))):
    PT X a (fun σ H Q=>ta σ H fun x H'=>∃k,t5 X.K x H' k∧Q k H'):=by
  intro pins s σ H Q I h
  exact isTrue_plain (cZ (ha pins s σ H _ I h) fun v s1 ⟨x,H1,I1,r1,q1⟩=>yo pins s1 σ H1 x v Q I1 r1 q1) (he _)
theorem pk:OpR X (binaryOp .Add) (fun x y H Q=>∃i j,x= .str i∧y= .str j∧i.length+j.length≤sizeLine∧Q (.str (i++j)) H):=by
  intro pins s σ H x y v u Q I rx ry h
  obtain ⟨i,j,rfl,rfl,hz,q⟩:=h
  obtain ⟨t,rfl⟩:=rx
  obtain ⟨t',rfl⟩:=ry
  exact add_str (fun t' tk=>⟨.str (i++j),H,I.tok _,⟨_,rfl⟩,q⟩) hz
theorem t7 {x:V} {us:List Value} (r:Vals [x] us):∃u,us=[u]∧RelV x u:=by
  cases r with
  | cons r1 r2=>cases r2;exact ⟨_,rfl,r1⟩
end
end L2
namespace L2
open PySem PySem.Spec PyProof.Rows
structure ObjM (h:Heap) (x dx C:Addr) (mA:Str→Option Value):Prop where
  obj:h.get? x=some (PySem.W.instObj C dx)
  ns:h.Ns1 dx mA
  ne:dx≠x
theorem rP {h:Heap} {dx:Addr} {mA:Str→Option Value} (n:h.Ns1 dx mA):∃od,h.get? dx=some od∧∀name,PySem.W.lookIn name od=some (mA name):=by
  obtain ⟨o,es,ep,ho,hd,hk,_,hm⟩:=n
  refine ⟨o,ho,fun name=>?_⟩
  have e:=hm name
  unfold nsFind findBy at e
  rw [←Array.find?_toList] at e
  unfold PySem.W.lookIn
  rw [hd]
  dsimp only
  split
  · rename_i y q
    rw [q] at e
    exact congrArg some e
  · rename_i q
    rw [q] at e
    have a:es.toList.any (·.refKey)=false:=by
      rw [List.any_eq_false]
      intro y hy
      obtain ⟨z,t,hkey⟩:=hk y (Array.mem_toList_iff.mp hy)
      simp [DictEntry.refKey,hkey]
    have a':¬es.toList.any (·.refKey)=true:=by rw [a];exact Bool.false_ne_true
    rw [if_neg a']
    exact congrArg some e
theorem ObjM.look {h:Heap} {x dx C:Addr} {mA:Str→Option Value} (I:ObjM h x dx C mA):∃od,PySem.W.InstAt h x (PySem.W.instObj C dx) C (some od)∧∀name,PySem.W.lookIn name od=some (mA name):=
  let ⟨od,ho,hl⟩:=rP I.ns
  ⟨od,⟨I.obj,rfl,rfl,ho⟩,hl⟩
section
variable {P:Program} {w:World} {H H':Hp} {h h':Heap} {a C dx:Addr} {fs fs':List (Str×V)}
theorem vU (hok:HOk P w H h) (e:H a=some (.ins C dx fs)):∃mA,ObjM h a dx C mA∧(∀f,RelO (fs.lookup f) (mA f))∧PySem.Within mA (fs.map (·.1))∧fs.length≤1000∧H dx=some (.own a):=by
  obtain ⟨d,z,ne,ob,mA,n,r,q⟩:=(show ObjOk P w H h a (.ins C dx fs) from hok a _ e)
  exact ⟨mA,⟨ob,n,ne⟩,r,q,z,d⟩
end
structure Cls (K:PySem.W.Frag) (C:Addr):Prop where
  pg:PySem.W.plainGet K C Str.empty=true
  hd:PySem.W.hasDictIn K C=true
  po:PySem.W.plainOver K C=true
  sa:PySem.W.findIn K (.ref C) "__setattr__"=some (some (.builtin "object.__setattr__"))
theorem Cls.get {K:PySem.W.Frag} {C:Addr} (c:Cls K C) (f:Str):PySem.W.plainGet K C f=true:=c.pg
section
variable {X:Cx} {pins:List (Addr×Obj)} {σ:St} {H:Hp} {s:Shared} {a C dx:Addr} {fs:List (Str×V)} {f:Str} {v:V} {A:Around} {E:Value→Shared→Prop}
theorem Inv.made (I:Inv X pins σ H s):Inv X pins σ (upd (upd H s.heap.objs.size (.own (s.heap.objs.size+1))) (s.heap.objs.size+1) (.ins C s.heap.objs.size []))
    {s with heap:=(s.heap.push PySem.W.emptyDict).push (PySem.W.instObj C s.heap.objs.size)}:=by
  have e1:(s.heap.push PySem.W.emptyDict).get? s.heap.objs.size=some PySem.W.emptyDict:=Heap.get?_push_size s.heap rfl
  have e2:((s.heap.push PySem.W.emptyDict).push (PySem.W.instObj C s.heap.objs.size)).get? (s.heap.objs.size+1)=some (PySem.W.instObj C s.heap.objs.size):=by
    have:=Heap.get?_push_size (s.heap.push PySem.W.emptyDict) (o:=PySem.W.instObj C s.heap.objs.size) rfl
    rwa [Heap.size_push] at this
  have e3:(s.heap.push PySem.W.emptyDict).Ns s.heap.objs.size (fun _=>none):=⟨PySem.W.emptyDict,#[],_,e1,rfl,(fun e he=>absurd he (by simp)),fun _=>rfl⟩
  have I1:=I.laid (a:=s.heap.objs.size) (o:= .own (s.heap.objs.size+1)) (h':=s.heap.push PySem.W.emptyDict) (t':=s.toks) (fun b u q=>Heap.get?_push_of_some _ q) (Nat.le_refl _) ⟨_,e1⟩
  refine I1.laid (a:=s.heap.objs.size+1) (o:= .ins C s.heap.objs.size []) (t':=s.toks) (fun b u q=>Heap.get?_push_of_some _ q) (Nat.le_of_eq (Heap.size_push _ _)) ?_
  have ne:s.heap.objs.size≠s.heap.objs.size+1:=Nat.ne_of_lt (Nat.lt_succ_self _)
  refine ⟨by rw [aH ne,bx],Nat.zero_le _,ne,e2,fun _=>none,(Heap.Ns1.of_empty e3).at fun o q=>Heap.get?_push_of_some _ q,fun _=>True.intro,fun y hy=>absurd rfl hy⟩
end
section
variable {X:Cx} {pins:List (Addr×Obj)} {σ:St} {H:Hp} {s:Shared} {A:Around} {E:Value→Shared→Prop} {Q:Value→Shared→Prop} {c:Value} {b:Bool}
inductive TyOf (K:PySem.W.Frag) (H:Hp):V→Value→Prop where
  | non:TyOf K H .non (.type "NoneType")
  | bl (x:Bool):TyOf K H (.bl x) (.type "bool")
  | int (i:Int):TyOf K H (.int i) (.type "int")
  | str (x:Str):TyOf K H (.str x) (.type "str")
  | flt (x:UInt64):TyOf K H (.flt x) (.type "float")
  | lst {a:Addr} {xs:List V} (e:H a=some (.lst xs)):TyOf K H (.ref a) (.type "list")
  | frz {a:Addr} {o:Obj} {xs:List V} (e:H a=some (.frz o (.lst xs))):TyOf K H (.ref a) (.type "list")
  | tup {a:Addr} {xs:List V} (e:H a=some (.tup xs)):TyOf K H (.ref a) (.type "tuple")
  | dK {a:Addr} {kvs:List (dL×V)} (e:H a=some (.dK kvs)):TyOf K H (.ref a) (.type "dict")
  | dT {a:Addr} {kvs:List (List dL×V)} (e:H a=some (.dT kvs)):TyOf K H (.ref a) (.type "dict")
  | ins {a C dx:Addr} {fs:List (Str×V)} (e:H a=some (.ins C dx fs)) (cl:Cls K C) (ha:PySem.W.findIn K (.ref C) "__class__"=some (some (.builtin "object.__class__")))
      (hn:PySem.W.specialIn K (.builtin "object.__class__") "__get__"=some (some (.builtin "getset_descriptor.__get__"))) (htk:PySem.W.takesIn K (.builtin "object.__class__")=some true)
      (hm:PySem.W.mroIn K C (.type "object")=some true):TyOf K H (.ref a) (.ref C)
theorem gD {x:V} {u t:Value} (I:Inv X pins σ H s) (rx:RelV x u) (ty:TyOf X.K H x t) (e:PySem.W.kitOne X.K t c=some b) (h:∀tk,Q (.bool b) {s with toks:=tk}):
    wpAny (model X.prog X.w) A (call (.builtin "isinstance") [u,c]) Q E s:=by
  cases ty with
  | non=>cases (show u=Value.none from rx);exact PySem.W.kia_one PySem.W.kitx_none I.kIn True.intro e (fun z=>nomatch z) h
  | bl y=>cases (show u=Value.bool y from rx);exact PySem.W.kia_one PySem.W.kitx_bool I.kIn True.intro e (fun z=>nomatch z) h
  | int i=>obtain ⟨t,q⟩:=(show ∃t,u=Value.int i t from rx);cases q;exact PySem.W.kia_one PySem.W.kitx_int I.kIn True.intro e (fun z=>nomatch z) h
  | str y=>obtain ⟨t,q⟩:=(show ∃t,u=Value.str y t from rx);cases q;exact PySem.W.kia_one PySem.W.kitx_str I.kIn True.intro e (fun z=>nomatch z) h
  | flt y=>obtain ⟨t,q⟩:=(show ∃t,u=Value.float y t from rx);cases q;exact PySem.W.kia_one PySem.W.kitx_float I.kIn True.intro e (fun z=>nomatch z) h
  | @lst a xs ea=>
    cases (show u=Value.ref a from rx)
    obtain ⟨_,_,n,_,h1⟩:=(show ObjOk X.prog X.w H s.heap a (.lst xs) from I.hok a _ ea)
    exact PySem.W.kia_one PySem.W.kitx_list I.kIn ⟨_,h1,rfl⟩ e (fun z=>nomatch z) h
  | @frz a ob xs ea=>
    cases (show u=Value.ref a from rx)
    obtain ⟨_,_,_,n,_,h1⟩:=(show ObjOk X.prog X.w H s.heap a (.frz ob (.lst xs)) from I.hok a _ ea)
    exact PySem.W.kia_one PySem.W.kitx_list I.kIn ⟨_,h1,rfl⟩ e (fun z=>nomatch z) h
  | @tup a xs ea=>
    cases (show u=Value.ref a from rx)
    obtain ⟨_,_,_,p⟩:=(show ObjOk X.prog X.w H s.heap a (.tup xs) from I.hok a _ ea)
    obtain ⟨o,h1,h2,_⟩:=p
    exact PySem.W.kia_one PySem.W.kitx_tuple I.kIn ⟨o,h1,h2⟩ e (fun z=>nomatch z) h
  | @dK a kvs ea=>
    cases (show u=Value.ref a from rx)
    obtain ⟨_,_,vs,_,p⟩:=(show ObjOk X.prog X.w H s.heap a (.dK kvs) from I.hok a _ ea)
    obtain ⟨o,es,ep,h1,h2,_⟩:=p
    exact PySem.W.kia_one PySem.W.kitx_dict I.kIn ⟨o,h1,h2.1⟩ e (fun z=>nomatch z) h
  | @dT a kvs ea=>
    cases (show u=Value.ref a from rx)
    obtain ⟨_,_,xs,_,o,es,ep,h1,h2,_⟩:=(show ObjOk X.prog X.w H s.heap a (.dT kvs) from I.hok a _ ea)
    exact PySem.W.kia_one PySem.W.kitx_dict I.kIn ⟨o,h1,h2.1⟩ e (fun z=>nomatch z) h
  | @ins a C dx fs ea cl ha hn htk hm=>
    cases (show u=Value.ref a from rx)
    obtain ⟨mA,O,_⟩:=vU I.hok ea
    obtain ⟨od,J,_⟩:=O.look
    exact PySem.W.kia_one (PySem.W.kitx_own (cl.get _) cl.hd ha hn htk hm) I.kIn J e (fun z=>nomatch z) h
end
end L2
namespace L2
open PySem PySem.Spec PyProof.Rows
structure Room (k:Nat) (A:Around):Prop where
  hd:A.handled=none
  dp:A.depth+3*k+5 < recursionLimit
  un:A.units+16*k+200 < cLine
theorem Room.mono {j k:Nat} {A:Around} (r:Room k A) (h:j≤k):Room j A:=⟨r.hd,by have:=r.dp;omega,by have:=r.un;omega⟩
theorem Room.deeper {k:Nat} {A:Around} (r:Room (k+1) A) (env:Env):Room k (A.deeper env):=
  ⟨r.hd,by have:=r.dp;show A.depth+1+3*k+5 < _;omega,by have:=r.un;show A.units+3+16*k+200 < _;omega⟩
theorem Room.in1 {k:Nat} {A:Around} (r:Room (k+1) A):Room k A.in1:=
  ⟨r.hd,by have:=r.dp;show A.depth+3*k+5 < _;omega,by have:=r.un;show A.units+1+16*k+200 < _;omega⟩
theorem Room.depth {k:Nat} {A:Around} (r:Room k A):A.depth < recursionLimit:=by have:=r.dp;omega
theorem Room.units {k:Nat} {A:Around} (r:Room k A):A.units+64 < cLine:=by have:=r.un;omega
def Bh:TA:=fun _ H Q=>Q [] H
def zZ (ta:TE) (tr:TA):TA:=fun σ H Q=>ta σ H fun x H1=>tr σ H1 fun xs H2=>Q (x::xs) H2
section
variable {X:Cx} {e:Expr} {es:List Expr} {te:TE} {t:TA} {pos:Pos}
theorem dM:PA X [] Bh:=fun _ _ _ _ H Q I h=>Calls.spliced_nil ⟨[],H,I, .nil,h⟩
theorem cB (ha:PE X e te) (hr:PA X es t) (hs:starEach (e::es) X.env=(false,eval e X.env)::starEach es X.env:=by rfl):PA X (e::es) (zZ te t):=by
  intro pos pins s σ H Q I h
  rw [hs]
  show wpAny _ _ (spliced ((false,eval e X.env)::backTo pos (starEach es X.env))) _ _ s
  refine Calls.spliced_cons (cZ (ha pins s σ H _ I h) fun u s1 ⟨x,H1,I1,r1,q1⟩=>?_)
  exact cZ (hr pos pins s1 σ H1 _ I1 q1) fun us s2 ⟨xs,H2,I2,r2,q2⟩=>⟨x::xs,H2,I2, .cons r1 r2,q2⟩
def Bi (t:TA):TE:=fun σ H Q=>t σ H fun xs H1=>xs.length≤sizeLine∧∀p,H1 p=none→Q (.ref p) (upd H1 p (.lst xs))
theorem yp (h:PA X es t):PE X (.List es pos) (Bi t):=by
  intro pins s σ H Q I hq
  refine wpAny_List_spliced (cZ (h pos pins s σ H _ I hq) fun us s1 ⟨xs,H1,I1,r,z,q⟩=>⟨by rw [←r.length];exact z,?_⟩)
  have hf:H1 s1.heap.objs.size=none:=I1.hok.fresh (Nat.le_refl _)
  refine ⟨.ref s1.heap.objs.size,upd H1 s1.heap.objs.size (.lst xs),I1.laid (t':=s1.toks) (fun b u e=>Heap.get?_push_of_some _ e) (Nat.le_refl _) ?_,rfl,q _ hf⟩
  exact ⟨z,us,0,r,Heap.get?_push_size _ rfl⟩
end
abbrev Sp:=List V→Hp→VK→XK→Prop
abbrev tO:=List Env→Hp→Shared→XK→Value→Shared→Prop
structure Env0 (P:Program) (w:World) (K:PySem.W.Frag) (mg:Str→Option Value) (base:Heap) (A:Around) (outer:List Env) (s:Shared) (H:Hp):Prop where
  frames:A.frames=some outer
  mod:Mod K mg base
  bs:∀b o,base.get? b=some o→s.heap.get? b=some o∧H b=none
  bsz:base.objs.size≤s.heap.objs.size
  funs:s.heap.FunFrames base outer
  frf:∀b∈tN outer,H b=none
  hok:HOk P w H s.heap
  bare:AllBare s.gens
  tab:∀b q,jF K b=some q→H b=some (.tbl q)
def CE (outer:List Env) (P:Program) (w:World) (H:Hp) (s:Shared) (Q:VK) (u:Value) (s':Shared):Prop:=
  ∃v H',s'.os=s.os∧AllBare s'.gens∧Un (tN outer) [] H H' s.heap s'.heap∧HOk P w H' s'.heap∧RelV v u∧Q v H'
def CR (CX:tO) (outer:List Env) (P:Program) (w:World) (H:Hp) (s:Shared) (Q:VK) (E:XK) (r:Result) (s':Shared):Prop:=
  match r with
  | .ok (.ret u)=>CE outer P w H s Q u s'
  | .ok _=>False
  | .error e=>CX outer H s E e s'
structure FnOk (P:Program) (w:World) (K:PySem.W.Frag) (mg:Str→Option Value) (base:Heap) (CX:tO) (k:Nat) (f:Addr) (fd:FuncData) (ps:List Str) (sp:Sp):Prop where
  len:∀vs H Q E,sp vs H Q E→vs.length=ps.length
  run:∀(A:Around) (outer:List Env) (s:Shared) (H:Hp) (args:Args) (us:List Value) (vs:List V) (Q:VK) (E:XK),Room k A→Env0 P w K mg base A outer s H→BindsTo s fd args (ps.zip us)→Vals vs us→sp vs H Q E→
    codeAny (model P w) A (.call (.ref f) args) (CR CX outer P w H s Q E) s
theorem FnOk.mono {P:Program} {w:World} {K:PySem.W.Frag} {mg:Str→Option Value} {base:Heap} {CX:tO} {j k:Nat} {f:Addr} {fd:FuncData} {ps:List Str} {sp:Sp} (F:FnOk P w K mg base CX j f fd ps sp) (h:j≤k):
    FnOk P w K mg base CX k f fd ps sp:=⟨F.len,fun A outer s H args us vs Q E hr=>F.run A outer s H args us vs Q E (hr.mono h)⟩
theorem FnOk.imp {P:Program} {w:World} {K:PySem.W.Frag} {mg:Str→Option Value} {base:Heap} {CX:tO} {k:Nat} {f:Addr} {fd:FuncData} {ps:List Str} {sp sp':Sp} (F:FnOk P w K mg base CX k f fd ps sp)
    (h:∀vs H Q E,sp' vs H Q E→sp vs H Q E):FnOk P w K mg base CX k f fd ps sp':=
  ⟨fun vs H Q E q=>F.len vs H Q E (h _ _ _ _ q),fun A outer s H args us vs Q E hr he hb hv hs=>F.run A outer s H args us vs Q E hr he hb hv (h _ _ _ _ hs)⟩
theorem Env0.in1 {P:Program} {w:World} {K:PySem.W.Frag} {mg:Str→Option Value} {base:Heap} {A:Around} {outer:List Env} {s:Shared} {H:Hp} (e:Env0 P w K mg base A outer s H):
    Env0 P w K mg base A.in1 outer s H:=⟨e.frames,e.mod,e.bs,e.bsz,e.funs,e.frf,e.hok,e.bare,e.tab⟩
section
variable {X:Cx} {pins:List (Addr×Obj)} {σ:St} {H:Hp} {s s':Shared}
theorem Inv.env0 (I:Inv X pins σ H s):Env0 X.prog X.w X.K X.mg X.base X.A X.stack s H:=
  ⟨I.ok.frames,I.ok.mod,I.bs,Nat.le_trans I.ok.bsz I.sz,I.stack,I.stkFree,I.hok,I.bare,I.tab⟩
theorem Inv.after {Q:VK} {u:Value} (I:Inv X pins σ H s) (h:CE X.stack X.prog X.w H s Q u s'):EP X pins σ Q u s':=by
  obtain ⟨v,H',os,bare,un,hok,r,q⟩:=h
  obtain ⟨hh,g,d,t,os'⟩:=s'
  obtain rfl:os'=s.os:=os
  exact ⟨v,H',I.call (h':=hh) (g':=g) (d':=d) (t':=t) (ch:=[]) un hok bare (fun b z=>absurd z (by simp)),r,q⟩
end
def xn (sp:Sp) (dvs:List V) (E:XK) (t:TA):TE:=fun σ H Q=>t σ H fun vs H1=>sp (vs++dvs) H1 Q E
def Binds (K:PySem.W.Frag) (fd:FuncData) (ps:List Str) (ds:List Value):Prop:=
  ∀(s:Shared) (us:List Value),K.In s.heap→(us++ds).length=ps.length→BindsTo s fd ⟨us,[]⟩ (ps.zip (us++ds))
theorem Binds.all {K:PySem.W.Frag} {fd:FuncData} {ps:List Str} (h:∀us:List Value,us.length=ps.length→bindArgs fd ⟨us,[]⟩=pure (ps.zip us)):Binds K fd ps []:=fun s us _ hl=>by
  rw [List.append_nil] at hl ⊢
  exact .of_eq (h us hl)
def pq (CX:tO) (X:Cx) (E:XK):Prop:=∀(pins:List (Addr×Obj)) (σ:St) (H:Hp) (s:Shared) (e:Value) (s':Shared),Inv X pins σ H s→CX X.stack H s E e s'→X.xe e s'
section
variable {X:Cx} {CX:tO} {k:Nat} {f C:Addr} {fd:FuncData} {ps:List Str} {sp:Sp} {dvs:List V} {ds:List Value} {E:XK} {x m:Str} {p pos apos:Pos} {e o:Expr} {es:List Expr} {ta:TE} {t:TA}
theorem yq {pins:List (Addr×Obj)} {σ:St} {H:Hp} {s:Shared} {Q:VK} {us:List Value} {vs:List V} (F:FnOk X.prog X.w X.K X.mg X.base CX k f fd ps sp) (hr:Room k X.A) (hb:Binds X.K fd ps ds) (hd:Vals dvs ds) (hx:pq CX X E)
    (I:Inv X pins σ H s) (r:Vals vs us) (h:sp (vs++dvs) H Q E):wpAny (model X.prog X.w) X.A (call (.ref f) us) (EP X pins σ Q) X.xe s:=by
  have r2:Vals (vs++dvs) (us++ds):=r.append hd
  have hl:(us++ds).length=ps.length:=by rw [←r2.length];exact F.len _ _ _ _ h
  refine wpAny_call (codeAny_mono (F.run X.A X.stack s H ⟨us,[]⟩ (us++ds) (vs++dvs) Q E hr I.env0 (hb s us I.kIn hl) r2 h) fun r s' hq=>?_)
  cases r with
  | error e=>exact hx pins σ H s e s' I hq
  | ok fl=>
    cases fl with
    | ret u=>exact I.after hq
    | next=>exact False.elim hq
    | brk=>exact False.elim hq
    | cont=>exact False.elim hq
theorem vV (F:FnOk X.prog X.w X.K X.mg X.base CX k f fd ps sp) (hr:Room k X.A) (hg:Gl X x) (hm:X.mg x=some (.ref f)) (hk:PySem.W.keepIn X.K (.ref f)=true) (hb:Binds X.K fd ps ds) (hd:Vals dvs ds) (hx:pq CX X E)
    (ha:PA X (e::es) t) (hdb:(x == ("__debug__":Str))=false:=by decide) (he:starEach (e::es) X.env=(false,eval e X.env)::starEach es X.env:=by rfl) (hpl:(backTo pos (starEach es X.env)).any (·.1)=false:=by rfl):
    PE X (.Call (.Name x p) (e::es) [] pos) (xn sp dvs E t):=by
  intro pins s σ H Q I h
  refine wpAny_Call_Name_kw (me I hg hm ?_ hdb)
  refine PySem.W.callWith_K (h₀:=X.base) I.ok.mod.kin hk (cZ (ha pos pins s σ H _ I h) fun us s1 ⟨vs,H1,I1,r,q⟩=>⟨I1.kIn,?_⟩) he hpl
  exact yq F hr hb hd hx I1 r q
end
structure FnScope (N P:List Str) (sc:Scope):Prop where
  kind:sc.kind= .function
  co:sc.isCoroutine=false
  gen:sc.isGenerator=false
  nd:N.Nodup
  pre:N.take P.length=P
  par:∀x∈P,sc.names.lookup x=some .local∨sc.names.lookup x=some .cell
  nofree:∀y∈sc.names,y.2≠ .free
theorem kX {kindOf:Str→Option NameKind} {x:Str}:∀{binds:List (Str×Value)} {m:Str→Option Value},(∀v,(x,v)∉binds)→bindL kindOf binds m x=m x
  | [],_,_=>rfl
  | (n,v)::r,m,h=>by
    unfold bindL
    rw [kX fun w hw=>h w (List.mem_cons_of_mem _ hw)]
    split
    · have:x≠n:=by rintro rfl;exact h v List.mem_cons_self
      simp [this]
    · rfl
theorem kY {kindOf:Str→Option NameKind} {x:Str}:∀{binds:List (Str×Value)} {m:Str→Option Value},(∀v,(x,v)∉binds)→bindC kindOf binds m x=m x
  | [],_,_=>rfl
  | (n,v)::r,m,h=>by
    unfold bindC
    rw [kY fun w hw=>h w (List.mem_cons_of_mem _ hw)]
    split
    · rfl
    · have:x≠n:=by rintro rfl;exact h v List.mem_cons_self
      simp [this]
theorem kZ {kindOf:Str→Option NameKind} {x:Str} {v:Value}:∀{P:List Str} {vs:List Value} {i:Nat} {m:Str→Option Value},P.Nodup→P[i]? =some x→vs[i]? =some v→kindOf x=some .local→
    bindL kindOf (P.zip vs) m x=some v
  | [],_,_,_,_,h,_,_=>by simp at h
  | _::_,[],_,_,_,_,h,_=>by simp at h
  | p::P,w::vs,0,m,nd,h1,h2,hk=>by
    simp at h1 h2;subst h1;subst h2
    show bindL kindOf ((p,w)::P.zip vs) m p=_
    unfold bindL
    rw [kX fun v hv=>(List.nodup_cons.mp nd).1 (List.of_mem_zip hv).1,if_pos hk]
    simp
  | p::P,w::vs,i+1,m,nd,h1,h2,hk=>by
    show bindL kindOf ((p,w)::P.zip vs) m x=_
    unfold bindL
    exact kZ (i:=i) (List.nodup_cons.mp nd).2 (by simpa using h1) (by simpa using h2) hk
theorem k_ {kindOf:Str→Option NameKind} {x:Str} {v:Value}:∀{P:List Str} {vs:List Value} {i:Nat} {m:Str→Option Value},P.Nodup→P[i]? =some x→vs[i]? =some v→kindOf x≠some .local→
    bindC kindOf (P.zip vs) m x=some v
  | [],_,_,_,_,h,_,_=>by simp at h
  | _::_,[],_,_,_,_,h,_=>by simp at h
  | p::P,w::vs,0,m,nd,h1,h2,hk=>by
    simp at h1 h2;subst h1;subst h2
    show bindC kindOf ((p,w)::P.zip vs) m p=_
    unfold bindC
    rw [kY fun v hv=>(List.nodup_cons.mp nd).1 (List.of_mem_zip hv).1,if_neg hk]
    simp
  | p::P,w::vs,i+1,m,nd,h1,h2,hk=>by
    show bindC kindOf ((p,w)::P.zip vs) m x=_
    unfold bindC
    exact k_ (i:=i) (List.nodup_cons.mp nd).2 (by simpa using h1) (by simpa using h2) hk
def gg (N:List Str) (vs:List V):St:=vs.map some++List.replicate (N.length - vs.length) none
def kK (CX:tO) (P:Program) (w:World) (K:PySem.W.Frag) (mg:Str→Option Value) (base:Heap) (N:List Str) (qual:Str) (scope:Scope) (f:Addr) (cd:Value) (A:Around) (outer:List Env) (s:Shared) (H:Hp) (E:XK):Cx where
  prog:=P
  w:=w
  K:=K
  mg:=mg
  base:=base
  A:=A.deeper (envOfC qual scope s.heap.objs.size f cd)
  N:=N
  s₀:=s
  H₀:=H
  env:=envOfC qual scope s.heap.objs.size f cd
  outer:=outer
  stack:=envOfC qual scope s.heap.objs.size f cd::outer
  ex:=[]
  calm:=true
  fn:=fun _=>true
  pn:=[]
  xe:=fun e s'=>wpAny (model P w) (A.deeper (envOfC qual scope s.heap.objs.size f cd)) (leaving (envOfC qual scope s.heap.objs.size f cd) e) (fun _ s''=>CX outer H s E e s'') (fun e' s''=>CX outer H s E e' s'') s'
theorem nM {sc:Scope} {n:Nat} {x:Str} (h:sc.names.lookup x=some .cell):∃c,(cellsFrom n sc.names []).lookup x=some c:=by
  have q:=PySem.W.cellsFrom_some sc.names n [] (.inl h)
  exact Option.isSome_iff_exists.mp q
theorem rQ {CX:tO} {P:Program} {w:World} {K:PySem.W.Frag} {mg:Str→Option Value} {base:Heap} {N ps:List Str} {qual:Str} {scope:Scope} {f:Addr} {cd:Value} {A:Around} {outer:List Env} {s s1:Shared} {H:Hp} {E:XK} {us:List Value} {vs:List V}
    (S:FnScope N ps scope) (hd:A.handled=none) (e0:Env0 P w K mg base A outer s H) (hl:vs.length=ps.length) (r:Vals vs us)
    (x:InCallC s s.heap.objs.size (bindL (envOfC qual scope s.heap.objs.size f cd).kindOf (ps.zip us) fun _=>none) (cellsFrom (s.heap.objs.size+1) scope.names []) (bindC (envOfC qual scope s.heap.objs.size f cd).kindOf (ps.zip us) fun _=>none) s1):
    Inv (kK CX P w K mg base N qual scope f cd A outer s H E) [] (gg N vs) H s1:=by
  have hpl:ps.length≤N.length:=by have:=congrArg List.length S.pre;rw [List.length_take] at this;omega
  obtain ⟨h1,tk,rfl,hk⟩:=x.done
  have noA:∀b:Addr,b∉(kK CX P w K mg base N qual scope f cd A outer s H E).ex:=fun b z=>absurd (show b∈([]:List Addr) from z) (by simp)
  refine ⟨⟨e0.mod,S.kind,rfl,rfl,Nat.le_refl _,fun y z c h1 h2=>?_,fun y hy=>?_,fun y c _ h=>?_,fun _=>hd,Around.frames_deeper e0.frames, .inr ⟨rfl,rfl⟩,fun b z=>absurd z (noA b),e0.bs,e0.bsz,fun b _ _=>noA b,fun b z=>absurd z (noA b),e0.funs,e0.frf,e0.tab⟩,
    rfl,e0.bare,Un.kept hk,⟨_,x.toInCall.ns,fun i y v h1 h2 h3=>?_⟩,fun y c h=>⟨_,x.cell y c h⟩,e0.hok.fresh (Nat.le_refl _),fun y c h=>?_,fun p hp=>absurd (show p∈([]:List (Addr×Obj)) from hp) (by simp),e0.hok.kept hk,?_⟩
  · exact name_of_addr x.apart (PySem.mem_of_lookup h1) (PySem.mem_of_lookup h2)
  · have hy:scope.names.lookup y=some .cell∨scope.names.lookup y=some .free:=hy
    rcases hy with hy | hy
    · exact nM hy
    · exact absurd rfl (S.nofree _ (PySem.mem_of_lookup hy))
  · exact Nat.le_of_lt (x.above y c (PySem.mem_of_lookup h))
  · have hi:i < vs.length:=by
      unfold gg at h2
      by_cases hi:i < vs.length
      · exact hi
      · rw [List.getElem?_append_right (by simpa using hi)] at h2
        rw [List.getElem?_replicate] at h2
        split at h2 <;> cases h2
    have ha:vs[i]? =some v:=by
      unfold gg at h2
      rw [List.getElem?_append_left (by simpa using hi),List.getElem?_map] at h2
      cases e:vs[i]? with
      | none=>rw [e] at h2;cases h2
      | some a=>rw [e] at h2;cases h2;rfl
    obtain ⟨u,hu,rv⟩:=r.get ha
    have hp:ps[i]? =some y:=by
      rw [←S.pre,List.getElem?_take_of_lt (by omega)];exact h1
    have ndP:ps.Nodup:=by rw [←S.pre];exact S.nd.sublist (List.take_sublist _ _)
    refine ⟨u,rv,?_⟩
    rcases S.par y (List.mem_of_getElem? hp) with k | k
    · exact .inl ⟨k,kZ ndP hp hu k⟩
    · obtain ⟨c,e⟩:=nM (n:=s.heap.objs.size+1) k
      refine .inr ⟨.inl k,c,e,?_⟩
      have q:=x.cell y c e
      rw [k_ ndP hp hu (by show scope.names.lookup y≠_;rw [k];decide)] at q
      exact q
  · exact e0.hok.fresh (Nat.le_of_lt (x.above y c (PySem.mem_of_lookup h)))
  · unfold gg
    show _=N.length
    rw [List.length_append,List.length_map,List.length_replicate]
    omega
theorem xo {CX:tO} {P:Program} {w:World} {K:PySem.W.Frag} {mg:Str→Option Value} {base:Heap} {k:Nat} {f:Addr} {name qual:Str} {params:Arguments} {body:List Stmt} {scope:Scope} {dV kV doc pm cdv ct oc:Value} {an od:Option Addr}
    {osl:Array (Option Value)} {N ps:List Str} {sp:Sp} (lk:K.lookup f=some ⟨oc,od, .func (PySem.W.fnOf name qual params body scope dV kV doc pm an cdv ct),osl⟩) (hcd:PySem.W.codeIn K cdv qual=true) (S:FnScope N ps scope)
    (len:∀vs H Q E,sp vs H Q E→vs.length=ps.length)
    (hbody:∀(A:Around) (outer:List Env) (s:Shared) (H:Hp) (vs:List V) (Q:VK) (E:XK),Room k (A.deeper (envOfC qual scope s.heap.objs.size f cdv))→sp vs H Q E→
      ∃t,PSs (kK CX P w K mg base N qual scope f cdv A outer s H E) body t∧t {nx:=fun _ H'=>Q .non H',rt:=Q} (gg N vs) H):
    FnOk P w K mg base CX (k+1) f (PySem.W.fnOf name qual params body scope dV kV doc pm an cdv ct) ps sp:=by
  refine ⟨len,fun A outer s H args us vs Q E hr e0 hb r hsp=>?_⟩
  have hl:=len _ _ _ _ hsp
  have KX:K.In s.heap:=e0.mod.kin.keeps fun b o e=>(e0.bs b o e).1
  have lim:s.heap.NoLimit:=e0.mod.nolimit.keeps fun b o e=>(e0.bs b o e).1
  have hkind:∀y∈ps.zip us,scope.names.lookup y.1=some .local∨(scope.names.lookup y.1=some .cell∧((cellsFrom (s.heap.objs.size+1) scope.names []).lookup y.1).isSome=true):=fun ⟨n,v⟩ hy=>by
    rcases S.par n (List.of_mem_zip hy).1 with q | q
    · exact .inl q
    · exact .inr ⟨q,PySem.W.cellsFrom_some _ _ _ (.inl q)⟩
  refine codeAny_call_function hr.depth (KX _ _ lk) rfl S.co S.gen rfl (PySem.W.codeRec_of KX hcd) (hb _ _ _ _ ?_)
  refine wpAny_newFunctionEnv_cells S.kind hkind fun env he s1 x=>?_
  subst he
  refine ⟨lim.keeps x.toInCall.keep,codeAny_func ?_⟩
  obtain ⟨t,ht,hq⟩:=hbody A outer s H vs Q E (hr.deeper _) hsp
  have I:Inv (kK CX P w K mg base N qual scope f cdv A outer s H E) [] (gg N vs) H s1:=rQ S hr.hd e0 hl r x
  refine wpAny_mono (ht [] s1 (gg N vs) H _ I hq) (fun fl s' hs=>?_) fun e s' hs=>hs
  have fin:∀{σ':St} {H':Hp} {v:V} {u:Value},Inv (kK CX P w K mg base N qual scope f cdv A outer s H E) [] σ' H' s'→RelV v u→Q v H'→CE outer P w H s Q u s':=
    fun {σ' H' v u} J rv q=>⟨v,H',J.os,J.bare,J.base,J.hok,rv,q⟩
  cases fl with
  | ret u=>
    obtain ⟨v,σ',H',J,rv,q⟩:=hs
    exact fin J rv q
  | next=>
    obtain ⟨σ',H',J,q⟩:=hs
    exact fin (v:=V.non) (u:=Value.none) J rfl q
  | brk=>
    obtain ⟨_,_,_,q⟩:=hs
    exact False.elim q
  | cont=>
    obtain ⟨_,_,_,q⟩:=hs
    exact False.elim q
end L2
namespace L2
open PySem PySem.Spec PyProof.Rows
section
variable {X:Cx} {x:Str} {p pos:Pos} {e:Expr} {es:List Expr} {t:TA} {id T:String} {r:List V→Hp→VK→Prop}
def Bj (r:List V→Hp→VK→Prop) (t:TA):TE:=fun σ H Q=>t σ H fun vs H1=>r vs H1 Q
theorem iB (hc:CallR X (.builtin id) r) (hg:Gl X x) (hm:X.mg x=none) (hv:bootBuiltins x=some (.builtin id)) (ha:PA X (e::es) t) (hn:x≠"__name__":=by decide) (hdb:(x == ("__debug__":Str))=false:=by decide)
    (he:starEach (e::es) X.env=(false,eval e X.env)::starEach es X.env:=by rfl) (hpl:(backTo pos (starEach es X.env)).any (·.1)=false:=by rfl):PE X (.Call (.Name x p) (e::es) [] pos) (Bj r t):=by
  intro pins s σ H Q I h
  refine wpAny_Call_Name_kw (g9 I hg hm hv ?_ hn hdb)
  exact PyProof.Rows.callWith_builtin1 (cZ (ha pos pins s σ H _ I h) fun us s1 ⟨vs,H1,I1,r1,q1⟩=>hc pins s1 σ H1 vs us Q I1 r1 q1) he hpl
theorem la (hc:CallR X (.type T) r) (hg:Gl X x) (hm:X.mg x=none) (hv:bootBuiltins x=some (.type T)) (ha:PA X (e::es) t) (hn:x≠"__name__":=by decide) (hdb:(x == ("__debug__":Str))=false:=by decide)
    (he:starEach (e::es) X.env=(false,eval e X.env)::starEach es X.env:=by rfl) (hpl:(backTo pos (starEach es X.env)).any (·.1)=false:=by rfl):PE X (.Call (.Name x p) (e::es) [] pos) (Bj r t):=by
  intro pins s σ H Q I h
  refine wpAny_Call_Name_kw (g9 I hg hm hv ?_ hn hdb)
  exact PyProof.Rows.callWith_type1 (cZ (ha pos pins s σ H _ I h) fun us s1 ⟨vs,H1,I1,r1,q1⟩=>hc pins s1 σ H1 vs us Q I1 r1 q1) he hpl
end
end L2
namespace HT
open PySem PyProof.Rows
section
open PySem.SeqAt
open PySem.AutoSeq1 (wpAny_loadPart')
open PySem.MeetsSeq PySem.MeetsSeq2 PySem.MeetsSeq3
end
section
variable {prog:Program} {w:World} {A:Around} {E:Value→Shared→Prop} {s:Shared}
def jG (n d:Nat):Option Int→Nat
  | none=>d
  | some v=>if v < 0 then (v+(n:Int)).toNat else min v.toNat n
theorem nN (n d:Nat):jG n d none=d:=rfl
theorem qB (n d k:Nat):jG n d (some (k:Int))=min k n:=by
  show (if (k:Int) < 0 then ((k:Int)+(n:Int)).toNat else min (k:Int).toNat n)=min k n
  rw [if_neg (by omega),Int.toNat_natCast]
end
end HT
namespace L2
open PySem PySem.Spec PyProof.Rows
abbrev TO:=St→Hp→(Option Int→Hp→Prop)→Prop
def PO (X:Cx) (e:Option Expr) (t:TO):Prop:=
  ∀(pins:List (Addr×Obj)) (s:Shared) (σ:St) (H:Hp) (Q:Option Int→Hp→Prop),Inv X pins σ H s→t σ H Q→
    wpAny (model X.prog X.w) X.A (evalPart e X.env) (fun u s'=>∃o H',Inv X pins σ H' s'∧IsPart u o∧Q o H') X.xe s
def vW:TO:=fun _ H Q=>Q none H
def z_ (t:TE):TO:=fun σ H Q=>t σ H fun x H1=>∃i,x= .int i∧Q (some i) H1
section
variable {X:Cx} {e:Expr} {te:TE} {lo hi:Option Expr} {tl th:TO} {pos p2:Pos}
theorem vX:PO X none vW:=by
  intro pins s σ H Q I h
  rw [evalPart_none]
  exact wpAny_pure ⟨none,H,I, .none,h⟩
theorem vY (h:PE X e te):PO X (some e) (z_ te):=by
  intro pins s σ H Q I hw
  rw [evalPart_some]
  refine cZ (h pins s σ H _ I hw) fun u s1 ⟨x,H1,I1,r1,q1⟩=>?_
  obtain ⟨i,rfl,q⟩:=q1
  obtain ⟨t,rfl⟩:=r1
  exact ⟨some i,H1,I1, .int i t,q⟩
def SlR (X:Cx) (r:V→Option Int→Option Int→Hp→VK→Prop):Prop:=
  ∀(pins:List (Addr×Obj)) (s:Shared) (σ:St) (H:Hp) (x:V) (v vl vu:Value) (lo hi:Option Int) (sl:Addr) (Q:VK),Inv X pins σ H s→RelV x v→s.heap.IsSliceOf sl vl vu .none→IsPart vl lo→IsPart vu hi→r x lo hi H Q→
    ∃T id,typeLookup (.type T) "__getitem__"=pure (some (.builtin id))∧s.TypeIs v T∧wpAny (model X.prog X.w) X.A (getItem v (.ref sl)) (EP X pins σ Q) X.xe s
theorem SlR.or {r r':V→Option Int→Option Int→Hp→VK→Prop} (h:SlR X r) (h':SlR X r'):SlR X (fun x lo hi H Q=>r x lo hi H Q∨r' x lo hi H Q):=by
  intro pins s σ H x v vl vu lo hi sl Q I rx hs pl pu q
  rcases q with q | q
  · exact h pins s σ H x v vl vu lo hi sl Q I rx hs pl pu q
  · exact h' pins s σ H x v vl vu lo hi sl Q I rx hs pl pu q
def BT (r:V→Option Int→Option Int→Hp→VK→Prop) (te:TE) (tl th:TO):TE:=fun σ H Q=>te σ H fun x H1=>tl σ H1 fun l H2=>th σ H2 fun u H3=>r x l u H3 Q
theorem t8 {r:V→Option Int→Option Int→Hp→VK→Prop} (hr:SlR X r) (he:PE X e te) (hl:PO X lo tl) (hu:PO X hi th):PE X (.Subscript e (.Slice lo hi none p2) pos) (BT r te tl th):=by
  intro pins s σ H Q I h
  refine Subscript_ (cZ (he pins s σ H _ I h) fun v s1 ⟨x,H1,I1,r1,q1⟩=>?_)
  refine wpAny_Slice (cZ (hl pins s1 σ H1 _ I1 q1) fun vl s2 ⟨l,H2,I2,pl,q2⟩=>cZ (hu pins s2 σ H2 _ I2 q2) fun vu s3 ⟨u,H3,I3,pu,q3⟩=>?_)
  rw [evalPart_none]
  refine wpAny_pure ?_
  have I4:Inv X pins σ H3 {s3 with heap:=s3.heap.push {cls:= .type "slice",data:= .fields #[vl,vu, .none]}}:=I3.kept (t':=s3.toks) fun b ob q=>Heap.get?_push_of_some _ q
  obtain ⟨T,id,hT,ht,hg⟩:=hr pins {s3 with heap:=s3.heap.push {cls:= .type "slice",data:= .fields #[vl,vu, .none]}} σ H3 x v vl vu l u s3.heap.objs.size Q I4 r1 (Heap.IsSliceOf.new ..) pl pu q3
  show wpAny (model X.prog X.w) X.A (subscriptTail e (.Slice lo hi none p2) v (.ref s3.heap.objs.size)) (EP X pins σ Q) X.xe {s3 with heap:=s3.heap.push {cls:= .type "slice",data:= .fields #[vl,vu, .none]}}
  exact tail_any (ops:=[.ref s3.heap.objs.size,v]) ht hT hg (by with_unfolding_all rfl)
def rR (xs:List V) (lo hi:Option Int):List V:=(xs.drop (HT.jG xs.length 0 lo)).take (HT.jG xs.length xs.length hi - HT.jG xs.length 0 lo)
theorem nO (xs:List V) (lo hi:Option Int):(rR xs lo hi).length≤xs.length:=by
  unfold rR
  rw [List.length_take,List.length_drop]
  omega
end
end L2
namespace L2
open PySem PySem.Spec PyProof.Rows
def Aa (n:Nat) (i:Int):Option Nat:=if 0≤i then (if i < n then some i.toNat else none) else if -(n:Int)≤i then some (i+n).toNat else none
def atI {α:Type} (xs:List α) (i:Int):Option α:=(Aa xs.length i).bind fun j=>xs[j]?
theorem vZ {n:Nat} {i:Int} {j:Nat} (h:Aa n i=some j):seqIndex? i n=some j∧j < n∧ -(n:Int)≤i∧i < n:=by
  unfold Aa at h
  by_cases h0:0≤i
  · rw [if_pos h0] at h
    by_cases h1:i < n
    · rw [if_pos h1] at h
      have e:i.toNat=j:=Option.some.inj h
      exact ⟨by rw [seqIndex_of h0 h1,e],by omega,by omega,h1⟩
    · rw [if_neg h1] at h;cases h
  · rw [if_neg h0] at h
    by_cases h1: -(n:Int)≤i
    · rw [if_pos h1] at h
      have e:(i+n).toNat=j:=Option.some.inj h
      exact ⟨by rw [seqIndex_neg (by omega) h1,e],by omega,h1,by omega⟩
    · rw [if_neg h1] at h;cases h
theorem mf {α:Type} {xs:List α} {i:Int} {v:α} (h:atI xs i=some v):∃j,seqIndex? i xs.length=some j∧xs[j]? =some v∧j < xs.length∧ -(xs.length:Int)≤i∧i < xs.length:=by
  unfold atI at h
  cases e:Aa xs.length i with
  | none=>rw [e] at h;cases h
  | some j=>
    rw [e] at h
    obtain ⟨h1,h2,h3,h4⟩:=vZ e
    exact ⟨j,h1,h,h2,h3,h4⟩
def qC (b:Expr):Prop:=∀o i,subscripted b false o i=operate [o,i] (getItem o i)
def IxR (X:Cx) (r:R2):Prop:=
  ∀(value slice:Expr) (pins:List (Addr×Obj)) (s:Shared) (σ:St) (H:Hp) (x y:V) (v u:Value) (Q:VK),Inv X pins σ H s→RelV x v→RelV y u→r x y H Q→
    subscripted slice false v u=operate [v,u] (getItem v u)→wpAny (model X.prog X.w) X.A (subscriptTail value slice v u) (EP X pins σ Q) X.xe s
def MtR (X:Cx) (id:String) (r:V→List V→Hp→VK→Prop):Prop:=
  ∀(pins:List (Addr×Obj)) (s:Shared) (σ:St) (H:Hp) (x:V) (xs:List V) (v:Value) (us:List Value) (Q:VK),Inv X pins σ H s→RelV x v→Vals xs us→r x xs H Q→
    wpAny (model X.prog X.w) X.A (call (.builtin id) (v::us)) (EP X pins σ Q) X.xe s
section
variable {X:Cx} {a b:Expr} {ta tb:TE} {pos:Pos}
theorem IxR.or {r r':R2} (h:IxR X r) (h':IxR X r'):IxR X (fun x y H Q=>r x y H Q∨r' x y H Q):=by
  intro value slice pins s σ H x y v u Q I rx ry q hs
  rcases q with q | q
  · exact h value slice pins s σ H x y v u Q I rx ry q hs
  · exact h' value slice pins s σ H x y v u Q I rx ry q hs
theorem MtR.or {id:String} {r r':V→List V→Hp→VK→Prop} (h:MtR X id r) (h':MtR X id r'):MtR X id (fun x xs H Q=>r x xs H Q∨r' x xs H Q):=by
  intro pins s σ H x xs v us Q I rx rs q
  rcases q with q | q
  · exact h pins s σ H x xs v us Q I rx rs q
  · exact h' pins s σ H x xs v us Q I rx rs q
theorem Ab {r:R2} (hr:IxR X r) (ha:PE X a ta) (hb:PE X b tb) (hs:qC b):PE X (.Subscript a b pos) (zR r ta tb):=by
  intro pins s σ H Q I h
  exact Subscript_ (ya ha hb I h fun v u s2 x y H2 I2 rx ry q=>hr a b pins s2 σ H2 x y v u Q I2 rx ry q (hs _ _))
def Ac (K:PySem.W.Frag):R2:=fun x y H Q=>∃p xs i v,x= .ref p∧y= .int i∧SqL K H p xs∧atI xs i=some v∧Q v H
def Ad (K:PySem.W.Frag):R2:=fun x y H Q=>∃p xs i v,x= .ref p∧y= .int i∧SqT K H p xs∧atI xs i=some v∧Q v H
def Ae:R2:=fun x y H Q=>∃z i c,x= .str z∧y= .int i∧z.length≤sizeLine∧atI z.cps.toList i=some c∧Q (.str ⟨#[c]⟩) H
theorem ix_list:IxR X (Ac X.K):=by
  intro value slice pins s σ H x y v u Q I rx ry h hs
  obtain ⟨p,xs,i,z,rfl,rfl,hq,he,q⟩:=h
  cases rx
  obtain ⟨t,rfl⟩:=ry
  obtain ⟨its,r,pl,hz⟩:=I.list hq
  obtain ⟨j,h1,h2,h3,h4,h5⟩:=mf he
  obtain ⟨w,ew,rw'⟩:=r.get h2
  have hl:=r.length
  have hn:=iZ
  have fin:EP X pins σ Q w s:=⟨z,H,I,rw',q⟩
  by_cases h0:0≤i
  · have hj:i.toNat=j:=by
      rw [seqIndex_of h0 h5] at h1
      exact Option.some.inj h1
    exact item_listR pl.isList h0 (by omega) (by rw [hj];simpa using ew) fin hs
  · have hj:(i+(its.toArray.size:Int)).toNat=j:=by
      rw [seqIndex_neg (by omega) h4] at h1
      rw [List.size_toArray,←hl]
      exact Option.some.inj h1
    exact subscriptTail_builtinR (x:=w) pl.isList.typeIs slot_list_getitem.lookup
      (wpAny_getItem_list_neg (Q:=fun r s'=>r=w∧EP X pins σ Q r s') pl.isList (by omega) (by rw [List.size_toArray] <;> omega) (by omega) (by rw [hj];simpa using ew) ⟨rfl,fin⟩) hs
theorem ix_tup:IxR X (Ad X.K):=by
  intro value slice pins s σ H x y v u Q I rx ry h hs
  obtain ⟨p,xs,i,z,rfl,rfl,hq,he,q⟩:=h
  cases rx
  obtain ⟨t,rfl⟩:=ry
  obtain ⟨its,r,pl,hz⟩:=I.tuple hq
  obtain ⟨j,h1,h2,h3,h4,h5⟩:=mf he
  obtain ⟨w,ew,rw'⟩:=r.get h2
  have hl:=r.length
  have hn:=iZ
  have fin:EP X pins σ Q w s:=⟨z,H,I,rw',q⟩
  exact subscriptTail_builtinR (x:=w) pl.typeIs slot_tuple_getitem.lookup
    (getItem_tuple (j:=j) (Q:=fun r s'=>r=w∧EP X pins σ Q r s') pl (by omega) (by omega) (by rw [List.size_toArray,←hl];exact h1) (by simpa using ew) ⟨rfl,fin⟩) hs
theorem yr:IxR X Ae:=by
  intro value slice pins s σ H x y v u Q I rx ry h hs
  obtain ⟨z,i,c,rfl,rfl,hz,he,q⟩:=h
  obtain ⟨t,rfl⟩:=rx
  obtain ⟨t',rfl⟩:=ry
  obtain ⟨j,h1,h2,h3,h4,h5⟩:=mf he
  have hl:z.cps.toList.length=z.length:=by simp [Str.length]
  rw [hl] at h1 h4 h5
  have hn:=iZ
  exact tail_any (typeIs_str s z t) slot_str_getitem.lookup (getItem_str (c:=c) (by
    have e1:decide (i < -(2 ^ 63:Int))=false:=decide_eq_false (by omega)
    have e2:decide (i≥2 ^ 63)=false:=decide_eq_false (by omega)
    rw [e1,e2,Bool.or_false]) (by rw [h1];simpa using h2) ⟨.str ⟨#[c]⟩,H,I.tok _,⟨_,rfl⟩,q⟩) hs
def BJ (K:PySem.W.Frag):R2:=fun x y H Q=>Ac K x y H Q∨Ad K x y H Q∨Ae x y H Q
theorem yt:IxR X (BJ X.K):=ix_list.or (ix_tup.or yr)
theorem Inv.lst {pins:List (Addr×Obj)} {σ:St} {H:Hp} {s:Shared} {p:Addr} {xs:List V} (I:Inv X pins σ H s) (h:H p=some (.lst xs)):
    ∃(its:List Value) (n:Nat),Vals xs its∧s.heap.get? p=some {cls:= .type "list",data:= .seq its.toArray n}∧xs.length≤sizeLine:=by
  obtain ⟨z,its,n,r,e⟩:=I.hok p _ h
  exact ⟨its,n,r,e,z⟩
theorem mh (lo hi:Option Int) (n:Nat):(sliceBounds lo hi none n).1=((HT.jG n 0 lo:Nat):Int)∧(sliceBounds lo hi none n).2.1=((HT.jG n n hi:Nat):Int)∧(sliceBounds lo hi none n).2.2=1:=by
  refine ⟨?_,?_,rfl⟩
  · cases lo with
    | none=>simp [sliceBounds,HT.jG]
    | some i=>
      simp only [sliceBounds,HT.jG,Option.getD_none,show (1:Int) > 0 by decide,if_true]
      by_cases h:i < 0
      · simp only [h,if_true] <;> omega
      · simp only [h,if_false] <;> omega
  · cases hi with
    | none=>simp [sliceBounds,HT.jG]
    | some i=>
      simp only [sliceBounds,HT.jG,Option.getD_none,show (1:Int) > 0 by decide,if_true]
      by_cases h:i < 0
      · simp only [h,if_true] <;> omega
      · simp only [h,if_false] <;> omega
theorem kM (its:List Value) (lo hi:Option Int):slicePick its.toArray lo hi none=((its.drop (HT.jG its.length 0 lo)).take (HT.jG its.length its.length hi - HT.jG its.length 0 lo)).toArray:=by
  obtain ⟨h1,h2,h3⟩:=mh lo hi its.toArray.size
  unfold slicePick
  rw [h1,h2,h3]
  simp only [sliceRange_one,pick_run,List.size_toArray] <;> rfl
def Bk (K:PySem.W.Frag):V→Option Int→Option Int→Hp→VK→Prop:=fun x lo hi H Q=>∃a xs,x= .ref a∧SqL K H a xs∧∀p,H p=none→Q (.ref p) (upd H p (.lst (rR xs lo hi)))
theorem v5:SlR X (Bk X.K):=by
  intro pins s σ H x v vl vu lo hi sl Q I rx hs pl pu h
  obtain ⟨a,xs,rfl,hx,q⟩:=h
  cases rx
  obtain ⟨its,r,ht,hz⟩:=I.list hx
  have hlen:=r.length
  refine ⟨"list",_,slot_list_getitem.lookup,ht.isList.typeIs,?_⟩
  refine wpAny_getItem_list_slice ht.isList hs pl pu .none (by simp) ?_ (by rw [List.size_toArray] <;> omega)
  rw [kM,←hlen]
  refine ⟨.ref s.heap.objs.size,_,I.laid (t':=s.toks) (o:= .lst (rR xs lo hi)) (fun b ob q=>Heap.get?_push_of_some _ q) (Nat.le_refl _) ?_,rfl,q _ (I.hok.fresh (Nat.le_refl _))⟩
  exact ⟨Nat.le_trans (nO xs lo hi) hz,_,0,(r.drop (HT.jG xs.length 0 lo)).take (HT.jG xs.length xs.length hi - HT.jG xs.length 0 lo),Heap.get?_push_size _ rfl⟩
def f_:V→Bool
  | .non=>true
  | .bl _=>true
  | .int _=>true
  | .str _=>true
  | _=>false
def vE:V→V→Bool
  | .non, .non=>true
  | .bl a, .bl b=>a == b
  | .bl a, .int b=>(if a then 1 else 0) == b
  | .int a, .bl b=>a == (if b then 1 else 0)
  | .int a, .int b=>a == b
  | .str a, .str b=>a == b
  | _,_=>false
theorem yu {A:Around} {s:Shared} {y x:V} {u v:Value} (ry:RelV y u) (rx:RelV x v) (fy:f_ y=true) (fx:f_ x=true):SeqAt.EqAt A s u v (vE y x):=by
  cases y with
  | non=>
    cases ry
    cases x with
    | non=>cases rx;exact SeqAt.EqAt.same _
    | bl b=>cases rx;exact SeqAt.EqAt.none_bool b
    | int b=>obtain ⟨t,rfl⟩:=rx;exact SeqAt.EqAt.none_int b t
    | str b=>obtain ⟨t,rfl⟩:=rx;exact SeqAt.EqAt.none_str b t
    | _=>exact absurd (show false=true from fx) Bool.false_ne_true
  | bl a=>
    cases ry
    cases x with
    | non=>cases rx;exact SeqAt.EqAt.bool_none a
    | bl b=>cases rx;exact SeqAt.EqAt.bool_bool a b
    | int b=>obtain ⟨t,rfl⟩:=rx;exact SeqAt.EqAt.bool_int a b t
    | str b=>obtain ⟨t,rfl⟩:=rx;exact SeqAt.EqAt.bool_str a b t
    | _=>exact absurd (show false=true from fx) Bool.false_ne_true
  | int a=>
    obtain ⟨t',rfl⟩:=ry
    cases x with
    | non=>cases rx;exact SeqAt.EqAt.int_none a t'
    | bl b=>cases rx;exact SeqAt.EqAt.int_bool a t' b
    | int b=>obtain ⟨t,rfl⟩:=rx;exact SeqAt.EqAt.int_int a t' b t
    | str b=>obtain ⟨t,rfl⟩:=rx;exact SeqAt.EqAt.int_str a t' b t
    | _=>exact absurd (show false=true from fx) Bool.false_ne_true
  | str a=>
    obtain ⟨t',rfl⟩:=ry
    cases x with
    | non=>cases rx;exact SeqAt.EqAt.str_none a t'
    | bl b=>cases rx;exact SeqAt.EqAt.str_bool a t' b
    | int b=>obtain ⟨t,rfl⟩:=rx;exact SeqAt.EqAt.str_int a t' b t
    | str b=>obtain ⟨t,rfl⟩:=rx;exact SeqAt.EqAt.str_str a t' b t
    | _=>exact absurd (show false=true from fx) Bool.false_ne_true
  | _=>exact absurd (show false=true from fy) Bool.false_ne_true
def pv (x:V) (u:Value):Bool:=match u with
  | .none=>vE .non x
  | .bool b=>vE (.bl b) x
  | .int i _=>vE (.int i) x
  | .str z _=>vE (.str z) x
  | _=>false
theorem t9 {x y:V} {u:Value} (r:RelV y u) (f:f_ y=true):pv x u=vE y x:=by
  cases y with
  | non=>cases r;rfl
  | bl b=>cases r;rfl
  | int i=>obtain ⟨t,rfl⟩:=r;rfl
  | str z=>obtain ⟨t,rfl⟩:=r;rfl
  | _=>exact absurd (show false=true from f) Bool.false_ne_true
theorem iC {x:V}:∀{xs:List V} {us:List Value},Vals xs us→xs.all f_=true→us.any (pv x)=xs.any fun y=>vE y x
  | _,_, .nil,_=>rfl
  | y::xs,u::us, .cons r t,f=>by
    rw [List.all_cons,Bool.and_eq_true] at f
    rw [List.any_cons,List.any_cons,t9 r f.1,iC t f.2]
theorem gh {A:Around} {s:Shared} {x:V} {v:Value} (rx:RelV x v) (fx:f_ x=true):∀{xs:List V} {us:List Value},Vals xs us→xs.all f_=true→∀u∈us,SeqAt.EqAt A s u v (pv x u)
  | _,_, .nil,_=>fun u hu=>by cases hu
  | y::xs,u::us, .cons r t,f=>fun u' hu=>by
    rw [List.all_cons,Bool.and_eq_true] at f
    rcases List.mem_cons.mp hu with rfl | hu
    · rw [t9 r f.1];exact yu r rx f.1 fx
    · exact gh rx fx t f.2 u' hu
def zE (x:V) (xs:List V):Bool:=xs.any fun y=>vE y x
def Bl (K:PySem.W.Frag) (neg:Bool):R2:=fun x y H Q=>∃p xs,y= .ref p∧(SqL K H p xs∨SqT K H p xs)∧f_ x=true∧xs.all f_=true∧Q (.bl (if neg then !zE x xs else zE x xs)) H
theorem rS:OpR X (compareOp .In) (Bl X.K false):=by
  intro pins s σ H x y v u Q I rx ry h
  obtain ⟨p,xs,rfl,hq,fx,fs,q⟩:=h
  cases ry
  rcases hq with hq | hq
  · obtain ⟨its,r,pl,hz⟩:=I.list hq
    refine SeqAt.in_listAt (pv x) pl.isList (fun w hw=>gh rx fx r fs w (by simpa using hw)) ⟨.bl _,H,I,rfl,?_⟩
    rw [show its.toArray.any (pv x)=its.any (pv x) by simp,iC r fs]
    exact q
  · obtain ⟨its,r,pl,hz⟩:=I.tuple hq
    refine SeqAt.in_tupleAt (pv x) pl (fun w hw=>gh rx fx r fs w (by simpa using hw)) ⟨.bl _,H,I,rfl,?_⟩
    rw [show its.toArray.any (pv x)=its.any (pv x) by simp,iC r fs]
    exact q
theorem mi:OpR X (compareOp .NotIn) (Bl X.K true):=by
  intro pins s σ H x y v u Q I rx ry h
  obtain ⟨p,xs,rfl,hq,fx,fs,q⟩:=h
  cases ry
  rcases hq with hq | hq
  · obtain ⟨its,r,pl,hz⟩:=I.list hq
    refine SeqAt.notIn_listAt (pv x) pl.isList (fun w hw=>gh rx fx r fs w (by simpa using hw)) ⟨.bl _,H,I,rfl,?_⟩
    rw [show its.toArray.any (pv x)=its.any (pv x) by simp,iC r fs]
    exact q
  · obtain ⟨its,r,pl,hz⟩:=I.tuple hq
    refine SeqAt.notIn_tupleAt (pv x) pl (fun w hw=>gh rx fx r fs w (by simpa using hw)) ⟨.bl _,H,I,rfl,?_⟩
    rw [show its.toArray.any (pv x)=its.any (pv x) by simp,iC r fs]
    exact q
theorem mj:OpR X (compareOp .NotIn) (fun x y H Q=>∃i j,x= .str i∧y= .str j∧Q (.bl (!(!(Builtin.Str.occurrences j i 0 j.length 1).isEmpty))) H):=by
  intro pins s σ H x y v u Q I rx ry h
  obtain ⟨i,j,rfl,rfl,q⟩:=h
  obtain ⟨t,rfl⟩:=rx
  obtain ⟨t',rfl⟩:=ry
  exact notIn_str ⟨.bl _,H,I,rfl,q⟩
theorem ml:CallR X (.builtin "len") (fun xs H Q=>∃p ys,xs=[.ref p]∧(SqL X.K H p ys∨SqT X.K H p ys)∧Q (.int ys.length) H):=by
  intro pins s σ H xs us Q I r h
  obtain ⟨p,ys,rfl,hq,q⟩:=h
  obtain ⟨u,rfl,rx⟩:=t7 r
  cases rx
  have hn:=iZ
  rcases hq with hq | hq
  · obtain ⟨its,r',pl,hz⟩:=I.list hq
    have hlen:=r'.length
    exact Calls.call_len_list pl.isList (by simp only [List.size_toArray] <;> omega) ⟨.int ys.length,H,I.tok _,⟨s.toks+1,by rw [List.size_toArray,hlen]⟩,q⟩
  · obtain ⟨its,r',pl,hz⟩:=I.tuple hq
    have hlen:=r'.length
    exact len_tuple pl (by simp only [List.size_toArray] <;> omega) ⟨.int ys.length,H,I.tok _,⟨s.toks+1,by rw [List.size_toArray,hlen]⟩,q⟩
theorem mn:CallR X (.builtin "len") (fun xs H Q=>∃z,xs=[.str z]∧z.length≤sizeLine∧Q (.int z.length) H):=by
  intro pins s σ H xs us Q I r h
  obtain ⟨z,rfl,hz,q⟩:=h
  obtain ⟨u,rfl,t,rfl⟩:=t7 r
  have hn:=iZ
  exact len_str (by omega) ⟨.int z.length,H,I.tok _,⟨_,rfl⟩,q⟩
theorem CallR.or {f:Value} {r r':List V→Hp→VK→Prop} (h:CallR X f r) (h':CallR X f r'):CallR X f (fun xs H Q=>r xs H Q∨r' xs H Q):=by
  intro pins s σ H xs us Q I rs q
  rcases q with q | q
  · exact h pins s σ H xs us Q I rs q
  · exact h' pins s σ H xs us Q I rs q
theorem mo:CallR X (.type "list") (fun xs H Q=>∃p ys,xs=[.ref p]∧(SqL X.K H p ys∨SqT X.K H p ys)∧∀l,H l=none→Q (.ref l) (upd H l (.lst ys))):=by
  intro pins s σ H xs us Q I r h
  obtain ⟨p,ys,rfl,hq,q⟩:=h
  obtain ⟨u,rfl,rx⟩:=t7 r
  cases rx
  have fin:∀(its:List Value),Vals ys its→ys.length≤sizeLine→∀(h':Heap) (c':Nat),(∀b o',s.heap.get? b=some o'→h'.get? b=some o')→
      h'.get? s.heap.objs.size=some {cls:= .type "list",dict:=none,data:= .seq its.toArray c',slots:=#[]}→EP X pins σ Q (.ref s.heap.objs.size) {s with heap:=h'}:=fun its r' hz h' c' kp e=>
    ⟨.ref s.heap.objs.size,_,I.laid (t':=s.toks) kp (Nat.le_refl _) (show ObjOk X.prog X.w _ h' _ (.lst ys) from ⟨hz,its,c',r',e⟩),rfl,q _ (I.hok.fresh (Nat.le_refl _))⟩
  rcases hq with hq | hq
  · obtain ⟨its,r',pl,hz⟩:=I.list hq
    have hlen:=r'.length
    obtain ⟨o,ho,hc,n,hd⟩:=pl.isList
    exact call_list_seq p (.inl rfl) ho hc hd (fun h' c' kp e=>fin its r' hz h' c' kp e) (by simp only [List.size_toArray] <;> omega)
  · obtain ⟨its,r',pl,hz⟩:=I.tuple hq
    have hlen:=r'.length
    obtain ⟨o,ho,hc,n,hd⟩:=pl
    exact call_list_seq p (.inr rfl) ho hc hd (fun h' c' kp e=>fin its r' hz h' c' kp e) (by simp only [List.size_toArray] <;> omega)
def BK (K:PySem.W.Frag) (T:String) (x:V) (H:Hp):Prop:=match x with
  | .str _=>T="str"
  | .int _=>T="int"
  | .ref p=>(T="list"∧∃xs,SqL K H p xs)∨(T="tuple"∧∃o,K.lookup p=some o∧o.cls= .type "tuple"∧o.dict=none)∨
      (T="dict"∧((∃kvs,H p=some (.dK kvs))∨∃kvs,H p=some (.dT kvs)))∨(T="set"∧∃S n,H p=some (.set S n))
  | _=>False
theorem yw {pins:List (Addr×Obj)} {σ:St} {H:Hp} {s:Shared} {T:String} {x:V} {v:Value} (I:Inv X pins σ H s) (r:RelV x v) (ty:BK X.K T x H):
    s.TypeIs v T∧∀a,v= .ref a→∃ob,s.heap.get? a=some ob∧ob.dict=none:=by
  cases x with
  | str z=>
    obtain ⟨t,rfl⟩:=r
    cases (show T="str" from ty)
    exact ⟨typeIs_str s z t,fun _ e=>nomatch e⟩
  | int i=>
    obtain ⟨t,rfl⟩:=r
    cases (show T="int" from ty)
    exact ⟨typeIs_int s i t,fun _ e=>nomatch e⟩
  | ref p=>
    cases r
    rcases ty with ⟨rfl,xs,hq⟩ | ⟨rfl,o,hk,hc,hd⟩ | ⟨rfl,hk⟩ | ⟨rfl,S,n,hk⟩
    · obtain ⟨its,_,pl,_⟩:=I.list hq
      refine ⟨pl.isList.typeIs,fun a e=>?_⟩
      cases e
      obtain ⟨o,n,e,c,hd,_⟩:=pl
      exact ⟨o,e,hd⟩
    · refine ⟨⟨o,I.kIn p o hk,hc⟩,fun a e=>?_⟩
      cases e
      exact ⟨o,I.kIn _ o hk,hd⟩
    · have z:∃o,s.heap.get? p=some o∧o.ExactDict:=by
        rcases hk with ⟨kvs,hk⟩ | ⟨kvs,hk⟩
        · obtain ⟨_,_,_,_,o,_,_,e,ex,_⟩:=I.hok p _ hk
          exact ⟨o,e,ex⟩
        · obtain ⟨_,_,_,_,o,_,_,e,ex,_⟩:=I.hok p _ hk
          exact ⟨o,e,ex⟩
      obtain ⟨o,e,ex⟩:=z
      refine ⟨⟨o,e,ex.1⟩,fun a e2=>?_⟩
      cases e2
      exact ⟨o,e,ex.2.1⟩
    · obtain ⟨o,_,_,_,e,ex,_⟩:=I.hok p _ hk
      refine ⟨⟨o,e,ex.1⟩,fun a e2=>?_⟩
      cases e2
      exact ⟨o,e,ex.2.1⟩
  | _=>exact False.elim ty
def BU (K:PySem.W.Frag) (T:String) (r:V→List V→Hp→VK→Prop) (to:TE) (t:TA):TE:=fun σ H Q=>to σ H fun x H1=>BK K T x H1∧t σ H1 fun xs H2=>r x xs H2 Q
variable {o e:Expr} {es:List Expr} {to:TE} {t:TA} {name:Str} {apos cpos:Pos} {T id:String} {r:V→List V→Hp→VK→Prop}
theorem t_ (pa:PlainAttrs T) (slot:Slot T name id) (hty:typeOf (.builtin id)=pure (.type "method_descriptor")) (hm:MtR X id r) (ho:PE X o to) (ha:PA X (e::es) t)
    (hbase:attributeBase o name X.env (eval o X.env)=eval o X.env:=by rfl)
    (hfew:((backTo cpos (starEach (e::es) X.env)).all (fun x=> !x.1)&&(backToKw cpos (keywordEach [] X.env)).all (fun x=>x.1.isSome)
      &&decide ((e::es).length+([]:List Keyword).length+(if ([]:List Keyword).isEmpty then 0 else 1) < 30))=true:=by rfl)
    (hline:(apos.endLine == cpos.line)=true:=by rfl) (hs:starEach (e::es) X.env=(false,eval e X.env)::starEach es X.env:=by rfl) (hplain:(backTo cpos (starEach es X.env)).any (·.1)=false:=by rfl):
    PE X (.Call (.Attribute o name apos) (e::es) [] cpos) (BU X.K T r to t):=by
  intro pins s σ H Q I h
  refine wpAny_Call_method_late hbase hfew hline rfl (cZ (ho pins s σ H _ I h) fun v s1 ⟨x,H1,I1,r1,ty,q1⟩=>?_)
  obtain ⟨h1,h2⟩:=yw I1 r1 ty
  refine ⟨T,id,pa,slot,hty,h1,h2,?_⟩
  have hA:=ha cpos pins s1 σ H1 _ I1 q1
  rw [hs] at hA ⊢
  refine Calls.callWith_builtin (by show (false||(backTo cpos (starEach es X.env)).any (·.1))=false;rw [hplain] <;> rfl) (Calls.evalArgs_plain ?_)
  exact cZ hA fun us s2 ⟨vs,H2,I2,r2,q2⟩=>hm pins s2 σ H2 x vs v us Q I2 r1 r2 q2
end
end L2
namespace L2
open PySem PySem.Spec PyProof.Rows
def BV (X:Cx) (id:String) (r:V→List V→Hp→VK→Prop):Prop:=
  ∀(pins:List (Addr×Obj)) (s:Shared) (σ:St) (H:Hp) (x:V) (xs:List V) (v:Value) (us:List Value) (Q:VK),Inv X pins σ H s→RelV x v→Vals xs us→r x xs H Q→
    wpAny (model X.prog X.w) X.A (call (.builtin id) (v::us)) (EP X pins σ Q) X.xe s
theorem Vals.one {x:V} {us:List Value} (h:Vals [x] us):∃u,us=[u]∧RelV x u:=by
  cases h with
  | cons r t=>cases t;exact ⟨_,rfl,r⟩
theorem Vals.two {x y:V} {us:List Value} (h:Vals [x,y] us):∃u v,us=[u,v]∧RelV x u∧RelV y v:=by
  cases h with
  | cons r t=>
    obtain ⟨v,rfl,q⟩:=Vals.one t
    exact ⟨_,_,rfl,r,q⟩
theorem Vals.zero:∀{us:List Value},Vals [] us→us=[]
  | _, .nil=>rfl
theorem Vals.eraseIdx:∀{xs:List V} {us:List Value} (i:Nat),Vals xs us→Vals (xs.eraseIdx i) (us.eraseIdx i)
  | _,_,_, .nil=> .nil
  | _,_,0, .cons _ t=>t
  | _,_,i+1, .cons r t=> .cons r (Vals.eraseIdx i t)
theorem Vals.reverse {xs:List V} {us:List Value} (h:Vals xs us):Vals xs.reverse us.reverse:=by
  induction h with
  | nil=>exact .nil
  | cons r t ih=>rw [List.reverse_cons,List.reverse_cons];exact Vals.append ih (.cons r .nil)
theorem Vals.rep {xs:List V} {us:List Value} (h:Vals xs us):∀k:Nat,Vals (List.replicate k xs).flatten (List.replicate k us).flatten
  | 0=> .nil
  | k+1=>by
    rw [List.replicate_succ,List.replicate_succ,List.flatten_cons,List.flatten_cons]
    exact Vals.append h (Vals.rep h k)
section
variable {X:Cx} {pins:List (Addr×Obj)} {σ:St} {H:Hp} {s:Shared} {l b:Addr} {xs ys zs:List V}
theorem Inv.lset {its its':List Value} {n:Nat} {f:Array Value→Array Value} {t':Nat} (I:Inv X pins σ H s) (hH:H l=some (.lst xs))
    (e:s.heap.get? l=some {cls:= .type "list",data:= .seq its.toArray n}) (hf:f its.toArray=its'.toArray) (hv:Vals ys its') (hz:ys.length≤sizeLine):
    Inv X pins σ (upd H l (.lst ys)) {s with heap:=s.heap.update l (Obj.mapSeq f),toks:=t'}:=by
  have q:=PySem.IsL.update e f
  rw [hf] at q
  refine I.write (x:=l) (e:=l) (by rw [hH];exact trivial) (.inl rfl) (fun b' u hb hu=>(Heap.get?_update_other s.heap (Obj.mapSeq f) (Ne.symm hb)).trans hu) ⟨_,q⟩ ?_
  exact ⟨hz,its',_,hv,q⟩
theorem Inv.lnew {its:List Value} {t':Nat} (I:Inv X pins σ H s) (hv:Vals ys its) (hz:ys.length≤sizeLine):
    Inv X pins σ (upd H s.heap.objs.size (.lst ys)) {s with heap:=s.heap.push {cls:= .type "list",data:= .seq its.toArray},toks:=t'}:=
  I.laid (fun _ _ q=>Heap.get?_push_of_some _ q) (Nat.le_refl _) ⟨hz,its,0,hv,Heap.get?_push_size _ rfl⟩
theorem Inv.fresh (I:Inv X pins σ H s):H s.heap.objs.size=none:=I.hok.fresh (Nat.le_refl _)
theorem Inv.lstM (I:Inv X pins σ H s) (hH:H l=some (.lst xs)):xs.length≤sizeLine∧∃(its:List Value) (n:Nat),Vals xs its∧xs.length=its.length∧s.heap.get? l=some {cls:= .type "list",data:= .seq its.toArray n}:=by
  obtain ⟨z,its,n,r,e⟩:=I.hok l _ hH
  exact ⟨z,its,n,r,r.length,e⟩
end
section
variable {X:Cx}
def v6:V→List V→Hp→VK→Prop:=fun x vs H Q=>∃l xs y,x= .ref l∧vs=[y]∧H l=some (.lst xs)∧xs.length < sizeLine∧Q .non (upd H l (.lst (xs++[y])))
theorem lg:BV X "list.append" v6:=by
  intro pins s σ H x vs v us Q I rx rv h
  obtain ⟨l,xs,y,rfl,rfl,hH,hz,q⟩:=h
  cases rx
  obtain ⟨u,rfl,ru⟩:=rv.one
  obtain ⟨z,its,n,r,hl,e⟩:=I.lstM hH
  refine call_meets F.slot_list_append ⟨_,e,rfl⟩ F.entry_list_append (F.args_list_append_2 _ _) (PySem.list_append l its.toArray n u (by rw [List.size_toArray];omega)) ⟨e,?_⟩
  refine ⟨.non,_,I.lset (its':=its++[u]) hH e (by simp) (r.append (.cons ru .nil)) ?_,rfl,q⟩
  rw [List.length_append,List.length_singleton]
  omega
theorem v7 {α:Type} (xs:List α) (k:Nat):(List.replicate k xs).flatten.length=k*xs.length:=by
  induction k with
  | zero=>simp
  | succ k ih=>rw [List.replicate_succ,List.flatten_cons,List.length_append,ih,Nat.succ_mul,Nat.add_comm]
end
end L2
namespace Att
open PySem PySem.W PySem.Calls PyProof.Rows
theorem jH {P:Params} {h:Heap}:∀(ns:List Int) (vs:List Value),WellAll P h vs (ns.map WData.int)→IntsAre vs ns:=by
  intro ns
  induction ns with
  | nil=>
    intro vs w
    rw [List.map_nil] at w
    cases w
    exact .nil
  | cons n ns ih=>
    intro vs w
    rw [List.map_cons] at w
    cases w with
    | cons a b=>
      cases a
      exact .cons _ _ (ih _ b)
theorem rT {l:OpenLaw} {n:Nat} (hn:l.most=some n) {P:Params} {h:Heap} {args:List WData} {vals:List Value}
    (hpre:l.row.toRowW.claim.pre args=true) (hwl:WellAll P h vals args):
    ∃a vs ns,vals=[Value.ref a]∧args=[WData.list (ns.map WData.int)]∧h.get? a=some {cls:= .type "list",data:= .seq vs.toArray}∧IntsAre vs ns∧ns.length≤n:=by
  have hsh:WShape.hasAll [] args [.list .int]=true:=(pre_splitW hpre).1
  have hc:l.pre.holds [] {args:=args}=true:=(pre_splitW hpre).2
  obtain ⟨d,r,rfl,h1,h2⟩:=hasAllW_cons hsh
  obtain rfl:=hasAllW_nil h2
  obtain ⟨xs,rfl,h3⟩:=hasW_list h1
  obtain ⟨ns,rfl⟩:=items_int h3
  have hlen:ns.length≤n:=by
    unfold OpenLaw.pre at hc
    have h4:(WTm.not (.lt (.lit (.int (n:Int))) (.len (.arg 0)))).holds [] {args:=[.list (ns.map .int)]}=true:=by
      have h4:=(holds_andW hc).1
      rw [hn] at h4
      exact h4
    have h5:=condW_of h4 (w_not (w_lt w_lit (w_len_list (w_arg rfl))))
    rw [List.length_map] at h5
    refine Nat.le_of_not_lt fun q=>?_
    have q':(n:Int) < ((ns.length:Nat):Int):=by omega
    first
      | (rw [decide_eq_true q'] at h5;exact absurd h5 (by decide))
      | (simp at h5;omega)
  cases hwl with
  | cons w1 w2=>
    cases w2
    cases w1 with
    | list ho hall=>exact ⟨_,_,ns,rfl,rfl,ho,jH ns _ hall,hlen⟩
theorem rV (l:OpenLaw) (args:List WData):l.row.toRowW.claim.post args (.bool true) args=true:=
  postW_of (r:=l.row.toRowW) (X:=(true == true))
    (show WShape.has [] (.bool true) .bool=true by first | rfl | decide | simp [WShape.has,WShape.arms,WShape.armsAll])
    (show (WTm.eq .res (.lit (.bool true))).value [] {args:=args,res:=some (.bool true),after:=args}=some (.bool (true == true)) from w_eq_bool (w_res rfl) w_lit) rfl
theorem nP {l:OpenLaw} {n:Nat} {q:Program} {loose:List Str} {XP:(Str→Option Value)→Heap→Prop} {YP:World→Heap→Prop} {d:DefRec}
    (hn:l.most=some n) (hdf:d.params.defaults=[])
    (call:∀(w:World) (s₀ s₁:Shared) (mg mb:Str→Option Value) (fa:Addr) (o:Obj) (pm cd doc:Value) (a:Addr) (vs:List Value) (ns:List Int),
      Ground q loose [] XP w s₀ mg mb s₁.heap→YP w s₁.heap→
      s₁.heap.get? fa=some o→o.data= .func (docDef d.name d.params d.body d.scope pm cd doc)→s₁.heap.CodeRec cd d.name→mg d.name=some (.ref fa)→
      s₁.heap.get? a=some {cls:= .type "list",data:= .seq vs.toArray}→IntsAre vs ns→ns.length≤n→s₁.gens=#[]→
      codeAny (model l.prog w) callerA (.call (.ref fa) ⟨[.ref a],[]⟩) (fun r s'=>r= .ok (.ret (.bool true))∧OldK s₁.heap s'.heap∧s'.os=s₁.os∧AllBare s'.gens) s₁):
    WalkO q loose XP YP l.row.toRowW d [] (fun f vs=>PySem.call f vs):=by
  intro w s₀ s₁ mg mb G Y fa o pm cd doc dV kV ho hd hcd hD hmg hg args vals as hpre hlay hrd hwl hlo
  obtain rfl:dV= .none:=Dflts.none hD hdf
  obtain rfl:kV= .none:=Dflts.noKw hD
  obtain ⟨a,vs,ns,rfl,rfl,hobj,hints,hlen⟩:=rT hn hpre hwl
  refine enter_call (codeAny_mono (call w s₀ s₁ mg mb fa o pm cd doc a vs ns G Y ho (fd_plain hd) hcd hmg hobj hints hlen hg) fun r s' hq=>?_)
  obtain ⟨rfl,h2,h3,h4⟩:=hq
  exact ⟨.inl ⟨.bool true, .bool true,[],rfl,fun _=>rfl, .bool true,rV l _,fun _=>⟨List.Pairwise.nil,fun _ hm=>(nomatch hm)⟩⟩,h2,h3,h4⟩
end Att
namespace L2
open PySem PySem.Spec PyProof.Rows
theorem gE:∀{vs:List Value} {ns:List Int},IntsAre vs ns→Vals (ns.map V.int) vs
  | _,_, .nil=> .nil
  | _,_, .cons n t h=> .cons ⟨t,rfl⟩ (gE h)
theorem ObjOk.tbl0 {P:Program} {w:World} {H:Hp} {h:Heap} {b:Addr} {q:Str} (e:h.get? b=some (PySem.W.tabObj #[])):ObjOk P w H h b (.tbl q):=⟨#[],e,trivial,fun pos cv z=>by cases z⟩
end L2
namespace L2
open PySem PySem.Spec PyProof.Rows
def aF (s:Stmt):Arguments:=match s with
  | .FunctionDef _ a _ _ _ _ _ _ _ _=>a
  | _=>{posonlyargs:=[],args:=[],vararg:=none,kwonlyargs:=[],kw_defaults:=[],kwarg:=none,defaults:=[]}
def aB (s:Stmt):List Stmt:=match s with
  | .FunctionDef _ _ b _ _ _ _ _ _ _=>b
  | _=>[]
def ag (s:Stmt):Scope:=match s with
  | .FunctionDef _ _ _ _ _ _ sc _ _ _=>sc
  | _=>{kind:= .function,names:=[],isGenerator:=false,isCoroutine:=false}
abbrev rW:tO:=fun _ _ _ _ _ _=>False
abbrev E0:XK:=fun _ _ _=>False
theorem Af {X:Cx}:pq rW X E0:=fun _ _ _ _ _ _ _ h=>h.elim
structure Fun (K:PySem.W.Frag) (x qual:Str) (st:Stmt) (f:Addr) (fd:FuncData):Prop where
  ex:∃(oc:Value) (od:Option Addr) (kV doc pm:Value) (an:Option Addr) (cdv ct:Value) (osl:Array (Option Value)),
    fd=PySem.W.fnOf x qual (aF st) (aB st) (ag st) .none kV doc pm an cdv ct∧K.lookup f=some ⟨oc,od, .func fd,osl⟩∧PySem.W.codeIn K cdv qual=true
  kp:PySem.W.keepIn K (.ref f)=true
section
variable {P:Program} {w:World} {K:PySem.W.Frag} {mg:Str→Option Value} {base:Heap}
theorem Fun.ok {x qual:Str} {st:Stmt} {f:Addr} {fd:FuncData} {N ps:List Str} {k:Nat} {sp:Sp} (F:Fun K x qual st f fd) (S:FnScope N ps (ag st)) (len:∀vs H Q E,sp vs H Q E→vs.length=ps.length)
    (hbody:∀(cdv:Value) (A:Around) (outer:List Env) (s:Shared) (H:Hp) (vs:List V) (Q:VK) (E:XK),Room k (A.deeper (envOfC qual (ag st) s.heap.objs.size f cdv))→sp vs H Q E→
      ∃t,PSs (kK rW P w K mg base N qual (ag st) f cdv A outer s H E).nox (aB st) t∧t {nx:=fun _ H'=>Q .non H',rt:=Q} (gg N vs) H):FnOk P w K mg base rW (k+1) f fd ps sp:=by
  obtain ⟨oc,od,kV,doc,pm,an,cdv,ct,osl,rfl,lk,hcd⟩:=F.ex
  refine xo lk hcd S len fun A outer s H vs Q E hr hsp=>?_
  obtain ⟨t,h,q⟩:=hbody cdv A outer s H vs Q E hr hsp
  exact ⟨t,h.nox,q⟩
theorem Fun.binds {x qual:Str} {st:Stmt} {f:Addr} {fd:FuncData} {ps:List Str} (F:Fun K x qual st f fd)
    (h:∀(kV doc pm:Value) (an:Option Addr) (cdv ct:Value) (us:List Value),us.length=ps.length→bindArgs (PySem.W.fnOf x qual (aF st) (aB st) (ag st) .none kV doc pm an cdv ct) ⟨us,[]⟩=pure (ps.zip us)):Binds K fd ps []:=by
  obtain ⟨oc,od,kV,doc,pm,an,cdv,ct,osl,rfl,lk,hcd⟩:=F.ex
  exact .all (h kV doc pm an cdv ct)
theorem pA {x qual:Str} {st:Stmt} {f:Addr} {oc:Value} {od an:Option Addr} {osl:Array (Option Value)} {kV doc pm cdv ct:Value} (l:K.lookup f=some ⟨oc,od, .func (PySem.W.fnOf x qual (aF st) (aB st) (ag st) .none kV doc pm an cdv ct),osl⟩)
    (c:PySem.W.codeIn K cdv qual=true) (k:PySem.W.keepIn K (.ref f)=true):Fun K x qual st f (PySem.W.fnOf x qual (aF st) (aB st) (ag st) .none kV doc pm an cdv ct):=⟨⟨oc,od,kV,doc,pm,an,cdv,ct,osl,rfl,l,c⟩,k⟩
end
def Same (H H':Hp):Prop:=∀b o,H b=some o→H' b=some o
theorem Same.refl (H:Hp):Same H H:=fun _ _ h=>h
theorem Same.trans {H H1 H2:Hp} (a:Same H H1) (b:Same H1 H2):Same H H2:=fun c o h=>b c o (a c o h)
theorem Same.free {H H':Hp} (e:Same H H') {l:Addr} (h:H' l=Option.none):H l=Option.none:=by
  cases q:H l with
  | none=>rfl
  | some o=>
    rw [e l o q] at h
    cases h
theorem Same.seq {K:PySem.W.Frag} {H H':Hp} {a:Addr} {xs:List V} (e:Same H H') (h:SqL K H a xs):SqL K H' a xs:=by
  rcases h with (h | ⟨o,h⟩) | h
  · exact .inl (.inl (e _ _ h))
  · exact .inl (.inr ⟨o,e _ _ h⟩)
  · exact .inr h
end L2
namespace NH
section
variable {α:Type} [DecidableEq α]
def stp (r:List (α×Int)) (p:α×Int):List (α×Int):=
  match r with
  | []=>if p.2=0 then [] else [p]
  | q::r'=>if q.1=p.1 then (if q.2+p.2=0 then r' else (p.1,q.2+p.2)::r') else (if p.2=0 then q::r' else p::q::r')
def stk (c:List (α×Int)):List (α×Int):=c.foldl stp []
def short (c:List (α×Int)):List (α×Int):=(stk c).reverse
def Red:List (α×Int)→Prop
  | []=>True
  | [p]=>p.2≠0
  | p::q::r=>p.2≠0∧p.1≠q.1∧Red (q::r)
theorem Red.cons {p:α×Int} {r:List (α×Int)} (h0:p.2≠0) (h1:∀q∈r.head?,p.1≠q.1) (h:Red r):Red (p::r):=by
  cases r with
  | nil=>exact h0
  | cons q r=>exact ⟨h0,h1 q rfl,h⟩
theorem Red.next {p:α×Int} {r:List (α×Int)} (h:Red (p::r)):∀q∈r.head?,p.1≠q.1:=by
  cases r with
  | nil=>intro q hq;cases hq
  | cons q r=>intro q' hq;cases hq;exact h.2.1
def sn (w:List (α×Int)) (p:α×Int):List (α×Int):=(stp w.reverse p).reverse
def xp (p x:α×Int):List (α×Int):=if x.1=p.1 then (if x.2+p.2=0 then [] else [(p.1,x.2+p.2)]) else (if p.2=0 then [x] else [p,x])
theorem iD (p x:α×Int) (r:List (α×Int)):stp (x::r) p=xp p x++r:=by
  show (if x.1=p.1 then (if x.2+p.2=0 then r else (p.1,x.2+p.2)::r) else (if p.2=0 then x::r else p::x::r))=xp p x++r
  unfold xp
  by_cases e:x.1=p.1
  · rw [if_pos e,if_pos e];split <;> rfl
  · rw [if_neg e,if_neg e];split <;> rfl
def Bm (x p:α×Int):List (α×Int):=(xp p x).reverse
theorem qD (p x:α×Int) (r:List (α×Int)):sn (r++[x]) p=r++Bm x p:=by
  unfold sn Bm
  rw [List.reverse_append,List.reverse_singleton,List.singleton_append,iD,List.reverse_append,List.reverse_reverse]
theorem Ag (p q:α×Int) (x:α×Int) (hx:x.2≠0):stp (sn [x] q) p=sn (stp [x] p) q:=by
  obtain ⟨n,a⟩:=p
  obtain ⟨k,b⟩:=q
  obtain ⟨m,u⟩:=x
  simp at hx
  by_cases e1:m=n
  · subst e1
    by_cases e2:m=k
    · subst e2
      by_cases z1:u+a=0 <;> by_cases z2:u+b=0
      · simp [stp,sn,z1,z2]
        have:a=b:=by omega
        have ha:a≠0:=by omega
        have hb:b≠0:=by omega
        simp [ha,hb,this]
      · have hb:u+b+a=b:=by omega
        by_cases b0:b=0
        · subst b0;simp [stp,sn,z1,hx]
        · simp [stp,sn,z1,z2,hb,b0]
      · have hb:u+a+b=a:=by omega
        by_cases a0:a=0
        · subst a0;simp [stp,sn,z2,hx]
        · simp [stp,sn,z1,z2,hb,a0]
      · have hb:u+b+a=u+a+b:=by omega
        by_cases z3:u+a+b=0
        · simp [stp,sn,z1,z2,hb,z3]
        · simp [stp,sn,z1,z2,hb,z3]
    · by_cases z1:u+a=0 <;> by_cases z2:b=0 <;> simp [stp,sn,e2,z1,z2]
  · by_cases e2:m=k
    · subst e2
      by_cases z1:u+b=0 <;> by_cases z2:a=0 <;> simp [stp,sn,e1,z1,z2]
    · by_cases z1:a=0 <;> by_cases z2:b=0 <;> simp [stp,sn,e1,e2,z1,z2]
theorem Ah (p q:α×Int):stp (sn [] q) p=sn (stp [] p) q:=by
  obtain ⟨n,a⟩:=p
  obtain ⟨k,b⟩:=q
  by_cases z1:a=0 <;> by_cases z2:b=0
  · simp [stp,sn,z1,z2]
  · by_cases e:k=n <;> simp [stp,sn,z1,z2,e]
  · by_cases e:n=k <;> simp [stp,sn,z1,z2,e]
  · by_cases e:k=n
    · subst e
      by_cases z:a+b=0
      · have z':b+a=0:=by omega
        simp [stp,sn,z1,z2,z,z']
      · have z':¬b+a=0:=by omega
        simp [stp,sn,z1,z2,z,z']
        omega
    · have e':¬n=k:=fun t=>e t.symm
      simp [stp,sn,z1,z2,e,e']
theorem comm (p q:α×Int) {w:List (α×Int)} (h:Red w):stp (sn w q) p=sn (stp w p) q:=by
  cases w with
  | nil=>exact Ah p q
  | cons x r=>
    rcases List.eq_nil_or_concat r with rfl | ⟨m,y,e⟩
    · exact Ag p q x h
    · have e':r=m++[y]:=by rw [e] <;> simp
      subst e'
      have e1:x::(m++[y])=(x::m)++[y]:=rfl
      have e2:sn (x::(m++[y])) q=x::(m++Bm y q):=by rw [e1,qD];rfl
      rw [e2,iD,iD,←List.append_assoc,←List.append_assoc,qD]
end
end NH
namespace L2
open PySem PySem.Spec PyProof.Rows
theorem ft {H:Hp} {p:Addr} (h:H p=none) (o:HO):Same H (upd H p o):=fun b u q=>by rw [aH (aY q h)];exact q
theorem Same.tup {K:PySem.W.Frag} {H H':Hp} {a:Addr} {xs:List V} (e:Same H H') (h:SqT K H a xs):SqT K H' a xs:=by
  rcases h with (h | ⟨o,h⟩) | h
  · exact .inl (.inl (e _ _ h))
  · exact .inl (.inr ⟨o,e _ _ h⟩)
  · exact .inr h
def SameBut (l:Addr) (H H':Hp):Prop:=∀b o,b≠l→H b=some o→H' b=some o
theorem SameBut.upd {H:Hp} {l:Addr} (o:HO):SameBut l H (upd H l o):=fun b u hb q=>by rw [aH hb];exact q
theorem SameBut.trans {H H1 H2:Hp} {l:Addr} (a:SameBut l H H1) (b:SameBut l H1 H2):SameBut l H H2:=fun c o hc q=>b c o hc (a c o hc q)
theorem SameBut.same {H H':Hp} {l:Addr} (a:SameBut l H H') (h:H l=none):Same H H':=fun b o q=>a b o (aY q h) q
theorem SameBut.tup {K:PySem.W.Frag} {H H':Hp} {l a:Addr} {xs ys:List V} (e:SameBut l H H') (hl:H l=some (.lst ys)) (h:SqT K H a xs):SqT K H' a xs:=by
  rcases h with (h | ⟨o,h⟩) | h
  · exact .inl (.inl (e _ _ (xj h hl (by intro z;cases z)) h))
  · exact .inl (.inr ⟨o,e _ _ (xj h hl (by intro z;cases z)) h⟩)
  · exact .inr h
mutual
inductive DOf (K:PySem.W.Frag) (H:Hp):V→PyData→Prop
  | non:DOf K H .non .none
  | bl (b:Bool):DOf K H (.bl b) (.bool b)
  | int (i:Int):DOf K H (.int i) (.int i)
  | str (x:Str):DOf K H (.str x) (.str x)
  | lst {a:Addr} {xs:List V} {ds:List PyData}:SqL K H a xs→DAll K H xs ds→DOf K H (.ref a) (.list ds)
  | tup {a:Addr} {xs:List V} {ds:List PyData}:SqT K H a xs→DAll K H xs ds→DOf K H (.ref a) (.tuple ds)
inductive DAll (K:PySem.W.Frag) (H:Hp):List V→List PyData→Prop
  | nil:DAll K H [] []
  | cons {x:V} {xs:List V} {d:PyData} {ds:List PyData}:DOf K H x d→DAll K H xs ds→DAll K H (x::xs) (d::ds)
end
section
variable {X:Cx} {pins:List (Addr×Obj)} {σ:St} {H:Hp} {s:Shared}
theorem DOf.reads (I:Inv X pins σ H s) {x:V} {d:PyData} {u:Value} (h:DOf X.K H x d) (r:RelV x u):∃as,Reads s.heap u d as:=DOf.rec (motive_1:=fun x d _=>∀{u:Value},RelV x u→∃as,Reads s.heap u d as) (motive_2:=fun xs ds _=>∀{us:List Value},Vals xs us→∃as,ReadsAll s.heap us ds as)
    (fun r=>by cases r;exact ⟨_,Reads.none⟩) (fun b _ r=>by cases r;exact ⟨_,Reads.bool b⟩) (fun i _ r=>by obtain ⟨t,rfl⟩:=r;exact ⟨_,Reads.int i t⟩) (fun x _ r=>by obtain ⟨t,rfl⟩:=r;exact ⟨_,Reads.str x t⟩)
    (fun hq _ ih _ r=>by
      cases r
      obtain ⟨its,rv,⟨o,n,e,c,_,d⟩,_⟩:=I.list hq
      obtain ⟨as,q⟩:=ih rv
      exact ⟨_,reads_list_at e c d (by simpa using q)⟩)
    (fun hq _ ih _ r=>by
      cases r
      obtain ⟨its,rv,⟨o,e,c,n,d⟩,_⟩:=I.tuple hq
      obtain ⟨as,q⟩:=ih rv
      exact ⟨_,reads_tuple_at e c d (by simpa using q)⟩)
    (fun r=>by cases r;exact ⟨_,ReadsAll.nil⟩)
    (fun _ _ a b _ r=>by
      cases r with
      | cons r rt=>
        obtain ⟨as,q⟩:=a r
        obtain ⟨bs,p⟩:=b rt
        exact ⟨_,ReadsAll.cons q p⟩) h r
end
def Ai (K:PySem.W.Frag):R2:=fun x y H Q=>∃d e,DOf K H x d∧DOf K H y e∧SeqAt.shaped d=true∧SeqAt.shaped e=true∧Q (.bl (PyData.eqv d e)) H
def Aj (K:PySem.W.Frag):R2:=fun x y H Q=>∃d e,DOf K H x d∧DOf K H y e∧SeqAt.shaped d=true∧SeqAt.shaped e=true∧Q (.bl (!PyData.eqv d e)) H
theorem ua {X:Cx} (hu:X.A.units+64 < cLine):OpR X (compareOp .Eq) (Ai X.K):=by
  intro pins s σ H x y v u Q I rx ry h
  obtain ⟨d,e,hd,he,s1,s2,q⟩:=h
  obtain ⟨as,ra⟩:=hd.reads I rx
  obtain ⟨bs,rb⟩:=he.reads I ry
  exact eq_dataH ra rb s1 s2 hu ⟨.bl _,H,I,rfl,q⟩
theorem yx {X:Cx} (hu:X.A.units+64 < cLine):OpR X (compareOp .NotEq) (Aj X.K):=by
  intro pins s σ H x y v u Q I rx ry h
  obtain ⟨d,e,hd,he,s1,s2,q⟩:=h
  obtain ⟨as,ra⟩:=hd.reads I rx
  obtain ⟨bs,rb⟩:=he.reads I ry
  exact ne_dataH ra rb s1 s2 hu ⟨.bl _,H,I,rfl,q⟩
end L2
namespace L2
open PySem PySem.Spec PyProof.Rows
section
variable {prog:Program} {w:World} {A:Around} {R:Result→Shared→Prop} {s:Shared}
theorem mq {elt target iter:Expr} {ifs:List Expr} {scope:Scope} {pos:Pos} {it acc:Value} {env:Env} (I:Nat→Shared→Prop)
    (turn:∀n s,I n s→wpAny (model prog w) A (pyNext it) (fun r s₁=>match r with
      | none=>R (.ok .next) s₁
      | some v=>wpAny (model prog w) A (letOwnedTupleGo target it v) (fun _ s₁'=>wpAny (model prog w) A (assign target env v) (fun _ s₂=>
          wpAny (model prog w) A (forIn ifs true fun c r=>if r=true then do let ok ←isTrue c env (eval c env);pure (ForInStep.yield ok) else pure (ForInStep.yield r)) (fun ok s₃=>
            if ok=true then wpAny (model prog w) A (eval elt env) (fun x s₄=>
              wpAny (model prog w) A (call (.builtin "list.append") [acc,x]) (fun _ s₅=>∃m,m < n∧I m s₅) (fun _ _=>False) s₄) (fun _ _=>False) s₃
            else ∃m,m < n∧I m s₃) (fun _ _=>False) s₂) (fun _ _=>False) s₁') (fun _ _=>False) s₁) (fun _ _=>False) s)
    (n:Nat) (h:I n s):
    codeAny (model prog w) A (.compLoop (.ListComp elt [⟨target,iter,ifs,0⟩] scope pos) 0 it acc env) R s:=by
  refine codeAny_loop rfl I (fun n s hI=>?_) n h
  show wpAny _ A ((compTurn (.ListComp elt [⟨target,iter,ifs,0⟩] scope pos) 0 it acc env).onRaise (fun x=>do noteFrame x env;theTreesLotGoes x)) _ _ s
  refine wpAny_noted ?_
  rw [compTurn_list]
  refine wpAny_bind (wpAny_standAt (wpAny_bind (wpAny_mono (turn n s hI) (fun r s₁ h₁=>?_) fun _ _ h'=>h'.elim)))
  cases r with
  | none=>exact wpAny_pure h₁
  | some v=>
    refine wpAny_bind (wpAny_mono h₁ (fun _ s₁' h₁'=>?_) fun _ _ h'=>h'.elim)
    refine wpAny_bind (wpAny_mono h₁' (fun _ s₂ h₂=>wpAny_bind (wpAny_mono h₂ (fun ok s₃ h₃=>?_) fun _ _ h'=>h'.elim)) fun _ _ h'=>h'.elim)
    cases ok with
    | false=>exact wpAny_pure ⟨rfl,h₃⟩
    | true=>
      exact wpAny_bind (wpAny_bind (wpAny_mono h₃ (fun x s₄ h₄=>wpAny_bind (wpAny_mono h₄ (fun _ s₅ h₅=>wpAny_pure (wpAny_pure ⟨rfl,h₅⟩)) fun _ _ h'=>h'.elim)) fun _ _ h'=>h'.elim))
end
def Cx.comp (X:Cx) (sc:Scope) (cl:List (Str×Addr)) (N:List Str) (C:Addr) (s₀:Shared) (H₀:Hp) (fp:List Addr):Cx:=
  ⟨X.prog,X.w,X.K,X.mg,X.base,X.A,N,s₀,H₀,⟨sc,C,X.env.globals,cl,X.env.qual,none,X.env.code,X.env.frame,X.env.builtins⟩,X.stack,X.stack,fp,fun _=>false,X.calm,[],fun _ _=>False⟩
def Ak (X:Cx) (ifs:List Expr) (t:TT):Prop:=
  ∀(pins:List (Addr×Obj)) (s:Shared) (σ:St) (H:Hp) (Q:Bool→Hp→Prop),Inv X pins σ H s→t σ H Q→
    wpAny (model X.prog X.w) X.A (forIn ifs true fun c r=>if r=true then do let ok ←isTrue c X.env (eval c X.env);pure (ForInStep.yield ok) else pure (ForInStep.yield r)) (TP X pins σ Q) X.xe s
def Bo:TT:=fun _ H Q=>Q true H
theorem qE {X:Cx}:Ak X [] Bo:=fun _ _ _ H _ I h=>wpAny_tests_nil ⟨H,I,h⟩
theorem qF {X:Cx} {c:Expr} {t:TT} (h:PT X c t):Ak X [c] t:=fun pins s σ H Q I q=>wpAny_tests_one (h pins s σ H Q I q)
def slots (js:List (Option Nat)) (σ:St):St:=js.map fun j=>j.bind fun j=>(σ[j]?).join
def nQ (js:List (Option Nat)) (wi:TI) (g:TG) (tt:TT) (te:TE):TE:=fun σ H Q=>wi σ H fun J H1=>∀l,H1 l=none→∃W:Nat→Nat→St→Hp→Prop,(∃m,W 0 m (slots js σ) (upd H1 l (.lst [])))∧
  ∀i m σ' H',W i m σ' H'→(J.stop i H'∧Q (.ref l) H')∨(J.go i H'∧∃N:St→Hp→Prop,(∀σ' H',N σ' H'→∃m',m' < m∧W (i+1) m' σ' H')∧∀x H2,J.yld i H' x H2→g x σ' H2 fun σ3 H3=>tt σ3 H3 fun b H4=>
    if b=true then te σ3 H4 fun y H5=>∃ys,H5 l=some (.lst ys)∧ys.length < sizeLine∧N σ3 (upd H5 l (.lst (ys++[y]))) else N σ3 H4)
section
variable {X:Cx} {elt target iter:Expr} {ifs:List Expr} {scope sc:Scope} {cl:List (Str×Addr)} {N:List Str} {pos:Pos} {wi:TI} {g:TG} {tt:TT} {te:TE} {js:List (Option Nat)}
structure CompOk (X:Cx) (scope sc:Scope) (cl:List (Str×Addr)) (N:List Str) (js:List (Option Nat)):Prop where
  clos:closureFor scope X.env=pure cl
  rel:relabel scope X.env=sc
  nocell:∀y∈scope.names,y.2≠ .cell
  kind:scope.kind= .function
  names:∀y∈scope.names,y.2= .local→scope.names.lookup y.1=some .local
  same:∀x c,cl.lookup x=some c→X.env.cells.lookup x=some c
  has:∀x,(sc.names.lookup x=some .cell∨sc.names.lookup x=some .free)→∃c,cl.lookup x=some c
  len:js.length=N.length
  from_:∀(i j:Nat),js[i]? =some (some j)→∃x,N[i]? =some x∧X.N[j]? =some x∧(sc.names.lookup x=some .cell∨sc.names.lookup x=some .free)∧(X.env.kindOf x=some .cell∨X.env.kindOf x=some .free)
theorem nR {use:Option (Value→Sem Unit)} {Qv:Value→Shared→Prop} (K:CompOk X scope sc cl N js) (hc:X.calm=true) (hi:PI X target iter wi)
    (hgg:∀C s₀ H₀ fp,PG (X.comp sc cl N C s₀ H₀ fp) target g) (htt:∀C s₀ H₀ fp,Ak (X.comp sc cl N C s₀ H₀ fp) ifs tt) (hee:∀C s₀ H₀ fp,PE (X.comp sc cl N C s₀ H₀ fp) elt te)
    (hs:∀x,foldedSetIterable iter X.env x=pure x) (pins:List (Addr×Obj)) (s:Shared) (σ:St) (H:Hp) (Q:VK) (I:Inv X pins σ H s) (h:nQ js wi g tt te σ H Q)
    (hend:∀(D C:Addr) (H4:Hp) (s5:Shared) (m:Str→Option Value),Inv X pins σ H4 s5→s5.heap.Ns C m→H4 C=none→C≠X.env.locals→C∉X.fs→X.s₀.heap.objs.size≤C→(∀x c,X.env.cells.lookup x=some c→c≠C)→(∀p∈X.pn++pins,p.1≠C)→Q (.ref D) H4→
      compPost (model X.prog X.w) X.A X.xe use Qv (.ref D) C (.ok .next) s5):
    wpAny (model X.prog X.w) X.A (comprehension (.ListComp elt [⟨target,iter,ifs,0⟩] scope pos) scope X.env (firstIterPos [⟨target,iter,ifs,0⟩] pos) (newList []) false (firstIter [⟨target,iter,ifs,0⟩] X.env) use) Qv X.xe s:=by
  refine wpAny_comprehension_free (use:=use) rfl hs K.clos K.kind K.names (cZ (hi pins s σ H _ I h) fun v s1 h1=>cZ h1 fun itv s2 h2=>?_)
  obtain ⟨it,fp,tn,J,H2,e,I2,T,st2,f2,R⟩:=h2
  subst e
  refine wpAny_newObj_type (wpAny_newFunctionEnv K.nocell (by intro y hy;simp at hy) (fun h₁ hns₁ hsb₁=>?_) K.kind)
  dsimp only at hns₁ hsb₁ ⊢
  have I3:Inv X pins σ (upd H2 s2.heap.objs.size (.lst [])) {s2 with heap:=s2.heap.push {cls:= .type "list",dict:=none,data:= .seq ([]:List Value).toArray}}:=
    I2.lnew (t':=s2.toks) (its:=[]) .nil (Nat.zero_le _)
  obtain ⟨W,⟨m0,w0⟩,turn⟩:=R s2.heap.objs.size (I2.hok.fresh (Nat.le_refl _))
  generalize hP:s2.heap.push {cls:= .type "list",dict:=none,data:= .seq ([]:List Value).toArray}=h3 at hns₁ hsb₁ I3 ⊢
  generalize hD:s2.heap.objs.size=D at w0 turn I3 ⊢
  have hsz3:h3.objs.size=D+1:=by rw [←hP,Heap.size_push,hD]
  have old3:∀b o,s2.heap.get? b=some o→h3.get? b=some o:=fun b o e=>by rw [←hP];exact Heap.get?_push_of_some _ e
  have old:∀b o,h3.get? b=some o→h₁.get? b=some o:=fun b o e=>hsb₁.extBut b o (Nat.ne_of_lt (Heap.lt_size e)) (Heap.get?_push_of_some _ e)
  have fpD:∀b∈fp,b < D:=fun b hb=>by
    obtain ⟨o,e,_⟩:=T.obj _ _ st2 b hb
    rw [←hD];exact Heap.lt_size e
  have frD:∀b∈fp,(upd H2 D (.lst [])) b=none:=fun b hb=>by rw [aH (Nat.ne_of_lt (fpD b hb))];exact (f2 b hb).1
  have f3:∀b∈fp,kJ X pins (upd H2 D (.lst [])) b:=fun b hb=>⟨frD b hb,(f2 b hb).2⟩
  have Hfresh:∀a,h3.objs.size≤a→(upd H2 D (.lst [])) a=none:=fun a ha=>I3.hok.fresh ha
  have cellC:∀x c,X.env.cells.lookup x=some c→c < h3.objs.size:=fun x c e=>by
    obtain ⟨v,q⟩:=I3.cell x c e
    exact q.lt
  have YOk:(X.comp sc cl N h3.objs.size {s2 with heap:=h3} (upd H2 D (.lst [])) fp).Ok:=by
    refine ⟨I3.ok.mod,?_,I3.ok.glob,I3.ok.blt,Nat.le_refl _,fun x y c e1 e2=>I3.ok.inj x y c (K.same x c e1) (K.same y c e2),fun x hx=>K.has x hx,fun x c hf _=>absurd hf (by intro z;cases z),I3.ok.hd,I3.ok.frames, .inl rfl,fun b hb=>⟨?_,fun x c e=>(f2 b hb).2.2.2.2.1 x c (K.same x c e)⟩,
      I3.bs,Nat.le_trans I3.ok.bsz I3.sz,fun b o e hb=>?_,fun b hb hm=>?_,I3.stack,I3.stkFree,I3.tab⟩
    · rw [←K.rel];exact K.kind
    · exact Nat.ne_of_lt (by rw [hsz3];exact Nat.lt_succ_of_lt (fpD b hb))
    · rcases (f2 b hb).2.2.2.1 with z | z
      · exact I3.ok.noex b o e z
      · exact absurd (Nat.lt_of_lt_of_le (Heap.lt_size (I3.ok.bs b o e).1) z) (Nat.lt_irrefl _)
    · rcases List.mem_cons.mp (I3.stkSub b hm) with z | z
      · exact (f2 b hb).2.1 z
      · exact (f2 b hb).2.2.1 z
  have IY:Inv (X.comp sc cl N h3.objs.size {s2 with heap:=h3} (upd H2 D (.lst [])) fp) [] (slots js σ) (upd H2 D (.lst [])) {s2 with heap:=h₁,toks:=s2.toks+([]:List (Str×Value)).length}:=by
    refine ⟨YOk,rfl,I3.bare,Un.kept old,⟨_,hns₁,fun i x v e1 e2 e3=>?_⟩,fun x c e=>?_,Hfresh _ (Nat.le_refl _),fun x c e=>I3.freeC x c (K.same x c e),fun p hp=>absurd (show p∈([]:List (Addr×Obj)) from hp) (by simp),I3.hok.kept old,?_⟩
    · unfold slots at e2
      rw [List.getElem?_map] at e2
      cases ej:js[i]? with
      | none=>rw [ej] at e2;cases e2
      | some jo=>
        rw [ej] at e2
        cases jo with
        | none=>cases e2
        | some j=>
          obtain ⟨y,n1,n2,k1,k2⟩:=K.from_ i j ej
          have exy:y=x:=Option.some.inj (n1.symm.trans e1)
          subst exy
          have e2':(σ[j]?).join=some v:=Option.some.inj e2
          have e4:σ[j]? =some (some v):=by
            cases es:σ[j]? with
            | none=>rw [es] at e2';cases e2'
            | some w=>rw [es] at e2';exact congrArg some e2'
          obtain ⟨m,_,hl⟩:=I3.loc
          obtain ⟨u,ru,lk⟩:=hl j y v n2 e4 (by
            rcases k2 with z | z
            · exact .inr (.inl z)
            · exact .inr (.inr z))
          refine ⟨u,ru, .inr ⟨k1,?_⟩⟩
          obtain ⟨c,hcl⟩:=K.has y k1
          refine ⟨c,hcl,?_⟩
          rcases lk with ⟨z,_⟩ | ⟨_,c',e5,ic⟩
          · rcases k2 with q | q
            · rw [q] at z;cases z
            · rw [q] at z;cases z
          · have:c'=c:=Option.some.inj (e5.symm.trans (K.same y c hcl))
            subst this
            obtain ⟨o,ho,hd⟩:=ic
            exact ⟨o,old _ _ ho,hd⟩
    · obtain ⟨v,o,ho,hd⟩:=I3.cell x c (K.same x c e)
      exact ⟨v,o,old _ _ ho,hd⟩
    · unfold slots;rw [List.length_map];exact K.len
  have loop:∀s₃:Shared,s₃={s2 with heap:=h₁,toks:=s2.toks+([]:List (Str×Value)).length}→
      codeAny (model X.prog X.w) X.A (.compLoop (.ListComp elt [⟨target,iter,ifs,0⟩] scope pos) 0 (.ref it) (.ref D) (X.comp sc cl N h3.objs.size {s2 with heap:=h3} (upd H2 D (.lst [])) fp).env)
        (compPost (model X.prog X.w) X.A X.xe use Qv (.ref D) h3.objs.size) s₃:=by
    rintro s₃ rfl
    refine mq (fun n s'=>∃i σ' H',Inv (X.comp sc cl N h3.objs.size {s2 with heap:=h3} (upd H2 D (.lst [])) fp) [] σ' H' s'∧tn i s'.heap∧(∀b∈fp,H' b=none)∧W i n σ' H') ?_ m0
      ⟨0,_,_,IY,T.keep _ _ _ st2 (fun b hb o e=>old b o (old3 b o e)),frD,w0⟩
    rintro n s4 ⟨i,σ4,H4,I4,st4,fr4,w4⟩
    have ff:∀{H':Hp},(∀b∈fp,H' b=none)→∀b∈fp,kJ (X.comp sc cl N h3.objs.size {s2 with heap:=h3} (upd H2 D (.lst [])) fp) [] H' b:=fun hn b hb=>
      ⟨hn b hb,(YOk.exf b hb).1,YOk.exfs b hb, .inl hb,(YOk.exf b hb).2,fun p hp=>absurd (show p∈([]:List (Addr×Obj)) from hp) (by simp)⟩
    have hg:=hgg h3.objs.size {s2 with heap:=h3} (upd H2 D (.lst [])) fp
    have ht:=htt h3.objs.size {s2 with heap:=h3} (upd H2 D (.lst [])) fp
    have he:=hee h3.objs.size {s2 with heap:=h3} (upd H2 D (.lst [])) fp
    rcases turn i n σ4 H4 w4 with ⟨stop,qn⟩ | ⟨go,Nx,hN,step⟩
    · refine cZ (T.done (X.comp sc cl N h3.objs.size {s2 with heap:=h3} (upd H2 D (.lst [])) fp) rfl rfl rfl hc i [] s4 σ4 H4 _ I4 (ff fr4) st4 stop) fun r s5 ⟨hr,I5⟩=>?_
      subst hr
      obtain ⟨m,hn,_⟩:=I5.loc
      have IX:Inv X pins σ H4 s5:=I3.call' (ch:=fp) I5.os I5.base I5.hok I5.bare fun b hb=>⟨(f3 b hb).2.2.2.1,(f3 b hb).2.1,(f3 b hb).2.2.2.2.1,(f3 b hb).2.2.2.2.2⟩
      exact hend D h3.objs.size H4 s5 m IX hn I5.free (Ne.symm (Nat.ne_of_lt I3.lt)) (I3.nofs (Nat.le_refl _)) I3.sz (fun x c e=>Nat.ne_of_lt (cellC x c e)) (fun p hp=>Nat.ne_of_lt (Heap.lt_size (I3.pin p hp).1)) qn
    · refine cZ (T.item (X.comp sc cl N h3.objs.size {s2 with heap:=h3} (upd H2 D (.lst [])) fp) rfl rfl rfl hc i [] s4 σ4 H4 _ I4 (ff fr4) st4 go) fun r s5 ⟨u,hr,h5⟩=>?_
      subst hr
      refine cZ h5 fun _ s6 ⟨x,H6,I6,r6,y6,st6,fr6⟩=>?_
      have I6':=I6.pinned (ff fr6) (T.obj _ _ st6)
      have back:∀{σ7:St} {H7:Hp} {s7:Shared},Inv (X.comp sc cl N h3.objs.size {s2 with heap:=h3} (upd H2 D (.lst [])) fp) ([]++jP fp s6.heap) σ7 H7 s7→
          Inv (X.comp sc cl N h3.objs.size {s2 with heap:=h3} (upd H2 D (.lst [])) fp) [] σ7 H7 s7∧tn (i+1) s7.heap∧∀b∈fp,H7 b=none:=fun {σ7 H7 s7} I7=>
        ⟨I7.unpinned,T.keep _ _ _ st6 fun b hb o e=>(I7.pin (b,o) (List.mem_append_right _ (List.mem_append_right _ (fM hb e)))).1,fun b hb=>by
          obtain ⟨o,e,d⟩:=T.obj _ _ st6 b hb
          exact (I7.pin (b,o) (List.mem_append_right _ (List.mem_append_right _ (fM hb e)))).2.1⟩
      refine cZ (hg _ s6 σ4 H6 x u _ I6' r6 (step x H6 y6)) fun _ s7 ⟨σ7,H7,I7,q7⟩=>?_
      refine cZ (ht _ s7 σ7 H7 _ I7 q7) fun b s8 ⟨H8,I8,q8⟩=>?_
      cases b with
      | false=>
        obtain ⟨m',hm,w8⟩:=hN σ7 H8 q8
        obtain ⟨J1,J2,J3⟩:=back I8
        exact ⟨m',hm,i+1,σ7,H8,J1,J2,J3,w8⟩
      | true=>
        refine cZ (he _ s8 σ7 H8 _ I8 q8) fun yv s9 ⟨y,H9,I9,r9,ys,hl,hz,n9⟩=>?_
        obtain ⟨m',hm,w9⟩:=hN _ _ n9
        refine cZ (lg _ s9 σ7 H9 (.ref D) [y] (.ref D) [yv] (fun v H'=>v= .non∧H'=upd H9 D (.lst (ys++[y]))) I9 rfl (.cons r9 .nil) ⟨D,ys,y,rfl,rfl,hl,hz,rfl,rfl⟩) fun _ sA ⟨_,HA,IA,_,_,eA⟩=>?_
        subst eA
        obtain ⟨J1,J2,J3⟩:=back IA
        exact ⟨m',hm,i+1,σ7,_,J1,J2,J3,w9⟩
  rw [K.rel]
  exact codeAny_compStart_list (loop _ rfl) (T.self _ 0 _ _ _ (T.keep _ _ _ st2 (fun b hb o e=>old b o (old3 b o e))) (loop _ rfl))
theorem mr (K:CompOk X scope sc cl N js) (hc:X.calm=true) (hi:PI X target iter wi)
    (hgg:∀C s₀ H₀ fp,PG (X.comp sc cl N C s₀ H₀ fp) target g) (htt:∀C s₀ H₀ fp,Ak (X.comp sc cl N C s₀ H₀ fp) ifs tt) (hee:∀C s₀ H₀ fp,PE (X.comp sc cl N C s₀ H₀ fp) elt te)
    (hs:∀x,foldedSetIterable iter X.env x=pure x:=by intro _;rfl):PE X (.ListComp elt [⟨target,iter,ifs,0⟩] scope pos) (nQ js wi g tt te):=by
  intro pins s σ H Q I h
  rw [eval_ListComp]
  refine nR (use:=none) K hc hi hgg htt hee hs pins s σ H Q I h fun D C H4 s5 m IX hn fC nL _ sz nc np qn=>?_
  exact ⟨m,hn,fun h' hs'=>⟨.ref D,H4,IX.turned (t':=s5.toks) (it:=C) (fun b o hb e=>(hs'.2 b hb).trans e) fC nL (.inr sz) nc np,rfl,qn⟩⟩
theorem v8 {x:Str} {px spos:Pos} {gx:TG} (K:CompOk X scope sc cl N js) (hc:X.calm=true) (hx:PG X (.Name x px) gx) (hi:PI X target iter wi)
    (hgg:∀C s₀ H₀ fp,PG (X.comp sc cl N C s₀ H₀ fp) target g) (htt:∀C s₀ H₀ fp,Ak (X.comp sc cl N C s₀ H₀ fp) ifs tt) (hee:∀C s₀ H₀ fp,PE (X.comp sc cl N C s₀ H₀ fp) elt te)
    (hs:∀x,foldedSetIterable iter X.env x=pure x:=by intro _;rfl) (hsw:swapsWith (.ListComp elt [⟨target,iter,ifs,0⟩] scope pos) (some (.Name x px)) spos.line X.env=pure true:=by rfl):
    PS X (.Assign [.Name x px] (.ListComp elt [⟨target,iter,ifs,0⟩] scope pos) spos) (zO (nQ js wi g tt te) gx):=by
  intro pins s σ H D I h
  rw [exec_Assign_Name_used _ _ _ _ hsw]
  refine wpAny_bind (wpAny_standAt (wpAny_bind ?_))
  show wpAny _ _ (comprehension (.ListComp elt [⟨target,iter,ifs,0⟩] scope pos) scope X.env (firstIterPos [⟨target,iter,ifs,0⟩] pos) (newList []) false (firstIter [⟨target,iter,ifs,0⟩] X.env) (some (assign (.Name x px) X.env)) >>= fun _=>pure ()) _ _ _
  refine wpAny_bind (wpAny_mono (nR (use:=some (assign (.Name x px) X.env)) (Qv:=fun _ s'=>∃σ' H',Inv X pins σ' H' s'∧D.nx σ' H') K hc hi hgg htt hee hs pins s σ H _ I h fun Dd C H4 s5 m IX hn fC nL nF sz nc np qn=>?_) (fun _ s' ⟨σ',H',I',q'⟩=>wpAny_pure (wpAny_pure ⟨σ',H',I',q'⟩)) fun _ _ e=>e)
  obtain ⟨o,es,ep,ho,hd,r⟩:=hn
  have IP:Inv X ((C,o)::pins) σ H4 s5:=IX.pins_of fun p hp=>(List.mem_cons.mp hp).elim (fun z=>by subst z;exact ⟨ho,fC,nL,nF,fun v z=>by rw [hd] at z;cases z⟩) fun z=>IX.pin p (List.mem_append_right _ z)
  refine wpAny_mono (hx ((C,o)::pins) s5 σ H4 (.ref Dd) (.ref Dd) D.nx IP rfl qn) (fun _ s6 ⟨σ6,H6,I6,q6⟩=>?_) fun _ _ e=>e
  obtain ⟨p1,p2,_⟩:=I6.pin (C,o) (List.mem_append_right _ (List.mem_cons_self ..))
  have I7:Inv X pins σ6 H6 s6:=I6.pins_of fun p hp=>I6.pin p (List.mem_append_right _ (List.mem_cons_of_mem _ hp))
  exact ⟨m,⟨o,es,ep,p1,hd,r⟩,fun h' hs'=>⟨σ6,H6,I7.turned (t':=s6.toks) (it:=C) (fun b o hb e=>(hs'.2 b hb).trans e) p2 nL (.inr sz) nc np,q6⟩⟩
end
end L2
namespace L2
open PySem PySem.Spec PyProof.Rows
theorem g_ {X:Cx} {scope:Scope} {N:List Str} {js:List (Option Nat)} (hf:∀x∈scope.names,x.2≠ .free:=by decide+kernel) (hcell:∀x∈scope.names,x.2≠ .cell:=by decide+kernel)
    (hk:scope.kind= .function:=by rfl) (hn:∀y∈scope.names,y.2= .local→scope.names.lookup y.1=some .local:=by decide+kernel) (hl:js.length=N.length:=by rfl) (hj:∀j∈js,j=none:=by decide):CompOk X scope scope [] N js where
  clos:=closureFor_none hf
  rel:=by
    unfold relabel
    have e:(scope.names.map fun (x:Str×NameKind)=>match x with | (n,k)=>if (k == .free&&X.env.scope.kind == .function&&X.env.kindOf n == some .cell) then (n,NameKind.cell) else (n,k))=scope.names:=by
      refine map_eq_self fun x hx=>?_
      obtain ⟨n,k⟩:=x
      have:(k == NameKind.free)=false:=by simpa using hf _ hx
      simp [this]
    rw [e]
  nocell:=hcell
  kind:=hk
  names:=hn
  same:=fun x c e=>by simp at e
  has:=fun x h=>by
    rcases h with h | h
    · exact absurd rfl (hcell _ (PySem.mem_of_lookup h))
    · exact absurd rfl (hf _ (PySem.mem_of_lookup h))
  len:=hl
  from_:=fun i j h=>by
    have:=hj _ (List.mem_of_getElem? h)
    cases this
structure Own (P:Program) (w:World) (K:PySem.W.Frag) (mg:Str→Option Value) (base:Heap) (k:Nat) (x:Str) (ps:List Str) (sp:Sp):Prop where
  ex:∃(f:Addr) (fd:FuncData),FnOk P w K mg base rW k f fd ps sp∧Binds K fd ps []∧mg x=some (.ref f)∧PySem.W.keepIn K (.ref f)=true
theorem yy {X:Cx} {k:Nat} {x:Str} {ps:List Str} {sp:Sp} {p pos:Pos} {e:Expr} {es:List Expr} {t:TA} (D:Own X.prog X.w X.K X.mg X.base k x ps sp) (hr:Room k X.A) (hg:Gl X x) (ha:PA X (e::es) t)
    (hdb:(x == ("__debug__":Str))=false:=by decide) (he:starEach (e::es) X.env=(false,eval e X.env)::starEach es X.env:=by rfl) (hpl:(backTo pos (starEach es X.env)).any (·.1)=false:=by rfl):
    PE X (.Call (.Name x p) (e::es) [] pos) (xn sp [] E0 t):=by
  obtain ⟨f,fd,F,b,m,kp⟩:=D.ex
  exact vV F hr hg m kp b .nil Af ha hdb he hpl
structure Def (K:PySem.W.Frag) (mg:Str→Option Value) (x:Str) (st:Stmt) (ps:List Str):Prop where
  ex:∃(f:Addr) (fd:FuncData),Fun K x x st f fd∧mg x=some (.ref f)∧Binds K fd ps []
theorem Def.own {P:Program} {w:World} {K:PySem.W.Frag} {mg:Str→Option Value} {base:Heap} {x:Str} {st:Stmt} {N ps:List Str} {k:Nat} {sp:Sp} (D:Def K mg x st ps) (S:FnScope N ps (ag st))
    (len:∀vs H Q E,sp vs H Q E→vs.length=ps.length)
    (hbody:∀(f:Addr) (cdv:Value) (A:Around) (outer:List Env) (s:Shared) (H:Hp) (vs:List V) (Q:VK) (E:XK),Room k (A.deeper (envOfC x (ag st) s.heap.objs.size f cdv))→sp vs H Q E→
      ∃t,PSs (kK rW P w K mg base N x (ag st) f cdv A outer s H E).nox (aB st) t∧t {nx:=fun _ H'=>Q .non H',rt:=Q} (gg N vs) H):Own P w K mg base (k+1) x ps sp:=by
  obtain ⟨f,fd,F,m,b⟩:=D.ex
  exact ⟨f,fd,F.ok S len (hbody f),b,m,F.kp⟩
theorem bW {K:PySem.W.Frag} {h:Heap} {mg:Str→Option Value} {x:Str} {st:Stmt} {ps:List Str} {f:Addr} {oc:Value} {od an:Option Addr} {osl:Array (Option Value)} {kV doc pm cdv ct:Value} (X:K.In h) (G:h.Ns mainGlobals mg)
    (a:PySem.W.nsIn K mainGlobals x=some (some (.ref f))) (l:K.lookup f=some ⟨oc,od, .func (PySem.W.fnOf x x (aF st) (aB st) (ag st) .none kV doc pm an cdv ct),osl⟩)
    (c:PySem.W.codeIn K cdv x=true) (k:PySem.W.keepIn K (.ref f)=true)
    (b:∀(kV doc pm:Value) (an:Option Addr) (cdv ct:Value) (us:List Value),us.length=ps.length→bindArgs (PySem.W.fnOf x x (aF st) (aB st) (ag st) .none kV doc pm an cdv ct) ⟨us,[]⟩=pure (ps.zip us)):Def K mg x st ps:=
  ⟨f,_,pA l c k,PySem.W.mg_of X G a,(pA (st:=st) l c k).binds b⟩
end L2
namespace Nh
open PySem L2
section
variable {α β:Type} {F:α→β→Prop}
theorem gG:∀{a:List α} {b:List β} {c:List α} {d:List β},Paired F a b→Paired F c d→Paired F (a++c) (b++d)
  | _,_,_,_, .nil,s=>s
  | _,_,_,_, .cons r t,s=> .cons r (gG t s)
theorem qG:∀{a:List α} {b:List β} (n:Nat),Paired F a b→Paired F (a.take n) (b.take n)
  | _,_,0,_=> .nil
  | _,_,_+1, .nil=> .nil
  | _,_,n+1, .cons r t=> .cons r (qG n t)
theorem qH:∀{a:List α} {b:List β} (n:Nat),Paired F a b→Paired F (a.drop n) (b.drop n)
  | _,_,0,r=>r
  | _,_,_+1, .nil=> .nil
  | _,_,n+1, .cons _ t=>qH n t
theorem hJ:∀{a:List α} {b:List β},Paired F a b→Paired F a.reverse b.reverse
  | _,_, .nil=> .nil
  | _,_, .cons r t=>by
    rw [List.reverse_cons,List.reverse_cons]
    exact gG (hJ t) (.cons r .nil)
theorem qI:∀{a:List α} {b:List β} {i:Nat} {y:β},Paired F a b→b[i]? =some y→∃x,a[i]? =some x∧F x y
  | _,_,_,_, .nil,e=>by simp at e
  | _,_,0,_, .cons r _,e=>by simp at e;subst e;exact ⟨_,rfl,r⟩
  | _,_,i+1,x, .cons _ t,e=>by
    obtain ⟨u,h1,h2⟩:=qI (i:=i) (y:=x) t (by simpa using e)
    exact ⟨u,by simpa using h1,h2⟩
theorem ub {a:List α} {b:List β} (h:Paired F a b):∀k:Nat,Paired F (List.replicate k a).flatten (List.replicate k b).flatten
  | 0=> .nil
  | k+1=>by
    rw [List.replicate_succ,List.replicate_succ,List.flatten_cons,List.flatten_cons]
    exact gG h (ub h k)
end
abbrev Pc:=Nat×Int
def tv (p:Pc):List V:=[.str ⟨#[p.1]⟩, .int p.2]
def Bp (H:Hp) (v:V) (p:Pc):Prop:=∃t,v= .ref t∧H t=some (.tup (tv p))
abbrev PAll (H:Hp):List V→List Pc→Prop:=Paired (Bp H)
section
variable {H H':Hp} {l:Addr} {xs ys:List V} {c:List Pc}
theorem PAll.same (s:Same H H') (h:PAll H xs c):PAll H' xs c:=Paired.mapP h fun _ _ ⟨t,e,q⟩=>⟨t,e,s _ _ q⟩
theorem PAll.len (h:PAll H xs c):xs.length=c.length:=Paired.length h
end
def Cord (H:Hp) (a:Addr) (c:List Pc):Prop:=∃xs,H a=some (.lst xs)∧PAll H xs c
section
variable {H H':Hp} {a:Addr} {c d:List Pc}
theorem Cord.same (s:Same H H') (h:Cord H a c):Cord H' a c:=let ⟨xs,e,p⟩:=h;⟨xs,s _ _ e,p.same s⟩
end
def BL (p:Pc):PyData:= .tuple [.str ⟨#[p.1]⟩, .int p.2]
def Al (c:List Pc):PyData:= .list (c.map BL)
def NailsOk (c:List Pc):Prop:=∀p∈c,p.1 < 128
theorem lh {K:PySem.W.Frag} {H:Hp}:∀{xs:List V} {c:List Pc},PAll H xs c→DAll K H xs (c.map BL)
  | _,_, .nil=> .nil
  | _,_, .cons ⟨t,e,q⟩ r=>by
    subst e
    exact .cons (.tup (SqT.of q) (.cons (.str _) (.cons (.int _) .nil))) (lh r)
theorem Cord.data {K:PySem.W.Frag} {H:Hp} {a:Addr} {c:List Pc} (h:Cord H a c):DOf K H (.ref a) (Al c):=
  let ⟨_,e,p⟩:=h; .lst (SqL.of e) (lh p)
end Nh
namespace PL
open PySem PySem.Spec PyProof.Rows L2 Nh
def Bq:dL→PyData
  | .inl i=> .int i
  | .inr x=> .str x
mutual
inductive Rp (K:PySem.W.Frag) (H:Hp):V→PyData→Prop
  | non:Rp K H .non .none
  | bl (b:Bool):Rp K H (.bl b) (.bool b)
  | int (i:Int):Rp K H (.int i) (.int i)
  | str (x:Str):Rp K H (.str x) (.str x)
  | lst {a:Addr} {xs:List V} {ds:List PyData}:SqL K H a xs→RpA K H xs ds→Rp K H (.ref a) (.list ds)
  | tup {a:Addr} {xs:List V} {ds:List PyData}:SqT K H a xs→RpA K H xs ds→Rp K H (.ref a) (.tuple ds)
  | dct {a:Addr} {us:List (dL×V)} {kvs:List (PyData×PyData)}:Rd H a (.dK us)→RpK K H us kvs→Rp K H (.ref a) (.dict kvs)
inductive RpA (K:PySem.W.Frag) (H:Hp):List V→List PyData→Prop
  | nil:RpA K H [] []
  | cons {x:V} {xs:List V} {d:PyData} {ds:List PyData}:Rp K H x d→RpA K H xs ds→RpA K H (x::xs) (d::ds)
inductive RpK (K:PySem.W.Frag) (H:Hp):List (dL×V)→List (PyData×PyData)→Prop
  | nil:RpK K H [] []
  | cons {k:dL} {x:V} {us:List (dL×V)} {d:PyData} {kvs:List (PyData×PyData)}:Rp K H x d→RpK K H us kvs→RpK K H ((k,x)::us) ((Bq k,d)::kvs)
end
mutual
def cD:PyData→Bool
  | .none=>true
  | .bool _=>true
  | .int _=>true
  | .str _=>true
  | .list _=>false
  | .tuple xs=>be xs
  | .dict _=>false
def be:List PyData→Bool
  | []=>true
  | d::ds=>cD d&&be ds
end
def xq:HO→Bool
  | .tup _=>true
  | .frz _ _=>true
  | _=>false
def tups (H:Hp):Hp:=fun b=>(H b).filter xq
theorem i3 (H:Hp):Same (tups H) H:=fun b o h=>(Option.filter_eq_some_iff.mp h).1
theorem iE {H:Hp} {b:Addr} {o:HO} (h:H b=some o) (c:xq o=true):tups H b=some o:=Option.filter_eq_some_iff.mpr ⟨h,c⟩
theorem nS {H:Hp} {l:Addr} {xs ys:List V} (h:H l=some (.lst xs)):tups (upd H l (.lst ys))=tups H:=by
  funext b
  unfold tups
  by_cases e:b=l
  · subst e
    rw [bx,h]
    rfl
  · rw [aH e]
section
variable {K:PySem.W.Frag} {H H':Hp}
theorem nT {a:Addr} {xs:List V} (h:SqT K H a xs):SqT K (tups H) a xs:=by
  rcases h with (h | ⟨o,h⟩) | h
  · exact .inl (.inl (iE h rfl))
  · exact .inl (.inr ⟨o,iE h rfl⟩)
  · exact .inr h
theorem mt {a:Addr} {u:HO} (s:Same H H') (h:Rd H a u):Rd H' a u:=by
  rcases h with h | ⟨o,h⟩
  · exact .inl (s _ _ h)
  · exact .inr ⟨o,s _ _ h⟩
theorem Rp.same (s:Same H H') {v:V} {d:PyData} (h:Rp K H v d):Rp K H' v d:=Rp.rec (motive_1:=fun v d _=>Rp K H' v d) (motive_2:=fun v d _=>RpA K H' v d) (motive_3:=fun v d _=>RpK K H' v d) .non .bl .int .str (fun h _ r=> .lst (s.seq h) r) (fun h _ r=> .tup (s.tup h) r) (fun h _ r=> .dct (mt s h) r) .nil (fun _ _ a b=> .cons a b) .nil (fun _ _ a b=> .cons a b) h
theorem RpA.same (s:Same H H') {v:List V} {d:List PyData} (h:RpA K H v d):RpA K H' v d:=RpA.rec (motive_1:=fun v d _=>Rp K H' v d) (motive_2:=fun v d _=>RpA K H' v d) (motive_3:=fun v d _=>RpK K H' v d) .non .bl .int .str (fun h _ r=> .lst (s.seq h) r) (fun h _ r=> .tup (s.tup h) r) (fun h _ r=> .dct (mt s h) r) .nil (fun _ _ a b=> .cons a b) .nil (fun _ _ a b=> .cons a b) h
theorem RpK.same (s:Same H H') {v:List (dL×V)} {d:List (PyData×PyData)} (h:RpK K H v d):RpK K H' v d:=RpK.rec (motive_1:=fun v d _=>Rp K H' v d) (motive_2:=fun v d _=>RpA K H' v d) (motive_3:=fun v d _=>RpK K H' v d) .non .bl .int .str (fun h _ r=> .lst (s.seq h) r) (fun h _ r=> .tup (s.tup h) r) (fun h _ r=> .dct (mt s h) r) .nil (fun _ _ a b=> .cons a b) .nil (fun _ _ a b=> .cons a b) h
theorem Rp.cold {v:V} {d:PyData} (h:Rp K H v d) (e:cD d=true):Rp K (tups H) v d:=Rp.rec (motive_1:=fun v d _=>cD d=true→Rp K (tups H) v d) (motive_2:=fun v d _=>be d=true→RpA K (tups H) v d) (motive_3:=fun _ _ _=>True) (fun _=> .non) (fun b _=> .bl b) (fun i _=> .int i) (fun x _=> .str x) (fun _ _ _ e=>nomatch e) (fun h _ r e=> .tup (nT h) (r e)) (fun _ _ _ e=>nomatch e) (fun _=> .nil) (fun _ _ a b e=> .cons (a (Bool.and_eq_true_iff.mp e).1) (b (Bool.and_eq_true_iff.mp e).2)) trivial (fun _ _ _ _=>trivial) h e
theorem RpA.cold {v:List V} {d:List PyData} (h:RpA K H v d) (e:be d=true):RpA K (tups H) v d:=RpA.rec (motive_1:=fun v d _=>cD d=true→Rp K (tups H) v d) (motive_2:=fun v d _=>be d=true→RpA K (tups H) v d) (motive_3:=fun _ _ _=>True) (fun _=> .non) (fun b _=> .bl b) (fun i _=> .int i) (fun x _=> .str x) (fun _ _ _ e=>nomatch e) (fun h _ r e=> .tup (nT h) (r e)) (fun _ _ _ e=>nomatch e) (fun _=> .nil) (fun _ _ a b e=> .cons (a (Bool.and_eq_true_iff.mp e).1) (b (Bool.and_eq_true_iff.mp e).2)) trivial (fun _ _ _ _=>trivial) h e
theorem Rp.dof' {v:V} {d:PyData} (h:Rp K H v d) (e:d.canLay0=true):DOf K H v d:=Rp.rec (motive_1:=fun v d _=>d.canLay0=true→DOf K H v d) (motive_2:=fun v d _=>PyData.canLayAll0 d=true→DAll K H v d) (motive_3:=fun _ _ _=>True) (fun _=> .non) (fun b _=> .bl b) (fun i _=> .int i) (fun x _=> .str x) (fun h _ r e=> .lst h (r e)) (fun h _ r e=> .tup h (r e)) (fun _ _ _ e=>nomatch e) (fun _=> .nil) (fun _ _ a b e=> .cons (a (Bool.and_eq_true_iff.mp e).1) (b (Bool.and_eq_true_iff.mp e).2)) trivial (fun _ _ _ _=>trivial) h e
theorem Rp.dof {v:V} {d:PyData} (h:Rp K H v d) (e:SeqAt.shaped d=true):DOf K H v d:=h.dof' (SeqAt.canLay_of_shaped e)
theorem RpA.pr {vs:List V} {ds:List PyData} (h:RpA K H vs ds):Paired (Rp K H) vs ds:=RpA.rec (motive_1:=fun _ _ _=>True) (motive_2:=fun v d _=>Paired (Rp K H) v d) (motive_3:=fun _ _ _=>True) trivial (fun _=>trivial) (fun _=>trivial) (fun _=>trivial) (fun _ _ _=>trivial) (fun _ _ _=>trivial) (fun _ _ _=>trivial) .nil (fun h _ _ b=> .cons h b) trivial (fun _ _ _ _=>trivial) h
theorem RpA.of {vs:List V} {ds:List PyData} (h:Paired (Rp K H) vs ds):RpA K H vs ds:=by
  induction h with
  | nil=>exact .nil
  | cons a _ b=>exact .cons a b
theorem RpA.len {vs:List V} {ds:List PyData} (h:RpA K H vs ds):vs.length=ds.length:=Paired.length h.pr
theorem RpA.append {vs us:List V} {ds es:List PyData} (h:RpA K H vs ds) (k:RpA K H us es):RpA K H (vs++us) (ds++es):= .of (gG h.pr k.pr)
theorem RpA.take {vs:List V} {ds:List PyData} (n:Nat) (h:RpA K H vs ds):RpA K H (vs.take n) (ds.take n):= .of (qG n h.pr)
theorem RpA.drop {vs:List V} {ds:List PyData} (n:Nat) (h:RpA K H vs ds):RpA K H (vs.drop n) (ds.drop n):= .of (qH n h.pr)
theorem RpA.rev {vs:List V} {ds:List PyData} (h:RpA K H vs ds):RpA K H vs.reverse ds.reverse:= .of (hJ h.pr)
theorem RpA.rep {vs:List V} {ds:List PyData} (n:Nat) (h:RpA K H vs ds):RpA K H (List.replicate n vs).flatten (List.replicate n ds).flatten:= .of (ub h.pr n)
theorem RpA.get {vs:List V} {ds:List PyData} {i:Nat} {d:PyData} (h:RpA K H vs ds) (e:ds[i]? =some d):∃v,vs[i]? =some v∧Rp K H v d:=qI h.pr e
theorem RpA.set:∀{vs:List V} {ds:List PyData} {v:V} {d:PyData} (i:Nat),RpA K H vs ds→Rp K H v d→RpA K H (vs.set i v) (ds.set i d)
  | _,_,_,_,_, .nil,_=> .nil
  | _,_,_,_,0, .cons _ r,h=> .cons h r
  | _,_,_,_,i+1, .cons q r,h=> .cons q (RpA.set i r h)
theorem RpA.snoc {vs:List V} {ds:List PyData} {v:V} {d:PyData} (h:RpA K H vs ds) (k:Rp K H v d):RpA K H (vs++[v]) (ds++[d]):=h.append (.cons k .nil)
end
inductive Pt where
  | fl (d:PyData) | ol (ds:List PyData)
def Pt.val:Pt→PyData
  | .fl d=>d
  | .ol ds=> .list ds
inductive Sl where
  /-- nothing is known -/
  | no
  /-- never written again -/
  | sh (d:PyData)
  /-- a list of one's own -/
  | ow (ds:List PyData)
  /-- a dict of one's own,its values lists of one's own -/
  | od (kvs:List (dL×List PyData))
  /-- a tuple with lists of one's own -/
  | tx (ps:List Pt)
  /-- (a part of an expression) the value of a name -/
  | al (i:Nat)
  /-- (a part of an expression) as it stands just now -/
  | br (d:PyData)
def PtsOk (K:PySem.W.Frag) (F H:Hp):List V→List Pt→List Addr→Prop
  | [],[],A=>A=[]
  | v::vs, .fl d::ps,A=>Rp K F v d∧PtsOk K F H vs ps A
  | v::vs, .ol ds::ps,A=>∃l us A',v= .ref l∧A=l::A'∧H l=some (.lst us)∧RpA K F us ds∧PtsOk K F H vs ps A'
  | _,_,_=>False
def DlOk (K:PySem.W.Frag) (F H:Hp):List (dL×V)→List (dL×List PyData)→List Addr→Prop
  | [],[],A=>A=[]
  | p::us,q::kvs,A=>∃l vs A',p=(q.1, .ref l)∧A=l::A'∧H l=some (.lst vs)∧RpA K F vs q.2∧DlOk K F H us kvs A'
  | _,_,_=>False
def SlOk (K:PySem.W.Frag) (F H:Hp) (σ:L2.St) (o:Option V):Sl→List Addr→Prop
  | .no,A=>A=[]
  | .sh d,A=>A=[]∧∃v,o=some v∧Rp K F v d
  | .ow ds,A=>∃l vs,o=some (.ref l)∧A=[l]∧H l=some (.lst vs)∧RpA K F vs ds
  | .od kvs,A=>∃l us A',o=some (.ref l)∧A=l::A'∧H l=some (.dK us)∧DlOk K F H us kvs A'
  | .tx ps,A=>∃t vs,o=some (.ref t)∧F t=some (.tup vs)∧PtsOk K F H vs ps A
  | .al i,A=>A=[]∧∃v,o=some v∧σ[i]? =some (some v)
  | .br d,A=>A=[]∧∃v,o=some v∧Rp K H v d
def Sl.isBr:Sl→Bool
  | .br _=>true
  | _=>false
def Sl.isAl:Sl→Bool
  | .al _=>true
  | .br _=>true
  | _=>false
section
variable {K:PySem.W.Frag} {F F' H H':Hp} {σ σ':L2.St}
theorem PtsOk.stay (s:Same F F'):∀{vs:List V} {ps:List Pt} {A:List Addr},(∀b∈A,H' b=H b)→PtsOk K F H vs ps A→PtsOk K F' H' vs ps A
  | [],[],A,_,h=>h
  | v::vs, .fl d::ps,A,e,h=>⟨h.1.same s,PtsOk.stay s e h.2⟩
  | v::vs, .ol ds::ps,A,e,h=>by
    obtain ⟨l,us,A',rfl,rfl,hl,hr,q⟩:=h
    exact ⟨l,us,A',rfl,rfl,(e l (List.mem_cons_self ..)).trans hl,hr.same s,q.stay s fun b hb=>e b (List.mem_cons_of_mem _ hb)⟩
  | [],_::_,_,_,h=>False.elim h
  | _::_,[],_,_,h=>False.elim h
theorem DlOk.stay (s:Same F F'):∀{us:List (dL×V)} {kvs:List (dL×List PyData)} {A:List Addr},(∀b∈A,H' b=H b)→DlOk K F H us kvs A→DlOk K F' H' us kvs A
  | [],[],A,_,h=>h
  | p::us,q::kvs,A,e,h=>by
    obtain ⟨l,vs,A',rfl,rfl,hl,hr,k⟩:=h
    exact ⟨l,vs,A',rfl,rfl,(e l (List.mem_cons_self ..)).trans hl,hr.same s,k.stay s fun b hb=>e b (List.mem_cons_of_mem _ hb)⟩
  | [],_::_,_,_,h=>False.elim h
  | _::_,[],_,_,h=>False.elim h
theorem DlOk.some:∀{us:List (dL×V)} {kvs:List (dL×List PyData)} {A:List Addr},DlOk K F H us kvs A→∀a∈A,∃vs,H a=some (.lst vs)
  | [],[],A,h,a,ha=>by rw [show A=[] from h] at ha;cases ha
  | p::us,q::kvs,A,h,a,ha=>by
    obtain ⟨l,vs,A',rfl,rfl,hl,hr,k⟩:=h
    rcases List.mem_cons.mp ha with e | e
    · subst e;exact ⟨vs,hl⟩
    · exact k.some a e
  | [],_::_,_,h,_,_=>False.elim h
  | _::_,[],_,h,_,_=>False.elim h
theorem PtsOk.some:∀{vs:List V} {ps:List Pt} {A:List Addr},PtsOk K F H vs ps A→∀a∈A,∃us,H a=some (.lst us)
  | [],[],A,h,a,ha=>by rw [show A=[] from h] at ha;cases ha
  | v::vs, .fl d::ps,A,h,a,ha=>PtsOk.some h.2 a ha
  | v::vs, .ol ds::ps,A,h,a,ha=>by
    obtain ⟨l,us,A',rfl,rfl,hl,hr,q⟩:=h
    rcases List.mem_cons.mp ha with e | e
    · subst e;exact ⟨us,hl⟩
    · exact q.some a e
  | [],_::_,_,h,_,_=>False.elim h
  | _::_,[],_,h,_,_=>False.elim h
theorem PtsOk.rp (s:Same F H):∀{vs:List V} {ps:List Pt} {A:List Addr},PtsOk K F H vs ps A→RpA K H vs (ps.map Pt.val)
  | [],[],A,_=> .nil
  | v::vs, .fl d::ps,A,h=> .cons (h.1.same s) (PtsOk.rp s h.2)
  | v::vs, .ol ds::ps,A,h=>by
    obtain ⟨l,us,A',rfl,rfl,hl,hr,q⟩:=h
    exact .cons (.lst (SqL.of hl) (hr.same s)) (q.rp s)
  | [],_::_,_,h=>False.elim h
  | _::_,[],_,h=>False.elim h
theorem SlOk.stay {o:Option V} {s:Sl} {A:List Addr} (hF:Same F F') (e:∀b∈A,H' b=H b) (hb:s.isBr=true→Same H H') (h:SlOk K F H σ o s A):SlOk K F' H' σ o s A:=by
  cases s with
  | no=>exact h
  | sh d=>obtain ⟨rfl,v,rfl,r⟩:=h;exact ⟨rfl,v,rfl,r.same hF⟩
  | ow ds=>obtain ⟨l,vs,rfl,rfl,hl,r⟩:=h;exact ⟨l,vs,rfl,rfl,(e l (by simp)).trans hl,r.same hF⟩
  | od kvs=>obtain ⟨l,us,A',rfl,rfl,hl,r⟩:=h;exact ⟨l,us,A',rfl,rfl,(e l (by simp)).trans hl,r.stay hF fun b hb=>e b (List.mem_cons_of_mem _ hb)⟩
  | tx ps=>obtain ⟨t,vs,rfl,ht,r⟩:=h;exact ⟨t,vs,rfl,hF _ _ ht,r.stay hF e⟩
  | al i=>exact h
  | br d=>obtain ⟨rfl,v,rfl,r⟩:=h;exact ⟨rfl,v,rfl,r.same (hb rfl)⟩
theorem SlOk.mut {o:Option V} {s:Sl} {A:List Addr} (h:SlOk K F H σ o s A):∀a∈A,(∃us,H a=some (.lst us))∨∃us,H a=some (.dK us):=by
  cases s with
  | no=>intro a ha;rw [show A=[] from h] at ha;cases ha
  | sh d=>obtain ⟨rfl,_⟩:=h;intro a ha;cases ha
  | ow ds=>obtain ⟨l,vs,rfl,rfl,hl,r⟩:=h;intro a ha;rw [List.mem_singleton.mp ha];exact .inl ⟨_,hl⟩
  | od kvs=>
    obtain ⟨l,vs,A',rfl,rfl,hl,r⟩:=h
    intro a ha
    rcases List.mem_cons.mp ha with z | z
    · rw [z];exact .inr ⟨_,hl⟩
    · exact .inl (r.some a z)
  | tx ps=>obtain ⟨t,vs,rfl,ht,r⟩:=h;exact fun a ha=> .inl (r.some a ha)
  | al i=>obtain ⟨rfl,_⟩:=h;intro a ha;cases ha
  | br d=>obtain ⟨rfl,_⟩:=h;intro a ha;cases ha
end
inductive SAll (P:Option V→Sl→List Addr→Prop):List (Option V)→List Sl→List Addr→Prop
  | nil:SAll P [] [] []
  | cons {o:Option V} {s:Sl} {A:List Addr} {os:List (Option V)} {ss:List Sl} {B:List Addr}:P o s A→SAll P os ss B→SAll P (o::os) (s::ss) (A++B)
section
variable {P P':Option V→Sl→List Addr→Prop}
theorem SAll.len {os:List (Option V)} {ss:List Sl} {A:List Addr} (h:SAll P os ss A):os.length=ss.length:=by
  induction h with
  | nil=>rfl
  | cons _ _ b=>exact congrArg (· +1) b
theorem SAll.mono {os:List (Option V)} {ss:List Sl} {A:List Addr} (h:SAll P os ss A):(∀o s B,s∈ss→(∀b∈B,b∈A)→P o s B→P' o s B)→SAll P' os ss A:=by
  induction h with
  | nil=>exact fun _=> .nil
  | cons h _ r=>exact fun f=> .cons (f _ _ _ (List.mem_cons_self ..) (fun b hb=>List.mem_append_left _ hb) h) (r fun o s B hs hB q=>f o s B (List.mem_cons_of_mem _ hs) (fun b hb=>List.mem_append_right _ (hB b hb)) q)
theorem SAll.all {R:Addr→Prop} (hR:∀o s B,P o s B→∀b∈B,R b) {os:List (Option V)} {ss:List Sl} {A:List Addr} (h:SAll P os ss A):∀a∈A,R a:=by
  induction h with
  | nil=>exact fun _ ha=>nomatch ha
  | cons h _ r=>exact fun a ha=>(List.mem_append.mp ha).elim (hR _ _ _ h a) (r a)
theorem SAll.at:∀{os:List (Option V)} {ss:List Sl} {A:List Addr} {k:Nat} {s:Sl},SAll P os ss A→ss[k]? =some s→
    ∃o A0 A1 A2,A=A0++(A1++A2)∧os[k]? =some o∧P o s A1∧∀(P':Option V→Sl→List Addr→Prop) (o':Option V) (s':Sl) (A1':List Addr),P' o' s' A1'→
      (∀o s B,s∈ss→(∀b∈B,b∈A0∨b∈A2)→P o s B→P' o s B)→SAll P' (os.set k o') (ss.set k s') (A0++(A1'++A2))
  | _,_,_,_,_, .nil,e=>by simp at e
  | _,_,_,0,s, .cons (o:=o) (A:=A) (B:=B) h r,e=>by
    simp at e;subst e
    refine ⟨o,[],A,B,by simp,rfl,h,fun P' o' s' A1' h' f=>?_⟩
    have z:SAll P' _ _ (A1'++B):= .cons h' (r.mono (P':=P') fun o s B hs hB q=>f o s B (List.mem_cons_of_mem _ hs) (fun b hb=> .inr (hB b hb)) q)
    exact z
  | _,_,_,k+1,s, .cons (o:=o) (A:=A) (B:=B) h r,e=>by
    obtain ⟨o2,A0,A1,A2,eA,eo,hp,f⟩:=r.at (k:=k) (s:=s) (by simpa using e)
    subst eA
    refine ⟨o2,A++A0,A1,A2,by simp,by simpa using eo,hp,fun P' o' s' A1' h' g=>?_⟩
    have z:=f P' o' s' A1' h' fun o s B hs hB q=>g o s B (List.mem_cons_of_mem _ hs) (fun b hb=>(hB b hb).imp (fun x=>List.mem_append_right _ x) id) q
    rw [List.append_assoc]
    exact .cons (g _ _ _ (List.mem_cons_self ..) (fun b hb=> .inl (List.mem_append_left _ hb)) h) z
end
end PL
namespace PL
open PySem L2 Nh
abbrev Sg:=L2.St
structure FrF (K:PySem.W.Frag) (B F:Hp) (A:List Addr) (σ:Sg) (H:Hp) (E:List Sl) (xs:List V) (Xs:List Sl):Prop where
  bf:Same B F
  fh:Same F H
  tf:Same (tups H) F
  sl:SAll (SlOk K F H σ) (xs.map some++σ) (Xs++E) A
  nd:A.Nodup
  fr:∀a∈A,F a=none
  len:xs.length=Xs.length
  pl:∀s∈E,s.isAl=false
def Frm (K:PySem.W.Frag) (B:Hp) (σ:Sg) (H:Hp) (E:List Sl) (xs:List V) (Xs:List Sl):Prop:=∃F A,FrF K B F A σ H E xs Xs
def Sl.val:Sl→Option PyData
  | .sh d=>some d
  | .ow ds=>some (.list ds)
  | .tx ps=>some (.tuple (ps.map Pt.val))
  | .br d=>some d
  | _=>none
def look (E:List Sl):Sl→Option PyData
  | .al i=>(E[i]?).bind Sl.val
  | s=>s.val
def iF:Sl→Bool
  | .br _=>true
  | .tx _=>true
  | _=>false
def gT (E:List Sl):Sl→Bool
  | .al i=>(E[i]?).any iF
  | s=>iF s
def RpF (K:PySem.W.Frag) (F H:Hp) (v:V):PyData→Prop
  | .list ds=>∃a vs,v= .ref a∧SqL K H a vs∧RpA K F vs ds
  | d=>Rp K F v d
def nU (F H:Hp) (A:List Addr):Hp:=fun b=>if b∈A then H b else F b
theorem mv {F H:Hp} {A:List Addr} {b:Addr} (h:b∈A):nU F H A b=H b:=if_pos h
theorem jS {F H:Hp} {A:List Addr} {b:Addr} (h:b∉A):nU F H A b=F b:=if_neg h
section
variable {K:PySem.W.Frag} {B F:Hp} {A:List Addr} {σ:Sg} {H:Hp} {E:List Sl} {xs:List V} {Xs:List Sl} {v:V} {s:Sl} {d:PyData}
theorem RpF.of (h:Rp K F v d) (s:Same F H):RpF K F H v d:=by
  cases h with
  | lst h r=>exact ⟨_,_,rfl,s.seq h,r⟩
  | non=>exact .non
  | bl b=>exact .bl b
  | int i=>exact .int i
  | str x=>exact .str x
  | tup h r=>exact .tup h r
  | dct h r=>exact .dct h r
theorem SlOk.val {o:Option V} {A1:List Addr} (h:SlOk K F H σ o s A1) (hF:Same F H) (e:s.val=some d):∃v,o=some v∧Rp K H v d∧(iF s=false→RpF K F H v d):=by
  cases s with
  | no=>cases e
  | sh d'=>
    obtain ⟨rfl,v,rfl,r⟩:=h
    cases e
    exact ⟨v,rfl,r.same hF,fun _=>RpF.of r hF⟩
  | ow ds=>
    obtain ⟨l,vs,rfl,rfl,hl,r⟩:=h
    cases e
    exact ⟨_,rfl, .lst (SqL.of hl) (r.same hF),fun _=>⟨_,_,rfl,SqL.of hl,r⟩⟩
  | od kvs=>cases e
  | tx ps=>
    obtain ⟨t,vs,rfl,ht,r⟩:=h
    cases e
    exact ⟨_,rfl, .tup (SqT.of (hF _ _ ht)) (r.rp hF),fun z=>by cases z⟩
  | al i=>cases e
  | br d'=>
    obtain ⟨rfl,v,rfl,r⟩:=h
    cases e
    exact ⟨v,rfl,r,fun z=>by cases z⟩
theorem FrF.slen (h:FrF K B F A σ H E xs Xs):σ.length=E.length:=by
  have e:=h.sl.len
  have:=h.len
  simp only [List.length_append,List.length_map] at e
  omega
theorem FrF.var {i:Nat} (h:FrF K B F A σ H E xs Xs) (e:E[i]? =some s):∃o A1,σ[i]? =some o∧SlOk K F H σ o s A1:=by
  obtain ⟨o,A0,A1,A2,eA,eo,hp,_⟩:=h.sl.at (k:=Xs.length+i) (s:=s) (by rw [List.getElem?_append_right (by omega)];simpa using e)
  rw [List.getElem?_append_right (by rw [List.length_map,h.len];omega),List.length_map,h.len,Nat.add_sub_cancel_left] at eo
  exact ⟨o,A1,eo,hp⟩
theorem FrF.ext {k:Nat} (h:FrF K B F A σ H E xs Xs) (e:Xs[k]? =some s):∃v A1,xs[k]? =some v∧SlOk K F H σ (some v) s A1:=by
  have hk:k < Xs.length:=(List.getElem?_eq_some_iff.mp e).1
  obtain ⟨o,A0,A1,A2,eA,eo,hp,_⟩:=h.sl.at (k:=k) (s:=s) (by rw [List.getElem?_append_left hk];exact e)
  rw [List.getElem?_append_left (by rw [List.length_map,h.len];omega),List.getElem?_map] at eo
  cases q:xs[k]? with
  | none=>rw [q] at eo;cases eo
  | some v=>rw [q] at eo;cases eo;exact ⟨v,A1,rfl,hp⟩
theorem FrF.look {k:Nat} (h:FrF K B F A σ H E xs Xs) (e:Xs[k]? =some s) (q:look E s=some d):∃v,xs[k]? =some v∧Rp K H v d∧(gT E s=false→RpF K F H v d):=by
  obtain ⟨v,A1,ev,hs⟩:=h.ext e
  cases s with
  | al i=>
    obtain ⟨rfl,w,ew,hw⟩:=hs
    cases ew
    cases ei:E[i]? with
    | none=>simp [PL.look,ei] at q
    | some t=>
      obtain ⟨o,A2,eo,ht⟩:=h.var ei
      rw [hw] at eo
      cases eo
      obtain ⟨v',e',r,c⟩:=ht.val h.fh (d:=d) (by simpa [PL.look,ei] using q)
      cases e'
      exact ⟨v,ev,r,fun z=>c (by simpa [gT,ei] using z)⟩
  | no=>cases q
  | od kvs=>cases q
  | sh d'=>obtain ⟨v',e',r,c⟩:=hs.val h.fh q;cases e';exact ⟨v,ev,r,c⟩
  | ow ds=>obtain ⟨v',e',r,c⟩:=hs.val h.fh q;cases e';exact ⟨v,ev,r,c⟩
  | tx ps=>obtain ⟨v',e',r,c⟩:=hs.val h.fh q;cases e';exact ⟨v,ev,r,c⟩
  | br d'=>obtain ⟨v',e',r,c⟩:=hs.val h.fh q;cases e';exact ⟨v,ev,r,c⟩
theorem FrF.look0 (h:FrF K B F A σ H E (v::xs) (s::Xs)) (q:PL.look E s=some d):Rp K H v d∧(gT E s=false→RpF K F H v d):=by
  obtain ⟨v',e,r⟩:=h.look (k:=0) rfl q
  cases e
  exact r
theorem FrF.look1 {w:V} {t:Sl} (h:FrF K B F A σ H E (w::v::xs) (t::s::Xs)) (q:PL.look E s=some d):Rp K H v d∧(gT E s=false→RpF K F H v d):=by
  obtain ⟨v',e,r⟩:=h.look (k:=1) rfl q
  cases e
  exact r
theorem FrF.mutA (h:FrF K B F A σ H E xs Xs):∀a∈A,(∃us,H a=some (.lst us))∨∃us,H a=some (.dK us):=
  SAll.all (R:=fun a=>(∃us,H a=some (.lst us))∨∃us,H a=some (.dK us)) (fun _ _ _ q=>q.mut) h.sl
theorem FrF.newA {p:Addr} (h:FrF K B F A σ H E xs Xs) (hp:H p=none):p∉A:=fun hm=>by
  rcases h.mutA p hm with ⟨_,z⟩ | ⟨_,z⟩ <;> rw [hp] at z <;> cases z
theorem FrF.cold {u:V} {e:PyData} (h:FrF K B F A σ H E xs Xs) (r:Rp K H u e) (f:cD e=true):Rp K F u e:=(r.cold f).same h.tf
theorem FrF.coldA {us:List V} {es:List PyData} (h:FrF K B F A σ H E xs Xs) (r:RpA K H us es) (f:be es=true):RpA K F us es:=(r.cold f).same h.tf
theorem FrF.push (h:FrF K B F A σ H E xs Xs) (q:SlOk K F H σ (some v) s []):FrF K B F A σ H E (v::xs) (s::Xs):=
  ⟨h.bf,h.fh,h.tf, .cons (A:=[]) q h.sl,h.nd,h.fr,by simp [h.len],h.pl⟩
theorem FrF.pop (h:FrF K B F A σ H E (v::xs) (s::Xs)):∃A',FrF K B F A' σ H E xs Xs:=by
  obtain ⟨bf,fh,tf,sl,nd,fr,len,pl⟩:=h
  generalize hT:List.map some (v::xs)++σ=T at sl
  generalize hS:(s::Xs)++E=S at sl
  cases sl with
  | nil=>cases hS
  | cons q r=>
    injection hT with _ hT
    injection hS with _ hS
    subst hT hS
    exact ⟨_,bf,fh,tf,r,(List.nodup_append.mp nd).2.1,fun a ha=>fr a (List.mem_append_right _ ha),by simpa using len,pl⟩
theorem FrF.grow {H':Hp} (h:FrF K B F A σ H E xs Xs) (g:Same H H'):FrF K B (fun b=>if b∈A then none else H' b) A σ H' E xs Xs:=by
  have nF:∀b o,F b=some o→b∉A:=fun b o e hb=>by rw [h.fr b hb] at e;cases e
  have FF:Same F (fun b=>if b∈A then none else H' b):=fun b o e=>by
    show (if b∈A then none else H' b)=some o
    rw [if_neg (nF b o e)]
    exact g _ _ (h.fh _ _ e)
  have hA:∀b∈A,H' b=H b:=fun b hb=>by
    rcases h.mutA b hb with ⟨_,z⟩ | ⟨_,z⟩ <;> rw [z,g _ _ z]
  refine ⟨h.bf.trans FF,fun b o e=>?_,fun b o e=>?_,h.sl.mono fun o s C _ hC q=>q.stay FF (fun b hb=>hA b (hC b hb)) fun _=>g,h.nd,fun a ha=>if_pos ha,h.len,h.pl⟩
  · by_cases hb:b∈A
    · rw [if_pos hb] at e;cases e
    · rw [if_neg hb] at e;exact e
  · obtain ⟨e1,e2⟩:=Option.filter_eq_some_iff.mp e
    show (if b∈A then none else H' b)=some o
    by_cases hb:b∈A
    · rw [hA b hb] at e1
      rcases h.mutA b hb with ⟨_,z⟩ | ⟨_,z⟩ <;> rw [z] at e1 <;> cases e1 <;> cases e2
    · rw [if_neg hb];exact e1
theorem FrF.newl {p:Addr} {vs:List V} {ds:List PyData} (h:FrF K B F A σ H E xs Xs) (r:RpA K F vs ds) (hp:H p=none):FrF K B F (p::A) σ (upd H p (.lst vs)) E (.ref p::xs) (.ow ds::Xs):=by
  have g:Same H (upd H p (.lst vs)):=ft hp _
  have nA:=h.newA hp
  refine ⟨h.bf,h.fh.trans g,fun b o e=>?_, .cons (A:=[p]) ⟨p,vs,rfl,rfl,bx,r⟩ (h.sl.mono fun o s C _ hC q=>q.stay (Same.refl _) (fun b hb=>aH fun z=>nA (z▸hC b hb)) fun _=>g),List.nodup_cons.mpr ⟨nA,h.nd⟩,fun a ha=>?_,by simp [h.len],h.pl⟩
  · obtain ⟨e1,e2⟩:=Option.filter_eq_some_iff.mp e
    by_cases hb:b=p
    · subst hb;rw [bx] at e1;cases e1;cases e2
    · rw [aH hb] at e1;exact h.tf b o (iE e1 e2)
  · rcases List.mem_cons.mp ha with z | z
    · subst z;exact h.fh.free hp
    · exact h.fr a z
theorem FrF.newt {p:Addr} {vs:List V} {ds:List PyData} (h:FrF K B F A σ H E xs Xs) (r:RpA K F vs ds) (hp:H p=none):FrF K B (upd F p (.tup vs)) A σ (upd H p (.tup vs)) E (.ref p::xs) (.sh (.tuple ds)::Xs):=by
  have g:Same H (upd H p (.tup vs)):=ft hp _
  have nA:=h.newA hp
  have gF:Same F (upd F p (.tup vs)):=ft (h.fh.free hp) _
  refine ⟨h.bf.trans gF,fun b o e=>?_,fun b o e=>?_, .cons (A:=[]) ⟨rfl,_,rfl, .tup (.inl (.inl bx)) (r.same gF)⟩ (h.sl.mono fun o s C _ hC q=>q.stay gF (fun b hb=>aH fun z=>nA (z▸hC b hb)) fun _=>g),h.nd,fun a ha=>?_,by simp [h.len],h.pl⟩
  · by_cases hb:b=p
    · subst hb;rw [bx] at e ⊢;exact e
    · rw [aH hb] at e ⊢;exact h.fh _ _ e
  · obtain ⟨e1,e2⟩:=Option.filter_eq_some_iff.mp e
    by_cases hb:b=p
    · subst hb;rw [bx] at e1 ⊢;exact e1
    · rw [aH hb] at e1 ⊢;exact h.tf b o (iE e1 e2)
  · have ne:a≠p:=fun z=>nA (z▸ha)
    rw [aH ne];exact h.fr a ha
theorem FrF.mut {i:Nat} {ds:List PyData} (h:FrF K B F A σ H E xs Xs) (e:E[i]? =some (.ow ds)) (c:∀s∈Xs,s.isBr=false):
    ∃l vs,σ[i]? =some (some (.ref l))∧H l=some (.lst vs)∧RpA K F vs ds∧∀vs' ds',RpA K F vs' ds'→FrF K B F A σ (upd H l (.lst vs')) (E.set i (.ow ds')) xs Xs:=by
  obtain ⟨o,A0,A1,A2,eA,eo,hp,put⟩:=h.sl.at (k:=Xs.length+i) (s:= .ow ds) (by rw [List.getElem?_append_right (by omega)];simpa using e)
  rw [List.getElem?_append_right (by rw [List.length_map,h.len];omega),List.length_map,h.len,Nat.add_sub_cancel_left] at eo
  obtain ⟨l,vs,rfl,rfl,hl,r⟩:=hp
  refine ⟨l,vs,eo,hl,r,fun vs' ds' r'=>?_⟩
  have hlA:l∈A:=by rw [eA];simp
  have nl:∀b,b∈A0∨b∈A2→b≠l:=fun b hb z=>by
    subst z
    have nd:=h.nd
    rw [eA] at nd
    rcases hb with hb | hb
    · exact (List.nodup_append.mp nd).2.2 b hb b (by simp) rfl
    · exact (List.nodup_append.mp (List.nodup_append.mp nd).2.1).2.2 b (by simp) b hb rfl
  have lF:F l=none:=h.fr l hlA
  have z:=put (SlOk K F (upd H l (.lst vs')) σ) (some (.ref l)) (.ow ds') [l] ⟨l,vs',rfl,rfl,bx,r'⟩ fun o s C hs hC q=>q.stay (Same.refl _) (fun b hb=>aH (nl b (hC b hb))) fun z=>by
    rcases List.mem_append.mp hs with hs | hs
    · rw [c s hs] at z;cases z
    · have:=h.pl s hs
      cases s <;> simp [Sl.isAl,Sl.isBr] at this z
  have e3:(Xs++E).set (Xs.length+i) (.ow ds')=Xs++E.set i (.ow ds'):=by
    rw [List.set_append_right _ _ (by omega),Nat.add_sub_cancel_left]
  have e2:(List.map some xs++σ).set (Xs.length+i) (some (V.ref l))=List.map some xs++σ:=by
    rw [←h.len,List.set_append_right _ _ (by rw [List.length_map];omega),List.length_map,Nat.add_sub_cancel_left]
    congr 1
    exact List.ext_getElem? fun j=>by
      by_cases hj:i=j
      · subst hj
        rw [List.getElem?_set_self',eo];rfl
      · rw [List.getElem?_set_ne hj]
  rw [e2,e3,←eA] at z
  refine ⟨h.bf,fun b o q=>?_,?_,z,h.nd,h.fr,h.len,fun s hs=>?_⟩
  · rw [aH (fun z=>by rw [z,lF] at q;cases q)]
    exact h.fh _ _ q
  · rw [nS hl];exact h.tf
  · rcases List.mem_or_eq_of_mem_set hs with hs | hs
    · exact h.pl s hs
    · subst hs;rfl
theorem FrF.frzAt {k:Nat} (h:FrF K B F A σ H E xs Xs) (e:(Xs++E)[k]? =some s) (q:s.val=some d) (c:s.isAl=false):
    ∃F' A' v,(xs.map some++σ)[k]? =some (some v)∧Rp K F' v d∧Same B F'∧Same F' H∧Same (tups H) F'∧SAll (SlOk K F' H σ) (xs.map some++σ) ((Xs++E).set k (.sh d)) A'∧A'.Nodup∧∀a∈A',F' a=none:=by
  obtain ⟨o,A0,A1,A2,eA,eo,hp,put⟩:=h.sl.at e
  have nd:=h.nd
  rw [eA] at nd
  have nA1:∀b o,F b=some o→b∉A1:=fun b o e hb=>by
    have:=h.fr b (by rw [eA];simp [hb])
    rw [this] at e;cases e
  have FF:Same F (nU F H A1):=fun b o e=>by rw [jS (nA1 b o e)];exact e
  obtain ⟨v,rfl,r⟩:∃v,o=some v∧Rp K (nU F H A1) v d:=by
    cases s with
    | no=>cases q
    | od kvs=>cases q
    | al i=>cases c
    | br d'=>cases c
    | sh d'=>
      obtain ⟨rfl,v,rfl,r⟩:=hp
      cases q
      exact ⟨v,rfl,r.same FF⟩
    | ow ds=>
      obtain ⟨l,vs,rfl,rfl,hl,r⟩:=hp
      cases q
      exact ⟨_,rfl, .lst (SqL.of ((mv (by simp)).trans hl)) (r.same FF)⟩
    | tx ps=>
      obtain ⟨t,vs,rfl,ht,r⟩:=hp
      cases q
      refine ⟨_,rfl, .tup (SqT.of (FF _ _ ht)) ?_⟩
      have r':PtsOk K (nU F H A1) (nU F H A1) vs ps A1:=r.stay FF fun b hb=>mv hb
      exact r'.rp (Same.refl _)
  have e2:(List.map some xs++σ).set k (some v)=List.map some xs++σ:=List.ext_getElem? fun j=>by
    by_cases hj:k=j
    · subst hj
      rw [List.getElem?_set_self',eo];rfl
    · rw [List.getElem?_set_ne hj]
  have z:=put (SlOk K (nU F H A1) H σ) (some v) (.sh d) [] ⟨rfl,v,rfl,r⟩ fun o s C _ hC q=>q.stay FF (fun b _=>rfl) fun _=>Same.refl _
  rw [e2] at z
  refine ⟨nU F H A1,A0++A2,v,eo,r,h.bf.trans FF,fun b o e=>?_,fun b o e=>FF _ _ (h.tf _ _ e),by simpa using z,?_,fun a ha=>?_⟩
  · by_cases hb:b∈A1
    · rw [mv hb] at e;exact e
    · rw [jS hb] at e;exact h.fh _ _ e
  · exact List.Nodup.sublist (List.Sublist.append (List.Sublist.refl _) (List.sublist_append_right _ _)) nd
  · have hn:a∉A1:=fun hm=>by
      rcases List.mem_append.mp ha with z | z
      · exact (List.nodup_append.mp nd).2.2 a z a (by simp [hm]) rfl
      · exact (List.nodup_append.mp (List.nodup_append.mp nd).2.1).2.2 a hm a z rfl
    rw [jS hn]
    exact h.fr a (by rw [eA];rcases List.mem_append.mp ha with z | z <;> simp [z])
end
def frz (E:List Sl):Sl→Option (PyData×List Sl)
  | .sh d=>some (d,E)
  | .ow ds=>some (.list ds,E)
  | .tx ps=>some (.tuple (ps.map Pt.val),E)
  | .br d=>if cD d then some (d,E) else none
  | .al i=>match E[i]? with
    | some (.sh d)=>some (d,E)
    | some (.ow ds)=>some (.list ds,E.set i (.sh (.list ds)))
    | some (.tx ps)=>some (.tuple (ps.map Pt.val),E.set i (.sh (.tuple (ps.map Pt.val))))
    | _=>none
  | _=>none
section
variable {K:PySem.W.Frag} {B F:Hp} {A:List Addr} {σ:Sg} {H:Hp} {E E':List Sl} {xs:List V} {Xs:List Sl} {v:V} {s:Sl} {d:PyData}
theorem FrF.frzVar {i:Nat} (h:FrF K B F A σ H E xs Xs) (e:E[i]? =some s) (q:s.val=some d):∃F' A' v,σ[i]? =some (some v)∧Rp K F' v d∧FrF K B F' A' σ H (E.set i (.sh d)) xs Xs:=by
  obtain ⟨F',A',v,ev,r,b1,b2,b3,sl,nd,fr⟩:=h.frzAt (k:=Xs.length+i) (by rw [List.getElem?_append_right (by omega)];simpa using e) q (h.pl s (List.mem_of_getElem? e))
  rw [List.getElem?_append_right (by rw [List.length_map,h.len];omega),List.length_map,h.len,Nat.add_sub_cancel_left] at ev
  have e3:(Xs++E).set (Xs.length+i) (.sh d)=Xs++E.set i (.sh d):=by
    rw [List.set_append_right _ _ (by omega),Nat.add_sub_cancel_left]
  rw [e3] at sl
  refine ⟨F',A',v,ev,r,b1,b2,b3,sl,nd,fr,h.len,fun s hs=>?_⟩
  rcases List.mem_or_eq_of_mem_set hs with hs | hs
  · exact h.pl s hs
  · subst hs;rfl
theorem FrF.frz0 (h:FrF K B F A σ H E (v::xs) (s::Xs)) (q:PL.frz E s=some (d,E')):∃F' A',FrF K B F' A' σ H E' (v::xs) (.sh d::Xs):=by
  have key:s.val=some d→s.isAl=false→E=E'→∃F' A',FrF K B F' A' σ H E' (v::xs) (.sh d::Xs):=fun q' c e=>by
    subst e
    obtain ⟨F',A',v',ev,r,b1,b2,b3,sl,nd,fr⟩:=h.frzAt (k:=0) rfl q' c
    exact ⟨F',A',b1,b2,b3,sl,nd,fr,by simpa using h.len,h.pl⟩
  have al:∀i t,s= .al i→E[i]? =some t→t.val=some d→E'=E.set i (.sh d)→∃F' A',FrF K B F' A' σ H E' (v::xs) (.sh d::Xs):=fun i t es ei qt eE=>by
    subst es eE
    obtain ⟨v',A1,ev,hs⟩:=h.ext (k:=0) rfl
    cases ev
    obtain ⟨rfl,w,ew,hw⟩:=hs
    cases ew
    obtain ⟨F',A',w,ew,r,h'⟩:=h.frzVar ei qt
    rw [hw] at ew
    cases ew
    obtain ⟨A2,h2⟩:=h'.pop
    exact ⟨F',A2,h2.push ⟨rfl,_,rfl,r⟩⟩
  cases s with
  | no=>cases q
  | od kvs=>cases q
  | sh d'=>cases q;exact key rfl rfl rfl
  | ow ds=>cases q;exact key rfl rfl rfl
  | tx ps=>cases q;exact key rfl rfl rfl
  | br d'=>
    simp only [PL.frz] at q
    split at q
    · rename_i hf
      cases q
      obtain ⟨r,_⟩:=h.look0 (d:=d) rfl
      obtain ⟨A2,h2⟩:=h.pop
      exact ⟨F,A2,h2.push ⟨rfl,_,rfl,h.cold r hf⟩⟩
    · cases q
  | al i=>
    simp only [PL.frz] at q
    split at q
    · rename_i d' ei
      cases q
      refine al i _ rfl ei rfl ?_
      exact List.ext_getElem? fun j=>by
        by_cases hj:i=j
        · subst hj;rw [List.getElem?_set_self',ei];rfl
        · rw [List.getElem?_set_ne hj]
    · rename_i ds ei
      cases q
      exact al i _ rfl ei rfl rfl
    · rename_i ps ei
      cases q
      exact al i _ rfl ei rfl rfl
    · cases q
theorem FrF.store {i:Nat} (h:FrF K B F A σ H E (v::xs) (s::Xs)) (c:s.isAl=false) (cx:∀s∈Xs,s.isAl=false) (hi:i < E.length):∃A',FrF K B F A' (σ.set i (some v)) H (E.set i s) xs Xs:=by
  have hlen:=h.len
  have hsl:=h.slen
  obtain ⟨bf,fh,tf,sl,nd,fr,len,pl⟩:=h
  generalize hT:List.map some (v::xs)++σ=T at sl
  generalize hS:(s::Xs)++E=S at sl
  cases sl with
  | nil=>cases hS
  | cons q r=>
    rename_i A1 _ _ A2
    injection hT with h1 hT
    injection hS with h2 hS
    subst h1 h2 hT hS
    have len':xs.length=Xs.length:=by simpa using len
    have r:SAll (SlOk K F H σ) (List.map some xs++σ) (Xs++E) A2:=r
    obtain ⟨t,et⟩:∃t,E[i]? =some t:=⟨E[i],List.getElem?_eq_getElem hi⟩
    obtain ⟨o,C0,C1,C2,eA,eo,hp,put⟩:=r.at (k:=Xs.length+i) (s:=t) (by rw [List.getElem?_append_right (by omega)];simpa using et)
    have all:∀s'∈Xs++E,s'.isAl=false:=fun s' hs=>(List.mem_append.mp hs).elim (cx s') (pl s')
    have chg:∀(o:Option V) (s':Sl) (C:List Addr),s'.isAl=false→SlOk K F H σ o s' C→SlOk K F H (σ.set i (some v)) o s' C:=fun o s' C hc z=>by
      cases s' <;> first | exact z | cases hc
    have z:=put (SlOk K F H (σ.set i (some v))) (some v) s A1 (chg _ _ _ c q) fun o s' C hs _ z=>chg o s' C (all s' hs) z
    have e3:(Xs++E).set (Xs.length+i) s=Xs++E.set i s:=by
      rw [List.set_append_right _ _ (by omega),Nat.add_sub_cancel_left]
    have e2:(List.map some xs++σ).set (Xs.length+i) (some v)=List.map some xs++σ.set i (some v):=by
      rw [←len',List.set_append_right _ _ (by rw [List.length_map];omega),List.length_map,Nat.add_sub_cancel_left]
    rw [e2,e3] at z
    refine ⟨_,bf,fh,tf,z,?_,fun a ha=>fr a ?_,len',fun s' hs=>?_⟩
    · rw [eA] at nd
      have p:(C0++(A1++C2)).Perm (A1++(C0++C2)):=by
        rw [←List.append_assoc,←List.append_assoc]
        exact List.Perm.append_right _ List.perm_append_comm
      refine p.nodup_iff.mpr (List.Nodup.sublist ?_ nd)
      exact List.Sublist.append (List.Sublist.refl _) (List.Sublist.append (List.Sublist.refl _) (List.sublist_append_right _ _))
    · rw [eA]
      simp only [List.mem_append] at ha ⊢
      rcases ha with z | z | z
      · exact .inr (.inl z)
      · exact .inl z
      · exact .inr (.inr (.inr z))
    · rcases List.mem_or_eq_of_mem_set hs with hs | hs
      · exact pl s' hs
      · subst hs;exact c
end
end PL
namespace PL
open PySem L2 Nh
abbrev aS:=List Sl→Option (Sl×List Sl)
abbrev iG:=List Sl→Option (Bool×List Sl)
abbrev o8:=List Sl→Option (List Sl×List Sl)
abbrev jx:=List Sl→Option (List PyData×List Sl)
inductive Fl where
  | nx | bk | ct | rt (r:Sl)
abbrev dE:=List Sl→Option (List Sl×Fl)
abbrev Calm (Xs:List Sl):Prop:=∀s∈Xs,s.isBr=false
abbrev Still (Xs:List Sl):Prop:=∀s∈Xs,s.isAl=false
theorem Still.calm {Xs:List Sl} (h:Still Xs):Calm Xs:=fun s hs=>by
  have:=h s hs
  cases s <;> simp [Sl.isAl,Sl.isBr] at this ⊢
theorem Still.nil {Xs:List Sl} (h:Xs=[]):Still Xs:=fun s hs=>by subst h;cases hs
theorem Calm.nil {Xs:List Sl} (h:Xs=[]):Calm Xs:=(Still.nil h).calm
theorem Calm.cons {Xs:List Sl} {s:Sl} (h:Calm Xs) (hs:s.isBr=false):Calm (s::Xs):=fun t ht=>(List.mem_cons.mp ht).elim (fun e=>e▸hs) (h t)
def rd (K:PySem.W.Frag) (m:Bool) (f:aS):TE:=fun σ H Q=>∃B E xs Xs r E',Frm K B σ H E xs Xs∧(m=true→Calm Xs)∧f E=some (r,E')∧∀v H',Frm K B σ H' E' (v::xs) (r::Xs)→Q v H'
def rt (K:PySem.W.Frag) (m:Bool) (f:iG):TT:=fun σ H Q=>∃B E xs Xs b E',Frm K B σ H E xs Xs∧(m=true→Calm Xs)∧f E=some (b,E')∧∀H',Frm K B σ H' E' xs Xs→Q b H'
def ra (K:PySem.W.Frag) (m:Bool) (f:o8):TA:=fun σ H Q=>∃B E xs Xs rs E',Frm K B σ H E xs Xs∧(m=true→Calm Xs)∧f E=some (rs,E')∧∀vs H',vs.length=rs.length→Frm K B σ H' E' (vs.reverse++xs) (rs.reverse++Xs)→Q vs H'
def BW (K:PySem.W.Frag) (m:Bool) (f:jx):TA:=fun σ H Q=>∃B E xs Xs ds E',Frm K B σ H E xs Xs∧(m=true→Calm Xs)∧f E=some (ds,E')∧∀vs H',vs.length=ds.length→Frm K B σ H' E' (vs.reverse++xs) (ds.reverse.map .sh++Xs)→Q vs H'
def rs (K:PySem.W.Frag) (g:dE):TS:=fun D σ H=>∃B E xs Xs E' fl,Frm K B σ H E xs Xs∧Xs=[]∧g E=some (E',fl)∧match fl with
  | .nx=>∀σ' H',Frm K B σ' H' E' xs Xs→D.nx σ' H'
  | .bk=>∀σ' H',Frm K B σ' H' E' xs Xs→D.bk σ' H'
  | .ct=>∀σ' H',Frm K B σ' H' E' xs Xs→D.ct σ' H'
  | .rt r=>∀σ' v H',Frm K B σ' H' E' (v::xs) (r::Xs)→D.rt v H'
def EX (X:Cx) (e:Expr) (m:Bool) (f:aS):Prop:=PE X e (rd X.K m f)
def TX (X:Cx) (e:Expr) (m:Bool) (f:iG):Prop:=PT X e (rt X.K m f)
def WX (X:Cx) (e:Expr) (m:Bool) (f:iG):Prop:=PW X e (rt X.K m f)
def AX (X:Cx) (es:List Expr) (m:Bool) (f:o8):Prop:=PA X es (ra X.K m f)
def DX (X:Cx) (es:List Expr) (m:Bool) (f:jx):Prop:=PA X es (BW X.K m f)
def SX (X:Cx) (s:Stmt) (g:dE):Prop:=PS X s (rs X.K g)
def rX (X:Cx) (s:List Stmt) (g:dE):Prop:=PSs X s (rs X.K g)
section
variable {X:Cx}
theorem bA {e:Expr} {t t':TE} (h:PE X e t) (k:∀σ H Q,t' σ H Q→t σ H Q):PE X e t':=fun pins s σ H Q I q=>h pins s σ H Q I (k σ H Q q)
theorem mw {e:Expr} {t t':TT} (h:PT X e t) (k:∀σ H Q,t' σ H Q→t σ H Q):PT X e t':=fun pins s σ H Q I q=>h pins s σ H Q I (k σ H Q q)
theorem uc {e:Expr} {t t':TT} (h:PW X e t) (k:∀σ H Q,t' σ H Q→t σ H Q):PW X e t':=fun whole pins s σ H Q I q=>h whole pins s σ H Q I (k σ H Q q)
theorem mz {es:List Expr} {t t':TA} (h:PA X es t) (k:∀σ H Q,t' σ H Q→t σ H Q):PA X es t':=fun pos pins s σ H Q I q=>h pos pins s σ H Q I (k σ H Q q)
theorem hO {st:Stmt} {t t':TS} (h:PS X st t) (k:∀D σ H,t' D σ H→t D σ H):PS X st t':=fun pins s σ H D I q=>h pins s σ H D I (k D σ H q)
theorem qJ {st:List Stmt} {t t':TS} (h:PSs X st t) (k:∀D σ H,t' D σ H→t D σ H):PSs X st t':=fun pins s σ H D I q=>h pins s σ H D I (k D σ H q)
end
def xr:PyData→Option V
  | .none=>some .non
  | .bool b=>some (.bl b)
  | .int i=>some (.int i)
  | .str x=>some (.str x)
  | _=>none
theorem jT {K:PySem.W.Frag} {H:Hp} {d:PyData} {v:V} (h:xr d=some v):Rp K H v d:=by
  cases d <;> simp [xr] at h <;> subst h <;> constructor
def aa (i:Nat):aS:=fun E=>match E[i]? with
  | some (.sh d)=>some (.sh d,E)
  | some (.ow _)=>some (.al i,E)
  | some (.od _)=>some (.al i,E)
  | some (.tx _)=>some (.al i,E)
  | _=>none
def pC (d:PyData):aS:=fun E=>some (.sh d,E)
section
variable {X:Cx} {K:PySem.W.Frag}
theorem ab (i:Nat) {x:Str} {pos:Pos} (hN:X.N[i]? =some x:=by rfl) (hv:zG X.env.scope x:=by first | exact Or.inl rfl | exact Or.inr (Or.inl rfl) | exact Or.inr (Or.inr rfl)) (hd:(x == ("__debug__":Str))=false:=by decide)
    (hcd:(x == ("__classdict__":Str))=false:=by decide):EX X (.Name x pos) false (aa i):=by
  refine bA (pc hN hv hd hcd) fun σ H Q h=>?_
  obtain ⟨B,E,xs,Xs,r,E',⟨F,A,fr⟩,_,e,q⟩:=h
  unfold aa at e
  split at e
  · rename_i d ei
    cases e
    obtain ⟨o,A1,eo,rfl,v,rfl,rp⟩:=fr.var ei
    exact ⟨v,eo,q v H ⟨F,A,fr.push ⟨rfl,v,rfl,rp⟩⟩⟩
  · rename_i ds ei
    cases e
    obtain ⟨o,A1,eo,l,vs,rfl,_⟩:=fr.var ei
    exact ⟨_,eo,q _ H ⟨F,A,fr.push ⟨rfl,_,rfl,eo⟩⟩⟩
  · rename_i ds ei
    cases e
    obtain ⟨o,A1,eo,l,vs,A2,rfl,_⟩:=fr.var ei
    exact ⟨_,eo,q _ H ⟨F,A,fr.push ⟨rfl,_,rfl,eo⟩⟩⟩
  · rename_i ds ei
    cases e
    obtain ⟨o,A1,eo,l,vs,rfl,_⟩:=fr.var ei
    exact ⟨_,eo,q _ H ⟨F,A,fr.push ⟨rfl,_,rfl,eo⟩⟩⟩
  · cases e
theorem v_ {e:Expr} {v:V} (d:PyData) (h:PE X e (tC v)) (hd:xr d=some v:=by rfl):EX X e false (pC d):=by
  refine bA h fun σ H Q h=>?_
  obtain ⟨B,E,xs,Xs,r,E',⟨F,A,fr⟩,_,e,q⟩:=h
  cases e
  exact q v H ⟨F,A,fr.push ⟨rfl,v,rfl,jT hd⟩⟩
theorem ao {i j pos}:EX X (.Constant (.int i) j pos) false (pC (.int i)):=v_ _ xP
theorem nV {b j pos}:EX X (.Constant (.bool b) j pos) false (pC (.bool b)):=v_ _ zH
theorem yz {j pos}:EX X (.Constant .none j pos) false (pC .none):=v_ _ xQ
theorem hZ {x j pos}:EX X (.Constant (.str x) j pos) false (pC (.str x)):=v_ _ tQ
end
abbrev P2:=List Sl→Sl→Sl→Option (Sl×List Sl)
def gi (K:PySem.W.Frag) (r:R2) (p:P2):Prop:=∀{B F:Hp} {A:List Addr} {σ:Sg} {H:Hp} {E:List Sl} {xs:List V} {Xs:List Sl} {v1 v2:V} {s1 s2 res:Sl} {E':List Sl} {Q:VK},
  FrF K B F A σ H E (v2::v1::xs) (s2::s1::Xs)→p E s1 s2=some (res,E')→(∀v H',Frm K B σ H' E' (v::xs) (res::Xs)→Q v H')→r v1 v2 H Q
def af (p:P2) (m2:Bool) (f g:aS):aS:=fun E=>(f E).bind fun a=>if m2&&a.1.isBr then none else (g a.2).bind fun b=>p b.2 a.1 b.1
theorem mB {K:PySem.W.Frag} {r:R2} {p:P2} (hp:gi K r p) {m1 m2:Bool} {f g:aS} {σ:Sg} {H:Hp} {Q:VK} (h:rd K (m1||m2) (af p m2 f g) σ H Q):zR r (rd K m1 f) (rd K m2 g) σ H Q:=by
  obtain ⟨B,E,xs,Xs,res,E',fr,c,e,q⟩:=h
  obtain ⟨⟨s1,E1⟩,e1,e⟩:=Option.bind_eq_some_iff.mp e
  by_cases hb:(m2&&s1.isBr)=true
  · rw [if_pos hb] at e;cases e
  rw [if_neg hb] at e
  obtain ⟨⟨s2,E2⟩,e2,e⟩:=Option.bind_eq_some_iff.mp e
  refine ⟨B,E,xs,Xs,s1,E1,fr,fun z=>c (by simp [z]),e1,fun v1 H1 fr1=>?_⟩
  refine ⟨B,E1,v1::xs,s1::Xs,s2,E2,fr1,fun z=>?_,e2,fun v2 H2 fr2=>?_⟩
  · refine Calm.cons (c (by simp [z])) ?_
    cases hs:s1.isBr with
    | false=>rfl
    | true=>exact absurd (by simp [z,hs]) hb
  · obtain ⟨F,A,fr2⟩:=fr2
    exact hp fr2 e q
def eY (op:PyData→PyData→Option PyData):P2:=fun E s1 s2=>(look E s1).bind fun d1=>(look E s2).bind fun d2=>(op d1 d2).map fun d=>(.sh d,E)
theorem FrF.res2 {K:PySem.W.Frag} {B F:Hp} {A:List Addr} {σ:Sg} {H:Hp} {E:List Sl} {xs:List V} {Xs:List Sl} {v1 v2 v:V} {s1 s2 s:Sl} (h:FrF K B F A σ H E (v2::v1::xs) (s2::s1::Xs)) (q:SlOk K F H σ (some v) s []):Frm K B σ H E (v::xs) (s::Xs):=by
  obtain ⟨A1,h⟩:=h.pop
  obtain ⟨A2,h⟩:=h.pop
  exact ⟨F,A2,h.push q⟩
theorem gj {K:PySem.W.Frag} {r:R2} {op:PyData→PyData→Option PyData} (h:∀(d1 d2 d:PyData) (v1 v2:V) (H:Hp) (Q:VK),op d1 d2=some d→Rp K H v1 d1→Rp K H v2 d2→∃v,xr d=some v∧(Q v H→r v1 v2 H Q)):gi K r (eY op):=by
  intro B F A σ H E xs Xs v1 v2 s1 s2 res E' Q fr e q
  obtain ⟨d1,e1,e⟩:=Option.bind_eq_some_iff.mp e
  obtain ⟨d2,e2,e⟩:=Option.bind_eq_some_iff.mp e
  obtain ⟨d,e3,e⟩:=Option.map_eq_some_iff.mp e
  cases e
  obtain ⟨v,hv,k⟩:=h d1 d2 d v1 v2 H Q e3 (fr.look1 e1).1 (fr.look0 e2).1
  exact k (q v H (fr.res2 ⟨rfl,v,rfl,jT hv⟩))
section
variable {X:Cx} {a b:Expr} {m1 m2:Bool} {f g:aS} {pos:Pos}
theorem iH {op:Operator} {r:R2} {p:P2} (ho:OpR X (binaryOp op) r) (hp:gi X.K r p) (ha:EX X a m1 f) (hb:EX X b m2 g):EX X (.BinOp a op b pos) (m1||m2) (af p m2 f g):=bA (zS ho ha hb) fun _ _ _ h=>mB hp h
theorem pB {op:CmpOp} {r:R2} {p:P2} (ho:OpR X (compareOp op) r) (hp:gi X.K r p) (ha:EX X a m1 f) (hb:EX X b m2 g) (hm:behindInMarks op b=false):EX X (.Compare a [op] [b] pos) (m1||m2) (af p m2 f g):=bA (vS ho ha hb hm) fun _ _ _ h=>mB hp h
def cP (f:aS):iG:=fun E=>(f E).bind fun a=>match a.1 with
  | .sh (.bool b)=>some (b,a.2)
  | _=>none
theorem ud {K:PySem.W.Frag} {m:Bool} {f:aS} {σ:Sg} {H:Hp} {Q:Bool→Hp→Prop} (h:rt K m (cP f) σ H Q):rd K m f σ H (fun x H'=>∃k,x= .bl k∧Q k H'):=by
  obtain ⟨B,E,xs,Xs,b,E',fr,c,e,q⟩:=h
  obtain ⟨⟨s,E1⟩,e1,e⟩:=Option.bind_eq_some_iff.mp e
  refine ⟨B,E,xs,Xs,s,E1,fr,c,e1,fun v H' ⟨F,A,fr'⟩=>?_⟩
  simp only at e
  split at e
  · cases e
    obtain ⟨r,_⟩:=fr'.look0 (d:= .bool b) rfl
    cases r
    obtain ⟨A',fr2⟩:=fr'.pop
    exact ⟨b,rfl,q H' ⟨F,A',fr2⟩⟩
  · cases e
theorem jU {op:CmpOp} {r:R2} {p:P2} (ho:OpR X (compareOp op) r) (hp:gi X.K r p) (ha:EX X a m1 f) (hb:EX X b m2 g) (hm:behindInMarks op b=false):TX X (.Compare a [op] [b] pos) (m1||m2) (cP (af p m2 f g)):=by
  refine mw (vT ho ha hb hm) fun σ H Q h=>?_
  exact mB hp (ud h)
end
def yA:Int:=2 ^ 20000
def e8 (i j:Int):Bool:=decide (-(2 ^ 64) < i∧i < 2 ^ 64)||decide (-(2 ^ 64) < j∧j < 2 ^ 64)||decide (-yA < i∧i < yA∧ -yA < j∧j < yA)
def jV (j:Int):Bool:=decide (0 < j∧j < 2 ^ 200)
def mC (C:Int→Int→Bool) (g:Int→Int→PyData):PyData→PyData→Option PyData
  | .int i, .int j=>if C i j then some (g i j) else none
  | _,_=>none
abbrev wa (C:Int→Int→Bool) (g:Int→Int→V):R2:=rI (fun i j=>C i j=true) g
theorem h7 {K:PySem.W.Frag} {C:Int→Int→Bool} {g:Int→Int→PyData} {g':Int→Int→V} (hg:∀i j,xr (g i j)=some (g' i j)):gi K (wa C g') (eY (mC C g)):=by
  refine gj fun d1 d2 d v1 v2 H Q e r1 r2=>?_
  unfold mC at e
  split at e
  · split at e
    · cases e
      cases r1
      cases r2
      rename_i hC
      exact ⟨_,hg _ _,fun q=>⟨_,_,rfl,rfl,hC,q⟩⟩
    · cases e
  · cases e
section
variable {X:Cx}
theorem jy {i:Int} (h1: -yA < i) (h2:i < yA):Builtin.Int.intBits i≤2 ^ 20:=by
  unfold yA at h1 h2
  have h:i.natAbs < 2 ^ 20000:=by
    have e:((2 ^ 20000:Nat):Int)=2 ^ 20000:=Int.natCast_pow 2 20000
    generalize (2 ^ 20000:Int)=z at h1 h2 e
    generalize (2 ^ 20000:Nat)=y at e ⊢
    omega
  unfold Builtin.Int.intBits
  split
  · exact Nat.zero_le _
  · rename_i hz
    have hz':i≠0:=by simpa using hz
    have:i.natAbs.log2 < 20000:=(Nat.log2_lt (by omega)).mpr h
    omega
theorem ue {i j:Int} (h:e8 i j=true):PySem.IntMulOk i j:=by
  unfold e8 at h
  simp only [Bool.or_eq_true,decide_eq_true_eq] at h
  rcases h with (h | h) | h
  · exact CMul.ok (.inl h)
  · exact CMul.ok (.inr h)
  · exact PySem.IntMulOk.of_bits (jy h.1 h.2.1) (jy h.2.2.1 h.2.2.2)
end
end PL
namespace PL
open PySem L2 Nh PyProof.Rows
abbrev i4:=L2.St
section
variable {X:Cx}
theorem OpR.or {f:Value→Value→Sem Value} {r r':R2} (h:OpR X f r) (h':OpR X f r'):OpR X f (fun x y H Q=>r x y H Q∨r' x y H Q):=by
  intro pins s σ H x y v u Q I rx ry q
  rcases q with q | q
  · exact h pins s σ H x y v u Q I rx ry q
  · exact h' pins s σ H x y v u Q I rx ry q
theorem OpR.imp {f:Value→Value→Sem Value} {r r':R2} (h:OpR X f r) (k:∀x y H Q,r' x y H Q→r x y H Q):OpR X f r':=fun pins s σ H x y v u Q I rx ry q=>h pins s σ H x y v u Q I rx ry (k _ _ _ _ q)
def xt (K:PySem.W.Frag):R2:=fun x y H Q=>∃l b xs zs,x= .ref l∧y= .ref b∧SqL K H l xs∧SqL K H b zs∧xs.length+zs.length≤sizeLine∧∀p,H p=none→Q (.ref p) (upd H p (.lst (xs++zs)))
theorem wb:OpR X (binaryOp .Add) (xt X.K):=by
  intro pins s σ H x y v u Q I rx ry h
  obtain ⟨l,b,xs,zs,rfl,rfl,hH,hB,hz,q⟩:=h
  cases rx
  cases ry
  obtain ⟨its,r,p1,z1⟩:=I.list hH
  obtain ⟨its2,r2,p2,z2⟩:=I.list hB
  obtain ⟨⟨cls,dd,data,sl⟩,ho,hc,n,hd⟩:=p1.isList
  obtain ⟨⟨cls2,dd2,data2,sl2⟩,ho2,hc2,n2,xp⟩:=p2.isList
  simp only at hc hd hc2 xp
  subst hc hd hc2 xp
  have l1:=r.length
  have l2:=r2.length
  refine concat_meets ⟨_,ho,rfl⟩ ⟨_,ho2,rfl⟩ noFill_list_add seq_list_add PySem.F.slot_list_add PySem.F.entry_list_add (PySem.F.args_list_add_2 _ _) (list_addW l b its.toArray its2.toArray n n2 dd dd2 sl sl2 (by simp only [List.size_toArray];omega)) ⟨ho,ho2,?_⟩
  have ea:its.toArray++its2.toArray=(its++its2).toArray:=by simp
  rw [ea]
  exact ⟨.ref _,_,I.lnew (t':=s.toks) (r.append r2) (by rw [List.length_append];omega),rfl,q _ I.fresh⟩
def xu (K:PySem.W.Frag):R2:=fun x y H Q=>∃l k xs,x= .ref l∧y= .int k∧SqL K H l xs∧ -(2 ^ 63)≤k∧k < 2 ^ 63∧xs.length*k.toNat≤sizeLine∧
  ∀p,H p=none→Q (.ref p) (upd H p (.lst (List.replicate k.toNat xs).flatten))
theorem wc:OpR X (binaryOp .Mult) (xu X.K):=by
  intro pins s σ H x y v u Q I rx ry h
  obtain ⟨l,k,xs,rfl,rfl,hH,h1,h2,hz,q⟩:=h
  cases rx
  obtain ⟨t,rfl⟩:=ry
  obtain ⟨its,r,p1,z1⟩:=I.list hH
  obtain ⟨⟨cls,d,data,sl⟩,ho,hcl,n,hd⟩:=p1.isList
  simp only at hcl hd
  subst hcl hd
  have l1:=r.length
  have hsz:its.toArray.size*k.toNat≤2 ^ 24:=by rw [List.size_toArray,←l1];exact hz
  refine wpAny_binaryOp_repeat_ref (T:="list") (U:="int") (by decide) ⟨_,ho,rfl⟩ (fun s'=>typeIs_int s' k t) noFill_list_mul F.fills_int_mul F.slot_int_rmul repeat_list F.slot_int_index.lookup
    (call_meets F.slot_int_rmul (typeIs_int s k t) F.entry_int_rmul (F.args_int_rmul_2 _ _) (lm_int_rmul_list_any k t l its.toArray n d sl)
      ⟨ho,rfl,⟨_,ho,rfl⟩,call_meets F.slot_list_mul ⟨_,ho,rfl⟩ F.entry_list_mul (F.args_list_mul_2 _ _)
        (lm_list_mul_any l its.toArray n d sl k t (by simp [Builtin.List.listFitsIndex];omega) (by omega) (by simp [Builtin.List.listTooLong,sizeLine];omega))
        ⟨ho,?_⟩⟩)
  rw [listMul_foldl_if]
  exact ⟨.ref _,_,I.lnew (t':=s.toks) (r.rep k.toNat) (by rw [v7,Nat.mul_comm];exact hz),rfl,q _ I.fresh⟩
end
def bj:P2:=fun E s1 s2=>(look E s1).bind fun d1=>(look E s2).bind fun d2=>match d1,d2 with
  | .int i, .int j=>some (.sh (.int (i+j)),E)
  | .str a, .str b=>if a.length+b.length≤1000000 then some (.sh (.str (a++b)),E) else none
  | .list a, .list b=>if decide (a.length+b.length≤1000000)&&(!gT E s1||be a)&&(!gT E s2||be b) then some (.ow (a++b),E) else none
  | _,_=>none
theorem small {n:Nat} (h:n≤1000000):n < sizeLine:=Nat.lt_of_le_of_lt h (by rw [sizeLine_eq];decide)
theorem eC {n:Nat} (h:n≤1000000):n≤sizeLine:=Nat.le_of_lt (small h)
section
variable {K:PySem.W.Frag} {B F:Hp} {A:List Addr} {σ:i4} {H:Hp} {E:List Sl} {xs:List V} {Xs:List Sl} {v:V} {s:Sl} {ds:List PyData}
theorem FrF.items {k:Nat} (h:FrF K B F A σ H E xs Xs) (e:Xs[k]? =some s) (q:PL.look E s=some (.list ds)) (c:(!gT E s||be ds)=true):∃a vs,xs[k]? =some (.ref a)∧SqL K H a vs∧RpA K F vs ds:=by
  obtain ⟨v,ev,r,f⟩:=h.look e q
  cases hh:gT E s with
  | false=>
    obtain ⟨a,vs,rfl,h1,h2⟩:=f hh
    exact ⟨a,vs,ev,h1,h2⟩
  | true=>
    rw [hh] at c
    cases r with
    | lst h1 h2=>exact ⟨_,_,ev,h1,h.coldA h2 (by simpa using c)⟩
theorem FrF.res2l {v1 v2:V} {s1 s2:Sl} {vs:List V} (h:FrF K B F A σ H E (v2::v1::xs) (s2::s1::Xs)) (r:RpA K F vs ds) {p:Addr} (hp:H p=none):Frm K B σ (upd H p (.lst vs)) E (.ref p::xs) (.ow ds::Xs):=by
  obtain ⟨A1,h⟩:=h.pop
  obtain ⟨A2,h⟩:=h.pop
  exact ⟨F,_,h.newl r hp⟩
end
abbrev xv (K:PySem.W.Frag):R2:=fun x y H Q=>(∃i j,x= .int i∧y= .int j∧Q (.int (i+j)) H)∨(∃i j,x= .str i∧y= .str j∧i.length+j.length≤sizeLine∧Q (.str (i++j)) H)∨xt K x y H Q
theorem wd {X:Cx}:OpR X (binaryOp .Add) (xv X.K):=OpR.or yd (OpR.or pk wb)
theorem wf {K:PySem.W.Frag}:gi K (xv K) bj:=by
  intro B F A σ H E xs Xs v1 v2 s1 s2 res E' Q fr e q
  obtain ⟨d1,e1,e⟩:=Option.bind_eq_some_iff.mp e
  obtain ⟨d2,e2,e⟩:=Option.bind_eq_some_iff.mp e
  have r1:=(fr.look1 e1).1
  have r2:=(fr.look0 e2).1
  split at e
  · cases e;cases r1;cases r2
    exact .inl ⟨_,_,rfl,rfl,q _ _ (fr.res2 ⟨rfl,_,rfl, .int _⟩)⟩
  · split at e
    · rename_i hl
      cases e;cases r1;cases r2
      exact .inr (.inl ⟨_,_,rfl,rfl,eC hl,q _ _ (fr.res2 ⟨rfl,_,rfl, .str _⟩)⟩)
    · cases e
  · split at e
    · rename_i hc
      cases e
      simp only [Bool.and_eq_true,decide_eq_true_eq] at hc
      obtain ⟨a1,u1,x1,q1,i1⟩:=fr.items (k:=1) rfl e1 hc.1.2
      obtain ⟨a2,u2,x2,q2,i2⟩:=fr.items (k:=0) rfl e2 hc.2
      cases x1;cases x2
      have l1:=i1.len
      have l2:=i2.len
      exact .inr (.inr ⟨_,_,_,_,rfl,rfl,q1,q2,eC (by omega),fun p hp=>q _ _ (fr.res2l (i1.append i2) hp)⟩)
    · cases e
  · cases e
def pD:P2:=eY (mC (fun _ _=>true) fun i j=> .int (i - j))
def c_:P2:=eY (mC (fun _ j=>jV j) fun i j=> .int (i / j))
def cJ:P2:=eY (mC (fun _ j=>decide (0 < j)) fun i j=> .int (i % j))
def nW:P2:=eY (mC (fun i j=>decide (0≤j∧j≤1000000∧ -(2 ^ 64) < i∧i < 2 ^ 64)) fun i j=> .int (i ^ j.toNat))
section
variable {X:Cx}
theorem wg:OpR X (binaryOp .Sub) (wa (fun _ _=>true) fun i j=> .int (i - j)):=OpR.imp ye fun x y H Q ⟨i,j,a,b,_,q⟩=>⟨i,j,a,b,q⟩
theorem uf:OpR X (binaryOp .FloorDiv) (wa (fun _ j=>jV j) fun i j=> .int (i / j)):=zD fun i j _ _ _ _ _ hc q=>by
  obtain ⟨h1,h2⟩:=of_decide_eq_true hc
  have h3:j.natAbs.log2 < 9000:=by
    have:j.natAbs < 2 ^ 200:=by omega
    have:=(Nat.log2_lt (n:=j.natAbs) (k:=200) (by omega)).mpr this
    omega
  exact floordiv_int (by omega) (by rw [Int.fdiv_eq_ediv_of_nonneg i (by omega)];exact q) (.inl (PyProof.noPylong_of_log2 h3))
theorem wj:OpR X (binaryOp .Mod) (wa (fun _ j=>decide (0 < j)) fun i j=> .int (i % j)):=OpR.imp yf fun x y H Q ⟨i,j,a,b,c,q⟩=>⟨i,j,a,b,of_decide_eq_true c,q⟩
theorem qK {i j:Int} (c:0≤j∧j≤1000000∧ -(2 ^ 64) < i∧i < 2 ^ 64):yc i j:=⟨c.1,c.2.1,by omega⟩
theorem wk:OpR X (binaryOp .Pow) (wa (fun i j=>decide (0≤j∧j≤1000000∧ -(2 ^ 64) < i∧i < 2 ^ 64)) fun i j=> .int (i ^ j.toNat)):=OpR.imp yg fun x y H Q ⟨i,j,a,b,c,q⟩=>⟨i,j,a,b,qK (of_decide_eq_true c),q⟩
end
def gU:P2:=fun E s1 s2=>(look E s1).bind fun d1=>(look E s2).bind fun d2=>match d1,d2 with
  | .int i, .int j=>if e8 i j then some (.sh (.int (i*j)),E) else none
  | .list a, .int k=>if decide (a.length*k.toNat≤1000000∧ -1000000≤k∧k≤1000000)&&(!gT E s1||be a) then some (.ow (List.replicate k.toNat a).flatten,E) else none
  | _,_=>none
abbrev xw (K:PySem.W.Frag):R2:=fun x y H Q=>wa e8 (fun i j=> .int (i*j)) x y H Q∨xu K x y H Q
theorem wm {X:Cx}:OpR X (binaryOp .Mult) (xw X.K):=OpR.or (zD fun _ _ _ _ _ _ _ hc q=>mul_int q (ue hc)) wc
theorem wo {K:PySem.W.Frag}:gi K (xw K) gU:=by
  intro B F A σ H E xs Xs v1 v2 s1 s2 res E' Q fr e q
  obtain ⟨d1,e1,e⟩:=Option.bind_eq_some_iff.mp e
  obtain ⟨d2,e2,e⟩:=Option.bind_eq_some_iff.mp e
  have r1:=(fr.look1 e1).1
  have r2:=(fr.look0 e2).1
  split at e
  · split at e
    · rename_i hm
      cases e;cases r1;cases r2
      exact .inl ⟨_,_,rfl,rfl,hm,q _ _ (fr.res2 ⟨rfl,_,rfl, .int _⟩)⟩
    · cases e
  · split at e
    · rename_i hc
      cases e
      simp only [Bool.and_eq_true,decide_eq_true_eq] at hc
      obtain ⟨a1,u1,x1,q1,i1⟩:=fr.items (k:=1) rfl e1 hc.2
      cases x1;cases r2
      have l1:=i1.len
      exact .inr ⟨_,_,_,rfl,rfl,q1,by omega,by omega,eC (by rw [l1];exact hc.1.1),fun p hp=>q _ _ (fr.res2l (i1.rep _) hp)⟩
    · cases e
  · cases e
section
variable {X:Cx} {a b:Expr} {m1 m2:Bool} {f g:aS} {pos:Pos}
theorem bB (ha:EX X a m1 f) (hb:EX X b m2 g):EX X (.BinOp a .Add b pos) (m1||m2) (af bj m2 f g):=iH wd wf ha hb
theorem pE (ha:EX X a m1 f) (hb:EX X b m2 g):EX X (.BinOp a .Sub b pos) (m1||m2) (af pD m2 f g):=iH wg (h7 fun _ _=>rfl) ha hb
theorem gk (ha:EX X a m1 f) (hb:EX X b m2 g):EX X (.BinOp a .Mult b pos) (m1||m2) (af gU m2 f g):=iH wm wo ha hb
theorem eK (ha:EX X a m1 f) (hb:EX X b m2 g):EX X (.BinOp a .FloorDiv b pos) (m1||m2) (af c_ m2 f g):=iH uf (h7 fun _ _=>rfl) ha hb
theorem cu (ha:EX X a m1 f) (hb:EX X b m2 g):EX X (.BinOp a .Mod b pos) (m1||m2) (af cJ m2 f g):=iH wj (h7 fun _ _=>rfl) ha hb
theorem ug (ha:EX X a m1 f) (hb:EX X b m2 g):EX X (.BinOp a .Pow b pos) (m1||m2) (af nW m2 f g):=iH wk (h7 fun _ _=>rfl) ha hb
end
def Br (K:PySem.W.Frag) (r:V→Hp→VK→Prop) (op:PyData→Option PyData):Prop:=∀(d1 d:PyData) (v1:V) (H:Hp) (Q:VK),op d1=some d→Rp K H v1 d1→∃v,xr d=some v∧(Q v H→r v1 H Q)
def h8 (op:PyData→Option PyData) (f:aS):aS:=fun E=>(f E).bind fun a=>(look a.2 a.1).bind fun d1=>(op d1).map fun d=>(.sh d,a.2)
theorem Am {K:PySem.W.Frag} {r:V→Hp→VK→Prop} {op:PyData→Option PyData} (hp:Br K r op) {m:Bool} {f:aS} {σ:i4} {H:Hp} {Q:VK} (h:rd K m (h8 op f) σ H Q):rd K m f σ H (fun x H1=>r x H1 Q):=by
  obtain ⟨B,E,xs,Xs,res,E',fr,c,e,q⟩:=h
  obtain ⟨⟨s1,E1⟩,e1,e⟩:=Option.bind_eq_some_iff.mp e
  obtain ⟨d1,e2,e⟩:=Option.bind_eq_some_iff.mp e
  obtain ⟨d,e3,e⟩:=Option.map_eq_some_iff.mp e
  cases e
  refine ⟨B,E,xs,Xs,s1,E1,fr,c,e1,fun v1 H1 ⟨F,A,fr1⟩=>?_⟩
  obtain ⟨v,hv,k⟩:=hp d1 d v1 H1 Q e3 (fr1.look0 e2).1
  obtain ⟨A',fr2⟩:=fr1.pop
  exact k (q v H1 ⟨F,A',fr2.push ⟨rfl,v,rfl,jT hv⟩⟩)
def rY:PyData→Option PyData
  | .int i=>some (.int (-i))
  | _=>none
section
variable {X:Cx} {a b c:Expr} {m1 m2 m3:Bool} {f g h:aS} {pos:Pos}
theorem yB (ha:EX X a m1 f):EX X (.UnaryOp .USub a pos) m1 (h8 rY f):=bA (zT yk ha) fun σ H Q h=>Am (r:=rU fun i=> .int (-i)) (fun d1 d v1 H Q e r=>by
  cases d1 <;> simp [rY] at e
  cases e;cases r
  exact ⟨_,rfl,fun q=>⟨_,rfl,q⟩⟩) h
end
def rZ (d1 d2:PyData):Option Bool:=match d1,d2 with
  | .int i, .int j=>some (decide (i=j))
  | .str a, .str b=>some (decide (a=b))
  | .bool a, .bool b=>some (decide (a=b))
  | .none, .none=>some true
  | .none, .str _=>some false
  | .str _, .none=>some false
  | d1,d2=>if SeqAt.shaped d1&&SeqAt.shaped d2 then some (PyData.eqv d1 d2) else none
def i6:P2:=eY fun d1 d2=>(rZ d1 d2).map fun b=> .bool b
def jM:P2:=eY fun d1 d2=>(rZ d1 d2).map fun b=> .bool (!b)
abbrev Bs (K:PySem.W.Frag):R2:=fun x y H Q=>BH x y H Q∨Ai K x y H Q
abbrev Bt (K:PySem.W.Frag):R2:=fun x y H Q=>BI x y H Q∨Aj K x y H Q
theorem uh {K:PySem.W.Frag} {H:Hp} {v1 v2:V} {d1 d2:PyData} {b:Bool} (e:rZ d1 d2=some b) (r1:Rp K H v1 d1) (r2:Rp K H v2 d2):
    (ym v1 v2=true∧decide (v1=v2)=b)∨(DOf K H v1 d1∧DOf K H v2 d2∧SeqAt.shaped d1=true∧SeqAt.shaped d2=true∧PyData.eqv d1 d2=b):=by
  unfold rZ at e
  split at e
  · cases e;cases r1;cases r2;exact .inl ⟨rfl,by simp⟩
  · cases e;cases r1;cases r2;exact .inl ⟨rfl,by simp⟩
  · cases e;cases r1;cases r2;exact .inl ⟨rfl,by simp⟩
  · cases e;cases r1;cases r2;exact .inl ⟨rfl,rfl⟩
  · cases e;cases r1;cases r2;exact .inl ⟨rfl,rfl⟩
  · cases e;cases r1;cases r2;exact .inl ⟨rfl,rfl⟩
  · split at e
    · rename_i hs
      cases e
      simp only [Bool.and_eq_true] at hs
      exact .inr ⟨r1.dof hs.1,r2.dof hs.2,hs.1,hs.2,rfl⟩
    · cases e
theorem uk {K:PySem.W.Frag}:gi K (Bs K) i6:=gj fun d1 d2 d v1 v2 H Q e r1 r2=>by
  obtain ⟨b,e',rfl⟩:=Option.map_eq_some_iff.mp e
  refine ⟨_,rfl,fun q=>?_⟩
  rcases uh e' r1 r2 with ⟨a,rfl⟩ | ⟨a1,a2,a3,a4,rfl⟩
  · exact .inl ⟨a,q⟩
  · exact .inr ⟨_,_,a1,a2,a3,a4,q⟩
theorem yC {K:PySem.W.Frag}:gi K (Bt K) jM:=gj fun d1 d2 d v1 v2 H Q e r1 r2=>by
  obtain ⟨b,e',rfl⟩:=Option.map_eq_some_iff.mp e
  refine ⟨_,rfl,fun q=>?_⟩
  rcases uh e' r1 r2 with ⟨a,rfl⟩ | ⟨a1,a2,a3,a4,rfl⟩
  · exact .inl ⟨a,q⟩
  · exact .inr ⟨_,_,a1,a2,a3,a4,q⟩
def mD (K:PySem.W.Frag) (r:R2) (op:PyData→PyData→Option PyData):Prop:=∀(d1 d2 d:PyData) (v1 v2:V) (H:Hp) (Q:VK),op d1 d2=some d→Rp K H v1 d1→Rp K H v2 d2→∃v,xr d=some v∧(Q v H→r v1 v2 H Q)
def ul (neg:Bool):PyData→PyData→Option PyData
  | d, .none=>some (.bool (match d with | .none=> !neg | _=>neg))
  | _,_=>none
theorem yD {K:PySem.W.Frag}:mD K (fun x y H Q=>y= .non∧Q (.bl (decide (x= .non))) H) (ul false):=fun d1 d2 d v1 v2 H Q e r1 r2=>by
  unfold ul at e
  split at e
  · cases e;cases r2
    refine ⟨_,rfl,fun q=>⟨rfl,?_⟩⟩
    cases r1 <;> exact q
  · cases e
def eD (op op':PyData→PyData→Option PyData) (m2 m3:Bool) (f g h:aS):aS:=fun E=>(f E).bind fun a=>if (m2||m3)&&a.1.isBr then none else (g a.2).bind fun b=>if m3&&b.1.isBr then none else
  (look b.2 a.1).bind fun d1=>(look b.2 b.1).bind fun d2=>match op d1 d2 with
    | some (.bool true)=>(h b.2).bind fun c=>(look c.2 b.1).bind fun d2=>(look c.2 c.1).bind fun d3=>(op' d2 d3).map fun d=>(.sh d,c.2)
    | some (.bool false)=>some (.sh (.bool false),b.2)
    | _=>none
section
variable {X:Cx} {a b c:Expr} {m1 m2 m3:Bool} {f g h:aS} {pos:Pos}
theorem xx (hu:X.A.units+64 < cLine) (ha:EX X a m1 f) (hb:EX X b m2 g):EX X (.Compare a [.Eq] [b] pos) (m1||m2) (af i6 m2 f g):=pB (OpR.or xk (ua hu)) uk ha hb (jQ _)
theorem yE (ha:EX X a m1 f) (hb:EX X b m2 g):EX X (.Compare a [.Is] [b] pos) (m1||m2) (af (eY (ul false)) m2 f g):=pB yn (gj yD) ha hb (jQ _)
theorem jz (hu:X.A.units+64 < cLine) (ha:EX X a m1 f) (hb:EX X b m2 g):TX X (.Compare a [.Eq] [b] pos) (m1||m2) (cP (af i6 m2 f g)):=jU (OpR.or xk (ua hu)) uk ha hb (jQ _)
theorem jA (hu:X.A.units+64 < cLine) (ha:EX X a m1 f) (hb:EX X b m2 g):TX X (.Compare a [.NotEq] [b] pos) (m1||m2) (cP (af jM m2 f g)):=jU (OpR.or zU (yx hu)) yC ha hb (jQ _)
theorem nX {K:PySem.W.Frag} {r r':R2} {op op':PyData→PyData→Option PyData} (k:mD K r op) (k':mD K r' op') {σ:i4} {H:Hp} {Q:VK} (z:rd K (m1||(m2||m3)) (eD op op' m2 m3 f g h) σ H Q):pi r r' (rd K m1 f) (rd K m2 g) (rd K m3 h) σ H Q:=by
  obtain ⟨B,E,xs,Xs,res,E',fr,cl,e,q⟩:=z
  obtain ⟨⟨s1,E1⟩,e1,e⟩:=Option.bind_eq_some_iff.mp e
  by_cases hb:((m2||m3)&&s1.isBr)=true
  · rw [if_pos hb] at e;cases e
  rw [if_neg hb] at e
  obtain ⟨⟨s2,E2⟩,e2,e⟩:=Option.bind_eq_some_iff.mp e
  by_cases hb2:(m3&&s2.isBr)=true
  · rw [if_pos hb2] at e;cases e
  rw [if_neg hb2] at e
  obtain ⟨d1,l1,e⟩:=Option.bind_eq_some_iff.mp e
  obtain ⟨d2,l2,e⟩:=Option.bind_eq_some_iff.mp e
  have n1:(m2||m3)=true→s1.isBr=false:=fun z=>by
    cases hs:s1.isBr with
    | false=>rfl
    | true=>exact absurd (by rw [z,hs];rfl) hb
  have n2:m3=true→s2.isBr=false:=fun z=>by
    cases hs:s2.isBr with
    | false=>rfl
    | true=>exact absurd (by rw [z,hs];rfl) hb2
  refine ⟨B,E,xs,Xs,s1,E1,fr,fun z=>cl (by simp [z]),e1,fun v1 H1 fr1=>?_⟩
  refine ⟨B,E1,v1::xs,s1::Xs,s2,E2,fr1,fun z=>Calm.cons (cl (by simp [z])) (n1 (by simp [z])),e2,fun v2 H2 ⟨F,A,fr2⟩=>?_⟩
  cases ho:op d1 d2 with
  | none=>rw [ho] at e;cases e
  | some d=>
    rw [ho] at e
    obtain ⟨v,hv,kk⟩:=k d1 d2 d v1 v2 H2 (fun z H3=>∃k,z= .bl k∧(if k=true then rd K m3 h σ H3 fun w' H4=>r' v2 w' H4 Q else Q (.bl false) H3)) ho (fr2.look1 l1).1 (fr2.look0 l2).1
    cases d with
    | bool t=>
      cases hv
      refine kk ⟨t,rfl,?_⟩
      cases t with
      | true=>
        rw [if_pos rfl]
        obtain ⟨⟨s3,E3⟩,e3,e⟩:=Option.bind_eq_some_iff.mp e
        obtain ⟨d2',l2',e⟩:=Option.bind_eq_some_iff.mp e
        obtain ⟨d3,l3,e⟩:=Option.bind_eq_some_iff.mp e
        obtain ⟨d,ho',e⟩:=Option.map_eq_some_iff.mp e
        cases e
        refine ⟨B,E2,v2::v1::xs,s2::s1::Xs,s3,E3,⟨F,A,fr2⟩,fun z=>Calm.cons (Calm.cons (cl (by simp [z])) (n1 (by simp [z]))) (n2 z),e3,fun v3 H3 ⟨F3,A3,fr3⟩=>?_⟩
        obtain ⟨v,hv,kk⟩:=k' d2' d3 d v2 v3 H3 Q ho' (fr3.look1 l2').1 (fr3.look0 l3).1
        obtain ⟨A4,fr4⟩:=fr3.pop
        exact kk (q v H3 (fr4.res2 ⟨rfl,v,rfl,jT hv⟩))
      | false=>
        rw [if_neg (by decide)]
        cases e
        exact q _ _ (fr2.res2 ⟨rfl,_,rfl, .bl _⟩)
    | none=>cases e
    | int i=>cases e
    | str x=>cases e
    | list xs=>cases e
    | tuple xs=>cases e
    | dict kvs=>cases e
theorem um {o1 o2:CmpOp} {r r':R2} {op op':PyData→PyData→Option PyData} (ho:OpR X (compareOp o1) r) (ho':OpR X (compareOp o2) r') (k:mD X.K r op) (k':mD X.K r' op') (ha:EX X a m1 f) (hb:EX X b m2 g) (hc:EX X c m3 h)
    (hm:lastMarks [o1,o2] [b,c]=false:=by with_unfolding_all rfl):EX X (.Compare a [o1,o2] [b,c] pos) (m1||(m2||m3)) (eD op op' m2 m3 f g h):=bA (tY ho ho' ha hb hc hm) fun _ _ _ z=>nX k k' z
end
end PL
namespace PL
open PySem L2 Nh
def lj (f g:aS):aS:=fun E=>(f E).bind fun a=>match a.1 with
  | .sh (.bool true)=>g a.2
  | .sh (.bool false)=>some (.sh (.bool false),a.2)
  | _=>none
def jB (f g:iG):iG:=fun E=>(f E).bind fun a=>if a.1 then g a.2 else some (false,a.2)
def gd (f g:iG):iG:=fun E=>(f E).bind fun a=>if a.1 then some (true,a.2) else g a.2
def bq (f:iG):iG:=fun E=>(f E).map fun a=>(!a.1,a.2)
def iI:PyData→Option Bool
  | .none=>some false
  | .bool b=>some b
  | .int i=>some (i != 0)
  | .str x=>if x.length≤1000000 then some ((x.length:Int) != 0) else none
  | .list xs=>some (!xs.isEmpty)
  | .tuple xs=>some (!xs.isEmpty)
  | .dict _=>none
def dN (f:aS):iG:=fun E=>(f E).bind fun a=>match a.1 with
  | .al i=>match a.2[i]? with
    | some (.od kvs)=>some (!kvs.isEmpty,a.2)
    | some s=>(s.val.bind iI).map fun b=>(b,a.2)
    | none=>none
  | s=>(s.val.bind iI).map fun b=>(b,a.2)
section
variable {X:Cx} {a b c:Expr} {aW:List Expr} {m1 m2 m3:Bool} {f g h:aS} {t u:iG} {pos:Pos} {K:PySem.W.Frag}
theorem uo {op} (h:EX X a m1 f):EX X (.BoolOp op [a] pos) m1 f:=xU h
theorem pF (ha:EX X a m1 f) (hb:EX X (.BoolOp .And (b::aW) pos) m2 g):EX X (.BoolOp .And (a::b::aW) pos) (m1||m2) (lj f g):=by
  refine bA (xV ha hb) fun σ H Q z=>?_
  obtain ⟨B,E,xs,Xs,res,E',fr,cl,e,q⟩:=z
  obtain ⟨⟨s1,E1⟩,e1,e⟩:=Option.bind_eq_some_iff.mp e
  refine ⟨B,E,xs,Xs,s1,E1,fr,fun z=>cl (by simp [z]),e1,fun v1 H1 ⟨F,A,fr1⟩=>?_⟩
  simp only at e
  split at e
  · obtain ⟨r,_⟩:=fr1.look0 (d:= .bool true) rfl
    cases r
    obtain ⟨A',fr2⟩:=fr1.pop
    exact ⟨true,rfl,(if_pos rfl).mpr ⟨B,E1,xs,Xs,res,E',⟨F,A',fr2⟩,fun z=>cl (by simp [z]),e,q⟩⟩
  · cases e
    obtain ⟨r,_⟩:=fr1.look0 (d:= .bool false) rfl
    cases r
    exact ⟨false,rfl,(if_neg (by decide)).mpr (q _ _ ⟨F,A,fr1⟩)⟩
  · cases e
theorem qL (ha:TX X a m1 t):WX X (.BoolOp .And [a] pos) m1 t:=vK ha
theorem mE (ha:TX X a m1 t):WX X (.BoolOp .Or [a] pos) m1 t:=xR ha
theorem uq (ha:TX X a m1 t) (hb:WX X (.BoolOp .And (b::aW) pos) m2 u):WX X (.BoolOp .And (a::b::aW) pos) (m1||m2) (jB t u):=by
  refine uc (xS ha hb) fun σ H Q z=>?_
  obtain ⟨B,E,xs,Xs,res,E',fr,cl,e,q⟩:=z
  obtain ⟨⟨b1,E1⟩,e1,e⟩:=Option.bind_eq_some_iff.mp e
  refine ⟨B,E,xs,Xs,b1,E1,fr,fun z=>cl (by simp [z]),e1,fun H1 fr1=>?_⟩
  cases b1 with
  | true=>exact (if_pos rfl).mpr ⟨B,E1,xs,Xs,res,E',fr1,fun z=>cl (by simp [z]),e,q⟩
  | false=>cases e;exact (if_neg (by decide)).mpr (q _ fr1)
theorem jW (ha:TX X a m1 t) (hb:WX X (.BoolOp .Or (b::aW) pos) m2 u):WX X (.BoolOp .Or (a::b::aW) pos) (m1||m2) (gd t u):=by
  refine uc (zI ha hb) fun σ H Q z=>?_
  obtain ⟨B,E,xs,Xs,res,E',fr,cl,e,q⟩:=z
  obtain ⟨⟨b1,E1⟩,e1,e⟩:=Option.bind_eq_some_iff.mp e
  refine ⟨B,E,xs,Xs,b1,E1,fr,fun z=>cl (by simp [z]),e1,fun H1 fr1=>?_⟩
  cases b1 with
  | true=>cases e;exact (if_pos rfl).mpr (q _ fr1)
  | false=>exact (if_neg (by decide)).mpr ⟨B,E1,xs,Xs,res,E',fr1,fun z=>cl (by simp [z]),e,q⟩
theorem r8 (h:WX X a m1 t):TX X a m1 t:=PW.pt h
theorem fN (ha:TX X a m1 t):TX X (.UnaryOp .Not a pos) m1 (bq t):=by
  refine mw (xT ha) fun σ H Q z=>?_
  obtain ⟨B,E,xs,Xs,res,E',fr,cl,e,q⟩:=z
  obtain ⟨⟨b1,E1⟩,e1,e⟩:=Option.map_eq_some_iff.mp e
  cases e
  exact ⟨B,E,xs,Xs,b1,E1,fr,cl,e1,fun H1 fr1=>q _ fr1⟩
theorem yF {H:Hp} {v:V} {d:PyData} {b:Bool} (r:Rp K H v d) (e:iI d=some b):t5 K v H b:=by
  cases r with
  | non=>cases e;rfl
  | bl b=>cases e;rfl
  | int i=>cases e;rfl
  | str x=>
    simp only [iI] at e
    split at e
    · rename_i hl
      cases e
      exact ⟨eC hl,rfl⟩
    · cases e
  | lst h r=>cases e;exact .inl ⟨_,h,by cases r <;> rfl⟩
  | tup h r=>cases e;exact .inr (.inl ⟨_,h,by cases r <;> rfl⟩)
  | dct h r=>cases e
theorem gl (ha:EX X a m1 f) (he:∀whole,isTrue a X.env whole=(do let v ←whole;standAt a.pos;holding [v] (truthy v)):=by exact fun _=>rfl):TX X a m1 (dN f):=by
  refine mw (t6 ha he) fun σ H Q z=>?_
  obtain ⟨B,E,xs,Xs,res,E',fr,cl,e,q⟩:=z
  obtain ⟨⟨s,E1⟩,e1,e⟩:=Option.bind_eq_some_iff.mp e
  refine ⟨B,E,xs,Xs,s,E1,fr,cl,e1,fun v1 H1 ⟨F,A,fr1⟩=>?_⟩
  have key:∀d,look E1 s=some d→(iI d).map (fun b=>(b,E1))=some (res,E')→∃k,t5 X.K v1 H1 k∧Q k H1:=fun d l e=>by
    obtain ⟨b,e',z⟩:=Option.map_eq_some_iff.mp e
    cases z
    obtain ⟨A',fr2⟩:=fr1.pop
    exact ⟨_,yF (fr1.look0 l).1 e',q _ ⟨F,A',fr2⟩⟩
  have kv:(s.val.bind iI).map (fun b=>(b,E1))=some (res,E')→(∀i,s≠ .al i)→∃k,t5 X.K v1 H1 k∧Q k H1:=fun e na=>by
    obtain ⟨b,e',z⟩:=Option.map_eq_some_iff.mp e
    obtain ⟨d,e1,e2⟩:=Option.bind_eq_some_iff.mp e'
    refine key d ?_ (by rw [e2];exact congrArg some z)
    cases s <;> first | exact e1 | exact absurd rfl (na _)
  simp only at e
  split at e
  · rename_i i
    split at e
    · rename_i kvs ei
      cases e
      obtain ⟨v',A1,ev,rfl,w,ew,hw⟩:=fr1.ext (k:=0) rfl
      cases ev;cases ew
      obtain ⟨o,A1,eo,l,us,A2,rfl,_,hl,r⟩:=fr1.var ei
      rw [hw] at eo
      cases eo
      obtain ⟨A',fr2⟩:=fr1.pop
      exact ⟨_, .inr (.inr ⟨_,hl,by cases us <;> cases kvs <;> first | rfl | exact False.elim r⟩),q _ ⟨F,A',fr2⟩⟩
    · rename_i s' _ ei
      obtain ⟨b,e',z⟩:=Option.map_eq_some_iff.mp e
      obtain ⟨d,e1,e2⟩:=Option.bind_eq_some_iff.mp e'
      exact key d (by simp [look,ei,e1]) (by rw [e2];exact congrArg some z)
    · cases e
  · rename_i na
    exact kv e na
end
theorem ur {X:Cx} {a b c:Expr} {m1 m2 m3:Bool} {f g h:aS} {pos:Pos} {o1 o2:CmpOp} {r r':R2} {op op':PyData→PyData→Option PyData} (ho:OpR X (compareOp o1) r) (ho':OpR X (compareOp o2) r') (k:mD X.K r op) (k':mD X.K r' op') (ha:EX X a m1 f) (hb:EX X b m2 g) (hc:EX X c m3 h)
    (hm:lastMarks [o1,o2] [b,c]=false:=by with_unfolding_all rfl):TX X (.Compare a [o1,o2] [b,c] pos) (m1||(m2||m3)) (cP (eD op op' m2 m3 f g h)):=mw (tZ ho ho' ha hb hc hm) fun _ _ _ z=>nX k k' (ud z)
def ak:o8:=fun E=>some ([],E)
def ad (m2:Bool) (f:aS) (g:o8):o8:=fun E=>(f E).bind fun a=>if m2&&a.1.isBr then none else (g a.2).map fun b=>(a.1::b.1,b.2)
def fg:jx:=fun E=>some ([],E)
def An (f:aS) (g:jx):jx:=fun E=>(f E).bind fun a=>(frz a.2 a.1).bind fun b=>(g b.2).map fun c=>(b.1::c.1,c.2)
def eQ (f:jx):aS:=fun E=>(f E).bind fun a=>if a.1.length≤1000000 then some (.ow a.1,a.2) else none
section
variable {X:Cx} {e:Expr} {es:List Expr} {m1 m2:Bool} {f:aS} {g:o8} {d:jx} {pos:Pos} {K:PySem.W.Frag}
theorem ar:AX X [] false ak:=by
  refine mz dM fun σ H Q z=>?_
  obtain ⟨B,E,xs,Xs,res,E',fr,cl,e,q⟩:=z
  cases e
  exact q [] H rfl fr
theorem ai (ha:EX X e m1 f) (hr:AX X es m2 g) (hs:starEach (e::es) X.env=(false,eval e X.env)::starEach es X.env:=by rfl):AX X (e::es) (m1||m2) (ad m2 f g):=by
  refine mz (cB ha hr hs) fun σ H Q z=>?_
  obtain ⟨B,E,xs,Xs,res,E',fr,cl,e,q⟩:=z
  obtain ⟨⟨s,E1⟩,e1,e⟩:=Option.bind_eq_some_iff.mp e
  by_cases hb:(m2&&s.isBr)=true
  · rw [if_pos hb] at e;cases e
  rw [if_neg hb] at e
  obtain ⟨⟨rs,E2⟩,e2,e⟩:=Option.map_eq_some_iff.mp e
  cases e
  refine ⟨B,E,xs,Xs,s,E1,fr,fun z=>cl (by simp [z]),e1,fun v1 H1 fr1=>?_⟩
  refine ⟨B,E1,v1::xs,s::Xs,rs,E2,fr1,fun z=>Calm.cons (cl (by simp [z])) ?_,e2,fun vs H2 hl fr2=>?_⟩
  · cases hs:s.isBr with
    | false=>rfl
    | true=>exact absurd (by simp [z,hs]) hb
  · exact q (v1::vs) H2 (by simp [hl]) (by simpa using fr2)
theorem ie:DX X [] false fg:=by
  refine mz dM fun σ H Q z=>?_
  obtain ⟨B,E,xs,Xs,res,E',fr,cl,e,q⟩:=z
  cases e
  exact q [] H rfl fr
theorem wq (ha:EX X e m1 f) (hr:DX X es m2 d) (hs:starEach (e::es) X.env=(false,eval e X.env)::starEach es X.env:=by rfl):DX X (e::es) (m1||m2) (An f d):=by
  refine mz (cB ha hr hs) fun σ H Q z=>?_
  obtain ⟨B,E,xs,Xs,res,E',fr,cl,e,q⟩:=z
  obtain ⟨⟨s,E1⟩,e1,e⟩:=Option.bind_eq_some_iff.mp e
  obtain ⟨⟨d1,E2⟩,e2,e⟩:=Option.bind_eq_some_iff.mp e
  obtain ⟨⟨rs,E3⟩,e3,e⟩:=Option.map_eq_some_iff.mp e
  cases e
  refine ⟨B,E,xs,Xs,s,E1,fr,fun z=>cl (by simp [z]),e1,fun v1 H1 ⟨F,A,fr1⟩=>?_⟩
  obtain ⟨F2,A2,fr2⟩:=fr1.frz0 e2
  refine ⟨B,E2,v1::xs, .sh d1::Xs,rs,E3,⟨F2,A2,fr2⟩,fun z=>Calm.cons (cl (by simp [z])) rfl,e3,fun vs H2 hl fr2=>?_⟩
  exact q (v1::vs) H2 (by simp [hl]) (by simpa using fr2)
theorem FrF.shsR {B F:Hp} {σ:i4} {H:Hp} {E:List Sl} {xs:List V} {Xs:List Sl}:∀{us:List V} {es:List PyData} {A:List Addr},us.length=es.length→FrF K B F A σ H E (us++xs) (es.map .sh++Xs)→RpA K F us es∧∃A',FrF K B F A' σ H E xs Xs
  | [],[],A,_,h=>⟨.nil,A,h⟩
  | u::us,e::es,A,hl,h=>by
    obtain ⟨v,A1,ev,rfl,w,ew,r⟩:=h.ext (k:=0) rfl
    cases ev;cases ew
    obtain ⟨A',h'⟩:=FrF.pop (xs:=us++xs) (Xs:=es.map .sh++Xs) h
    obtain ⟨r',q⟩:=FrF.shsR (by simpa using hl) h'
    exact ⟨.cons r r',q⟩
  | [],_::_,_,e,_=>by cases e
  | _::_,[],_,e,_=>by cases e
theorem FrF.shs {B F:Hp} {σ:i4} {H:Hp} {E:List Sl} {xs:List V} {Xs:List Sl} {us:List V} {es:List PyData} {A:List Addr} (hl:us.length=es.length) (h:FrF K B F A σ H E (us.reverse++xs) (es.reverse.map .sh++Xs)):RpA K F us es∧∃A',FrF K B F A' σ H E xs Xs:=by
  obtain ⟨r,q⟩:=FrF.shsR (by simpa using hl) h
  have:=r.rev
  rw [List.reverse_reverse,List.reverse_reverse] at this
  exact ⟨this,q⟩
theorem ig (h:DX X es m1 d):EX X (.List es pos) m1 (eQ d):=by
  refine bA (yp h) fun σ H Q z=>?_
  obtain ⟨B,E,xs,Xs,res,E',fr,cl,e,q⟩:=z
  obtain ⟨⟨ds,E1⟩,e1,e⟩:=Option.bind_eq_some_iff.mp e
  simp only at e
  split at e
  · rename_i hl
    cases e
    refine ⟨B,E,xs,Xs,ds,_,fr,cl,e1,fun vs H1 hv ⟨F,A,fr1⟩=>?_⟩
    obtain ⟨r,A',fr2⟩:=fr1.shs hv
    exact ⟨eC (by omega),fun p hp=>q _ _ ⟨_,_,fr2.newl r hp⟩⟩
  · cases e
end
def r_ (ds:List PyData) (lo hi:Option Int):List PyData:=(ds.drop (HT.jG ds.length 0 lo)).take (HT.jG ds.length ds.length hi - HT.jG ds.length 0 lo)
def nD:P2:=fun E s1 s2=>(look E s1).bind fun d1=>(look E s2).bind fun d2=>match d2 with
  | .int i=>match d1 with
    | .list ds=>(atI ds i).map fun d=>(if gT E s1&& !cD d then .br d else .sh d,E)
    | .tuple ds=>(atI ds i).map fun d=>(if gT E s1&& !cD d then .br d else .sh d,E)
    | .str z=>if z.length≤1000000 then (atI z.cps.toList i).map fun c=>(.sh (.str ⟨#[c]⟩),E) else none
    | _=>none
  | _=>none
section
variable {K:PySem.W.Frag} {H:Hp}
theorem RpA.atI {vs:List V} {ds:List PyData} {i:Int} {d:PyData} (h:RpA K H vs ds) (e:L2.atI ds i=some d):∃v,L2.atI vs i=some v∧Rp K H v d:=by
  unfold L2.atI at e ⊢
  obtain ⟨j,e1,e2⟩:=Option.bind_eq_some_iff.mp e
  obtain ⟨v,ev,r⟩:=h.get e2
  exact ⟨v,by rw [h.len,e1];exact ev,r⟩
theorem FrF.item {B F:Hp} {A:List Addr} {σ:i4} {E:List Sl} {xs:List V} {Xs:List Sl} {v1 v2 v:V} {s1 s2:Sl} {d:PyData} (fr:FrF K B F A σ H E (v2::v1::xs) (s2::s1::Xs)) (r:Rp K H v d) (f:gT E s1=false→Rp K F v d):
    Frm K B σ H E (v::xs) ((if gT E s1&& !cD d then .br d else .sh d)::Xs):=by
  by_cases hc:(gT E s1&& !cD d)=true
  · rw [if_pos hc]
    exact fr.res2 ⟨rfl,v,rfl,r⟩
  · rw [if_neg hc]
    refine fr.res2 ⟨rfl,v,rfl,?_⟩
    cases hh:gT E s1 with
    | false=>exact f hh
    | true=>
      rw [hh] at hc
      exact fr.cold r (by simpa using hc)
theorem yG:gi K (BJ K) nD:=by
  intro B F A σ H E xs Xs v1 v2 s1 s2 res E' Q fr e q
  obtain ⟨d1,e1,e⟩:=Option.bind_eq_some_iff.mp e
  obtain ⟨d2,e2,e⟩:=Option.bind_eq_some_iff.mp e
  obtain ⟨r1,f1⟩:=fr.look1 e1
  have r2:=(fr.look0 e2).1
  split at e
  · cases r2
    split at e
    · obtain ⟨d,ed,e⟩:=Option.map_eq_some_iff.mp e
      cases e
      cases hh:gT E s1 with
      | false=>
        obtain ⟨a,vs,rfl,h1,h2⟩:=f1 hh
        obtain ⟨v,ev,rv⟩:=h2.atI ed
        have z:=fr.item (rv.same fr.fh) fun _=>rv
        rw [hh] at z q
        exact .inl ⟨_,_,_,v,rfl,rfl,h1,ev,q _ _ z⟩
      | true=>
        cases r1 with
        | lst h1 h2=>
          obtain ⟨v,ev,rv⟩:=h2.atI ed
          have z:=fr.item rv fun h=>absurd (hh.symm.trans h) (by decide)
          rw [hh] at z q
          exact .inl ⟨_,_,_,v,rfl,rfl,h1,ev,q _ _ z⟩
    · obtain ⟨d,ed,e⟩:=Option.map_eq_some_iff.mp e
      cases e
      cases hh:gT E s1 with
      | false=>
        have h0:Rp K F v1 _:=f1 hh
        cases h0 with
        | tup h1 h2=>
          obtain ⟨v,ev,rv⟩:=h2.atI ed
          have z:=fr.item (rv.same fr.fh) fun _=>rv
          rw [hh] at z q
          exact .inr (.inl ⟨_,_,_,v,rfl,rfl,fr.fh.tup h1,ev,q _ _ z⟩)
      | true=>
        cases r1 with
        | tup h1 h2=>
          obtain ⟨v,ev,rv⟩:=h2.atI ed
          have z:=fr.item rv fun h=>absurd (hh.symm.trans h) (by decide)
          rw [hh] at z q
          exact .inr (.inl ⟨_,_,_,v,rfl,rfl,h1,ev,q _ _ z⟩)
    · split at e
      · rename_i hl
        obtain ⟨c,ec,e⟩:=Option.map_eq_some_iff.mp e
        cases e;cases r1
        exact .inr (.inr ⟨_,_,c,rfl,rfl,eC hl,ec,q _ _ (fr.res2 ⟨rfl,_,rfl, .str _⟩)⟩)
      · cases e
    · cases e
  · cases e
end
end PL
namespace L2
open PySem PySem.Spec PyProof.Rows
section
variable {κ:Type} [DecidableEq κ]
def jI (kvs:List (κ×V)) (k:κ):Option V:=(kvs.find? fun kv=>decide (kv.1=k)).map (·.2)
def nY (kvs:List (κ×V)) (k:κ) (v:V):List (κ×V):=
  if (kvs.any fun kv=>decide (kv.1=k))=true then kvs.map (fun kv=>if kv.1=k then (kv.1,v) else kv) else kvs++[(k,v)]
def xy (kvs:List (κ×V)) (k:κ):List (κ×V):=kvs.filter fun kv=>decide (kv.1≠k)
theorem jX {p:κ×V} {r:List (κ×V)} {k:κ} (e:p.1=k):jI (p::r) k=some p.2:=by simp [jI,List.find?_cons,e]
theorem jY {p:κ×V} {r:List (κ×V)} {k:κ} (e:¬p.1=k):jI (p::r) k=jI r k:=by simp [jI,List.find?_cons,e]
theorem nZ (k:κ):∀kvs:List (κ×V),(kvs.any fun kv=>decide (kv.1=k))=(jI kvs k).isSome
  | []=>rfl
  | p::r=>by
    rw [List.any_cons]
    by_cases e:p.1=k
    · simp only [jX e,decide_eq_true e,Bool.true_or,Option.isSome_some]
    · rw [jY e,decide_eq_false e,Bool.false_or];exact nZ k r
theorem RelO.isSome_eq {o:Option V} {u:Option Value} (r:RelO o u):o.isSome=u.isSome:=by
  cases o with
  | none=>cases u with
    | none=>rfl
    | some _=>exact (show False from r).elim
  | some _=>cases u with
    | none=>exact (show False from r).elim
    | some _=>rfl
theorem RelO.getD {o:Option V} {u:Option Value} {d:V} {d':Value} (r:RelO o u) (rd:RelV d d'):RelV (o.getD d) (u.getD d'):=by
  cases o with
  | none=>cases u with
    | none=>exact rd
    | some _=>exact (show False from r).elim
  | some _=>cases u with
    | none=>exact (show False from r).elim
    | some _=>exact r
theorem KV.val {kvs:List (κ×V)} {vs:List (κ×Value)} (r:KV kvs vs) (k:κ):RelO (jI kvs k) (valueAt vs k):=by
  unfold KV at r
  induction r with
  | nil=>exact True.intro
  | @cons p q ps qs h t ih=>
    obtain ⟨h1,h2⟩:=h
    by_cases e:p.1=k
    · have e':q.1=k:=h1.symm.trans e
      have b:valueAt (q::qs) k=some q.2:=by simp [valueAt,List.find?_cons,e']
      rw [jX e,b];exact h2
    · have e':¬q.1=k:=fun z=>e (h1.trans z)
      have b:valueAt (q::qs) k=valueAt qs k:=by simp [valueAt,List.find?_cons,e']
      rw [jY e,b];exact ih
theorem KV.any {kvs:List (κ×V)} {vs:List (κ×Value)} (r:KV kvs vs) (k:κ):(kvs.any fun kv=>decide (kv.1=k))=vs.any fun kv=>decide (kv.1=k):=by
  unfold KV at r
  induction r with
  | nil=>rfl
  | cons h t ih=>rw [List.any_cons,List.any_cons,ih,h.1]
theorem KV.repl {kvs:List (κ×V)} {vs:List (κ×Value)} (r:KV kvs vs) (k:κ) {y:V} {u:Value} (ry:RelV y u):
    KV (kvs.map fun kv=>if kv.1=k then (kv.1,y) else kv) (vs.map fun kv=>if kv.1=k then (kv.1,u) else kv):=by
  unfold KV at r ⊢
  induction r with
  | nil=>exact .nil
  | @cons p q ps qs h t ih=>
    rw [List.map_cons,List.map_cons]
    refine .cons ?_ ih
    obtain ⟨h1,h2⟩:=h
    by_cases e:p.1=k
    · rw [if_pos e,if_pos (h1.symm.trans e)];exact ⟨h1,ry⟩
    · rw [if_neg e,if_neg (fun z=>e (h1.trans z))];exact ⟨h1,h2⟩
theorem KV.put {kvs:List (κ×V)} {vs:List (κ×Value)} (r:KV kvs vs) (k:κ) {y:V} {u:Value} (ry:RelV y u):KV (nY kvs k y) (stored vs k u):=by
  unfold nY stored
  rw [r.any k]
  by_cases e:(vs.any fun kv=>decide (kv.1=k))=true
  · rw [if_pos e,if_pos e];exact r.repl k ry
  · rw [if_neg e,if_neg e];exact Paired.snoc r ⟨rfl,ry⟩
theorem KV.drop {kvs:List (κ×V)} {vs:List (κ×Value)} (r:KV kvs vs) (k:κ):KV (xy kvs k) (without vs k):=by
  unfold KV at r ⊢
  unfold xy without
  induction r with
  | nil=>exact .nil
  | @cons p q ps qs h t ih=>
    obtain ⟨h1,h2⟩:=h
    rw [List.filter_cons,List.filter_cons]
    by_cases e:p.1=k
    · have a:¬decide (p.1≠k)=true:=by simp [e]
      have b:¬decide (q.1≠k)=true:=by simp [h1.symm.trans e]
      rw [if_neg a,if_neg b];exact ih
    · have e':¬q.1=k:=fun z=>e (h1.trans z)
      have a:decide (p.1≠k)=true:=by simp [e]
      have b:decide (q.1≠k)=true:=by simp [e']
      rw [if_pos a,if_pos b];exact .cons ⟨h1,h2⟩ ih
theorem KV.keys {kvs:List (κ×V)} {vs:List (κ×Value)} (r:KV kvs vs):kvs.map (·.1)=vs.map (·.1):=by
  unfold KV at r
  induction r with
  | nil=>rfl
  | cons h t ih=>rw [List.map_cons,List.map_cons,ih,h.1]
theorem KV.length {kvs:List (κ×V)} {vs:List (κ×Value)} (r:KV kvs vs):kvs.length=vs.length:=Paired.length r
end
abbrev KT (H:Hp):List (List dL×V)→List (List dL×Addr×Value)→Prop:=Paired fun p q=>p.1=q.1∧H q.2.1=some (.tup (p.1.map kV))∧RelV p.2 q.2.2
theorem KT.val {H:Hp} {kvs:List (List dL×V)} {xs:List (List dL×Addr×Value)} (r:KT H kvs xs) (k:List dL):RelO (jI kvs k) ((atKey xs k).map (·.2)):=by
  induction r with
  | nil=>exact True.intro
  | @cons p q ps qs h t ih=>
    obtain ⟨h1,_,h2⟩:=h
    by_cases e:p.1=k
    · have e':q.1=k:=h1.symm.trans e
      have b:atKey (q::qs) k=some q.2:=by simp [atKey,List.find?_cons,e']
      rw [jX e,b];exact h2
    · have e':¬q.1=k:=fun z=>e (h1.trans z)
      have b:atKey (q::qs) k=atKey qs k:=by simp [atKey,List.find?_cons,e']
      rw [jY e,b];exact ih
theorem KT.repl {H:Hp} {kvs:List (List dL×V)} {xs:List (List dL×Addr×Value)} (r:KT H kvs xs) (k:List dL) {y:V} {u:Value} (ry:RelV y u):
    KT H (kvs.map fun kv=>if kv.1=k then (kv.1,y) else kv) (xs.map (putAt k u)):=by
  induction r with
  | nil=>exact .nil
  | @cons p q ps qs h t ih=>
    rw [List.map_cons,List.map_cons]
    refine .cons ?_ ih
    obtain ⟨h1,h2,h3⟩:=h
    unfold putAt
    by_cases e:p.1=k
    · rw [if_pos e,if_pos (h1.symm.trans e)];exact ⟨h1,h2,ry⟩
    · rw [if_neg e,if_neg (fun z=>e (h1.trans z))];exact ⟨h1,h2,h3⟩
theorem KT.put {H:Hp} {kvs:List (List dL×V)} {xs:List (List dL×Addr×Value)} (r:KT H kvs xs) (k:List dL) {b:Addr} {y:V} {u:Value} (hb:H b=some (.tup (k.map kV))) (ry:RelV y u):
    KT H (nY kvs k y) (storedH xs k b u):=by
  have e:(kvs.any fun kv=>decide (kv.1=k))=(atKey xs k).isSome:=by
    rw [nZ,(r.val k).isSome_eq,Option.isSome_map]
  unfold nY storedH
  rw [e]
  by_cases q:(atKey xs k).isSome=true
  · rw [if_pos q,if_pos q];exact r.repl k ry
  · rw [if_neg q,if_neg q];exact Paired.snoc r ⟨rfl,hb,ry⟩
theorem KT.keeps {H H':Hp} {kvs:List (List dL×V)} {xs:List (List dL×Addr×Value)} (r:KT H kvs xs) (ht:∀b ys,H b=some (.tup ys)→H' b=some (.tup ys)):KT H' kvs xs:=
  Paired.mapP r fun _ _ z=>⟨z.1,ht _ _ z.2.1,z.2.2⟩
section
variable {P:Program} {w:World} {H:Hp} {h:Heap} {a:Addr}
theorem Ao {u:HO} (ok:HOk P w H h) (e:Rd H a u):ObjOk P w H h a u:=e.ok ok
theorem Ap {kvs:List (dL×V)} (ok:HOk P w H h) (e:Rd H a (.dK kvs)):kvs.length≤sizeLine∧(a == sysModules)=false∧∃vs,KV kvs vs∧h.DictOf (jL P w) a vs:=
  show ObjOk P w H h a (.dK kvs) from Ao ok e
end
def DGet (H:Hp) (a:Addr) (y:V) (r:Option V):Prop:=
  (∃kvs k,Rd H a (.dK kvs)∧y=kV k∧r=jI kvs k)∨∃kvs k b,Rd H a (.dT kvs)∧y= .ref b∧H b=some (.tup (k.map kV))∧r=jI kvs k
def DPut (H:Hp) (a:Addr) (y v:V) (H':Hp):Prop:=
  (∃kvs k,H a=some (.dK kvs)∧y=kV k∧kvs.length < sizeLine∧H'=upd H a (.dK (nY kvs k v)))∨
  ∃kvs k b,H a=some (.dT kvs)∧y= .ref b∧H b=some (.tup (k.map kV))∧kvs.length < sizeLine∧H'=upd H a (.dT (nY kvs k v))
theorem DGet.k {H:Hp} {a:Addr} {kvs:List (dL×V)} {k:dL} (e:H a=some (.dK kvs)):DGet H a (kV k) (jI kvs k):= .inl ⟨kvs,k, .inl e,rfl,rfl⟩
theorem DGet.t {H:Hp} {a b:Addr} {kvs:List (List dL×V)} {k:List dL} (e:H a=some (.dT kvs)) (eb:H b=some (.tup (k.map kV))):DGet H a (.ref b) (jI kvs k):= .inr ⟨kvs,k,b, .inl e,rfl,eb,rfl⟩
theorem DPut.k {H:Hp} {a:Addr} {kvs:List (dL×V)} {k:dL} {v:V} (e:H a=some (.dK kvs)) (hl:kvs.length < sizeLine):DPut H a (kV k) v (upd H a (.dK (nY kvs k v))):= .inl ⟨kvs,k,e,rfl,hl,rfl⟩
theorem DPut.t {H:Hp} {a b:Addr} {kvs:List (List dL×V)} {k:List dL} {v:V} (e:H a=some (.dT kvs)) (eb:H b=some (.tup (k.map kV))) (hl:kvs.length < sizeLine):
    DPut H a (.ref b) v (upd H a (.dT (nY kvs k v))):= .inr ⟨kvs,k,b,e,rfl,eb,hl,rfl⟩
section
variable {X:Cx} {pins:List (Addr×Obj)} {σ:St} {H:Hp} {s:Shared} {a:Addr} {y v:V} {u r:Value} {o:Option V} {A:Around} {E:Value→Shared→Prop}
theorem Inv.big (I:Inv X pins σ H s):sysModules < s.heap.objs.size:=by
  have h:mainGlobals < s.heap.objs.size:=(I.mod.glob.keeps I.bk).lt
  exact Nat.lt_trans (by decide) h
end
structure M1 (X:Cx) (o:Expr) (m:Str) (apos:Pos) (e:Expr) (cpos:Pos):Prop where
  base:attributeBase o m X.env (eval o X.env)=eval o X.env
  few:((backTo cpos (starEach [e] X.env)).all (fun x=> !x.1)&&(backToKw cpos (keywordEach [] X.env)).all (fun x=>x.1.isSome)
    &&decide (([e]:List Expr).length+([]:List Keyword).length+(if ([]:List Keyword).isEmpty then 0 else 1) < 30))=true
  line:(apos.endLine == cpos.line)=true
  trees:backTo cpos (starEach [e] X.env)=[(false,eval e X.env)]
end L2
namespace PL
open PySem L2 Nh
theorem lq {X:Cx} {a b:Expr} {m1 m2:Bool} {f g:aS} {pos:Pos} (ha:EX X a m1 f) (hb:EX X b m2 g) (hs:qC b:=by exact fun _ _=>rfl):EX X (.Subscript a b pos) (m1||m2) (af nD m2 f g):=bA (Ab yt ha hb hs) fun _ _ _ h=>mB yG h
abbrev xz:=List Sl→Option (Option Int×List Sl)
def ro (K:PySem.W.Frag) (m:Bool) (f:xz):TO:=fun σ H Q=>∃B E xs Xs o E',Frm K B σ H E xs Xs∧(m=true→Calm Xs)∧f E=some (o,E')∧∀H',Frm K B σ H' E' xs Xs→Q o H'
def OX (X:Cx) (e:Option Expr) (m:Bool) (f:xz):Prop:=PO X e (ro X.K m f)
def cQ:xz:=fun E=>some (none,E)
def cE (f:aS):xz:=fun E=>(f E).bind fun a=>match look a.2 a.1 with
  | some (.int i)=>some (some i,a.2)
  | _=>none
section
variable {X:Cx} {e:Expr} {lo hi:Option Expr} {m1 m2 m3:Bool} {f:aS} {g h:xz} {pos p2:Pos} {K:PySem.W.Frag}
theorem ut {e:Option Expr} {t t':TO} (h:PO X e t) (k:∀σ H Q,t' σ H Q→t σ H Q):PO X e t':=fun pins s σ H Q I q=>h pins s σ H Q I (k σ H Q q)
theorem gH:OX X none false cQ:=ut vX fun σ H Q z=>by
  obtain ⟨B,E,xs,Xs,res,E',fr,cl,e,q⟩:=z
  cases e
  exact q _ fr
theorem gI (he:EX X e m1 f):OX X (some e) m1 (cE f):=ut (vY he) fun σ H Q z=>by
  obtain ⟨B,E,xs,Xs,res,E',fr,cl,e,q⟩:=z
  obtain ⟨⟨s,E1⟩,e1,e⟩:=Option.bind_eq_some_iff.mp e
  refine ⟨B,E,xs,Xs,s,E1,fr,cl,e1,fun v1 H1 ⟨F,A,fr1⟩=>?_⟩
  simp only at e
  split at e
  · rename_i i l
    cases e
    have r:=(fr1.look0 l).1
    cases r
    obtain ⟨A',fr2⟩:=fr1.pop
    exact ⟨i,rfl,q _ ⟨F,A',fr2⟩⟩
  · cases e
theorem RpA.cut {F:Hp} {vs:List V} {ds:List PyData} (h:RpA K F vs ds) (lo hi:Option Int):RpA K F (rR vs lo hi) (r_ ds lo hi):=by
  unfold rR r_
  rw [h.len]
  exact (h.drop _).take _
end
def cr (E:List Sl):List Sl→Option (List PyData)
  | []=>some []
  | s::ss=>(look E s).bind fun d=>(cr E ss).map fun ds=>d::ds
theorem lookA_iff {E:List Sl}:∀{ss:List Sl} {ds:List PyData},cr E ss=some ds↔Paired (fun s d=>look E s=some d) ss ds
  | [],ds=>⟨fun h=>by cases h;exact .nil,fun h=>by cases h;rfl⟩
  | s::ss,ds=>by
    constructor
    · intro h
      obtain ⟨d,h1,h⟩:=Option.bind_eq_some_iff.mp h
      obtain ⟨es,h2,h⟩:=Option.map_eq_some_iff.mp h
      cases h
      exact .cons h1 (lookA_iff.mp h2)
    · intro h
      cases h with
      | cons h1 h2=>simp [cr,h1,lookA_iff.mpr h2]
theorem se {E:List Sl} {ss:List Sl} {ds:List PyData} (h:cr E ss=some ds):cr E ss.reverse=some ds.reverse:=lookA_iff.mpr (hJ (lookA_iff.mp h))
section
variable {X:Cx} {K:PySem.W.Frag} {B F:Hp} {σ:i4} {H:Hp} {E:List Sl} {xs:List V} {Xs:List Sl}
theorem FrF.looksR:∀{us:List V} {ts:List Sl} {es:List PyData} {A:List Addr},us.length=ts.length→FrF K B F A σ H E (us++xs) (ts++Xs)→cr E ts=some es→RpA K H us es∧∃A',FrF K B F A' σ H E xs Xs
  | [],[],es,A,_,h,e=>by cases e;exact ⟨.nil,A,h⟩
  | u::us,t::ts,es,A,hl,h,e=>by
    obtain ⟨d,h1,e⟩:=Option.bind_eq_some_iff.mp e
    obtain ⟨es',h2,e⟩:=Option.map_eq_some_iff.mp e
    cases e
    have r:=(FrF.look0 (xs:=us++xs) (Xs:=ts++Xs) h h1).1
    obtain ⟨A',h'⟩:=FrF.pop (xs:=us++xs) (Xs:=ts++Xs) h
    obtain ⟨r',q⟩:=FrF.looksR (by simpa using hl) h' h2
    exact ⟨.cons r r',q⟩
  | [],_::_,_,_,e,_,_=>by cases e
  | _::_,[],_,_,e,_,_=>by cases e
theorem FrF.looks {us:List V} {ts:List Sl} {es:List PyData} {A:List Addr} (hl:us.length=ts.length) (h:FrF K B F A σ H E (us.reverse++xs) (ts.reverse++Xs)) (e:cr E ts=some es):RpA K H us es∧∃A',FrF K B F A' σ H E xs Xs:=by
  obtain ⟨r,q⟩:=FrF.looksR (by simpa using hl) h (se e)
  have:=r.rev
  rw [List.reverse_reverse,List.reverse_reverse] at this
  exact ⟨this,q⟩
end
def wt (K:PySem.W.Frag) (r:List V→Hp→VK→Prop) (op:List PyData→Option PyData):Prop:=∀(ds:List PyData) (d:PyData) (vs:List V) (H:Hp) (Q:VK),op ds=some d→RpA K H vs ds→∃v,xr d=some v∧(Q v H→r vs H Q)
def bI (op:List PyData→Option PyData) (g:o8):aS:=fun E=>(g E).bind fun a=>(cr a.2 a.1).bind fun ds=>(op ds).map fun d=>(.sh d,a.2)
theorem yH {K:PySem.W.Frag} {r:List V→Hp→VK→Prop} {op:List PyData→Option PyData} (hp:wt K r op) {m:Bool} {g:o8} {σ:i4} {H:Hp} {Q:VK} (h:rd K m (bI op g) σ H Q):Bj r (ra K m g) σ H Q:=by
  obtain ⟨B,E,xs,Xs,res,E',fr,cl,e,q⟩:=h
  obtain ⟨⟨rs,E1⟩,e1,e⟩:=Option.bind_eq_some_iff.mp e
  obtain ⟨ds,e2,e⟩:=Option.bind_eq_some_iff.mp e
  obtain ⟨d,e3,e⟩:=Option.map_eq_some_iff.mp e
  cases e
  refine ⟨B,E,xs,Xs,rs,E1,fr,cl,e1,fun vs H1 hl ⟨F,A,fr1⟩=>?_⟩
  obtain ⟨r1,A',fr2⟩:=fr1.looks hl e2
  obtain ⟨v,hv,k⟩:=hp ds d vs H1 Q e3 r1
  exact k (q v H1 ⟨F,A',fr2.push ⟨rfl,v,rfl,jT hv⟩⟩)
def cS:List PyData→Option PyData
  | [.list xs]=>some (.int xs.length)
  | [.tuple xs]=>some (.int xs.length)
  | [.str z]=>if z.length≤1000000 then some (.int z.length) else none
  | _=>none
theorem RpA.one {K:PySem.W.Frag} {H:Hp} {vs:List V} {d:PyData} (h:RpA K H vs [d]):∃v,vs=[v]∧Rp K H v d:=by
  cases h with
  | cons h t=>cases t;exact ⟨_,rfl,h⟩
theorem RpA.two {K:PySem.W.Frag} {H:Hp} {vs:List V} {d e:PyData} (h:RpA K H vs [d,e]):∃v u,vs=[v,u]∧Rp K H v d∧Rp K H u e:=by
  cases h with
  | cons h t=>
    obtain ⟨u,rfl,r⟩:=t.one
    exact ⟨_,_,rfl,h,r⟩
section
variable {X:Cx} {e:Expr} {es:List Expr} {m1:Bool} {g:o8} {p pos:Pos} {K:PySem.W.Frag}
abbrev Aq (K:PySem.W.Frag):List V→Hp→VK→Prop:=fun xs H Q=>(∃p ys,xs=[.ref p]∧(SqL K H p ys∨SqT K H p ys)∧Q (.int ys.length) H)∨(∃z,xs=[.str z]∧z.length≤sizeLine∧Q (.int z.length) H)
theorem wu:wt K (Aq K) cS:=fun ds d vs H Q e r=>by
  unfold cS at e
  split at e
  · cases e
    obtain ⟨v,rfl,r'⟩:=r.one
    cases r' with
    | lst h1 h2=>exact ⟨_,rfl,fun q=> .inl ⟨_,_,rfl, .inl h1,by rw [h2.len];exact q⟩⟩
  · cases e
    obtain ⟨v,rfl,r'⟩:=r.one
    cases r' with
    | tup h1 h2=>exact ⟨_,rfl,fun q=> .inl ⟨_,_,rfl, .inr h1,by rw [h2.len];exact q⟩⟩
  · split at e
    · rename_i hl
      cases e
      obtain ⟨v,rfl,r'⟩:=r.one
      cases r'
      exact ⟨_,rfl,fun q=> .inr ⟨_,rfl,eC hl,q⟩⟩
    · cases e
  · cases e
theorem jZ {x:Str} {id:String} {r:List V→Hp→VK→Prop} {op:List PyData→Option PyData} (hp:wt X.K r op) (hc:CallR X (.builtin id) r) (hg:Gl X x) (hm:X.mg x=none) (hv:bootBuiltins x=some (.builtin id)) (ha:AX X (e::es) m1 g) (hn:x≠"__name__":=by decide) (hdb:(x == ("__debug__":Str))=false:=by decide)
    (he:starEach (e::es) X.env=(false,eval e X.env)::starEach es X.env:=by rfl) (hpl:(backTo pos (starEach es X.env)).any (·.1)=false:=by rfl):EX X (.Call (.Name x p) (e::es) [] pos) m1 (bI op g):=
  bA (iB hc hg hm hv ha hn hdb he hpl) fun _ _ _ h=>yH hp h
theorem fO (hg:Gl X "len") (hm:X.mg "len"=none) (ha:AX X [e] m1 g) (he:starEach [e] X.env=[(false,eval e X.env)]:=by rfl):EX X (.Call (.Name "len" p) [e] [] pos) m1 (bI cS g):=jZ wu (CallR.or ml mn) hg hm PySem.boot_len ha (by decide) (by decide) he rfl
end
def j0 (g:aS):aS:=fun E=>(g E).bind fun a=>match look a.2 a.1 with
  | some (.list ds)=>if !gT a.2 a.1||be ds then some (.ow ds,a.2) else none
  | some (.tuple ds)=>if !gT a.2 a.1||be ds then some (.ow ds,a.2) else none
  | _=>none
section
variable {X:Cx} {e:Expr} {m1:Bool} {f:aS} {p pos:Pos} {K:PySem.W.Frag}
theorem wv (hg:Gl X "list") (hm:X.mg "list"=none) (ha:EX X e m1 f) (he:starEach [e] X.env=[(false,eval e X.env)]:=by rfl):EX X (.Call (.Name "list" p) [e] [] pos) m1 (j0 f):=by
  refine bA (la mo hg hm PyProof.Rows.boot_list (cB ha dM he) (by decide) (by decide) he rfl) fun σ H Q z=>?_
  obtain ⟨B,E,xs,Xs,res,E',fr,cl,e,q⟩:=z
  obtain ⟨⟨s,E1⟩,e1,e⟩:=Option.bind_eq_some_iff.mp e
  refine ⟨B,E,xs,Xs,s,E1,fr,cl,e1,fun v1 H1 ⟨F,A,fr1⟩=>?_⟩
  obtain ⟨A',fr2⟩:=fr1.pop
  simp only at e
  split at e
  · rename_i ds ld
    split at e
    · rename_i hc
      cases e
      obtain ⟨a,vs,ev,h1,h2⟩:=fr1.items (k:=0) rfl ld hc
      cases ev
      exact ⟨a,vs,rfl, .inl h1,fun l hl=>q _ _ ⟨F,_,fr2.newl h2 hl⟩⟩
    · cases e
  · rename_i ds ld
    split at e
    · rename_i hc
      cases e
      obtain ⟨r,f0⟩:=fr1.look0 ld
      cases hh:gT E' s with
      | false=>
        have h0:Rp X.K F v1 _:=f0 hh
        cases h0 with
        | tup h1 h2=>exact ⟨_,_,rfl, .inr (fr1.fh.tup h1),fun l hl=>q _ _ ⟨F,_,fr2.newl h2 hl⟩⟩
      | true=>
        rw [hh] at hc
        cases r with
        | tup h1 h2=>exact ⟨_,_,rfl, .inr h1,fun l hl=>q _ _ ⟨F,_,fr2.newl (fr1.coldA h2 (by simpa using hc)) hl⟩⟩
    · cases e
  · cases e
end
inductive Ty where
  | non | bool | int | str | list | tuple | dict
def Ty.name:Ty→String
  | .non=>"NoneType"
  | .bool=>"bool"
  | .int=>"int"
  | .str=>"str"
  | .list=>"list"
  | .tuple=>"tuple"
  | .dict=>"dict"
def Ty.is:Ty→Ty→Bool
  | .non, .non=>true
  | .bool, .bool=>true
  | .bool, .int=>true
  | .int, .int=>true
  | .str, .str=>true
  | .list, .list=>true
  | .tuple, .tuple=>true
  | .dict, .dict=>true
  | _,_=>false
def uu:PyData→Ty
  | .none=> .non
  | .bool _=> .bool
  | .int _=> .int
  | .str _=> .str
  | .list _=> .list
  | .tuple _=> .tuple
  | .dict _=> .dict
theorem Ar (K:PySem.W.Frag) (t n:Ty):PySem.W.kitOne K (.type t.name) (.type n.name)=some (t.is n):=by cases t <;> cases n <;> rfl
def fi (n:Ty) (d:PyData):Option PyData:=some (.bool ((uu d).is n))
section
variable {X:Cx} {e:Expr} {m1:Bool} {f:aS} {p p2 pos:Pos}
theorem sf {pins:List (Addr×Obj)} {s:Shared} {σ:i4} {H:Hp} {x:V} {u:Value} {d:PyData} {n:Ty} {A:Around} {E:Value→Shared→Prop} {Q:Value→Shared→Prop} (I:Inv X pins σ H s) (rx:RelV x u) (rp:Rp X.K H x d) (h:∀tk,Q (.bool ((uu d).is n)) {s with toks:=tk}):
    wpAny (model X.prog X.w) A (call (.builtin "isinstance") [u, .type n.name]) Q E s:=by
  have e:=Ar X.K (uu d) n
  cases rp with
  | non=>exact gD I rx .non e h
  | bl b=>exact gD I rx (.bl b) e h
  | int i=>exact gD I rx (.int i) e h
  | str y=>exact gD I rx (.str y) e h
  | lst h1 _=>
    cases rx
    obtain ⟨its,rv,⟨o,n',e1,c,_,d⟩,_⟩:=I.list h1
    exact PySem.W.kia_one PySem.W.kitx_list I.kIn ⟨_,e1,c⟩ e (fun z=>nomatch z) h
  | tup h1 _=>
    cases rx
    obtain ⟨its,rv,⟨o,e1,c,n',d⟩,_⟩:=I.tuple h1
    exact PySem.W.kia_one PySem.W.kitx_tuple I.kIn ⟨_,e1,c⟩ e (fun z=>nomatch z) h
  | dct h1 _=>
    cases rx
    obtain ⟨_,_,vs,_,ob,es,ep,e1,c,_⟩:=Ap I.hok h1
    exact PySem.W.kia_one PySem.W.kitx_dict I.kIn ⟨_,e1,c.1⟩ e (fun z=>nomatch z) h
theorem si (n:Ty):CallR X (.builtin "isinstance") (fun xs H Q=>∃x d,xs=[x, .ty n.name]∧Rp X.K H x d∧Q (.bl ((uu d).is n)) H):=by
  intro pins s σ H xs us Q I r h
  obtain ⟨x,d,rfl,rp,q⟩:=h
  obtain ⟨u,w',rfl,ru,rw'⟩:=r.two
  cases (show w'=Value.type n.name from rw')
  exact sf I ru rp fun tk=>⟨.bl _,H,I.tok _,rfl,q⟩
theorem ii (n:Ty) (hg:Gl X "isinstance") (hm:X.mg "isinstance"=none) (ha:EX X e m1 f) {x:Str} (hgx:Gl X x) (hmx:X.mg x=none) (hbx:bootBuiltins x=some (.type n.name)) (hnx:x≠"__name__":=by decide) (hdx:(x == ("__debug__":Str))=false:=by decide)
    (he:starEach [e, .Name x p2] X.env=(false,eval e X.env)::starEach [.Name x p2] X.env:=by rfl) (he2:starEach [.Name x p2] X.env=[(false,eval (.Name x p2) X.env)]:=by rfl) (hpl:(backTo pos (starEach [.Name x p2] X.env)).any (·.1)=false:=by rfl):
    EX X (.Call (.Name "isinstance" p) [e, .Name x p2] [] pos) m1 (h8 (fi n) f):=by
  have h2:PE X (.Name x p2) (tC (.ty n.name)):=vJ (v:= .ty n.name) hgx hmx hbx rfl hnx hdx
  refine bA (iB (si n) hg hm PyProof.Rows.boot_isinstance (cB ha (cB h2 dM he2) he) (by decide) (by decide) he hpl) fun σ H Q z=>?_
  obtain ⟨B,E,xs,Xs,res,E',fr,cl,e,q⟩:=z
  obtain ⟨⟨s,E1⟩,e1,e⟩:=Option.bind_eq_some_iff.mp e
  obtain ⟨d1,e2,e⟩:=Option.bind_eq_some_iff.mp e
  cases e
  refine ⟨B,E,xs,Xs,s,E1,fr,cl,e1,fun v1 H1 ⟨F,A,fr1⟩=>?_⟩
  obtain ⟨A',fr2⟩:=fr1.pop
  exact ⟨v1,d1,rfl,(fr1.look0 e2).1,q _ _ ⟨F,A',fr2.push ⟨rfl,_,rfl, .bl _⟩⟩⟩
end
end PL
namespace PL
open PySem L2 Nh
def qM (K:PySem.W.Frag) (H H':Hp) (v:V):Sl→Prop
  | .sh d=>Rp K (tups H') v d
  | .ow ds=>∃l vs,v= .ref l∧H l=none∧H' l=some (.lst vs)∧RpA K (tups H') vs ds
  | .tx ps=>∃t vs A,v= .ref t∧tups H' t=some (.tup vs)∧A.Nodup∧(∀a∈A,H a=none)∧PtsOk K (tups H') H' vs ps A
  | .od kvs=>∃l us A,v= .ref l∧(l::A).Nodup∧(∀a∈l::A,H a=none)∧H' l=some (.dK us)∧DlOk K (tups H') H' us kvs A
  | .br d=>Rp K H' v d
  | _=>False
def dF (K:PySem.W.Frag) (c:List PyData→Option Sl):Sp:=fun vs H Q _=>∃ds r,c ds=some r∧RpA K H vs ds∧∀v H',Same H H'→qM K H H' v r→Q v H'
section
variable {K:PySem.W.Frag} {B F:Hp} {A N:List Addr} {σ:i4} {H H':Hp} {E:List Sl} {xs:List V} {Xs:List Sl} {v:V} {s:Sl}
theorem FrF.growN (h:FrF K B F A σ H E xs Xs) (g:Same H H') (hN:∀a∈N,H a=none∧((∃us,H' a=some (.lst us))∨∃us,H' a=some (.dK us))):FrF K B (fun b=>if b∈N then none else if b∈A then none else H' b) A σ H' E xs Xs:=by
  have h1:=h.grow g
  have nF:∀b o,F b=some o→b∉N:=fun b o e hb=>by
    have:=h.fh.free (hN b hb).1
    rw [this] at e;cases e
  have FF:Same F (fun b=>if b∈N then none else if b∈A then none else H' b):=fun b o e=>by
    have nA:b∉A:=fun hb=>by rw [h.fr b hb] at e;cases e
    show (if b∈N then none else if b∈A then none else H' b)=some o
    rw [if_neg (nF b o e),if_neg nA]
    exact g _ _ (h.fh _ _ e)
  have hA:∀b∈A,H' b=H b:=fun b hb=>by
    rcases h.mutA b hb with ⟨_,z⟩ | ⟨_,z⟩ <;> rw [z,g _ _ z]
  refine ⟨h.bf.trans FF,fun b o e=>?_,fun b o e=>?_,h.sl.mono fun o s C _ hC q=>q.stay FF (fun b hb=>hA b (hC b hb)) fun _=>g,h.nd,fun a ha=>?_,h.len,h.pl⟩
  · by_cases hb:b∈N
    · rw [if_pos hb] at e;cases e
    · rw [if_neg hb] at e;exact h1.fh _ _ e
  · show (if b∈N then none else if b∈A then none else H' b)=some o
    by_cases hb:b∈N
    · obtain ⟨e1,e2⟩:=Option.filter_eq_some_iff.mp e
      rcases (hN b hb).2 with ⟨us,z⟩ | ⟨us,z⟩ <;> rw [z] at e1 <;> cases e1 <;> cases e2
    · rw [if_neg hb];exact h1.tf _ _ e
  · show (if a∈N then none else if a∈A then none else H' a)=none
    by_cases hb:a∈N
    · rw [if_pos hb]
    · rw [if_neg hb,if_pos ha]
theorem FrF.pushR (h:FrF K B F A σ H E xs Xs) (q:SlOk K F H σ (some v) s N) (nd:N.Nodup) (dj:∀a∈N,a∉A) (fr:∀a∈N,F a=none):FrF K B F (N++A) σ H E (v::xs) (s::Xs):=
  ⟨h.bf,h.fh,h.tf, .cons q h.sl,List.nodup_append.mpr ⟨nd,h.nd,fun a ha b hb e=>dj a ha (e▸hb)⟩,fun a ha=>(List.mem_append.mp ha).elim (fr a) (h.fr a),by simp [h.len],h.pl⟩
theorem FrF.told (h:FrF K B F A σ H E xs Xs) (g:Same H H') (q:qM K H H' v s):Frm K B σ H' E (v::xs) (s::Xs):=by
  cases s with
  | sh d=>
    have h1:=h.grow g
    exact ⟨_,_,h1.push ⟨rfl,v,rfl,Rp.same h1.tf q⟩⟩
  | ow ds=>
    obtain ⟨l,vs,rfl,hl,hl',r⟩:=q
    have h1:=h.growN (N:=[l]) g fun a ha=>by rw [List.mem_singleton.mp ha];exact ⟨hl, .inl ⟨vs,hl'⟩⟩
    exact ⟨_,_,h1.pushR (N:=[l]) ⟨l,vs,rfl,rfl,hl',r.same h1.tf⟩ (by simp) (fun a ha=>by rw [List.mem_singleton.mp ha];exact h.newA hl) fun a ha=>if_pos ha⟩
  | tx ps=>
    obtain ⟨t,vs,N,rfl,ht,nd,hN,r⟩:=q
    have h1:=h.growN (N:=N) g fun a ha=>⟨hN a ha, .inl (r.some a ha)⟩
    exact ⟨_,_,h1.pushR (N:=N) ⟨t,vs,rfl,h1.tf _ _ ht,r.stay h1.tf fun _ _=>rfl⟩ nd (fun a ha=>h.newA (hN a ha)) fun a ha=>if_pos ha⟩
  | no=>exact False.elim q
  | od kvs=>
    obtain ⟨l,us,N,rfl,nd,hN,hl,r⟩:=q
    have h1:=h.growN (N:=l::N) g fun a ha=>⟨hN a ha,(List.mem_cons.mp ha).elim (fun z=> .inr ⟨us,z▸hl⟩) fun z=> .inl (r.some a z)⟩
    exact ⟨_,_,h1.pushR (N:=l::N) ⟨l,us,N,rfl,rfl,hl,r.stay h1.tf fun _ _=>rfl⟩ nd (fun a ha=>h.newA (hN a ha)) fun a ha=>if_pos ha⟩
  | al i=>exact False.elim q
  | br d=>
    have h1:=h.grow g
    exact ⟨_,_,h1.push ⟨rfl,v,rfl,q⟩⟩
end
def am (c:List PyData→Option Sl) (g:o8):aS:=fun E=>(g E).bind fun a=>(cr a.2 a.1).bind fun ds=>(c ds).map fun r=>(r,a.2)
theorem aE {X:Cx} {k:Nat} {x:Str} {ps:List Str} {c:List PyData→Option Sl} {p pos:Pos} {e:Expr} {es:List Expr} {m:Bool} {g:o8} (D:Own X.prog X.w X.K X.mg X.base k x ps (dF X.K c)) (hr:Room k X.A) (hg:Gl X x) (ha:AX X (e::es) m g)
    (hdb:(x == ("__debug__":Str))=false:=by decide) (he:starEach (e::es) X.env=(false,eval e X.env)::starEach es X.env:=by rfl) (hpl:(backTo pos (starEach es X.env)).any (·.1)=false:=by rfl):
    EX X (.Call (.Name x p) (e::es) [] pos) m (am c g):=by
  refine bA (yy D hr hg ha hdb he hpl) fun σ H Q z=>?_
  obtain ⟨B,E,xs,Xs,res,E',fr,cl,e,q⟩:=z
  obtain ⟨⟨rs,E1⟩,e1,e⟩:=Option.bind_eq_some_iff.mp e
  obtain ⟨ds,e2,e⟩:=Option.bind_eq_some_iff.mp e
  obtain ⟨r,e3,e⟩:=Option.map_eq_some_iff.mp e
  cases e
  refine ⟨B,E,xs,Xs,rs,E1,fr,cl,e1,fun vs H1 hl ⟨F,A,fr1⟩=>?_⟩
  obtain ⟨r1,A',fr2⟩:=fr1.looks hl e2
  exact ⟨ds,res,e3,by rw [List.append_nil];exact r1,fun v H' g q'=>q v H' (fr2.told g q')⟩
def bn (i:Nat) (f:aS):aS:=fun E=>match E[i]? with
  | some (.ow _)=>(f E).bind fun a=>(frz a.2 a.1).bind fun b=>match b.2[i]? with
    | some (.ow ds)=>if ds.length < 1000000 then some (.sh .none,b.2.set i (.ow (ds++[b.1]))) else none
    | _=>none
  | _=>none
section
variable {X:Cx} {e:Expr} {m1:Bool} {f:aS} {x:Str} {p apos cpos:Pos}
theorem dO (i:Nat) (he:EX X e m1 f) (hN:X.N[i]? =some x:=by rfl) (hv:zG X.env.scope x:=by first | exact Or.inl rfl | exact Or.inr (Or.inl rfl) | exact Or.inr (Or.inr rfl)) (hd:(x == ("__debug__":Str))=false:=by decide) (hcd:(x == ("__classdict__":Str))=false:=by decide)
    (hs:starEach [e] X.env=[(false,eval e X.env)]:=by rfl) (hbase:attributeBase (.Name x p) "append" X.env (eval (.Name x p) X.env)=eval (.Name x p) X.env:=by rfl)
    (hfew:((backTo cpos (starEach [e] X.env)).all (fun x=> !x.1)&&(backToKw cpos (keywordEach [] X.env)).all (fun x=>x.1.isSome)
      &&decide (([e]:List Expr).length+([]:List Keyword).length+(if ([]:List Keyword).isEmpty then 0 else 1) < 30))=true:=by rfl) (hline:(apos.endLine == cpos.line)=true:=by rfl):
    EX X (.Call (.Attribute (.Name x p) "append" apos) [e] [] cpos) true (bn i f):=by
  refine bA (t_ PySem.F.plainAttrs_list PySem.F.slot_list_append PySem.F.type_list_append lg (pc hN hv hd hcd) (cB he dM hs) hbase hfew hline hs rfl) fun σ H Q z=>?_
  obtain ⟨B,E,xs,Xs,res,E',⟨F,A,fr⟩,cl,e,q⟩:=z
  unfold bn at e
  split at e
  · rename_i ds0 ei
    obtain ⟨⟨s,E1⟩,e1,e⟩:=Option.bind_eq_some_iff.mp e
    obtain ⟨⟨d,E2⟩,e2,e⟩:=Option.bind_eq_some_iff.mp e
    simp only at e
    split at e
    · rename_i ds ei2
      split at e
      · rename_i hl
        cases e
        obtain ⟨o,A1,eo,l,vs,rfl,rfl,hl0,_⟩:=fr.var ei
        refine ⟨_,eo, .inl ⟨rfl,_,SqL.of hl0⟩,B,E,xs,Xs,s,E1,⟨F,A,fr⟩,fun _=>cl rfl,e1,fun v H1 ⟨F1,A1,fr1⟩=>?_⟩
        obtain ⟨F2,A2,fr2⟩:=fr1.frz0 e2
        obtain ⟨v',A3,ev,rfl,w,ew,rv⟩:=fr2.ext (k:=0) rfl
        cases ev;cases ew
        obtain ⟨A4,fr3⟩:=fr2.pop
        obtain ⟨l',vs',eo',hl',r',put⟩:=fr3.mut ei2 (cl rfl)
        rw [eo] at eo'
        cases eo'
        have ll:=r'.len
        have fr4:=put (vs'++[v]) (ds++[d]) (r'.snoc rv)
        exact ⟨l,vs',v,rfl,rfl,hl',small (by omega),q _ _ ⟨_,_,fr4.push ⟨rfl,_,rfl, .non⟩⟩⟩
      · cases e
    · cases e
  · cases e
end
def uv (s:Sl):Sl:=match s.val with
  | some d=> .sh d
  | none=> .no
def frzAll (E:List Sl):List Sl:=E.map uv
def settle (E:List Sl):Sl→Option (Sl×List Sl)
  | .al i=>(frz E (.al i)).map fun a=>(.sh a.1,a.2)
  | .br d=>if cD d then some (.sh d,E) else some (.sh d,frzAll E)
  | s=>some (s,E)
def aT (g h:dE):dE:=fun E=>(g E).bind fun a=>match a.2 with
  | .nx=>h a.1
  | fl=>some (a.1,fl)
def ba:dE:=fun E=>some (E, .nx)
def dG (f:aS):dE:=fun E=>(f E).map fun a=>(a.2, .nx)
def bi (f:aS):dE:=fun E=>(f E).bind fun a=>match a.1 with
  | .al i=>(a.2[i]?).map fun s=>(a.2.set i .no, .rt s)
  | s=>some (a.2, .rt s)
def cy (c:iG) (g h:dE):dE:=fun E=>(c E).bind fun a=>if a.1 then g a.2 else h a.2
def aK (i:Nat) (f:aS):dE:=fun E=>(f E).bind fun a=>(settle a.2 a.1).bind fun b=>if i < b.2.length then some (b.2.set i b.1, .nx) else none
section
variable {K:PySem.W.Frag} {B F:Hp} {A:List Addr} {σ:i4} {H:Hp} {E E':List Sl} {xs:List V} {Xs:List Sl} {v:V} {s s':Sl} {d:PyData}
theorem FrF.frzAll (h:FrF K B F A σ H E xs Xs) (hX:Xs=[]):FrF K B H [] σ H (PL.frzAll E) [] []:=by
  subst hX
  have hx:xs=[]:=by simpa using h.len
  subst hx
  refine ⟨h.bf.trans h.fh,Same.refl _,i3 H,?_,List.nodup_nil,fun a ha=>(by cases ha),rfl,fun s hs=>?_⟩
  · have key:∀{os:List (Option V)} {ss:List Sl} {C:List Addr},SAll (SlOk K F H σ) os ss C→SAll (SlOk K H H σ) os (PL.frzAll ss) []:=fun {os ss C} r=>by
      induction r with
      | nil=>exact .nil
      | cons q _ ih=>
        refine .cons (A:=[]) ?_ ih
        unfold uv
        split
        · rename_i d e
          obtain ⟨v,rfl,r,_⟩:=q.val h.fh e
          exact ⟨rfl,v,rfl,r⟩
        · exact rfl
    exact key h.sl
  · obtain ⟨t,_,rfl⟩:=List.mem_map.mp hs
    unfold uv
    split <;> rfl
theorem FrF.settle (h:FrF K B F A σ H E (v::xs) (s::Xs)) (hX:Xs=[]) (q:PL.settle E s=some (s',E')):s'.isAl=false∧Frm K B σ H E' (v::xs) (s'::Xs):=by
  cases s with
  | al i=>
    obtain ⟨⟨d,E2⟩,e,z⟩:=Option.map_eq_some_iff.mp (show (frz E (.al i)).map (fun a=>(Sl.sh a.1,a.2))=some (s',E') from q)
    cases z
    obtain ⟨F',A',h'⟩:=h.frz0 e
    exact ⟨rfl,F',A',h'⟩
  | br d=>
    have r:=(h.look0 (d:=d) rfl).1
    obtain ⟨A',h'⟩:=h.pop
    simp only [PL.settle] at q
    split at q
    · rename_i hf
      cases q
      exact ⟨rfl,F,A',h'.push ⟨rfl,v,rfl,h.cold r hf⟩⟩
    · cases q
      have h2:=h'.frzAll hX
      have hl:=h'.len
      subst hX
      have hx:xs=[]:=by simpa using hl
      subst hx
      exact ⟨rfl,H,[],h2.push ⟨rfl,v,rfl,r⟩⟩
  | no=>cases q;exact ⟨rfl,F,A,h⟩
  | sh d=>cases q;exact ⟨rfl,F,A,h⟩
  | ow ds=>cases q;exact ⟨rfl,F,A,h⟩
  | od kvs=>cases q;exact ⟨rfl,F,A,h⟩
  | tx ps=>cases q;exact ⟨rfl,F,A,h⟩
theorem FrF.move {i:Nat} (h:FrF K B F A σ H E (v::xs) (.al i::Xs)) (e:E[i]? =some s):Frm K B σ H (E.set i .no) (v::xs) (s::Xs):=by
  obtain ⟨v',A1,ev,rfl,w,ew,hw⟩:=h.ext (k:=0) rfl
  cases ev;cases ew
  obtain ⟨A',h'⟩:=h.pop
  obtain ⟨o,A0,A1,A2,eA,eo,hp,put⟩:=h'.sl.at (k:=Xs.length+i) (s:=s) (by rw [List.getElem?_append_right (by omega)];simpa using e)
  have z:=put (SlOk K F H σ) o .no [] rfl fun _ _ _ _ _ q=>q
  have e3:(Xs++E).set (Xs.length+i) .no=Xs++E.set i .no:=by
    rw [List.set_append_right _ _ (by omega),Nat.add_sub_cancel_left]
  have e2:(List.map some xs++σ).set (Xs.length+i) o=List.map some xs++σ:=List.ext_getElem? fun j=>by
    by_cases hj:Xs.length+i=j
    · subst hj
      rw [List.getElem?_set_self',eo];rfl
    · rw [List.getElem?_set_ne hj]
  rw [e2,e3] at z
  rw [List.getElem?_append_right (by rw [List.length_map,h'.len];omega),List.length_map,h'.len,Nat.add_sub_cancel_left,hw] at eo
  cases eo
  have nd:=h'.nd
  rw [eA] at nd
  refine ⟨F,A1++(A0++([]++A2)),h.bf,h.fh,h.tf, .cons hp z,?_,fun a ha=>h'.fr a ?_,h.len,fun s' hs=>?_⟩
  · have p:(A1++(A0++([]++A2))).Perm (A0++(A1++A2)):=by
      rw [List.nil_append,←List.append_assoc,←List.append_assoc]
      exact List.Perm.append_right _ List.perm_append_comm
    exact p.nodup_iff.mpr nd
  · rw [eA]
    simp only [List.mem_append,List.nil_append] at ha ⊢
    rcases ha with z | z | z
    · exact .inr (.inl z)
    · exact .inl z
    · exact .inr (.inr z)
  · rcases List.mem_or_eq_of_mem_set hs with hs | hs
    · exact h.pl s' hs
    · subst hs;rfl
end
section
variable {X:Cx} {st:Stmt} {aW a b:List Stmt} {g h:dE} {e c:Expr} {m:Bool} {f:aS} {t:iG} {pos:Pos}
theorem bN:rX X [] ba:=qJ vL fun D σ H z=>by
  obtain ⟨B,E,xs,Xs,E',fl,fr,cl,e,q⟩:=z
  cases e
  exact q _ _ fr
theorem aq (h1:SX X st g):rX X [st] g:=vM h1
theorem yI {K:PySem.W.Frag} {D:Ends} {σ:i4} {H:Hp} (z:rs K (aT g h) D σ H):rs K g {D with nx:=rs K h D} σ H:=by
  obtain ⟨B,E,xs,Xs,E',fl,fr,cl,e,q⟩:=z
  obtain ⟨⟨E1,f1⟩,e1,e⟩:=Option.bind_eq_some_iff.mp e
  refine ⟨B,E,xs,Xs,E1,f1,fr,cl,e1,?_⟩
  cases f1 with
  | nx=>exact fun σ' H' fr'=>⟨B,E1,xs,Xs,E',fl,fr',cl,e,q⟩
  | bk=>cases e;exact q
  | ct=>cases e;exact q
  | rt r=>cases e;exact q
theorem aj (h1:SX X st g) (h2:rX X aW h):rX X (st::aW) (aT g h):=qJ (tR h1 h2) fun D σ H z=>yI z
theorem fP (he:EX X e m f) (hs:swapsWith e none pos.line X.env=pure false:=by rfl):SX X (.Expr e pos) (dG f):=hO (vN he hs) fun D σ H z=>by
  obtain ⟨B,E,xs,Xs,E',fl,fr,cl,e,q⟩:=z
  obtain ⟨⟨s,E1⟩,e1,e⟩:=Option.map_eq_some_iff.mp e
  cases e
  refine ⟨B,E,xs,Xs,s,E1,fr,fun _=>Calm.nil cl,e1,fun v H1 ⟨F,A,fr1⟩=>?_⟩
  obtain ⟨A',fr2⟩:=fr1.pop
  exact q _ _ ⟨F,A',fr2⟩
theorem bg (he:EX X e m f):SX X (.Return (some e) pos) (bi f):=hO (xW he) fun D σ H z=>by
  obtain ⟨B,E,xs,Xs,E',fl,fr,cl,e,q⟩:=z
  obtain ⟨⟨s,E1⟩,e1,e⟩:=Option.bind_eq_some_iff.mp e
  refine ⟨B,E,xs,Xs,s,E1,fr,fun _=>Calm.nil cl,e1,fun v H1 ⟨F,A,fr1⟩=>?_⟩
  simp only at e
  split at e
  · obtain ⟨s',es,e⟩:=Option.map_eq_some_iff.mp e
    cases e
    exact q σ _ _ (fr1.move es)
  · cases e
    exact q σ _ _ ⟨F,A,fr1⟩
theorem dH (hc:TX X c m t) (ha:rX X a g) (hb:rX X b h):SX X (.If c a b pos) (cy t g h):=hO (zM hc ha hb) fun D σ H z=>by
  obtain ⟨B,E,xs,Xs,E',fl,fr,cl,e,q⟩:=z
  obtain ⟨⟨b1,E1⟩,e1,e⟩:=Option.bind_eq_some_iff.mp e
  refine ⟨B,E,xs,Xs,b1,E1,fr,fun _=>Calm.nil cl,e1,fun H1 fr1=>?_⟩
  cases b1 with
  | true=>exact (if_pos rfl).mpr ⟨B,E1,xs,Xs,E',fl,fr1,cl,e,q⟩
  | false=>exact (if_neg (by decide)).mpr ⟨B,E1,xs,Xs,E',fl,fr1,cl,e,q⟩
theorem aO (i:Nat) {x:Str} {pos':Pos} (hN:X.N.Nodup) (he:EX X e m f) (hi:X.N[i]? =some x:=by rfl) (hx:xO X.env.scope x:=by first | exact Or.inl rfl | exact Or.inr rfl) (hs:swapsWith e (some (.Name x pos')) pos.line X.env=pure false:=by rfl) (hf:X.fn x=true∨X.env.scope.names.lookup x=some .local:=by first | exact .inl rfl | exact .inr rfl | assumption):
    SX X (.Assign [.Name x pos'] e pos) (aK i f):=hO (x8 hN hi hx he hs hf) fun D σ H z=>by
  obtain ⟨B,E,xs,Xs,E',fl,fr,cl,e,q⟩:=z
  obtain ⟨⟨s,E1⟩,e1,e⟩:=Option.bind_eq_some_iff.mp e
  obtain ⟨⟨s',E2⟩,e2,e⟩:=Option.bind_eq_some_iff.mp e
  refine ⟨B,E,xs,Xs,s,E1,fr,fun _=>Calm.nil cl,e1,fun v H1 ⟨F,A,fr1⟩=>?_⟩
  obtain ⟨c1,F2,A2,fr2⟩:=fr1.settle cl e2
  simp only at e
  split at e
  · rename_i hi
    cases e
    obtain ⟨A3,fr3⟩:=fr2.store c1 (Still.nil cl) hi
    exact q _ _ ⟨F2,A3,fr3⟩
  · cases e
end
end PL
namespace PL
open PySem L2 Nh
abbrev gf:=PyData→List Sl→Option (List Sl)
abbrev n3:=List PyData→List Sl→Option (List Sl)
def rg (K:PySem.W.Frag) (h:gf):TG:=fun v σ H Q=>∃B E xs Xs d E',Frm K B σ H E (v::xs) (.sh d::Xs)∧Still Xs∧h d E=some E'∧∀σ' H',Frm K B σ' H' E' xs Xs→Q σ' H'
def BX (K:PySem.W.Frag) (h:n3):vO:=fun vs σ H Q=>∃B E xs Xs ds E',vs.length=ds.length∧Frm K B σ H E (vs++xs) (ds.map .sh++Xs)∧Still Xs∧h ds E=some E'∧∀σ' H',Frm K B σ' H' E' xs Xs→Q σ' H'
def GX (X:Cx) (e:Expr) (h:gf):Prop:=PG X e (rg X.K h)
def AQ (X:Cx) (es:List Expr) (h:n3):Prop:=xY X es (BX X.K h)
def bX (i:Nat):gf:=fun d E=>if i < E.length then some (E.set i (.sh d)) else none
def uw:n3:=fun ds E=>if ds.isEmpty then some E else none
def pG (h:gf) (hs:n3):n3:=fun ds E=>match ds with
  | d::ds=>(h d E).bind (hs ds)
  | []=>none
def uz (n:Nat) (hs:n3):gf:=fun d E=>match d with
  | .tuple ds=>if ds.length=n then hs ds E else none
  | _=>none
section
variable {X:Cx}
theorem uA {e:Expr} {t t':TG} (h:PG X e t) (k:∀v σ H Q,t' v σ H Q→t v σ H Q):PG X e t':=fun pins s σ H v u Q I r q=>h pins s σ H v u Q I r (k v σ H Q q)
theorem qN {es:List Expr} {t t':vO} (h:xY X es t) (k:∀v σ H Q,t' v σ H Q→t v σ H Q):xY X es t':=fun pins s σ H v u Q I r q=>h pins s σ H v u Q I r (k v σ H Q q)
theorem bO (i:Nat) {x:Str} {pos:Pos} (hN:X.N.Nodup) (hi:X.N[i]? =some x:=by rfl) (hx:xO X.env.scope x:=by first | exact Or.inl rfl | exact Or.inr rfl) (hf:X.fn x=true∨X.env.scope.names.lookup x=some .local:=by first | exact .inl rfl | exact .inr rfl | assumption):GX X (.Name x pos) (bX i):=uA (qv hN hi hx hf) fun v σ H Q z=>by
  obtain ⟨B,E,xs,Xs,d,E',⟨F,A,fr⟩,cl,e,q⟩:=z
  unfold bX at e
  split at e
  · rename_i hi
    cases e
    obtain ⟨A',fr'⟩:=fr.store rfl cl hi
    exact q _ _ ⟨F,A',fr'⟩
  · cases e
theorem wx:AQ X [] uw:=qN vP fun v σ H Q z=>by
  obtain ⟨B,E,xs,Xs,ds,E',hl,fr,cl,e,q⟩:=z
  unfold uw at e
  split at e
  · rename_i hd
    cases e
    have:ds=[]:=by simpa using hd
    subst this
    have hv:v=[]:=by simpa using hl
    subst hv
    exact ⟨rfl,q _ _ fr⟩
  · cases e
theorem n4 {e:Expr} {es:List Expr} {h:gf} {hs:n3} (h1:GX X e h) (h2:AQ X es hs) (hst:(assignEach (e::es) X.env).map (·.2)=assign e X.env::(assignEach es X.env).map (·.2):=by rfl):AQ X (e::es) (pG h hs):=qN (tV h1 h2 hst) fun v σ H Q z=>by
  obtain ⟨B,E,xs,Xs,ds,E',hl,fr,cl,e,q⟩:=z
  cases ds with
  | nil=>cases e
  | cons d ds=>
    cases v with
    | nil=>cases hl
    | cons v vs=>
      obtain ⟨E1,e1,e2⟩:=Option.bind_eq_some_iff.mp e
      refine ⟨v,vs,rfl,B,E,vs++xs,ds.map Sl.sh++Xs,d,E1,fr,fun s hs=>?_,e1,fun σ1 H1 fr1=>⟨B,E1,xs,Xs,ds,E',by simpa using hl,fr1,cl,e2,q⟩⟩
      rcases List.mem_append.mp hs with hs | hs
      · obtain ⟨d',_,rfl⟩:=List.mem_map.mp hs
        rfl
      · exact cl s hs
theorem yJ {es:List Expr} {k:Nat} {pos:Pos} {hs:n3} {n:Nat} (hc:X.calm=true) (h:AQ X es hs) (hn:(assignEach es X.env).length=n:=by rfl) (hst:(assignEach es X.env).findIdx? (·.1)=none:=by rfl):GX X (.Tuple es k pos) (uz n hs):=uA (xZ hc h hn hst) fun v σ H Q z=>by
  obtain ⟨B,E,xs,Xs,d,E',⟨F,A,fr⟩,cl,e,q⟩:=z
  unfold uz at e
  split at e
  · rename_i ds
    split at e
    · rename_i hl
      obtain ⟨v',A1,ev,rfl,w,ew,r⟩:=fr.ext (k:=0) rfl
      cases ev;cases ew
      cases r with
      | tup h1 h2=>
        obtain ⟨A',fr'⟩:=fr.pop
        have key:∀{us:List V} {es:List PyData},RpA X.K F us es→FrF X.K B F A' σ H E (us++xs) (es.map .sh++Xs):=fun {us es} r=>by
          induction us generalizing es with
          | nil=>cases r;exact fr'
          | cons u us ih=>
            cases r with
            | cons r1 r2=>exact (ih r2).push ⟨rfl,_,rfl,r1⟩
        exact ⟨_,_,rfl,fr.fh.tup h1,by rw [h2.len];exact hl,B,E,xs,Xs,ds,E',h2.len,⟨F,A',key h2⟩,cl,e,q⟩
    · cases e
  · cases e
end
def n5 (K:PySem.W.Frag) (B0:Hp) (J:It) (ds:List PyData):Prop:=∀{B F:Hp} {A:List Addr} {σ:i4} {H:Hp} {E:List Sl} {xs:List V} {Xs:List Sl} (i:Nat),Same B0 B→FrF K B F A σ H E xs Xs→
  (∀d,ds[i]? =some d→J.go i H∧∀x H2,J.yld i H x H2→Frm K B σ H2 E (x::xs) (.sh d::Xs))∧(i=ds.length→J.stop i H)
def ri (K:PySem.W.Frag) (m:Bool) (f:jx):TI:=fun σ H R=>∃B E xs Xs ds E',Frm K B σ H E xs Xs∧(m=true→Calm Xs)∧f E=some (ds,E')∧∀B' J H',Same B B'→Frm K B' σ H' E' xs Xs→n5 K B' J ds→R J H'
def IX (X:Cx) (tg e:Expr) (m:Bool) (f:jx):Prop:=PI X tg e (ri X.K m f)
theorem FrF.base {K:PySem.W.Frag} {B B' F:Hp} {A:List Addr} {σ:i4} {H:Hp} {E:List Sl} {xs:List V} {Xs:List Sl} (h:FrF K B' F A σ H E xs Xs) (s:Same B B'):FrF K B F A σ H E xs Xs:=⟨s.trans h.bf,h.fh,h.tf,h.sl,h.nd,h.fr,h.len,h.pl⟩
theorem Frm.base {K:PySem.W.Frag} {B B':Hp} {σ:i4} {H:Hp} {E:List Sl} {xs:List V} {Xs:List Sl} (h:Frm K B' σ H E xs Xs) (s:Same B B'):Frm K B σ H E xs Xs:=let ⟨F,A,h⟩:=h;⟨F,A,h.base s⟩
theorem FrF.raise {K:PySem.W.Frag} {B F:Hp} {A:List Addr} {σ:i4} {H:Hp} {E:List Sl} {xs:List V} {Xs:List Sl} (h:FrF K B F A σ H E xs Xs):FrF K F F A σ H E xs Xs:=⟨Same.refl _,h.fh,h.tf,h.sl,h.nd,h.fr,h.len,h.pl⟩
def iJ (lo:Int) (n:Nat):List PyData:=(List.range n).map fun (k:Nat)=> .int (lo+(k:Int))
def eF (g:o8):jx:=fun E=>(g E).bind fun a=>match cr a.2 a.1 with
  | some [.int j]=>if -1000000≤j∧j≤1000000 then some (iJ 0 j.toNat,a.2) else none
  | _=>none
section
variable {X:Cx} {tg e e2:Expr} {m:Bool} {f:aS} {g:o8} {p pos:Pos} {K:PySem.W.Frag} {B:Hp}
theorem mF {t t':TI} (h:PI X tg e t) (k:∀σ H Q,t' σ H Q→t σ H Q):PI X tg e t':=fun pins s σ H R I q=>h pins s σ H R I (k σ H R q)
theorem lr {a:Addr} {vs:List V} {ds:List PyData} (h:SqL K B a vs) (r:RpA K B vs ds):n5 K B (Bb K a) ds:=fun {B' F A σ H E xs Xs} i sB fr=>by
  have hH:=fr.fh.seq (fr.bf.seq (sB.seq h))
  refine ⟨fun d ed=>?_,fun e=>⟨vs,hH,by rw [e,r.len];exact Nat.le_refl _⟩⟩
  obtain ⟨v,ev,rv⟩:=r.get ed
  refine ⟨⟨vs,v,hH,ev⟩,fun x H2 ⟨e2,y⟩=>?_⟩
  subst e2
  have:=y vs hH
  rw [ev] at this
  cases this
  exact ⟨F,A,fr.push ⟨rfl,_,rfl,rv.same (sB.trans fr.bf)⟩⟩
theorem pH {lo:Int} {n:Nat}:n5 K B (AO lo n) (iJ lo n):=fun {B' F A σ H E xs Xs} i sB fr=>by
  have hl:(iJ lo n).length=n:=by simp [iJ]
  refine ⟨fun d ed=>?_,fun e=>?_⟩
  · have hi:i < n:=by have:=(List.getElem?_eq_some_iff.mp ed).1;omega
    refine ⟨hi,fun x H2 ⟨e2,y⟩=>?_⟩
    subst e2 y
    have:d= .int (lo+i):=by
      unfold iJ at ed
      rw [List.getElem?_map,List.getElem?_range hi] at ed
      exact (Option.some.inj ed).symm
    subst this
    exact ⟨F,A,fr.push ⟨rfl,_,rfl, .int _⟩⟩
  · show n≤i
    omega
theorem i7 (hg:Gl X "range") (hm:X.mg "range"=none) (ha:AX X [e] m g) (hs:starEach [e] X.env=[(false,eval e X.env)]:=by rfl):IX X tg (.Call (.Name "range" p) [e] [] pos) m (eF g):=mF (rL hg hm ha hs) fun σ H R z=>by
  obtain ⟨B,E,xs,Xs,ds,E',fr,cl,e,q⟩:=z
  obtain ⟨⟨rs,E1⟩,e1,e⟩:=Option.bind_eq_some_iff.mp e
  refine ⟨B,E,xs,Xs,rs,E1,fr,cl,e1,fun vs H1 hl ⟨F,A,fr1⟩=>?_⟩
  simp only at e
  split at e
  · rename_i j ld
    split at e
    · rename_i hj
      cases e
      obtain ⟨r,A',fr2⟩:=fr1.looks hl ld
      obtain ⟨v,rfl,r'⟩:=r.one
      cases r'
      exact ⟨j,rfl,by omega,by omega,q B _ _ (Same.refl _) ⟨F,A',fr2⟩ pH⟩
    · cases e
  · cases e
end
def cR (tg:gf) (body:dE):List PyData→dE
  | [],E=>some (E, .nx)
  | d::ds,E=>((tg d E).bind body).bind fun a=>match a.2 with
    | .nx=>cR tg body ds a.1
    | .ct=>cR tg body ds a.1
    | .bk=>some (a.1, .nx)
    | .rt r=>some (a.1, .rt r)
def fu (it:jx) (tg:gf) (body:dE):dE:=fun E=>(it E).bind fun a=>cR tg body a.1 a.2
theorem ij {X:Cx} {tg iter:Expr} {body:List Stmt} {m:Bool} {it:jx} {g:gf} {b:dE} {pos:Pos} (hp:PassesOwn (model X.prog X.w) X.A X.env X.xe) (hc:X.calm=true) (hi:IX X tg iter m it) (hg:GX X tg g) (hb:rX X body b)
    (hs:∀x,foldedSetIterable iter X.env x=pure x:=by intro _;rfl):SX X (.For tg iter body [] pos) (fu it g b):=hO (x_ hp hc hi hg hb hs) fun D σ H z=>by
  obtain ⟨B,E,xs,Xs,E',fl,fr,cl,e,q⟩:=z
  obtain ⟨⟨ds,E1⟩,e1,e⟩:=Option.bind_eq_some_iff.mp e
  refine ⟨B,E,xs,Xs,ds,E1,fr,fun _=>Calm.nil cl,e1,fun B' J H1 hB fr1 ok=>?_⟩
  refine ⟨fun i mm σ' H'=>mm=ds.length - i∧i≤ds.length∧∃Ei,cR g b (ds.drop i) Ei=some (E',fl)∧Frm X.K B' σ' H' Ei xs Xs,⟨ds.length,by simp,Nat.zero_le _,E1,by simpa using e,fr1⟩,?_⟩
  rintro i mm σ' H' ⟨rfl,hi,Ei,ei,F,A,fri⟩
  obtain ⟨go,stop⟩:=ok i (Same.refl _) fri
  by_cases hlt:i < ds.length
  · obtain ⟨d,ed⟩:∃d,ds[i]? =some d:=⟨ds[i],List.getElem?_eq_getElem hlt⟩
    obtain ⟨g1,yl⟩:=go d ed
    have edr:ds.drop i=d::ds.drop (i+1):=by
      rw [List.drop_eq_getElem_cons hlt]
      congr 1
      exact Option.some.inj ((List.getElem?_eq_getElem hlt).symm.trans ed)
    rw [edr] at ei
    obtain ⟨⟨E2,f2⟩,e2,ei⟩:=Option.bind_eq_some_iff.mp ei
    obtain ⟨E3,e3,e2⟩:=Option.bind_eq_some_iff.mp e2
    refine .inr ⟨g1,fun σ2 H2=>∃Ej,cR g b (ds.drop (i+1)) Ej=some (E',fl)∧Frm X.K B' σ2 H2 Ej xs Xs,fun σ2 H2 ⟨Ej,ej,frj⟩=>⟨ds.length - (i+1),by omega,rfl,hlt,Ej,ej,frj⟩,fun x H2 y=>?_⟩
    refine ⟨B',Ei,xs,Xs,d,E3,yl x H2 y,Still.nil cl,e3,fun σ3 H3 fr3=>?_⟩
    refine ⟨B',E3,xs,Xs,E2,f2,fr3,cl,e2,?_⟩
    cases f2 with
    | nx=>exact fun σ4 H4 fr4=>⟨E2,ei,fr4⟩
    | ct=>exact fun σ4 H4 fr4=>⟨E2,ei,fr4⟩
    | bk=>cases ei;exact fun σ4 H4 fr4=>q _ _ (fr4.base hB)
    | rt r=>cases ei;exact fun σ4 v H4 fr4=>q _ _ _ (fr4.base hB)
  · have e0:i=ds.length:=by omega
    refine .inl ⟨stop e0,?_⟩
    rw [e0,List.drop_length] at ei
    cases ei
    exact q _ _ (Frm.base ⟨F,A,fri⟩ hB)
def cF:Sl→Bool
  | .sh d=>cD d
  | .ow ds=>be ds
  | .tx ps=>ps.all fun p=>match p with | .fl d=>cD d | .ol ds=>be ds
  | .od kvs=>kvs.all fun p=>be p.2
  | _=>false
def cg (n:Nat) (ds:List PyData):List Sl:=ds.map .sh++List.replicate (n - ds.length) .no
def cU (r:Sl):Option Sl:=if cF r then some r else match r with
  | .sh d=>some (.br d)
  | .ow ds=>some (.br (.list ds))
  | .tx ps=>some (.br (.tuple (ps.map Pt.val)))
  | .br d=>some (if cD d then .sh d else .br d)
  | _=>none
def i8 (n:Nat) (g:dE):List PyData→Option Sl:=fun ds=>(g (cg n ds)).bind fun a=>match a.2 with
  | .rt r=>cU r
  | .nx=>some (.sh .none)
  | _=>none
section
variable {K:PySem.W.Frag} {B F:Hp} {A:List Addr} {σ:i4} {H:Hp} {E:List Sl} {v:V} {r:Sl}
theorem DlOk.cold {F H:Hp} (sF:Same F H):∀{us:List (dL×V)} {kvs:List (dL×List PyData)} {A:List Addr},(∀p∈kvs,be p.2=true)→DlOk K F H us kvs A→DlOk K (tups H) H us kvs A
  | [],[],A,_,h=>h
  | p::us,q::kvs,A,c,h=>by
    obtain ⟨l,vs,A',rfl,rfl,hl,hr,k⟩:=h
    exact ⟨l,vs,A',rfl,rfl,hl,(hr.same sF).cold (c q (List.mem_cons_self ..)),DlOk.cold sF (fun p hp=>c p (List.mem_cons_of_mem _ hp)) k⟩
  | [],_::_,_,_,h=>False.elim h
  | _::_,[],_,_,h=>False.elim h
theorem PtsOk.cold {F H G:Hp} (sF:Same F H) (tG:∀{v:V} {d:PyData},Rp K F v d→cD d=true→Rp K G v d):∀{vs:List V} {ps:List Pt} {A:List Addr},(∀p∈ps,(match p with | .fl d=>cD d | .ol ds=>be ds)=true)→PtsOk K F H vs ps A→PtsOk K G H vs ps A
  | [],[],A,_,h=>h
  | v::vs, .fl d::ps,A,c,h=>⟨tG h.1 (c (.fl d) (List.mem_cons_self ..)),PtsOk.cold sF tG (fun p hp=>c p (List.mem_cons_of_mem _ hp)) h.2⟩
  | v::vs, .ol ds::ps,A,c,h=>by
    obtain ⟨l,us,A',rfl,rfl,hl,hr,q⟩:=h
    refine ⟨l,us,A',rfl,rfl,hl,?_,q.cold sF tG fun p hp=>c p (List.mem_cons_of_mem _ hp)⟩
    have cd:be ds=true:=c (.ol ds) (List.mem_cons_self ..)
    have key:∀{us:List V} {ds:List PyData},RpA K F us ds→be ds=true→RpA K G us ds:=fun {us ds} r c=>by
      induction us generalizing ds with
      | nil=>cases r;exact .nil
      | cons u us ih=>
        cases r with
        | cons r1 r2=>
          simp only [be,Bool.and_eq_true] at c
          exact .cons (tG r1 c.1) (ih r2 c.2)
    exact key hr cd
  | [],_::_,_,_,h=>False.elim h
  | _::_,[],_,_,h=>False.elim h
theorem FrF.result (h:FrF K B F A σ H E [v] [r]) (c:cF r=true):Same B H∧qM K B H v r:=by
  refine ⟨h.bf.trans h.fh,?_⟩
  have nB:∀a,F a=none→B a=none:=fun a e=>h.bf.free e
  have cold:∀{v:V} {d:PyData},Rp K F v d→cD d=true→Rp K (tups H) v d:=fun r f=>(r.same h.fh).cold f
  obtain ⟨v',A1,ev,hs⟩:=h.ext (k:=0) rfl
  cases ev
  obtain ⟨o,C0,C1,C2,eA,eo,hp,_⟩:=h.sl.at (k:=0) (s:=r) rfl
  cases eo
  have sub:∀a∈C1,F a=none:=fun a ha=>h.fr a (by rw [eA];simp [ha])
  have nd:C1.Nodup:=by
    have:=h.nd
    rw [eA] at this
    exact (List.nodup_append.mp (List.nodup_append.mp this).2.1).1
  cases r with
  | sh d=>obtain ⟨_,w,ew,r⟩:=hp;cases ew;exact cold r c
  | ow ds=>
    obtain ⟨l,vs,el,rfl,hl,r⟩:=hp
    cases el
    exact ⟨l,vs,rfl,nB l (sub l (by simp)),hl,(r.same h.fh).cold c⟩
  | tx ps=>
    obtain ⟨t,vs,et,ht,r⟩:=hp
    cases et
    exact ⟨t,vs,C1,rfl,iE (h.fh _ _ ht) rfl,nd,fun a ha=>nB a (sub a ha),r.cold h.fh cold (by simpa [cF,List.all_eq_true] using c)⟩
  | no=>cases c
  | od kvs=>
    obtain ⟨l,us,A',el,rfl,hl,r⟩:=hp
    cases el
    exact ⟨l,us,A',rfl,nd,fun a ha=>nB a (sub a ha),hl,r.cold h.fh (by simpa [cF,List.all_eq_true] using c)⟩
  | al i=>cases c
  | br d=>cases c
theorem FrF.resultO {r':Sl} (h:FrF K B F A σ H E [v] [r]) (c:cU r=some r'):Same B H∧qM K B H v r':=by
  unfold cU at c
  split at c
  · rename_i hc
    cases c
    exact h.result hc
  · refine ⟨h.bf.trans h.fh,?_⟩
    cases r with
    | sh d=>cases c;exact (h.look0 (d:=d) rfl).1
    | ow ds=>cases c;exact (h.look0 (d:= .list ds) rfl).1
    | tx ps=>cases c;exact (h.look0 (d:= .tuple (ps.map Pt.val)) rfl).1
    | br d=>
      have r:=(h.look0 (d:=d) rfl).1
      simp only at c
      split at c
      · rename_i hf
        cases c
        exact r.cold hf
      · cases c
        exact r
    | no=>cases c
    | od kvs=>cases c
    | al i=>cases c
theorem mG {N:List Str} {vs:List V} {ds:List PyData} (r:RpA K H vs ds) (hn:ds.length≤N.length):FrF K H H [] (L2.gg N vs) H (cg N.length ds) [] []:=by
  refine ⟨Same.refl _,Same.refl _,i3 H,?_,List.nodup_nil,fun a ha=>(by cases ha),rfl,?_⟩
  · have l:=r.len
    unfold L2.gg cg
    rw [l]
    generalize N.length - ds.length=k
    have base:∀τ:i4,SAll (SlOk K H H τ) (List.replicate k none) (List.replicate k .no) []:=fun τ=>by
      induction k with
      | zero=>exact .nil
      | succ k ih=>exact .cons (A:=[]) rfl ih
    have key:∀(τ:i4) {us:List V} {es:List PyData},RpA K H us es→SAll (SlOk K H H τ) (us.map some++List.replicate k none) (es.map .sh++List.replicate k .no) []:=fun τ us es r=>by
      induction us generalizing es with
      | nil=>cases r;exact base τ
      | cons u us ih=>
        cases r with
        | cons r1 r2=>exact .cons (A:=[]) ⟨rfl,_,rfl,r1⟩ (ih _ r2)
    exact key _ r
  · intro s hs
    unfold cg at hs
    rcases List.mem_append.mp hs with hs | hs
    · obtain ⟨d,_,rfl⟩:=List.mem_map.mp hs
      rfl
    · rw [(List.mem_replicate.mp hs).2]
      rfl
end
def fq (k n:Nat) (g:dE):List PyData→Option Sl:=fun ds=>if ds.length=k then i8 n g ds else none
theorem fQ {P:Program} {w:World} {K:PySem.W.Frag} {mg:Str→Option Value} {base:Heap} {x:Str} {st:Stmt} {N ps:List Str} {k a n:Nat} {g:dE} (D:Def K mg x st ps) (S:FnScope N ps (ag st)) (hpa:ps.length=a) (hNn:N.length=n) (hps:a≤n)
    (hbody:∀(f:Addr) (cdv:Value) (A:Around) (outer:List Env) (s:Shared) (H:Hp) (E:XK),Room k (A.deeper (PyProof.Rows.envOfC x (ag st) s.heap.objs.size f cdv))→
      rX (kK rW P w K mg base N x (ag st) f cdv A outer s H E).nox (aB st) g):Own P w K mg base (k+1) x ps (dF K (fq a n g)):=by
  subst hpa hNn
  refine D.own S (fun vs H Q E h=>?_) (fun f cdv A outer s H vs Q E hr h=>?_)
  · obtain ⟨ds,r,e,rp,_⟩:=h
    unfold fq at e
    split at e
    · rename_i hl
      rw [rp.len];exact hl
    · cases e
  obtain ⟨ds,r,e,rp,q⟩:=h
  unfold fq at e
  split at e
  · rename_i hl
    refine ⟨_,hbody f cdv A outer s H E hr,?_⟩
    obtain ⟨⟨E',fl⟩,e1,e⟩:=Option.bind_eq_some_iff.mp e
    refine ⟨H,cg N.length ds,[],[],E',fl,⟨H,[],mG rp (by omega)⟩,rfl,e1,?_⟩
    cases fl with
    | nx=>
      cases e
      rintro σ' H' ⟨F',A',fr'⟩
      exact q _ _ (fr'.bf.trans fr'.fh) .non
    | bk=>cases e
    | ct=>cases e
    | rt r'=>
      rintro σ' v H' ⟨F',A',fr'⟩
      obtain ⟨s1,s2⟩:=fr'.resultO e
      exact q v H' s1 s2
  · cases e
theorem BY {P:Program} {w:World} {K:PySem.W.Frag} {mg:Str→Option Value} {base:Heap} {x:Str} {st:Stmt} {N ps:List Str} {k a n:Nat} {g:dE} {f0:Addr} {fd:FuncData} (D:Fun K x x st f0 fd) (S:FnScope N ps (ag st)) (hpa:ps.length=a) (hNn:N.length=n) (hps:a≤n)
    (hbody:∀(cdv:Value) (A:Around) (outer:List Env) (s:Shared) (H:Hp) (E:XK),Room k (A.deeper (PyProof.Rows.envOfC x (ag st) s.heap.objs.size f0 cdv))→
      rX (kK rW P w K mg base N x (ag st) f0 cdv A outer s H E).nox (aB st) g):FnOk P w K mg base rW (k+1) f0 fd ps (dF K (fq a n g)):=by
  subst hpa hNn
  refine D.ok S (fun vs H Q E h=>?_) (fun cdv A outer s H vs Q E hr h=>?_)
  · obtain ⟨ds,r,e,rp,_⟩:=h
    unfold fq at e
    split at e
    · rename_i hl
      rw [rp.len];exact hl
    · cases e
  obtain ⟨ds,r,e,rp,q⟩:=h
  unfold fq at e
  split at e
  · rename_i hl
    refine ⟨_,hbody cdv A outer s H E hr,?_⟩
    obtain ⟨⟨E',fl⟩,e1,e⟩:=Option.bind_eq_some_iff.mp e
    refine ⟨H,cg N.length ds,[],[],E',fl,⟨H,[],mG rp (by omega)⟩,rfl,e1,?_⟩
    cases fl with
    | nx=>
      cases e
      rintro σ' H' ⟨F',A',fr'⟩
      exact q _ _ (fr'.bf.trans fr'.fh) .non
    | bk=>cases e
    | ct=>cases e
    | rt r'=>
      rintro σ' v H' ⟨F',A',fr'⟩
      obtain ⟨s1,s2⟩:=fr'.resultO e
      exact q v H' s1 s2
  · cases e
theorem lz {K:PySem.W.Frag} {H:Hp}:∀ns:List Int,RpA K H (ns.map V.int) (ns.map PyData.int)
  | []=> .nil
  | n::ns=> .cons (.int n) (lz ns)
theorem yK {K:PySem.W.Frag} {H:Hp} {a:Addr} {ns:List Int} {c:List PyData→Option Sl} (e:c [.list (ns.map .int)]=some (.sh (.bool true))) (h:SqL K H a (ns.map V.int)):dF K c [.ref a] H (fun v _=>v= .bl true) fun _ _ _=>False:=
  ⟨_,_,e, .cons (.lst h (lz ns)) .nil,fun v H' _ r=>by
    have r':Rp K (tups H') v (.bool true):=r
    cases r'
    rfl⟩
end PL
namespace PL
open PySem L2 Nh
def uB (E:List Sl):Option Nat→Sl
  | none=> .no
  | some j=>match (E[j]?).bind Sl.val with
    | some d=> .sh d
    | none=> .no
def i9 (js:List (Option Nat)) (E:List Sl):List Sl:=js.map (uB E)
def bG:iG:=fun E=>some (true,E)
def cC (tg:gf) (cond:iG) (elt:aS):List PyData→List Sl→Option (List PyData)
  | [],_=>some []
  | d::ds,E=>(tg d E).bind fun E1=>(cond E1).bind fun b=>if b.1 then (elt b.2).bind fun c=>(frz c.2 c.1).bind fun e=>(cC tg cond elt ds e.2).map fun r=>e.1::r else cC tg cond elt ds b.2
def bt (js:List (Option Nat)) (it:jx) (tg:gf) (cond:iG) (elt:aS):aS:=fun E=>(it E).bind fun a=>(cC tg cond elt a.1 (i9 js a.2)).bind fun ds=>if be ds&&decide (ds.length≤1000000) then some (.ow ds,a.2) else none
section
variable {X:Cx} {elt target iter:Expr} {ifs:List Expr} {scope sc:Scope} {cl:List (Str×Addr)} {N:List Str} {pos:Pos} {js:List (Option Nat)} {K:PySem.W.Frag}
theorem uC {B F:Hp} {A:List Addr} {σ:i4} {H:Hp} {E:List Sl} {xs:List V} {Xs:List Sl} (fr:FrF K B F A σ H E xs Xs) (js:List (Option Nat)):FrF K H H [] (slots js σ) H (i9 js E) [] []:=by
  refine ⟨Same.refl _,Same.refl _,i3 H,?_,List.nodup_nil,fun a ha=>(by cases ha),rfl,fun s hs=>?_⟩
  · have key:∀(τ:i4) (ks:List (Option Nat)),SAll (SlOk K H H τ) (slots ks σ) (i9 ks E) []:=fun τ ks=>by
      induction ks with
      | nil=>exact .nil
      | cons j ks ih=>
        refine .cons (A:=[]) ?_ ih
        cases j with
        | none=>exact rfl
        | some j=>
          show SlOk K H H τ _ (match (E[j]?).bind Sl.val with | some d=> .sh d | none=> .no) []
          cases ej:E[j]? with
          | none=>exact rfl
          | some s=>
            cases ev:s.val with
            | none=>simp only [Option.bind_some,ev];exact rfl
            | some d=>
              simp only [Option.bind_some,ev]
              obtain ⟨o,A1,eo,hs⟩:=fr.var ej
              obtain ⟨v,rfl,r,_⟩:=hs.val fr.fh ev
              refine ⟨rfl,v,?_,r⟩
              show (σ[j]?).join=some v
              rw [eo]
              rfl
    exact key _ js
  · obtain ⟨j,_,rfl⟩:=List.mem_map.mp hs
    cases j with
    | none=>rfl
    | some j=>
      simp only [uB]
      split <;> rfl
theorem lA {m2 m3:Bool} {tg:gf} {cond:iG} {el:aS} {tt:TT} (htt:∀σ H Q,rt K m2 cond σ H Q→tt σ H Q) {B B' F:Hp} {A:List Addr} {σ:i4} {H1:Hp} {E1:List Sl} {xs:List V} {Xs:List Sl} {ds rs:List PyData} {J:It} {Q:VK}
    (fr1:FrF K B F A σ H1 E1 xs Xs) (B2:Same B' H1) (ok:n5 K B' J ds) (e2:cC tg cond el ds (i9 js E1)=some rs) (hc:be rs=true∧rs.length≤1000000) (q:∀v H',Frm K B σ H' E1 (v::xs) (.ow rs::Xs)→Q v H') (l:Addr) (hl:H1 l=none):
    ∃W:Nat→Nat→i4→Hp→Prop,(∃m,W 0 m (slots js σ) (upd H1 l (.lst [])))∧
  ∀i m σ' H',W i m σ' H'→(J.stop i H'∧Q (.ref l) H')∨(J.go i H'∧∃N:i4→Hp→Prop,(∀σ' H',N σ' H'→∃m',m' < m∧W (i+1) m' σ' H')∧∀x H2,J.yld i H' x H2→rg K tg x σ' H2 fun σ3 H3=>tt σ3 H3 fun b H4=>
    if b=true then rd K m3 el σ3 H4 fun y H5=>∃ys,H5 l=some (.lst ys)∧ys.length < sizeLine∧N σ3 (upd H5 l (.lst (ys++[y]))) else N σ3 H4):=by
  have fr0:=(uC fr1 js).newl (ds:=[]) .nil hl
  refine ⟨fun i mm σ' H'=>mm=ds.length - i∧i≤ds.length∧∃Ei acc aW,cC tg cond el (ds.drop i) Ei=some aW∧rs=acc++aW∧Frm K H1 σ' H' Ei [.ref l] [.ow acc],⟨ds.length,by simp,Nat.zero_le _,_,[],rs,by simpa using e2,rfl,⟨_,_,fr0⟩⟩,?_⟩
  rintro i mm σ' H' ⟨rfl,hi,Ei,acc,aW,ei,er,F',A',fri⟩
  obtain ⟨go,stop⟩:=ok i B2 fri
  by_cases hlt:i < ds.length
  · obtain ⟨d,ed⟩:∃d,ds[i]? =some d:=⟨ds[i],List.getElem?_eq_getElem hlt⟩
    obtain ⟨g1,yl⟩:=go d ed
    have edr:ds.drop i=d::ds.drop (i+1):=by
      rw [List.drop_eq_getElem_cons hlt]
      congr 1
      exact Option.some.inj ((List.getElem?_eq_getElem hlt).symm.trans ed)
    rw [edr] at ei
    obtain ⟨E3,e3,ei⟩:=Option.bind_eq_some_iff.mp ei
    obtain ⟨⟨b,E4⟩,e4,ei⟩:=Option.bind_eq_some_iff.mp ei
    refine .inr ⟨g1,fun σ2 H2=>∃Ej acc aW,cC tg cond el (ds.drop (i+1)) Ej=some aW∧rs=acc++aW∧Frm K H1 σ2 H2 Ej [.ref l] [.ow acc],fun σ2 H2 ⟨Ej,ac,rt,ej,er,frj⟩=>⟨ds.length - (i+1),by omega,rfl,hlt,Ej,ac,rt,ej,er,frj⟩,fun x H2 y=>?_⟩
    have clm:Calm [Sl.ow acc]:=Calm.cons (fun s hs=>absurd hs (by simp)) rfl
    refine ⟨H1,Ei,[.ref l],[.ow acc],d,E3,yl x H2 y,(fun s hs=>by rw [List.mem_singleton.mp hs];rfl),e3,fun σ3 H3 fr3=>htt _ _ _ ?_⟩
    refine ⟨H1,E3,[.ref l],[.ow acc],b,E4,fr3,fun _=>clm,e4,fun H4 fr4=>?_⟩
    cases b with
    | false=>
      rw [if_neg (by decide)]
      exact ⟨E4,acc,aW,ei,er,fr4⟩
    | true=>
      rw [if_pos rfl]
      obtain ⟨⟨s5,E5⟩,e5,ei⟩:=Option.bind_eq_some_iff.mp ei
      obtain ⟨⟨d6,E6⟩,e6,ei⟩:=Option.bind_eq_some_iff.mp ei
      obtain ⟨rest',e7,ei⟩:=Option.map_eq_some_iff.mp ei
      subst ei
      refine ⟨H1,E4,[.ref l],[.ow acc],s5,E5,fr4,fun _=>clm,e5,fun y5 H5 ⟨F5,A5,fr5⟩=>?_⟩
      obtain ⟨F6,A6,fr6⟩:=fr5.frz0 e6
      obtain ⟨v',C1,ev,rfl,w,ew,ry⟩:=fr6.ext (k:=0) rfl
      cases ev;cases ew
      obtain ⟨A7,fr7⟩:=fr6.pop
      -- the list under way is the one part that owns
      obtain ⟨bf,fh,tf,sl,nd,frn,len,pl⟩:=fr7
      generalize hT:List.map some [V.ref l]++σ3=T at sl
      generalize hS:[Sl.ow acc]++E6=S at sl
      cases sl with
      | nil=>cases hS
      | cons q0 r0=>
        injection hT with h1 hT
        injection hS with h2 hS
        subst h1 h2 hT hS
        obtain ⟨l',us,el,rfl,hl5,ru⟩:=q0
        cases el
        have lu:=ru.len
        refine ⟨us,hl5,small (by rw [er] at hc;simp at hc;omega),E6,acc++[d6],rest',e7,by rw [er];simp,F6,_,bf,fun b o qb=>?_,?_, .cons (A:=[l]) ⟨l,us++[y5],rfl,rfl,bx,ru.snoc ry⟩ (r0.mono fun o s C hs hC qq=>qq.stay (Same.refl _) (fun b hb=>aH fun z=>?_) fun z=>?_),nd,frn,rfl,pl⟩
        · have lF:F6 l=none:=frn l (by simp)
          rw [aH (fun z=>by rw [z,lF] at qb;cases qb)]
          exact fh _ _ qb
        · rw [nS hl5];exact tf
        · have:=hC b hb
          rw [z] at this
          exact (List.nodup_cons.mp nd).1 this
        · have:=pl s hs
          cases s <;> simp [Sl.isAl,Sl.isBr] at this z
  · have e0:i=ds.length:=by omega
    refine .inl ⟨stop e0,?_⟩
    rw [e0,List.drop_length] at ei
    cases ei
    rw [List.append_nil] at er
    subst er
    obtain ⟨g1,g2⟩:=fri.result hc.1
    exact q _ _ (fr1.told g1 g2)
theorem mH {m m2 m3:Bool} {it:jx} {tg:gf} {cond:iG} {el:aS} {tt:TT} (htt:∀σ H Q,rt K m2 cond σ H Q→tt σ H Q) {σ:i4} {H:Hp} {Q:VK} (z:rd K m (bt js it tg cond el) σ H Q):nQ js (ri K m it) (rg K tg) tt (rd K m3 el) σ H Q:=by
  obtain ⟨B,E,xs,Xs,res,E',fr,cl,e,q⟩:=z
  obtain ⟨⟨ds,E1⟩,e1,e⟩:=Option.bind_eq_some_iff.mp e
  obtain ⟨rs,e2,e⟩:=Option.bind_eq_some_iff.mp e
  simp only at e
  split at e
  · rename_i hc
    cases e
    simp only [Bool.and_eq_true,decide_eq_true_eq] at hc
    exact ⟨B,E,xs,Xs,ds,_,fr,cl,e1,fun B' J H1 hB ⟨F,A,fr1⟩ ok l hl=>lA htt (fr1.base hB) (fr1.bf.trans fr1.fh) ok e2 hc q l hl⟩
  · cases e
def BM (K:PySem.W.Frag) (m:Bool) (f:jx):TI:=fun σ H R=>∃B E xs Xs ds E',Frm K B σ H E xs Xs∧(m=true→Calm Xs)∧f E=some (ds,E')∧∀J H',Frm K B σ H' E' xs Xs→n5 K H' J ds→R J H'
def BN (X:Cx) (tg e:Expr) (m:Bool) (f:jx):Prop:=PI X tg e (BM X.K m f)
theorem uD {m m2 m3:Bool} {it:jx} {tg:gf} {cond:iG} {el:aS} {tt:TT} (htt:∀σ H Q,rt K m2 cond σ H Q→tt σ H Q) {σ:i4} {H:Hp} {Q:VK} (z:rd K m (bt js it tg cond el) σ H Q):nQ js (BM K m it) (rg K tg) tt (rd K m3 el) σ H Q:=by
  obtain ⟨B,E,xs,Xs,res,E',fr,cl,e,q⟩:=z
  obtain ⟨⟨ds,E1⟩,e1,e⟩:=Option.bind_eq_some_iff.mp e
  obtain ⟨rs,e2,e⟩:=Option.bind_eq_some_iff.mp e
  simp only at e
  split at e
  · rename_i hc
    cases e
    simp only [Bool.and_eq_true,decide_eq_true_eq] at hc
    exact ⟨B,E,xs,Xs,ds,_,fr,cl,e1,fun J H1 ⟨F,A,fr1⟩ ok l hl=>lA htt fr1 (Same.refl _) ok e2 hc q l hl⟩
  · cases e
theorem fv {m m3:Bool} {it:jx} {tg:gf} {el:aS} (C:CompOk X scope sc cl N js) (hc:X.calm=true) (hi:IX X target iter m it) (hg:∀C s₀ H₀ fp,GX (X.comp sc cl N C s₀ H₀ fp) target tg) (he:∀C s₀ H₀ fp,EX (X.comp sc cl N C s₀ H₀ fp) elt m3 el)
    (hs:∀x,foldedSetIterable iter X.env x=pure x:=by intro _;rfl):EX X (.ListComp elt [⟨target,iter,[],0⟩] scope pos) m (bt js it tg bG el):=
  bA (mr (g:=rg X.K tg) (te:=rd X.K m3 el) C hc hi hg (fun _ _ _ _=>qE) he hs) fun σ H Q z=>mH (m2:=false) (fun σ H Q z=>by
    obtain ⟨B,E,xs,Xs,b,E',fr,cl,e,q⟩:=z
    cases e
    exact q _ fr) z
theorem uE {c:Expr} {m m2 m3:Bool} {it:jx} {tg:gf} {cond:iG} {el:aS} (C:CompOk X scope sc cl N js) (hc:X.calm=true) (hi:IX X target iter m it) (hg:∀C s₀ H₀ fp,GX (X.comp sc cl N C s₀ H₀ fp) target tg) (ht:∀C s₀ H₀ fp,TX (X.comp sc cl N C s₀ H₀ fp) c m2 cond) (he:∀C s₀ H₀ fp,EX (X.comp sc cl N C s₀ H₀ fp) elt m3 el)
    (hs:∀x,foldedSetIterable iter X.env x=pure x:=by intro _;rfl):EX X (.ListComp elt [⟨target,iter,[c],0⟩] scope pos) m (bt js it tg cond el):=
  bA (mr (g:=rg X.K tg) (te:=rd X.K m3 el) (tt:=rt X.K m2 cond) C hc hi hg (fun _ _ _ _=>qF (ht _ _ _ _)) he hs) fun σ H Q z=>mH (m2:=m2) (fun _ _ _ z=>z) z
def n6 (f:aS):jx:=fun E=>(f E).bind fun a=>match look a.2 a.1 with
  | some (.list ds)=>some (ds,a.2)
  | _=>none
theorem wy {tg e:Expr} {m:Bool} {f:aS} (he:EX X e m f):BN X tg e m (n6 f):=mF (qx he) fun σ H R z=>by
  obtain ⟨B,E,xs,Xs,ds,E',fr,cl,e,q⟩:=z
  obtain ⟨⟨s,E1⟩,e1,e⟩:=Option.bind_eq_some_iff.mp e
  simp only at e
  split at e
  · rename_i ds' ld
    cases e
    refine ⟨B,E,xs,Xs,s,_,fr,cl,e1,fun v H1 ⟨F,A,fr1⟩=>?_⟩
    obtain ⟨r,_⟩:=fr1.look0 ld
    obtain ⟨A',fr2⟩:=fr1.pop
    cases r with
    | lst h1 h2=>exact ⟨_,rfl,⟨_,h1⟩,q _ _ ⟨F,A',fr2⟩ (lr h1 h2)⟩
  · cases e
theorem sj {m m3:Bool} {it:jx} {tg:gf} {el:aS} (C:CompOk X scope sc cl N js) (hc:X.calm=true) (hi:BN X target iter m it) (hg:∀C s₀ H₀ fp,GX (X.comp sc cl N C s₀ H₀ fp) target tg) (he:∀C s₀ H₀ fp,EX (X.comp sc cl N C s₀ H₀ fp) elt m3 el)
    (hs:∀x,foldedSetIterable iter X.env x=pure x:=by intro _;rfl):EX X (.ListComp elt [⟨target,iter,[],0⟩] scope pos) m (bt js it tg bG el):=
  bA (mr (g:=rg X.K tg) (te:=rd X.K m3 el) C hc hi hg (fun _ _ _ _=>qE) he hs) fun σ H Q z=>uD (m2:=false) (fun σ H Q z=>by
    obtain ⟨B,E,xs,Xs,b,E',fr,cl,e,q⟩:=z
    cases e
    exact q _ fr) z
end
end PL
namespace PL
open PySem L2 Nh
theorem yL {K:PySem.W.Frag} {m:Bool} {i:Nat} {f:aS} {D:Ends} {σ:i4} {H:Hp} (z:rs K (aK i f) D σ H):rd K m f σ H fun v H1=>tT i v σ H1 D.nx:=by
  obtain ⟨B,E,xs,Xs,E',fl,fr,cl,e,q⟩:=z
  obtain ⟨⟨s,E1⟩,e1,e⟩:=Option.bind_eq_some_iff.mp e
  obtain ⟨⟨s',E2⟩,e2,e⟩:=Option.bind_eq_some_iff.mp e
  refine ⟨B,E,xs,Xs,s,E1,fr,fun _=>Calm.nil cl,e1,fun v H1 ⟨F,A,fr1⟩=>?_⟩
  obtain ⟨c1,F2,A2,fr2⟩:=fr1.settle cl e2
  simp only at e
  split at e
  · rename_i hi
    cases e
    obtain ⟨A3,fr3⟩:=fr2.store c1 (Still.nil cl) hi
    exact q _ _ ⟨F2,A3,fr3⟩
  · cases e
section
variable {X:Cx} {elt target iter:Expr} {scope sc:Scope} {cl:List (Str×Addr)} {N:List Str} {pos spos px:Pos} {js:List (Option Nat)} {x:Str}
theorem uF {c:Expr} {m m2 m3:Bool} {it:jx} {tg:gf} {cond:iG} {el:aS} (i:Nat) (hN:X.N.Nodup) (C:CompOk X scope sc cl N js) (hc:X.calm=true) (h:IX X target iter m it) (hg:∀C s₀ H₀ fp,GX (X.comp sc cl N C s₀ H₀ fp) target tg) (ht:∀C s₀ H₀ fp,TX (X.comp sc cl N C s₀ H₀ fp) c m2 cond) (he:∀C s₀ H₀ fp,EX (X.comp sc cl N C s₀ H₀ fp) elt m3 el)
    (hi:X.N[i]? =some x:=by rfl) (hx:xO X.env.scope x:=by first | exact Or.inl rfl | exact Or.inr rfl) (hf:X.fn x=true∨X.env.scope.names.lookup x=some .local:=by first | exact .inl rfl | exact .inr rfl | assumption)
    (hs:∀x,foldedSetIterable iter X.env x=pure x:=by intro _;rfl) (hsw:swapsWith (.ListComp elt [⟨target,iter,[c],0⟩] scope pos) (some (.Name x px)) spos.line X.env=pure true:=by rfl):
    SX X (.Assign [.Name x px] (.ListComp elt [⟨target,iter,[c],0⟩] scope pos) spos) (aK i (bt js it tg cond el)):=
  hO (v8 (g:=rg X.K tg) (te:=rd X.K m3 el) (tt:=rt X.K m2 cond) C hc (qv hN hi hx hf) h hg (fun _ _ _ _=>qF (ht _ _ _ _)) he hs hsw) fun D σ H z=>mH (m2:=m2) (fun _ _ _ z=>z) (yL z)
end
def As:Const→Option Int
  | .int i=>some i
  | _=>none
def yM:Expr→Option Int
  | .Constant c _ _=>As c
  | _=>none
def gJ:List Expr→Option (List Int)
  | []=>some []
  | e::r=>(yM e).bind fun i=>(gJ r).map (i:: ·)
def uG (ns:List Int):jx:=fun E=>some (ns.map .int,E)
theorem yN {e:Expr} {i:Int} (h:yM e=some i):∃k p,e= .Constant (.int i) k p:=by
  unfold yM at h
  split at h
  · unfold As at h
    split at h
    · cases h;exact ⟨_,_,rfl⟩
    · cases h
  · cases h
theorem qO {X:Cx}:∀{es:List Expr} {ns:List Int},gJ es=some ns→DX X es false (uG ns)
  | [],ns,h=>by cases h;exact ie
  | e::es,ns,h=>by
    obtain ⟨i,h0,h⟩:=Option.bind_eq_some_iff.mp h
    obtain ⟨ms,h1,h⟩:=Option.map_eq_some_iff.mp h
    subst h
    obtain ⟨k,p,rfl⟩:=yN h0
    exact wq (m1:=false) (m2:=false) ao (qO h1) rfl
def At (body:List Stmt) (k:Nat):List Expr:=match body[k]? with
  | some (.Assign _ (.Subscript (.List es _) _ _) _)=>es
  | _=>[]
def Bu (es:List Expr):Stmt→Stmt
  | .Assign t (.Subscript (.List _ p) i q) r=> .Assign t (.Subscript (.List es p) i q) r
  | s=>s
def yO (es:List Expr):Nat→List Stmt→List Stmt
  | _,[]=>[]
  | 0,s::r=>Bu es s::r
  | k+1,s::r=>s::yO es k r
theorem pI {X:Cx} {body:List Stmt} {g:dE} (k:Nat) (ns:List Int) (h:gJ (At body k)=some ns) (hb:yO (At body k) k body=body) (key:∀es,gJ es=some ns→rX X (yO es k body) g):rX X body g:=by
  have:=key _ h
  rw [hb] at this
  exact this
end PL
namespace PL
open PySem L2 Nh
theorem fw {α:Type} (xs:List α) (k:Nat):atI xs (k:Int)=xs[k]? :=by
  unfold atI Aa
  rw [if_pos (by omega)]
  split
  · simp
  · rw [List.getElem?_eq_none (by omega)];rfl
theorem Au {α:Type} (a:α) (l:List α):atI (a::l) 0=some a:=fw (a::l) 0
theorem yP {α:Type} {xs:List α} {i:Int} (h:0≤i):atI xs i=xs[i.toNat]? :=by
  have e:i=((i.toNat:Nat):Int):=by omega
  rw [e,fw,Int.toNat_natCast]
def cutL {α:Type} (l:List α) (lo hi:Option Int):List α:=(l.drop (HT.jG l.length 0 lo)).take (HT.jG l.length l.length hi - HT.jG l.length 0 lo)
theorem j4 {α:Type} (f:α→PyData) (l:List α) (lo hi:Option Int):r_ (l.map f) lo hi=(cutL l lo hi).map f:=by
  unfold r_ cutL
  rw [List.length_map,List.map_take,List.map_drop]
theorem sk {α:Type} (l:List α) {k:Int} (h0:0≤k):cutL l none (some k)=l.take k.toNat:=by
  have e:k=((k.toNat:Nat):Int):=by omega
  have z:∀d,HT.jG l.length d (some k)=min k.toNat l.length:=fun d=>by
    rw [e,HT.qB,Int.toNat_natCast]
  unfold cutL
  rw [z,HT.nN,List.drop_zero,Nat.sub_zero]
  rcases Nat.le_total k.toNat l.length with h | h
  · rw [Nat.min_eq_left h]
  · rw [Nat.min_eq_right h,List.take_length,List.take_of_length_le h]
theorem lB {α:Type} (l:List α) {k:Int} (h0:0≤k):cutL l (some k) none=l.drop k.toNat:=by
  have e:k=((k.toNat:Nat):Int):=by omega
  have z:∀d,HT.jG l.length d (some k)=min k.toNat l.length:=fun d=>by
    rw [e,HT.qB,Int.toNat_natCast]
  unfold cutL
  rw [z,HT.nN]
  rcases Nat.le_total k.toNat l.length with h | h
  · rw [Nat.min_eq_left h]
    exact List.take_of_length_le (by rw [List.length_drop];omega)
  · rw [Nat.min_eq_right h,List.drop_length,List.drop_of_length_le h,List.take_nil]
theorem uH {α:Type} {l:List α} {lo hi:Option Int} {x:α} (h:x∈cutL l lo hi):x∈l:=List.mem_of_mem_drop (List.mem_of_mem_take h)
theorem i_ (lo:Int) (n:Nat):iJ lo (n+1)= .int lo::iJ (lo+1) n:=by
  unfold iJ
  rw [List.range_succ_eq_map,List.map_cons,List.map_map]
  simp only [Int.natCast_zero,Int.add_zero]
  congr 1
  refine List.map_congr_left fun k _=>?_
  show PyData.int (lo+((k+1:Nat):Int))=PyData.int (lo+1+(k:Int))
  congr 1
  omega
end PL
namespace L2
open PySem PySem.Spec PyProof.Rows
section
variable {X:Cx} {pins:List (Addr×Obj)} {σ:L2.St} {H:Hp} {s:Shared} {h':Heap}
theorem Inv.turnedL {t':Nat} {fp:List Addr} (I:Inv X pins σ H s) (k:∀b o,b∉fp→s.heap.get? b=some o→h'.get? b=some o) (hf:∀b∈fp,kJ X pins H b):Inv X pins σ H {s with heap:=h',toks:=t'}:=by
  have nit:∀b u,H b=some u→b∉fp:=fun b u e z=>by rw [(hf b z).1] at e;cases e
  refine I.step (g':=s.gens) (d':=s.drawn) (ch:=fp) (fun b hb=>?_) (fun b o _ _ hc e _=>k b o hc e) (fun b o _ _ hc e _=>⟨o.slots,k b o hc e⟩) (fun _ _ _ _ n=>n)
    (fun b o hc e=>⟨o,k b o hc e⟩) (fun _ _ e=>e) (fun _ _ _ e=>e) (fun _ _ e=>e) (fun m hm=>?_) (fun b u e=>?_) I.bare
  · obtain ⟨f0,f1,f2,f3,f4,f5⟩:=hf b hb
    exact ⟨f3,f1,f4,f5⟩
  · obtain ⟨o,es,ep,ho,r⟩:=hm
    exact ⟨o,es,ep,k _ o (fun z=>(hf _ z).2.1 rfl) ho,r⟩
  · refine (I.hok b u e).stay (fun c v hc q=>k c v ?_ q) (fun _ q=>q) fun _ _ q=>q
    rcases hc with z | z
    · rw [z];exact nit b u e
    · exact nit c _ z
theorem pJ {h:Heap} {o o':Obj} {c:Addr} (hc:c≠h.objs.size) (e:(h.push o').get? c=some o):h.get? c=some o:=(Heap.get?_push_cases e).elim (fun z=>absurd z.1 hc) id
theorem uI {t':Nat} {us:List Value} {vs:List V} (I:Inv X pins σ H s) (r:Vals vs us) (hz:vs.length≤sizeLine):
    Inv X pins σ (upd H s.heap.objs.size (.tup vs)) {s with heap:=s.heap.push {cls:= .type "tuple",data:= .seq us.toArray},toks:=t'}:=
  I.laid (fun b u e=>Heap.get?_push_of_some _ e) (Nat.le_refl _) ⟨hz,us,r,⟨_,Heap.get?_push_size _ rfl,rfl,_,rfl⟩⟩
end
def Bv (K:PySem.W.Frag) (a:Addr) (xs:List V):It:=
  ⟨fun i H=>SqL K H a xs∧i < xs.length,fun i H x H'=>∃T u,H T=none∧xs[i]? =some u∧x= .ref T∧H'=upd H T (.tup [.int i,u]),fun i H=>SqL K H a xs∧i=xs.length⟩
theorem sq {P:Program} {w:World} {K:PySem.W.Frag} {elts:List Expr} {k:Nat} {pos:Pos} {e it a:Addr} (hei:e≠it) (xs:List V):Turn P w K (.Tuple elts k pos) (Bv K a xs) [e,it] e
    (fun i h=>(∃old,IsEnum h e it i old)∧h.IsListIter it a i) where
  mem:=by simp
  obj:=fun i h st c hc=>by
    obtain ⟨⟨old,h1⟩,⟨o4,h4,_,d4⟩⟩:=st
    simp only [List.mem_cons,List.not_mem_nil,or_false] at hc
    rcases hc with rfl | rfl
    · exact ⟨_,h1,fun v z=>by cases z⟩
    · exact ⟨_,h4,fun v z=>by rw [d4] at z;cases z⟩
  keep:=fun i h h' st kk=>by
    obtain ⟨⟨old,h1⟩,h4⟩:=st
    exact ⟨⟨old,kk e (by simp) _ h1⟩,h4.at fun o q=>kk it (by simp) o q⟩
  item:=by
    intro X hP hw hK hc i pins s σ H E I hf st hg
    subst hP hw hK
    obtain ⟨⟨old,h1⟩,h4⟩:=st
    obtain ⟨q1,l1⟩:=hg
    obtain ⟨its,rv,p,hz⟩:=I.list q1
    obtain ⟨u,hu⟩:∃u,xs[i]? =some u:=⟨xs[i],List.getElem?_eq_getElem l1⟩
    obtain ⟨u',hu',ru⟩:=rv.get hu
    refine wpAny_pyNext_enum_item h1 h4 p.isList (x:=u') (by simpa using hu') hei fun h' a1 a3 a5 a6 hk=>?_
    have I0:=uI (t':=s.toks+1) I (us:=[.int i s.toks,u']) (vs:=[.int i,u]) (.cons ⟨_,rfl⟩ (.cons ru .nil)) (by show 2≤sizeLine;decide)
    have hT:∀c∈[e,it],c≠s.heap.objs.size:=fun c hc ZE=>by
      have:c < s.heap.objs.size:=by
        simp only [List.mem_cons,List.not_mem_nil,or_false] at hc
        rcases hc with rfl | rfl
        · exact Heap.lt_size h1
        · obtain ⟨o,q,_⟩:=h4;exact Heap.lt_size q
      rw [ZE] at this;exact Nat.lt_irrefl _ this
    have hf2:∀c∈[e,it],kJ X pins (upd H s.heap.objs.size (.tup [.int i,u])) c:=fun c hc=>by
      obtain ⟨f0,f⟩:=hf c hc
      exact ⟨by rw [aH (hT c hc)];exact f0,f⟩
    have I1:=I0.turnedL (h':=h') (t':=s.toks+1) (fp:=[e,it]) (fun c o hc q=>by
      simp only [List.mem_cons,List.not_mem_nil,or_false,not_or] at hc
      by_cases ec:c=s.heap.objs.size
      · subst ec
        rw [Heap.get?_push_size _ rfl] at q
        cases q
        exact a5
      · have e':s.heap.get? c=some o:=by
          exact pJ ec q
        exact hk c o hc.1 hc.2 e') hf2
    refine ⟨_,rfl,wpAny_letOwnedTupleGo_enum (s:={s with heap:=h',toks:=s.toks+1}) a1 fun h'' z'' s''=>?_⟩
    have I2:=I1.turnedL (h':=h'') (t':=s.toks+1) (fp:=[e,it]) (fun c o hc q=>(s''.2 c fun e'=>hc (by simp [e'])).trans q) hf2
    exact ⟨.ref s.heap.objs.size,_,I2,rfl,⟨_,u,I.hok.fresh (Nat.le_refl _),hu,rfl,rfl⟩,⟨⟨_,by simpa using z''⟩,a3.extBut s''.extBut (Ne.symm hei)⟩,fun c hc=>(hf2 c hc).1⟩
  done:=by
    intro X hP hw hK hc i pins s σ H E I hf st hg
    subst hP hw hK
    obtain ⟨⟨old,h1⟩,h4⟩:=st
    obtain ⟨q1,hi⟩:=hg
    obtain ⟨its,rv,p,hz⟩:=I.list q1
    have n1:=rv.length
    refine wpAny_pyNext_enum_end (I.ok.hd hc) h1 h4 p.isList (Array.getElem?_eq_none (by rw [List.size_toArray];omega)) fun h' hk=>⟨rfl,I.turnedL (t':=s.toks) (fp:=[e,it]) (fun c o hc q=>?_) hf⟩
    simp only [List.mem_cons,List.not_mem_nil,or_false,not_or] at hc
    exact hk c o hc.2 q
  self:=fun _ _ _ _ _ st h=>wpAny_pyIter_enum st.1.choose_spec h
def Av (K:PySem.W.Frag) (tl:TA):TI:=fun σ H R=>tl σ H fun vs H1=>∃a xs,vs=[.ref a]∧SqL K H1 a xs∧R (Bv K a xs) H1
section
variable {X:Cx} {elts:List Expr} {kt:Nat} {pt:Pos}
theorem wz {l:Expr} {tl:TA} {p pos:Pos} (hg:Gl X "enumerate") (hm:X.mg "enumerate"=none) (ha:PA X [l] tl) (hs:starEach [l] X.env=[(false,eval l X.env)]:=by rfl):PI X (.Tuple elts kt pt) (.Call (.Name "enumerate" p) [l] [] pos) (Av X.K tl):=by
  intro pins s σ H R I h
  refine Call_ (g9 I hg hm boot_enumerate (PyProof.Rows.callWith_type1 (cZ (ha pos pins s σ H _ I h) fun us s1 ⟨vs,H1,I1,r1,q1⟩=>?_) hs rfl))
  obtain ⟨a,xs,e,hq,q⟩:=q1
  subst e
  obtain ⟨u,rfl,ru⟩:=r1.one
  cases ru
  obtain ⟨its,rva,p1,hz⟩:=I1.list hq
  refine call_enumerate_list p1.isList fun h' z1 z2 z3 hk=>?_
  have I2:Inv X pins σ H1 {s1 with heap:=h'}:=I1.kept (t':=s1.toks) hk
  refine wpAny_pyIter_enum (s:={s1 with heap:=h'}) z1 ⟨_,[_,_],_,_,H1,rfl,I2,sq (Nat.ne_of_gt (Nat.lt_succ_self _)) xs,⟨⟨_,z1⟩,z2⟩,fun c hc=>?_,q⟩
  have le:s1.heap.objs.size≤c:=by
    simp only [List.mem_cons,List.not_mem_nil,or_false] at hc
    rcases hc with rfl | rfl
    · exact Nat.le_succ _
    · exact Nat.le_refl _
  exact I1.fpOk le (I1.hok.fresh le)
end
def AR (x:Str):It:=⟨fun i _=>i < x.cps.toList.length,fun i H v H'=>H'=H∧∃c,x.cps.toList[i]? =some c∧v= .str ⟨#[c]⟩,fun i _=>i=x.cps.toList.length⟩
theorem uJ {P:Program} {w:World} {K:PySem.W.Frag} {tg:Expr} {it:Addr} {T:String} {x:Str} {t:Tok} (hT:T="str_ascii_iterator"∨T="str_iterator"):Turn P w K tg (AR x) [it] it (fun i h=>h.IsStrIter it T x t i) where
  mem:=by simp
  obj:=fun i h st b hb=>by
    have e:b=it:=by simpa using hb
    subst e
    obtain ⟨o,e,c,d⟩:=st
    exact ⟨o,e,fun v z=>by rw [d] at z;cases z⟩
  keep:=fun i h h' st k=>let ⟨o,ho,r⟩:=st;⟨o,k it (by simp) o ho,r⟩
  item:=by
    intro X hP hw hK hc i pins s σ H E I hf st hg
    subst hP hw hK
    obtain ⟨f0,f1,f2,f3,f4,f5⟩:=hf it (by simp)
    have hi:i < x.cps.toList.length:=hg
    have hx:x.cps[i]? =some (x.cps.toList[i]'hi):=by simp at hi;simp [hi]
    have fin:∀(h':Heap),h'.IsStrIter it T x t (i+1)→Heap.SameBut it s.heap h'→∃u,some (Value.str ⟨#[x.cps.toList[i]'hi]⟩ s.toks)=some u∧
        wpAny (model X.prog X.w) X.A (letOwnedTupleGo tg (.ref it) u) (fun _ s2=>∃v H',Inv X pins σ H' s2∧RelV v u∧(AR x).yld i H v H'∧s2.heap.IsStrIter it T x t (i+1)∧∀b∈[it],H' b=none) E {s with heap:=h',toks:=s.toks+1}:=fun h' st' sb=>by
      have I1:Inv X pins σ H {s with heap:=h',toks:=s.toks+1}:=I.turned (t':=s.toks+1) (fun b o hb e=>(sb.2 b hb).trans e) f0 f1 f3 f4 f5
      obtain ⟨o,e,c,d⟩:=id st'
      exact ⟨_,rfl,qw (s:={s with heap:=h',toks:=s.toks+1}) e c d (by rcases hT with rfl | rfl <;> decide) ⟨.str ⟨#[x.cps.toList[i]'hi]⟩,H,I1,⟨_,rfl⟩,⟨rfl,_,List.getElem?_eq_getElem hi,rfl⟩,st',fun b hb=>(hf b hb).1⟩⟩
    rcases hT with rfl | rfl
    · exact wpAny_pyNext_ascii_item st hx fun h' st' sb=>fin h' st' sb
    · exact wpAny_pyNext_wide_item st hx fun h' st' sb=>fin h' st' sb
  done:=by
    intro X hP hw hK hc i pins s σ H E I hf st hg
    subst hP hw hK
    obtain ⟨f0,f1,f2,f3,f4,f5⟩:=hf it (by simp)
    have hi:i=x.cps.toList.length:=hg
    have hx:x.cps[i]? =none:=by simp at hi;simp [hi]
    rcases hT with rfl | rfl
    · exact wpAny_pyNext_ascii_end (I.ok.hd hc) st hx fun h' eb=>⟨rfl,I.turned (t':=s.toks) (fun b o hb e=>eb b o hb e) f0 f1 f3 f4 f5⟩
    · exact wpAny_pyNext_wide_end (I.ok.hd hc) st hx fun h' eb=>⟨rfl,I.turned (t':=s.toks) (fun b o hb e=>eb b o hb e) f0 f1 f3 f4 f5⟩
  self:=fun _ _ _ _ _ st h=>by
    rcases hT with rfl | rfl
    · exact wpAny_pyIter_striter_ascii st h
    · exact wpAny_pyIter_striter_wide st h
def Bw (tl:TE):TI:=fun σ H R=>tl σ H fun v H1=>∃x,v= .str x∧R (AR x) H1
theorem yQ {X:Cx} {tg l:Expr} {tl:TE} (hl:PE X l tl):PI X tg l (Bw tl):=by
  intro pins s σ H R I h
  refine cZ (hl pins s σ H _ I h) fun v s1 ⟨y,H1,I1,r1,q1⟩=>?_
  obtain ⟨x,e,q⟩:=q1
  subst e
  obtain ⟨t,rfl⟩:=r1
  refine wpAny_pyIter_strU ?_
  refine ⟨s1.heap.objs.size,[s1.heap.objs.size],fun i h=>h.IsStrIter s1.heap.objs.size (strIterType x) x t i,_,H1,rfl,I1.kept (t':=s1.toks) fun b o e=>Heap.get?_push_of_some _ e,uJ (t:=t) ?_,⟨_,Heap.get?_push_size _ rfl,rfl,rfl⟩,fun b hb=>?_,q⟩
  · unfold strIterType
    split
    · exact .inl rfl
    · exact .inr rfl
  · have e:b=s1.heap.objs.size:=by simpa using hb
    subst e
    exact I1.fpOk (Nat.le_refl _) (I1.hok.fresh (Nat.le_refl _))
theorem PI.or {X:Cx} {tg l:Expr} {a b:TI} (h1:PI X tg l a) (h2:PI X tg l b):PI X tg l (fun σ H R=>a σ H R∨b σ H R):=by
  intro pins s σ H R I h
  rcases h with h | h
  · exact h1 pins s σ H R I h
  · exact h2 pins s σ H R I h
end L2
namespace PL
open PySem L2 Nh
def ga:Nat→List PyData→List PyData
  | _,[]=>[]
  | k,a::as=> .tuple [.int k,a]::ga (k+1) as
def mI (f:aS):jx:=fun E=>(f E).bind fun a=>(frz a.2 a.1).bind fun b=>match b.1 with
  | .list xs=>some (ga 0 xs,b.2)
  | _=>none
def gm (x:Str):List PyData:=x.cps.toList.map fun c=> .str ⟨#[c]⟩
def cV (f:aS):jx:=fun E=>(f E).bind fun a=>(frz a.2 a.1).bind fun b=>match b.1 with
  | .list ds=>some (ds,b.2)
  | .tuple ds=>some (ds,b.2)
  | .str x=>some (gm x,b.2)
  | _=>none
section
variable {X:Cx} {K:PySem.W.Frag} {B:Hp}
theorem lC:∀{as:List PyData} {k i:Nat} {d:PyData},(ga k as)[i]? =some d→∃a,as[i]? =some a∧d= .tuple [.int ((k+i:Nat):Int),a]
  | a::as,k,0,d,e=>by simp [ga] at e;exact ⟨a,rfl,by rw [←e];simp⟩
  | a::as,k,i+1,d,e=>by
    obtain ⟨x,h1,h3⟩:=lC (as:=as) (k:=k+1) (i:=i) (by simpa [ga] using e)
    exact ⟨x,by simpa using h1,by rw [h3,show k+1+i=k+(i+1) by omega]⟩
  | [],_,_,_,e=>by simp [ga] at e
theorem lD:∀(k:Nat) (as:List PyData),(ga k as).length=as.length
  | _,[]=>rfl
  | k,a::as=>by simp [ga,lD (k+1) as]
theorem sr {a:Addr} {vs:List V} {ds:List PyData} (h:SqL K B a vs) (r:RpA K B vs ds):n5 K B (Bv K a vs) (ga 0 ds):=fun {B' F A σ H E xs Xs} i sB fr=>by
  have hH:=fr.fh.seq (fr.bf.seq (sB.seq h))
  refine ⟨fun d ed=>?_,fun e=>⟨hH,by rw [e,lD,r.len]⟩⟩
  obtain ⟨x,ex,rfl⟩:=lC ed
  obtain ⟨v,ev,rv⟩:=r.get ex
  refine ⟨⟨hH,(List.getElem?_eq_some_iff.mp ev).1⟩,fun z H2 ⟨T,v',hT,e1,e3,e4⟩=>?_⟩
  rw [ev] at e1;cases e1
  subst e3 e4
  rw [Nat.zero_add]
  exact ⟨_,_,fr.newt (.cons (.int _) (.cons (rv.same (sB.trans fr.bf)) .nil)) hT⟩
theorem uK {x:Str}:n5 K B (AR x) (gm x):=fun {B' F A σ H E xs Xs} i sB fr=>by
  refine ⟨fun d ed=>?_,fun e=>by show i=x.cps.toList.length;rw [e];simp [gm]⟩
  unfold gm at ed
  rw [List.getElem?_map] at ed
  obtain ⟨c,ec,rfl⟩:=Option.map_eq_some_iff.mp ed
  refine ⟨(List.getElem?_eq_some_iff.mp ec).1,fun z H2 ⟨e1,c',e2,e3⟩=>?_⟩
  rw [ec] at e2;cases e2
  subst e1 e3
  exact ⟨F,A,fr.push ⟨rfl,_,rfl, .str _⟩⟩
theorem uL {a:Addr} {vs:List V} {ds:List PyData} (h:SqT K B a vs) (r:RpA K B vs ds):n5 K B (Bc K a) ds:=fun {B' F A σ H E xs Xs} i sB fr=>by
  have hH:=fr.fh.tup (fr.bf.tup (sB.tup h))
  refine ⟨fun d ed=>?_,fun e=>⟨vs,hH,by rw [e,r.len];exact Nat.le_refl _⟩⟩
  obtain ⟨v,ev,rv⟩:=r.get ed
  refine ⟨⟨vs,v,hH,ev⟩,fun x H2 ⟨e2,y⟩=>?_⟩
  subst e2
  have:=y vs hH
  rw [ev] at this
  cases this
  exact ⟨F,A,fr.push ⟨rfl,_,rfl,rv.same (sB.trans fr.bf)⟩⟩
theorem eR {tg e:Expr} {m:Bool} {f:aS} (he:EX X e m f):IX X tg e m (cV f):=mF (PI.or (qx he) (PI.or (x9 he) (yQ he))) fun σ H R z=>by
  obtain ⟨B,E,xs,Xs,ds,E',fr,cl,e,q⟩:=z
  obtain ⟨⟨s,E1⟩,e1,e⟩:=Option.bind_eq_some_iff.mp e
  obtain ⟨⟨d,E2⟩,e2,e⟩:=Option.bind_eq_some_iff.mp e
  have key:∀(v:V) (H1:Hp),Frm X.K B σ H1 E1 (v::xs) (s::Xs)→∃F2 A2 A3,Rp X.K F2 v d∧Same B F2∧FrF X.K F2 F2 A3 σ H1 E2 xs Xs∧FrF X.K B F2 A2 σ H1 E2 (v::xs) (.sh d::Xs):=fun v H1 ⟨F,A,fr1⟩=>by
    obtain ⟨F2,A2,fr2⟩:=fr1.frz0 e2
    obtain ⟨v',A1,ev,rfl,w,ew,r⟩:=fr2.ext (k:=0) rfl
    cases ev;cases ew
    obtain ⟨A3,fr3⟩:=fr2.pop
    exact ⟨F2,A2,A3,r,fr2.bf,fr3.raise,fr2⟩
  simp only at e
  split at e
  · cases e
    refine .inl ⟨B,E,xs,Xs,s,E1,fr,cl,e1,fun v H1 fr1=>?_⟩
    obtain ⟨F2,A2,A3,r,sb,fr3,fr2⟩:=key v H1 fr1
    cases r with
    | lst h1 h2=>exact ⟨_,rfl,⟨_,fr2.fh.seq h1⟩,q F2 _ _ sb ⟨F2,A3,fr3⟩ (lr h1 h2)⟩
  · cases e
    refine .inr (.inl ⟨B,E,xs,Xs,s,E1,fr,cl,e1,fun v H1 fr1=>?_⟩)
    obtain ⟨F2,A2,A3,r,sb,fr3,fr2⟩:=key v H1 fr1
    cases r with
    | tup h1 h2=>exact ⟨_,rfl,⟨_,fr2.fh.tup h1⟩,q F2 _ _ sb ⟨F2,A3,fr3⟩ (uL h1 h2)⟩
  · cases e
    refine .inr (.inr ⟨B,E,xs,Xs,s,E1,fr,cl,e1,fun v H1 fr1=>?_⟩)
    obtain ⟨F2,A2,A3,r,sb,fr3,fr2⟩:=key v H1 fr1
    cases r
    exact ⟨_,rfl,q F2 _ _ sb ⟨F2,A3,fr3⟩ uK⟩
  · cases e
theorem wA {elts:List Expr} {kt:Nat} {pt p pos:Pos} {e:Expr} {m:Bool} {f:aS} (hg:Gl X "enumerate") (hm:X.mg "enumerate"=none) (he:EX X e m f) (hs:starEach [e] X.env=[(false,eval e X.env)]:=by rfl):IX X (.Tuple elts kt pt) (.Call (.Name "enumerate" p) [e] [] pos) m (mI f):=mF (wz hg hm (cB he dM hs) hs) fun σ H R z=>by
  obtain ⟨B,E,xs,Xs,ds,E',fr,cl,e,q⟩:=z
  obtain ⟨⟨s,E1⟩,e1,e⟩:=Option.bind_eq_some_iff.mp e
  obtain ⟨⟨d,E2⟩,e2,e⟩:=Option.bind_eq_some_iff.mp e
  refine ⟨B,E,xs,Xs,s,E1,fr,cl,e1,fun v H1 ⟨F,A,fr1⟩=>?_⟩
  obtain ⟨F2,A2,fr2⟩:=fr1.frz0 e2
  simp only at e
  split at e
  · cases e
    obtain ⟨v',A1,ev,rfl,w,ew,r⟩:=fr2.ext (k:=0) rfl
    cases ev;cases ew
    cases r with
    | lst h1 h2=>
      obtain ⟨A3,fr3⟩:=fr2.pop
      exact ⟨_,_,rfl,fr2.fh.seq h1,q F2 _ _ fr2.bf ⟨F2,A3,fr3.raise⟩ (sr h1 h2)⟩
  · cases e
end
end PL
namespace PL
open PySem L2 Nh
inductive Cm where
  | lt | le | gt | ge
def Cm.op:Cm→CmpOp
  | .lt=> .Lt
  | .le=> .LtE
  | .gt=> .Gt
  | .ge=> .GtE
def Cm.i:Cm→Int→Int→Bool
  | .lt,i,j=>decide (i < j)
  | .le,i,j=>decide (i≤j)
  | .gt,i,j=>decide (j < i)
  | .ge,i,j=>decide (j≤i)
def Cm.s:Cm→List Nat→List Nat→Bool
  | .lt,i,j=>decide (i < j)
  | .le,i,j=> !decide (j < i)
  | .gt,i,j=>decide (j < i)
  | .ge,i,j=> !decide (i < j)
def fR (c:Cm):PyData→PyData→Option PyData
  | .int i, .int j=>some (.bool (c.i i j))
  | .str x, .str y=>some (.bool (c.s x.cps.toList y.cps.toList))
  | _,_=>none
def BO (c:Cm):R2:=fun x y H Q=>(∃i j,x= .int i∧y= .int j∧Q (.bl (c.i i j)) H)∨(∃i j,x= .str i∧y= .str j∧Q (.bl (c.s i.cps.toList j.cps.toList)) H)
section
variable {X:Cx} {a b c:Expr} {m1 m2 m3:Bool} {f g h:aS} {pos:Pos} {K:PySem.W.Frag}
theorem n8 (c:Cm):OpR X (compareOp c.op) (BO c):=by
  cases c with
  | lt=>exact OpR.or zV rN
  | le=>exact OpR.or zW (fun pins s σ H x y v u Q I rx ry h=>by
      obtain ⟨i,j,rfl,rfl,q⟩:=h
      obtain ⟨t,rfl⟩:=rx
      obtain ⟨t',rfl⟩:=ry
      exact PySem.P.le_str (aJ I q rfl))
  | gt=>exact OpR.or zX (fun pins s σ H x y v u Q I rx ry h=>by
      obtain ⟨i,j,rfl,rfl,q⟩:=h
      obtain ⟨t,rfl⟩:=rx
      obtain ⟨t',rfl⟩:=ry
      exact PySem.P.gt_str (aJ I q rfl))
  | ge=>exact OpR.or zY (fun pins s σ H x y v u Q I rx ry h=>by
      obtain ⟨i,j,rfl,rfl,q⟩:=h
      obtain ⟨t,rfl⟩:=rx
      obtain ⟨t',rfl⟩:=ry
      exact PySem.P.ge_str (aJ I q rfl))
theorem n_ (c:Cm):mD K (BO c) (fR c):=fun d1 d2 d v1 v2 H Q e r1 r2=>by
  unfold fR at e
  split at e
  · cases e;cases r1;cases r2
    exact ⟨_,rfl,fun q=> .inl ⟨_,_,rfl,rfl,q⟩⟩
  · cases e;cases r1;cases r2
    exact ⟨_,rfl,fun q=> .inr ⟨_,_,rfl,rfl,q⟩⟩
  · cases e
theorem su (c:Cm) (b:Expr):behindInMarks c.op b=false:=by cases c <;> exact jQ _
theorem Aw (c:Cm) (ha:EX X a m1 f) (hb:EX X b m2 g):TX X (.Compare a [c.op] [b] pos) (m1||m2) (cP (af (eY (fR c)) m2 f g)):=jU (n8 c) (gj (n_ c)) ha hb (su c b)
theorem Ax (c1 c2:Cm) (ha:EX X a m1 f) (hb:EX X b m2 g) (hc:EX X c m3 h) (hm:lastMarks [c1.op,c2.op] [b,c]=false:=by with_unfolding_all rfl):EX X (.Compare a [c1.op,c2.op] [b,c] pos) (m1||(m2||m3)) (eD (fR c1) (fR c2) m2 m3 f g h):=um (n8 c1) (n8 c2) (n_ c1) (n_ c2) ha hb hc hm
theorem Ay (c1 c2:Cm) (ha:EX X a m1 f) (hb:EX X b m2 g) (hc:EX X c m3 h) (hm:lastMarks [c1.op,c2.op] [b,c]=false:=by with_unfolding_all rfl):TX X (.Compare a [c1.op,c2.op] [b,c] pos) (m1||(m2||m3)) (cP (eD (fR c1) (fR c2) m2 m3 f g h)):=ur (n8 c1) (n8 c2) (n_ c1) (n_ c2) ha hb hc hm
def uM:P2:=eY (mC (fun _ j=>decide (0≤j)) fun i j=> .int (i / 2 ^ j.toNat))
def pK:P2:=eY (mC (fun i j=>decide (0≤j∧j≤1000000∧ -(2 ^ 64) < i∧i < 2 ^ 64)) fun i j=> .int (i*2 ^ j.toNat))
def pL:P2:=eY (mC (fun _ _=>true) fun i j=> .int (Builtin.bitAnd i j))
theorem yR (ha:EX X a m1 f) (hb:EX X b m2 g):EX X (.BinOp a .RShift b pos) (m1||m2) (af uM m2 f g):=iH (r:=wa (fun _ j=>decide (0≤j)) fun i j=> .int (i / 2 ^ j.toNat)) (OpR.imp yi fun x y H Q ⟨i,j,a,b,c,q⟩=>⟨i,j,a,b,of_decide_eq_true c,q⟩) (h7 fun _ _=>rfl) ha hb
theorem pM (ha:EX X a m1 f) (hb:EX X b m2 g):EX X (.BinOp a .LShift b pos) (m1||m2) (af pK m2 f g):=iH (r:=wa (fun i j=>decide (0≤j∧j≤1000000∧ -(2 ^ 64) < i∧i < 2 ^ 64)) fun i j=> .int (i*2 ^ j.toNat)) (OpR.imp yh fun x y H Q ⟨i,j,a,b,c,q⟩=>⟨i,j,a,b,qK (of_decide_eq_true c),q⟩) (h7 fun _ _=>rfl) ha hb
theorem mJ (ha:EX X a m1 f) (hb:EX X b m2 g):EX X (.BinOp a .BitAnd b pos) (m1||m2) (af pL m2 f g):=iH (r:=wa (fun _ _=>true) fun i j=> .int (Builtin.bitAnd i j)) (OpR.imp yj fun x y H Q ⟨i,j,a,b,_,q⟩=>⟨i,j,a,b,q⟩) (h7 fun _ _=>rfl) ha hb
def isInt:PyData→Option Int
  | .int x=>some x
  | _=>none
def eG:List PyData→Option (List Str)
  | []=>some []
  | .str x::ds=>(eG ds).map fun xs=>x::xs
  | _::_=>none
def il:List PyData→Option (List Int)
  | []=>some []
  | .int x::ds=>(il ds).map fun xs=>x::xs
  | _::_=>none
theorem fz:∀{ds:List PyData} {xs:List Str},eG ds=some xs→ds=xs.map .str
  | [],xs,h=>by cases h;rfl
  | d::ds,xs,h=>by
    cases d with
    | str x=>
      obtain ⟨ys,e,rfl⟩:=Option.map_eq_some_iff.mp h
      rw [fz e];rfl
    | _=>cases h
theorem ja:∀{ds:List PyData} {xs:List Int},il ds=some xs→ds=xs.map .int
  | [],xs,h=>by cases h;rfl
  | d::ds,xs,h=>by
    cases d with
    | int x=>
      obtain ⟨ys,e,rfl⟩:=Option.map_eq_some_iff.mp h
      rw [ja e];rfl
    | _=>cases h
theorem gn {H:Hp}:∀{vs:List V} {xs:List Str},RpA K H vs (xs.map .str)→vs=xs.map .str
  | [],[],_=>rfl
  | v::vs,x::xs, .cons h r=>by cases h;rw [gn r];rfl
theorem j5 {H:Hp}:∀{vs:List V} {xs:List Int},RpA K H vs (xs.map .int)→vs=xs.map .int
  | [],[],_=>rfl
  | v::vs,x::xs, .cons h r=>by cases h;rw [j5 r];rfl
def xA:PyData→PyData→Option Bool
  | .str x, .str y=>some (!(Builtin.Str.occurrences y x 0 y.length 1).isEmpty)
  | .str x, .list ds=>(eG ds).map fun xs=>xs.contains x
  | .str x, .tuple ds=>(eG ds).map fun xs=>xs.contains x
  | .int x, .list ds=>(il ds).map fun xs=>xs.contains x
  | .int x, .tuple ds=>(il ds).map fun xs=>xs.contains x
  | _,_=>none
def yS (K:PySem.W.Frag) (neg:Bool):R2:=fun x y H Q=>(∃i j,x= .str i∧y= .str j∧Q (.bl (if neg then !(!(Builtin.Str.occurrences j i 0 j.length 1).isEmpty) else !(Builtin.Str.occurrences j i 0 j.length 1).isEmpty)) H)∨Bl K neg x y H Q
theorem oa (x:Str) (xs:List Str):zE (.str x) (xs.map .str)=xs.contains x:=by
  induction xs with
  | nil=>rfl
  | cons y xs ih=>
    rw [List.contains_cons,←ih]
    show (vE (.str y) (.str x)||zE (.str x) (xs.map .str))=_
    congr 1
    show (y == x)=(x == y)
    exact BEq.comm
theorem oe (x:Int) (xs:List Int):zE (.int x) (xs.map .int)=xs.contains x:=by
  induction xs with
  | nil=>rfl
  | cons y xs ih=>
    rw [List.contains_cons,←ih]
    show (vE (.int y) (.int x)||zE (.int x) (xs.map .int))=_
    congr 1
    show (y == x)=(x == y)
    exact BEq.comm
theorem pN (neg:Bool):mD K (yS K neg) (fun d1 d2=>(xA d1 d2).map fun b=> .bool (if neg then !b else b)):=fun d1 d2 d v1 v2 H Q e r1 r2=>by
  obtain ⟨b,e',rfl⟩:=Option.map_eq_some_iff.mp e
  clear e
  have e:=e'
  clear e'
  refine ⟨_,rfl,fun q=>?_⟩
  have hs:∀xs:List Str,(xs.map V.str).all f_=true:=fun xs=>by simp [List.all_eq_true,f_]
  have hi:∀xs:List Int,(xs.map V.int).all f_=true:=fun xs=>by simp [List.all_eq_true,f_]
  unfold xA at e
  split at e
  · cases e;cases r1;cases r2
    exact .inl ⟨_,_,rfl,rfl,q⟩
  · obtain ⟨xs,ex,rfl⟩:=Option.map_eq_some_iff.mp e
    cases r1
    cases r2 with
    | lst h1 h2=>
      rw [fz ex] at h2
      rw [gn h2] at h1
      exact .inr ⟨_,_,rfl, .inl h1,rfl,hs _,by rw [oa];exact q⟩
  · obtain ⟨xs,ex,rfl⟩:=Option.map_eq_some_iff.mp e
    cases r1
    cases r2 with
    | tup h1 h2=>
      rw [fz ex] at h2
      rw [gn h2] at h1
      exact .inr ⟨_,_,rfl, .inr h1,rfl,hs _,by rw [oa];exact q⟩
  · obtain ⟨xs,ex,rfl⟩:=Option.map_eq_some_iff.mp e
    cases r1
    cases r2 with
    | lst h1 h2=>
      rw [ja ex] at h2
      rw [j5 h2] at h1
      exact .inr ⟨_,_,rfl, .inl h1,rfl,hi _,by rw [oe];exact q⟩
  · obtain ⟨xs,ex,rfl⟩:=Option.map_eq_some_iff.mp e
    cases r1
    cases r2 with
    | tup h1 h2=>
      rw [ja ex] at h2
      rw [j5 h2] at h1
      exact .inr ⟨_,_,rfl, .inr h1,rfl,hi _,by rw [oe];exact q⟩
  · cases e
def o9 (neg:Bool):P2:=eY fun d1 d2=>(xA d1 d2).map fun b=> .bool (if neg then !b else b)
theorem uN:OpR X (compareOp .In) (yS X.K false):=OpR.or rO rS
theorem sv:OpR X (compareOp .NotIn) (yS X.K true):=OpR.or mj mi
theorem Az (ha:EX X a m1 f) (hb:EX X b m2 g) (hm:behindInMarks .In b=false:=by with_unfolding_all rfl):EX X (.Compare a [.In] [b] pos) (m1||m2) (af (o9 false) m2 f g):=pB uN (gj (pN false)) ha hb hm
theorem xB (ha:EX X a m1 f) (hb:EX X b m2 g) (hm:behindInMarks .In b=false:=by with_unfolding_all rfl):TX X (.Compare a [.In] [b] pos) (m1||m2) (cP (af (o9 false) m2 f g)):=jU uN (gj (pN false)) ha hb hm
theorem yT (ha:EX X a m1 f) (hb:EX X b m2 g) (hm:behindInMarks .NotIn b=false:=by with_unfolding_all rfl):TX X (.Compare a [.NotIn] [b] pos) (m1||m2) (cP (af (o9 true) m2 f g)):=jU sv (gj (pN true)) ha hb hm
end
def lE (x:Str):PyData→Option PyData
  | .list ds=>(eG ds).bind fun ys=>if (ys.map (·.length)).sum+ys.length*x.length≤1000000 then some (.str (Txt.join x ys)) else none
  | .tuple ds=>(eG ds).bind fun ys=>if (ys.map (·.length)).sum+ys.length*x.length≤1000000 then some (.str (Txt.join x ys)) else none
  | _=>none
theorem lG {ys:List Str}:∀{us:List Value},Vals (ys.map V.str) us→PyProof.Rows.StrsAre us ys:=by
  induction ys with
  | nil=>intro us h;cases h;exact .nil
  | cons y ys ih=>
    intro us h
    cases h with
    | cons h r=>
      obtain ⟨t,rfl⟩:=h
      exact .cons y t (ih r)
def AA (K:PySem.W.Frag):V→List V→Hp→VK→Prop:=fun x vs H Q=>∃z p ys,x= .str z∧vs=[.ref p]∧(SqL K H p (ys.map .str)∨SqT K H p (ys.map .str))∧(ys.map (·.length)).sum+ys.length*z.length≤16777216∧Q (.str (Txt.join z ys)) H
theorem wB {X:Cx}:MtR X "str.join" (AA X.K):=by
  intro pins s σ H x vs v us Q I rx rv h
  obtain ⟨z,p,ys,rfl,rfl,hq,hl,q⟩:=h
  obtain ⟨t,rfl⟩:=rx
  obtain ⟨u,rfl,ru⟩:=rv.one
  cases ru
  rcases hq with hq | hq
  · obtain ⟨its,r,pl,_⟩:=I.list hq
    exact PyProof.Rows.join_list pl.isList (by simpa using lG r) hl fun t' k=>⟨.str _,H,I.tok _,⟨_,rfl⟩,q⟩
  · obtain ⟨its,r,pl,_⟩:=I.tuple hq
    exact PyProof.Rows.join_tuple pl (by simpa using lG r) hl fun t' k=>⟨.str _,H,I.tok _,⟨_,rfl⟩,q⟩
section
variable {X:Cx} {e o:Expr} {m1 m2:Bool} {g:o8} {f h:aS} {p pos apos cpos:Pos} {K:PySem.W.Frag}
def dI (x:Str) (f:aS):aS:=h8 (lE x) f
theorem gK {x:Str} {j:Nat} {sp:Pos} (he:EX X e m1 f) (hs:starEach [e] X.env=[(false,eval e X.env)]:=by rfl) (hbase:attributeBase (.Constant (.str x) j sp) "join" X.env (eval (.Constant (.str x) j sp) X.env)=eval (.Constant (.str x) j sp) X.env:=by rfl)
    (hfew:((backTo cpos (starEach [e] X.env)).all (fun x=> !x.1)&&(backToKw cpos (keywordEach [] X.env)).all (fun x=>x.1.isSome)
      &&decide (([e]:List Expr).length+([]:List Keyword).length+(if ([]:List Keyword).isEmpty then 0 else 1) < 30))=true:=by rfl) (hline:(apos.endLine == cpos.line)=true:=by rfl):
    EX X (.Call (.Attribute (.Constant (.str x) j sp) "join" apos) [e] [] cpos) m1 (dI x f):=by
  refine bA (t_ PySem.F.plainAttrs_str PySem.F.slot_str_join PySem.F.type_str_join wB (tQ) (cB he dM hs) hbase hfew hline hs rfl) fun σ H Q z=>?_
  obtain ⟨B,E,xs,Xs,res,E',fr,c,e,q⟩:=z
  obtain ⟨⟨s1,E1⟩,e1,e⟩:=Option.bind_eq_some_iff.mp e
  obtain ⟨d1,e2,e⟩:=Option.bind_eq_some_iff.mp e
  obtain ⟨d,e3,e⟩:=Option.map_eq_some_iff.mp e
  cases e
  refine ⟨rfl,B,E,xs,Xs,s1,E1,fr,c,e1,fun v1 H1 ⟨F,A,fr1⟩=>?_⟩
  have r:=(fr1.look0 e2).1
  obtain ⟨A',fr2⟩:=fr1.pop
  unfold lE at e3
  split at e3
  · obtain ⟨ys,ey,e3⟩:=Option.bind_eq_some_iff.mp e3
    split at e3
    · rename_i hl
      cases e3
      cases r with
      | lst h1 h2=>
        rw [fz ey] at h2
        rw [gn h2] at h1
        exact ⟨x,_,ys,rfl,rfl, .inl h1,by omega,q _ _ ⟨F,A',fr2.push ⟨rfl,_,rfl, .str _⟩⟩⟩
    · cases e3
  · obtain ⟨ys,ey,e3⟩:=Option.bind_eq_some_iff.mp e3
    split at e3
    · rename_i hl
      cases e3
      cases r with
      | tup h1 h2=>
        rw [fz ey] at h2
        rw [gn h2] at h1
        exact ⟨x,_,ys,rfl,rfl, .inr h1,by omega,q _ _ ⟨F,A',fr2.push ⟨rfl,_,rfl, .str _⟩⟩⟩
    · cases e3
  · cases e3
end
theorem eS {X:Cx} {st:Stmt}:SX X st (fun _=>none):=hO tS fun D σ H z=>by
  obtain ⟨B,E,xs,Xs,E',fl,fr,cl,e,q⟩:=z
  cases e
def eH:dE:=fun _=>none
end PL
namespace PL
open PySem L2 Nh
theorem yU {X:Cx}:SlR X (fun x lo hi H Q=>∃z,x= .str z∧z.length≤sizeLine∧Q (.str (Txt.slice z lo hi)) H):=by
  intro pins s σ H x v vl vu lo hi sl Q I rx hs pl pu h
  obtain ⟨z,rfl,hz,q⟩:=h
  obtain ⟨t,rfl⟩:=rx
  cases pl with
  | none=>
    cases pu with
    | none=>exact ⟨"str",_,PySem.F.slot_str_getitem.lookup,typeIs_str _ _ _,wpAny_getItem_str_slice (l:=none) (u:=none) (st:=none) hs rfl (post_val_or_str ⟨Nat.le_trans (Txt.slice_le z _ _) hz,fun t' k=>⟨.str _,H,I.tok _,⟨_,rfl⟩,q⟩⟩)⟩
    | int j uj=>exact ⟨"str",_,PySem.F.slot_str_getitem.lookup,typeIs_str _ _ _,wpAny_getItem_str_slice (l:=none) (u:=some (j,uj)) (st:=none) hs rfl (post_val_or_str ⟨Nat.le_trans (Txt.slice_le z _ _) hz,fun t' k=>⟨.str _,H,I.tok _,⟨_,rfl⟩,q⟩⟩)⟩
  | int i ui=>
    cases pu with
    | none=>exact ⟨"str",_,PySem.F.slot_str_getitem.lookup,typeIs_str _ _ _,wpAny_getItem_str_slice (l:=some (i,ui)) (u:=none) (st:=none) hs rfl (post_val_or_str ⟨Nat.le_trans (Txt.slice_le z _ _) hz,fun t' k=>⟨.str _,H,I.tok _,⟨_,rfl⟩,q⟩⟩)⟩
    | int j uj=>exact ⟨"str",_,PySem.F.slot_str_getitem.lookup,typeIs_str _ _ _,wpAny_getItem_str_slice (l:=some (i,ui)) (u:=some (j,uj)) (st:=none) hs rfl (post_val_or_str ⟨Nat.le_trans (Txt.slice_le z _ _) hz,fun t' k=>⟨.str _,H,I.tok _,⟨_,rfl⟩,q⟩⟩)⟩
def fj (m2:Bool) (f:aS) (lo hi:xz):aS:=fun E=>(f E).bind fun a=>if m2&&a.1.isBr then none else (lo a.2).bind fun b=>(hi b.2).bind fun c=>match look c.2 a.1 with
  | some (.list ds)=>if !gT c.2 a.1||be (r_ ds b.1 c.1) then some (.ow (r_ ds b.1 c.1),c.2) else none
  | some (.str z)=>if z.length≤1000000 then some (.sh (.str (Txt.slice z b.1 c.1)),c.2) else none
  | _=>none
theorem jb {X:Cx} {e:Expr} {lo hi:Option Expr} {m1 m2 m3:Bool} {f:aS} {g h:xz} {pos p2:Pos} (he:EX X e m1 f) (hl:OX X lo m2 g) (hh:OX X hi m3 h):EX X (.Subscript e (.Slice lo hi none p2) pos) (m1||(m2||m3)) (fj (m2||m3) f g h):=by
  refine bA (t8 (SlR.or v5 yU) he hl hh) fun σ H Q z=>?_
  obtain ⟨B,E,xs,Xs,res,E',fr,cl,e,q⟩:=z
  obtain ⟨⟨s,E1⟩,e1,e⟩:=Option.bind_eq_some_iff.mp e
  by_cases hb:((m2||m3)&&s.isBr)=true
  · rw [if_pos hb] at e;cases e
  rw [if_neg hb] at e
  have n1:(m2||m3)=true→s.isBr=false:=fun z=>by
    cases hs:s.isBr with
    | false=>rfl
    | true=>exact absurd (by rw [z,hs];rfl) hb
  obtain ⟨⟨l,E2⟩,e2,e⟩:=Option.bind_eq_some_iff.mp e
  obtain ⟨⟨u,E3⟩,e3,e⟩:=Option.bind_eq_some_iff.mp e
  refine ⟨B,E,xs,Xs,s,E1,fr,fun z=>cl (by simp [z]),e1,fun v1 H1 fr1=>?_⟩
  refine ⟨B,E1,v1::xs,s::Xs,l,E2,fr1,fun z=>Calm.cons (cl (by simp [z])) (n1 (by simp [z])),e2,fun H2 fr2=>?_⟩
  refine ⟨B,E2,v1::xs,s::Xs,u,E3,fr2,fun z=>Calm.cons (cl (by simp [z])) (n1 (by simp [z])),e3,fun H3 ⟨F,A,fr3⟩=>?_⟩
  simp only at e
  split at e
  · rename_i ds ld
    split at e
    · rename_i hc
      cases e
      obtain ⟨v,ev,r,f0⟩:=fr3.look (k:=0) rfl ld
      cases ev
      obtain ⟨A',fr4⟩:=fr3.pop
      cases hh:gT E' s with
      | false=>
        obtain ⟨a,vs,rfl,h1,h2⟩:=f0 hh
        exact .inl ⟨a,vs,rfl,h1,fun p hp=>q _ _ ⟨F,_,fr4.newl (h2.cut l u) hp⟩⟩
      | true=>
        rw [hh] at hc
        cases r with
        | lst h1 h2=>exact .inl ⟨_,_,rfl,h1,fun p hp=>q _ _ ⟨F,_,fr4.newl (fr3.coldA (h2.cut l u) (by simpa using hc)) hp⟩⟩
    · cases e
  · rename_i z ld
    split at e
    · rename_i hc
      cases e
      have r:=(fr3.look0 ld).1
      cases r
      obtain ⟨A',fr4⟩:=fr3.pop
      exact .inr ⟨_,rfl,eC hc,q _ _ ⟨F,A',fr4.push ⟨rfl,_,rfl, .str _⟩⟩⟩
    · cases e
  · cases e
def og (scope:Scope) (env:Env):List (Str×Addr):=((scope.names.filter fun p=>p.2 == .free).map fun p=>(p.1,(env.cells.lookup p.1).getD 0)).reverse
theorem fA {X:Cx} {scope:Scope} {N:List Str} {js:List (Option Nat)} (clos:closureFor scope X.env=pure (og scope X.env):=by rfl) (nocell:∀y∈scope.names,y.2≠ .cell:=by decide+kernel) (kind:scope.kind= .function:=by rfl)
    (names:∀y∈scope.names,y.2= .local→scope.names.lookup y.1=some .local:=by decide+kernel) (same:(scope.names.filter fun p=>p.2 == .free).all (fun p=>(X.env.cells.lookup p.1).isSome)=true:=by rfl)
    (has:(relabel scope X.env).names.all (fun y=> !(y.2 == .cell||y.2 == .free)||((og scope X.env).lookup y.1).isSome)=true:=by rfl) (len:js.length=N.length:=by rfl)
    (fr:(js.zip N).all (fun p=>match p.1 with | none=>true | some j=>X.N[j]? == some p.2&&((relabel scope X.env).names.lookup p.2 == some .cell||(relabel scope X.env).names.lookup p.2 == some .free)&&(X.env.kindOf p.2 == some .cell||X.env.kindOf p.2 == some .free))=true:=by rfl):
    CompOk X scope (relabel scope X.env) (og scope X.env) N js where
  clos:=clos
  rel:=rfl
  nocell:=nocell
  kind:=kind
  names:=names
  same:=fun x c e=>by
    have hm:=PySem.mem_of_lookup e
    unfold og at hm
    obtain ⟨p,hp,ep⟩:=List.mem_map.mp (List.mem_reverse.mp hm)
    have:=List.all_eq_true.mp same _ hp
    obtain ⟨c',ec⟩:=Option.isSome_iff_exists.mp this
    injection ep with e1 e2
    subst e1
    rw [ec] at e2 ⊢
    exact congrArg some e2
  has:=fun x h=>by
    have key:∀k,(relabel scope X.env).names.lookup x=some k→(k == NameKind.cell||k == NameKind.free)=true→∃c,(og scope X.env).lookup x=some c:=fun k h hk=>by
      have:=List.all_eq_true.mp has _ (PySem.mem_of_lookup h)
      simp only [hk,Bool.not_true,Bool.false_or] at this
      exact Option.isSome_iff_exists.mp this
    rcases h with h | h
    · exact key _ h rfl
    · exact key _ h rfl
  len:=len
  from_:=fun i j h=>by
    have hi:i < js.length:=(List.getElem?_eq_some_iff.mp h).1
    obtain ⟨x,ex⟩:∃x,N[i]? =some x:=⟨N[i]'(by omega),List.getElem?_eq_getElem (by omega)⟩
    have hz:(js.zip N)[i]? =some (some j,x):=by rw [List.getElem?_zip_eq_some];exact ⟨h,ex⟩
    have:=List.all_eq_true.mp fr _ (List.mem_of_getElem? hz)
    simp only [Bool.and_eq_true,Bool.or_eq_true,beq_iff_eq] at this
    exact ⟨x,ex,this.1.1,this.1.2,this.2⟩
structure Bn (mg:Str→Option Value):Prop where
  len:mg "len"=none
  range:mg "range"=none
  abs:mg "abs"=none
  min:mg "min"=none
  max:mg "max"=none
  reversed:mg "reversed"=none
  enumerate:mg "enumerate"=none
  isinstance:mg "isinstance"=none
  list:mg "list"=none
  tuple:mg "tuple"=none
  str:mg "str"=none
  int:mg "int"=none
  bool:mg "bool"=none
  sorted:mg "sorted"=none
  zip:mg "zip"=none
  sum:mg "sum"=none
  any:mg "any"=none
  all:mg "all"=none
  set:mg "set"=none
  dict:mg "dict"=none
theorem AB {K:PySem.W.Frag} {h:Heap} {mg:Str→Option Value} (X:K.In h) (G:h.Ns mainGlobals mg)
    (z1:PySem.W.nsIn K mainGlobals "len"=some none) (z2:PySem.W.nsIn K mainGlobals "range"=some none) (z3:PySem.W.nsIn K mainGlobals "abs"=some none) (z4:PySem.W.nsIn K mainGlobals "min"=some none) (z5:PySem.W.nsIn K mainGlobals "max"=some none) (z6:PySem.W.nsIn K mainGlobals "reversed"=some none) (z7:PySem.W.nsIn K mainGlobals "enumerate"=some none) (z8:PySem.W.nsIn K mainGlobals "isinstance"=some none) (z9:PySem.W.nsIn K mainGlobals "list"=some none) (z10:PySem.W.nsIn K mainGlobals "tuple"=some none) (z11:PySem.W.nsIn K mainGlobals "str"=some none) (z12:PySem.W.nsIn K mainGlobals "int"=some none) (z13:PySem.W.nsIn K mainGlobals "bool"=some none) (z14:PySem.W.nsIn K mainGlobals "sorted"=some none) (z15:PySem.W.nsIn K mainGlobals "zip"=some none) (z16:PySem.W.nsIn K mainGlobals "sum"=some none) (z17:PySem.W.nsIn K mainGlobals "any"=some none) (z18:PySem.W.nsIn K mainGlobals "all"=some none) (z19:PySem.W.nsIn K mainGlobals "set"=some none) (z20:PySem.W.nsIn K mainGlobals "dict"=some none):Bn mg:=
  ⟨PySem.W.mg_none_of X G z1,PySem.W.mg_none_of X G z2,PySem.W.mg_none_of X G z3,PySem.W.mg_none_of X G z4,PySem.W.mg_none_of X G z5,PySem.W.mg_none_of X G z6,PySem.W.mg_none_of X G z7,PySem.W.mg_none_of X G z8,PySem.W.mg_none_of X G z9,PySem.W.mg_none_of X G z10,PySem.W.mg_none_of X G z11,PySem.W.mg_none_of X G z12,PySem.W.mg_none_of X G z13,PySem.W.mg_none_of X G z14,PySem.W.mg_none_of X G z15,PySem.W.mg_none_of X G z16,PySem.W.mg_none_of X G z17,PySem.W.mg_none_of X G z18,PySem.W.mg_none_of X G z19,PySem.W.mg_none_of X G z20⟩
end PL
namespace PL
open PySem L2 Nh
def e9:List PyData→Option (List Bool)
  | []=>some []
  | .bool b::ds=>(e9 ds).map (b:: ·)
  | _=>none
def uO:List PyData→Option PyData
  | [.list ds]=>(e9 ds).map fun bs=> .bool (bs.any id)
  | _=>none
def pO:List PyData→Option PyData
  | [.list ds]=>(e9 ds).map fun bs=> .bool (bs.all id)
  | _=>none
def j6 (K:PySem.W.Frag) (f:List Bool→Bool):List V→Hp→VK→Prop:=fun xs H Q=>∃p bs,xs=[.ref p]∧SqL K H p (bs.map V.bl)∧Q (.bl (f bs)) H
theorem oh {K:PySem.W.Frag} {H:Hp}:∀{vs:List V} {ds:List PyData} {bs:List Bool},RpA K H vs ds→e9 ds=some bs→vs=bs.map V.bl
  | _,_,bs, .nil,e=>by cases e;rfl
  | _,_,bs, .cons (d:=d) h t,e=>by
    cases d <;> simp [e9] at e
    obtain ⟨cs,e,rfl⟩:=e
    cases h
    rw [oh t e]
    rfl
theorem oi {K:PySem.W.Frag} {f:List Bool→Bool}:wt K (j6 K f) (fun ds=>match ds with
  | [.list ds]=>(e9 ds).map fun bs=> .bool (f bs)
  | _=>none):=fun ds d vs H Q e r=>by
  simp only at e
  split at e
  · obtain ⟨bs,eb,rfl⟩:=Option.map_eq_some_iff.mp e
    obtain ⟨v,rfl,r1⟩:=r.one
    cases r1 with
    | lst h1 h2=>
      have:=oh h2 eb
      subst this
      exact ⟨_,rfl,fun q=>⟨_,bs,rfl,h1,q⟩⟩
  · cases e
theorem lH:∀bs:List Bool,(List.range bs.length).any (fun i=>bs.getD i false)=bs.any id
  | []=>rfl
  | b::bs=>by
    rw [List.length_cons,List.range_succ_eq_map,List.any_cons,List.any_map,List.any_cons,←lH bs]
    rfl
theorem lI:∀bs:List Bool,(List.range bs.length).all (fun i=>bs.getD i false)=bs.all id
  | []=>rfl
  | b::bs=>by
    rw [List.length_cons,List.range_succ_eq_map,List.all_cons,List.all_map,List.all_cons,←lI bs]
    rfl
section
variable {X:Cx} {e:Expr} {es:List Expr} {m1:Bool} {g:o8} {p pos:Pos}
theorem io:∀{bs:List Bool} {us:List Value},Vals (bs.map V.bl) us→us=bs.map Value.bool
  | [],_, .nil=>rfl
  | b::bs,_, .cons h t=>by cases h;rw [io t];rfl
theorem qP {bs:List Bool} {i:Nat} {v:Value} (h:(bs.map Value.bool).toArray[i]? =some v):v= .bool (bs.getD i false):=by
  rw [List.getElem?_toArray,List.getElem?_map] at h
  obtain ⟨b,e,rfl⟩:=Option.map_eq_some_iff.mp h
  rw [List.getD_eq_getElem?_getD,e]
  rfl
theorem sx (hc:X.calm=true):CallR X (.builtin "any") (j6 X.K fun bs=>bs.any id):=by
  intro pins s σ H xs us Q I r h
  obtain ⟨a,bs,rfl,hq,q⟩:=h
  cases r with
  | cons r rr=>
    cases rr
    cases r
    obtain ⟨its,rv,pl,hz⟩:=I.list hq
    have:=io rv
    subst this
    obtain ⟨o,n,eo,_⟩:=id pl
    have hlt:a < s.heap.objs.size:=Heap.lt_size eo
    refine call_any_walk (wpAny_pyIter_list pl.isList ?_)
    refine ⟨s.heap.objs.size,_,_,_,_,_,fun i=>bs.getD i false,rfl,Walks.list (A:=X.A.in1) (I.ok.hd hc) s.heap.objs.size a (Nat.ne_of_lt hlt) (bs.map Value.bool).toArray,?_,?_,?_⟩
    · exact ⟨⟨_,Heap.get?_push_size _ rfl,rfl,rfl⟩,pl.isList.at fun o e=>Heap.get?_push_of_some _ e⟩
    · intro i v s Q E hv hQ
      rw [qP hv]
      exact wpAny_truthy_bool hQ
    · intro h' tk hk
      refine ⟨.bl _,H,I.kept (t':=tk) fun b o e=>hk b o (fun z=>?_) (Heap.get?_push_of_some _ e),rfl,?_⟩
      · have:b=s.heap.objs.size:=by simpa using z
        exact Nat.lt_irrefl _ (this▸Heap.lt_size e)
      · rw [show ((bs.map Value.bool).toArray).size=bs.length by simp,lH]
        exact q
theorem sy (hc:X.calm=true):CallR X (.builtin "all") (j6 X.K fun bs=>bs.all id):=by
  intro pins s σ H xs us Q I r h
  obtain ⟨a,bs,rfl,hq,q⟩:=h
  cases r with
  | cons r rr=>
    cases rr
    cases r
    obtain ⟨its,rv,pl,hz⟩:=I.list hq
    have:=io rv
    subst this
    obtain ⟨o,n,eo,_⟩:=id pl
    have hlt:a < s.heap.objs.size:=Heap.lt_size eo
    refine call_all_walk (wpAny_pyIter_list pl.isList ?_)
    refine ⟨s.heap.objs.size,_,_,_,_,_,fun i=>bs.getD i false,rfl,Walks.list (A:=X.A.in1) (I.ok.hd hc) s.heap.objs.size a (Nat.ne_of_lt hlt) (bs.map Value.bool).toArray,?_,?_,?_⟩
    · exact ⟨⟨_,Heap.get?_push_size _ rfl,rfl,rfl⟩,pl.isList.at fun o e=>Heap.get?_push_of_some _ e⟩
    · intro i v s Q E hv hQ
      rw [qP hv]
      exact wpAny_truthy_bool hQ
    · intro h' tk hk
      refine ⟨.bl _,H,I.kept (t':=tk) fun b o e=>hk b o (fun z=>?_) (Heap.get?_push_of_some _ e),rfl,?_⟩
      · have:b=s.heap.objs.size:=by simpa using z
        exact Nat.lt_irrefl _ (this▸Heap.lt_size e)
      · rw [show ((bs.map Value.bool).toArray).size=bs.length by simp,lI]
        exact q
theorem yV (hc:X.calm=true) (hg:Gl X "any") (hm:X.mg "any"=none) (ha:AX X [e] m1 g) (he:starEach [e] X.env=[(false,eval e X.env)]:=by rfl):EX X (.Call (.Name "any" p) [e] [] pos) m1 (bI uO g):=jZ (r:=j6 X.K fun bs=>bs.any id) oi (sx hc) hg hm PyProof.Rows.boot_any ha (by decide) (by decide) he rfl
theorem uP (hc:X.calm=true) (hg:Gl X "all") (hm:X.mg "all"=none) (ha:AX X [e] m1 g) (he:starEach [e] X.env=[(false,eval e X.env)]:=by rfl):EX X (.Call (.Name "all" p) [e] [] pos) m1 (bI pO g):=jZ (r:=j6 X.K fun bs=>bs.all id) oi (sy hc) hg hm PyProof.Rows.boot_all ha (by decide) (by decide) he rfl
theorem gE:∀{ns:List Int} {us:List Value},Vals (ns.map V.int) us→us.length=ns.length∧∀(i:Nat) (v:Value),us[i]? =some v→∃t,v=Value.int (ns.getD i 0) t
  | [],_, .nil=>⟨rfl,fun i v h=>by simp at h⟩
  | n::ns,_, .cons h t=>by
    obtain ⟨tk,rfl⟩:=h
    obtain ⟨h1,h2⟩:=gE t
    refine ⟨by simp [h1],fun i v h=>?_⟩
    cases i with
    | zero=>simp at h;subst h;exact ⟨tk,rfl⟩
    | succ i=>simpa using h2 i v (by simpa using h)
end
end PL
namespace PL
open PySem L2 Nh
def nE (a b:Str):Bool:=decide (a.cps.toList≤b.cps.toList)
def gb (ss:List Str):List Str:=ss.mergeSort nE
theorem gL (a b c:Str) (h:nE a b=true) (k:nE b c=true):nE a c=true:=decide_eq_true (List.le_trans (of_decide_eq_true h) (of_decide_eq_true k))
theorem jc (a b:Str):(nE a b||nE b a)=true:=by
  rcases List.le_total a.cps.toList b.cps.toList with h | h
  · simp [nE,h]
  · simp [nE,h]
theorem j8 {a b:Str} (h:nE a b=true) (k:nE b a=true):a=b:=by
  have e:=List.le_antisymm (of_decide_eq_true h) (of_decide_eq_true k)
  cases a;cases b
  simp only at e
  rw [Array.toList_inj.mp e]
theorem lJ:∀(p:Str) (l:List Str),PyProof.Rows.risingS p l=true→(p::l).Pairwise (fun a b=>nE a b=true)
  | p,[],_=>by simp
  | p,x::r,h=>by
    have h':(!PySem.Spec.ltCps x.cps.toList p.cps.toList&&PyProof.Rows.risingS x r)=true:=h
    rw [Bool.and_eq_true,PyProof.Rows.ltCps_eq] at h'
    have ih:=lJ x r h'.2
    have hpx:nE p x=true:=by
      have:=h'.1
      simp only [Bool.not_eq_true',decide_eq_false_iff_not] at this
      exact decide_eq_true this
    refine List.pairwise_cons.mpr ⟨fun y hy=>?_,ih⟩
    rcases List.mem_cons.mp hy with rfl | hy
    · exact hpx
    · exact gL p x y hpx ((List.pairwise_cons.mp ih).1 y hy)
theorem sC:∀l:List Str,PyProof.Rows.sortedS l=true→l.Pairwise (fun a b=>nE a b=true)
  | [],_=>List.Pairwise.nil
  | x::r,h=>lJ x r h
theorem j9 {a b:List Str} (p:a.Perm b) (h:PyProof.Rows.sortedS a=true):a=gb b:=
  List.Perm.eq_of_pairwise (fun _ _ _ _ h k=>j8 h k) (sC a h) (List.pairwise_mergeSort gL jc b) (p.trans (List.mergeSort_perm b nE).symm)
theorem jd (ss:List Str):(gb ss).length=ss.length:=(List.mergeSort_perm ss nE).length_eq
section
variable {X:Cx} {e:Expr} {m1:Bool} {f:aS} {p pos:Pos}
theorem j_:∀{ss:List Str} {us:List Value},Vals (ss.map V.str) us→PyProof.Rows.StrsAre us ss
  | [],_, .nil=> .nil
  | s::ss,_, .cons h t=>by obtain ⟨tk,rfl⟩:=h;exact .cons _ _ (j_ t)
theorem ka:∀{ss:List Str} {us:List Value},PyProof.Rows.StrsAre us ss→Vals (ss.map V.str) us
  | [],_, .nil=> .nil
  | _::_,_, .cons y t h=> .cons ⟨t,rfl⟩ (ka h)
theorem mK:CallR X (.builtin "sorted") (fun xs H Q=>∃(p:Addr) (ss:List Str),xs=[.ref p]∧SqL X.K H p (ss.map V.str)∧ss.length < 64∧∀l,H l=none→Q (.ref l) (upd H l (.lst ((gb ss).map V.str)))):=by
  intro pins s σ H xs us Q I r h
  obtain ⟨p,ss,rfl,hq,h64,q⟩:=h
  cases r with
  | cons r rr=>
    cases rr
    cases r
    obtain ⟨its,rv,pl,hz⟩:=I.list hq
    have hS:=j_ rv
    have hl:its.length=ss.length:=by have:=rv.length;simpa using this.symm
    refine PyProof.Rows.sorted_strs pl.isList hS (by omega) fun out ss' a1 a2 a3=>?_
    have:=j9 a2 a3
    subst this
    obtain ⟨e,he⟩:=PyProof.Rows.sortedAll_at s.heap its out
    refine ⟨.ref (s.heap.objs.size+1),_,I.laid (t':=s.toks) (fun b o=>PyProof.Rows.sortedAll_old) (Nat.le_succ _) (show ObjOk X.prog X.w _ _ _ (.lst ((gb ss).map V.str)) from ⟨?_,out.toList,e,ka a1,he⟩),rfl,q _ (I.hok.fresh (Nat.le_succ _))⟩
    rw [List.length_map,jd]
    exact eC (by omega)
def gZ:List PyData→Option (List Str)
  | []=>some []
  | .str x::ds=>(gZ ds).map (x:: ·)
  | _=>none
theorem iK {K:PySem.W.Frag} {H:Hp}:∀{vs:List V} {ds:List PyData} {bs:List Str},RpA K H vs ds→gZ ds=some bs→vs=bs.map V.str
  | _,_,bs, .nil,e=>by cases e;rfl
  | _,_,bs, .cons (d:=d) h t,e=>by
    cases d <;> simp [gZ] at e
    obtain ⟨cs,e,rfl⟩:=e
    cases h
    rw [iK t e]
    rfl
theorem eT {K:PySem.W.Frag} {H:Hp}:∀ss:List Str,RpA K H (ss.map V.str) (ss.map PyData.str)
  | []=> .nil
  | s::ss=> .cons (.str s) (eT ss)
def iL (g:aS):aS:=fun E=>(g E).bind fun a=>match look a.2 a.1 with
  | some (.list ds)=>(gZ ds).bind fun ss=>if ss.length < 64 then some (.ow ((gb ss).map .str),a.2) else none
  | _=>none
theorem sE (hg:Gl X "sorted") (hm:X.mg "sorted"=none) (ha:EX X e m1 f) (he:starEach [e] X.env=[(false,eval e X.env)]:=by rfl):EX X (.Call (.Name "sorted" p) [e] [] pos) m1 (iL f):=by
  refine bA (iB mK hg hm PyProof.Rows.boot_sorted (cB ha dM he) (by decide) (by decide) he rfl) fun σ H Q z=>?_
  obtain ⟨B,E,xs,Xs,res,E',fr,cl,e,q⟩:=z
  obtain ⟨⟨s,E1⟩,e1,e⟩:=Option.bind_eq_some_iff.mp e
  refine ⟨B,E,xs,Xs,s,E1,fr,cl,e1,fun v1 H1 ⟨F,A,fr1⟩=>?_⟩
  obtain ⟨A',fr2⟩:=fr1.pop
  simp only at e
  split at e
  · rename_i ds ld
    obtain ⟨ss,es,e⟩:=Option.bind_eq_some_iff.mp e
    split at e
    · rename_i hc
      cases e
      have r:=(fr1.look0 ld).1
      cases r with
      | lst h1 h2=>
        have:=iK h2 es
        subst this
        exact ⟨_,ss,rfl,h1,hc,fun l hl=>q _ _ ⟨F,_,fr2.newl (eT _) hl⟩⟩
    · cases e
  · cases e
end
end PL
namespace PL
open PySem L2 Nh
def vF (ks:List Str) (x:Str):List Str:=if x∈ks then ks else ks++[x]
def gV (ss:List Str):List Str:=ss.foldl vF []
def iM (x:Str):List Str:=x.cps.toList.map fun c=>⟨#[c]⟩
def kb (g:aS):aS:=fun E=>(g E).bind fun a=>match look a.2 a.1 with
  | some (.list ds)=>(gZ ds).bind fun ss=>if ss.length < 4000∧(gV ss).length < 64 then some (.ow ((gb (gV ss)).map .str),a.2) else none
  | some (.str x)=>if (iM x).length < 4000∧(gV (iM x)).length < 64 then some (.ow ((gb (gV (iM x))).map .str),a.2) else none
  | _=>none
end PL
namespace NhSet
open PySem PyProof.Rows
structure SS (w:World) (b:Bool) (ks:List Str) (es:Array (Int×Value)) (t:SetTable):Prop where
  perm:(es.toList.map (fun e=>strOf e.2)).Perm ks
  elems:∀e∈es.toList,∃x tk,e=(hashStr w x,Value.str x tk)
  bound:es.size < scanBound
  fits:t.fits es.size=true
  led:t.led=b
  plain:es.size≠0→t.plain=false
abbrev bT (es:Array (Int×Value)) (ep:Nat) (t:SetTable):Obj:={cls:= .type "set",dict:=none,data:= .set es ep t}
def StrSet (w:World) (h:Heap) (a:Addr) (b:Bool) (ks:List Str):Prop:=∃es ep t,h.get? a=some (bT es ep t)∧SS w b ks es t
theorem StrSet.at' {w:World} {h h':Heap} {a:Addr} {b:Bool} {ks:List Str} (S:StrSet w h a b ks) (e:∀o,h.get? a=some o→h'.get? a=some o):StrSet w h' a b ks:=
  let ⟨es,ep,t,ho,r⟩:=S;⟨es,ep,t,e _ ho,r⟩
theorem StrSet.obj {w:World} {h:Heap} {a:Addr} {b:Bool} {ks:List Str} (S:StrSet w h a b ks):∃o,h.get? a=some o:=let ⟨_,_,_,ho,_⟩:=S;⟨_,ho⟩
theorem StrSet.typeIs {w:World} {s:Shared} {a:Addr} {b:Bool} {ks:List Str} (S:StrSet w s.heap a b ks):s.TypeIs (.ref a) "set":=let ⟨_,_,_,ho,_⟩:=S;⟨_,ho,rfl⟩
theorem SS.elemsOf {prog:Program} {w:World} {b:Bool} {ks:List Str} {es:Array (Int×Value)} {t:SetTable} (S:SS w b ks es t):ElemsOf (strKind prog w) es.toList:=fun e he=>by
  obtain ⟨x,tk,rfl⟩:=S.elems e he
  exact ⟨⟨x,by simp [PySem.strKind,Value.isStrOf],rfl⟩,rfl⟩
theorem SS.len {w:World} {b:Bool} {ks:List Str} {es:Array (Int×Value)} {t:SetTable} (S:SS w b ks es t):es.size=ks.length:=by
  have:=S.perm.length_eq;simpa using this
theorem SS.mem {w:World} {b:Bool} {ks:List Str} {es:Array (Int×Value)} {t:SetTable} (S:SS w b ks es t) (x:Str):x∈ks↔∃e∈es.toList,Value.isStrOf x e.2=true:=by
  rw [←S.perm.mem_iff,List.mem_map]
  constructor
  · rintro ⟨e,he,rfl⟩
    obtain ⟨y,tk,rfl⟩:=S.elems e he
    exact ⟨_,he,by simp [Value.isStrOf,strOf]⟩
  · rintro ⟨e,he,hx⟩
    obtain ⟨y,tk,rfl⟩:=S.elems e he
    have:y=x:=by simpa [Value.isStrOf] using hx
    exact ⟨_,he,by simp [strOf,this]⟩
theorem SetTable.orStandIn_led (t:SetTable) (n:Nat):(t.orStandIn n).led=t.led:=by
  unfold SetTable.orStandIn;split <;> rfl
theorem pP (t:SetTable) (es:Array (Int×Value)) (h:Int) (x:Value):(layNew t es h x).2.1.led=t.led:=by
  unfold layNew
  split
  · exact SetTable.orStandIn_led _ _
  · rfl
theorem pQ {mask finger moves:Nat} {led plain:Bool} {hashes:Array Int} {t':SetTable} {order:Array Nat} (h:SetTable.laid mask finger moves led plain hashes=some (t',order)):t'.led=led∧t'.plain=plain:=by
  unfold SetTable.laid at h
  cases hc:SetTable.layClean mask hashes with
  | none=>rw [hc] at h;simp at h
  | some ow=>rw [hc] at h;simp at h;rw [←h.1];exact ⟨rfl,rfl⟩
theorem kc (t:SetTable) (es:Array (Int×Value)) (wanted:Nat) (hp:t.plain=false):(relayAll t es wanted).2.1.led=t.led∧(relayAll t es wanted).2.1.plain=false:=by
  unfold relayAll
  split
  · rename_i t' order hr
    dsimp only
    split
    · have:=pQ hr
      exact ⟨this.1,this.2.trans hp⟩
    · exact ⟨rfl,rfl⟩
  · exact ⟨rfl,rfl⟩
section
variable {prog:Program} {w:World} {A:Around} {E:Value→Shared→Prop} {s:Shared}
theorem kN (es es':Array (Int×Value)) (ep:Nat) (t t':SetTable):Obj.putSet es' t' (bT es ep t)=bT es' (ep+1) t':=rfl
theorem oj {h:Heap} {a:Addr} {es es':Array (Int×Value)} {ep:Nat} {t t':SetTable} (ho:h.get? a=some (bT es ep t)):(h.update a (Obj.putSet es' t')).get? a=some (bT es' (ep+1) t'):=
  Heap.get?_update_self (Obj.putSet es' t') ho (by rw [kN];rfl)
theorem qQ {g:Bool→Sem Unit} (hg:∀(b:Bool) (s₁:Shared) (Q':Unit→Shared→Prop),Q' () s₁→wpAny (model prog w) A (g b) Q' E s₁)
    {a:Addr} {es:Array (Int×Value)} {ep:Nat} {t:SetTable} (ho:s.heap.get? a=some (bT es ep t))
    {es1:Array (Int×Value)} {t2:SetTable} {b:Bool} {ks:List Str} (S:SS w b ks es1 t2) (hp:t2.plain=false) {wasDummy:Bool} {R:Option Bool→Shared→Prop}
    (h:∀h',Heap.SameBut a s.heap h'→StrSet w h' a b ks→R (some true) {s with heap:=h'}):
    wpAny (model prog w) A (do
        storeSet a es1 t2
        if (!wasDummy&&t2.tooFull)=true then do
            g (relayAll t2 es1 (SetTable.grown es1.size)).2.2
            storeSet a (relayAll t2 es1 (SetTable.grown es1.size)).1 (relayAll t2 es1 (SetTable.grown es1.size)).2.1
            pure (some true)
          else pure (some true)) R E s:=by
  refine wpAny_bind (wpAny_storeSet_of ho rfl ?_ (fits_of_scanBound S.bound))
  have ho1:=oj (es':=es1) (t':=t2) ho
  have hsb1:=Heap.SameBut.update s.heap a (Obj.putSet es1 t2)
  split
  · have hpm:=relayAll_perm t2 es1 (SetTable.grown es1.size)
    have hfr:=relayAll_fits t2 es1 (SetTable.grown es1.size)
    have hmk:=kc t2 es1 (SetTable.grown es1.size) hp
    generalize hRl:relayAll t2 es1 (SetTable.grown es1.size)=Rl at hpm hfr hmk ⊢
    obtain ⟨es2,t3,gave2⟩:=Rl
    dsimp only at hpm hfr hmk ⊢
    have hsz:es2.size=es1.size:=by rw [←Array.length_toList,hpm.length_eq,Array.length_toList]
    have hb2:es2.size < scanBound:=by rw [hsz];exact S.bound
    have S2:SS w b ks es2 t3:=⟨(hpm.map _).trans S.perm,fun e he=>S.elems e (hpm.mem_iff.mp he),hb2,hfr,hmk.1.trans S.led,fun _=>hmk.2⟩
    refine wpAny_bind (hg _ _ _ ?_)
    refine wpAny_bind (wpAny_storeSet_of ho1 rfl ?_ (fits_of_scanBound hb2))
    exact wpAny_pure (h _ (hsb1.trans (Heap.SameBut.update _ a _)) ⟨es2,_,t3,oj ho1,S2⟩)
  · exact wpAny_pure (h _ hsb1 ⟨es1,_,t2,ho1,S⟩)
def jJ (ks:List Str) (x:Str):List Str:=if x∈ks then ks else ks++[x]
theorem je {a:Addr} {b:Bool} {ks:List Str} {x:Str} {tk:Tok} {Q:Bool→Shared→Prop} (hS:StrSet w s.heap a b ks) (hroom:ks.length+1 < scanBound)
    (h:∀(r:Bool) h',Heap.SameBut a s.heap h'→StrSet w h' a b (jJ ks x)→Q r {s with heap:=h'}):
    wpAny (model prog w) A (setAddHashed a (.str x tk) (hashStr w x)) Q E s:=by
  obtain ⟨es,ep,t,ho,S⟩:=hS
  have hb1:es.size+1 < scanBound:=by rw [S.len];exact hroom
  have hel:=S.elemsOf (prog:=prog)
  have hkey:(strKind prog w).is x (.str x tk)=true:=by simp [PySem.strKind,Value.isStrOf]
  unfold setAddHashed setAddHashedIn
  refine wpAny_holding (wpAny_bind (wpAny_setState_of ho rfl S.fits ?_))
  dsimp only
  rw [byScan_of (knd:=strKind prog w) (x:= .str x tk) rfl S.bound hel]
  simp only [↓reduceIte]
  unfold setAddByScan
  refine wpAny_bind ?_
  refine wpAny_bind (wpAny_rule ?_)
  refine wpAny_bind (wpAny_setScan_of (knd:=strKind prog w) hkey ho rfl S.fits hel ?_)
  cases hr:List.findIdx? (fun e=>(strKind prog w).is x e.2) es.toList with
  | some j=>
    dsimp only
    obtain ⟨hj,hpj,_⟩:=List.findIdx?_eq_some_iff_getElem.mp hr
    have hk:x∈ks:=(S.mem x).mpr ⟨es.toList[j],List.getElem_mem hj,hpj⟩
    refine wpAny_pure (wpAny_pure ?_)
    have e:s={s with heap:=s.heap}:=by cases s;rfl
    rw [e]
    exact h _ s.heap (Heap.SameBut.refl a s.heap) (by rw [jJ,if_pos hk];exact ⟨es,ep,t,ho,S⟩)
  | none=>
    dsimp only
    have hk:x∉ks:=fun hk=>by
      obtain ⟨e,he,hp⟩:=(S.mem x).mp hk
      have:=List.findIdx?_eq_none_iff.mp hr e he
      rw [show (strKind prog w).is x e.2=true from hp] at this;exact Bool.noConfusion this
    have hgw:∀(b:Bool) {s₁:Shared} {Q':Unit→Shared→Prop},Q' () s₁→wpAny (model prog w) A (match b with | true=>rule "set.scan.the-table-gave-way" | false=>pure ()) Q' E s₁:=
      fun b s₁ Q' hq=>by cases b <;> first | exact wpAny_pure hq | exact wpAny_rule hq
    have hperm:=layNew_perm t es (hashStr w x) (.str x tk)
    have hfits:=layNew_fits t es (hashStr w x) (.str x tk)
    have hled:=pP t es (hashStr w x) (.str x tk)
    generalize hL:layNew t es (hashStr w x) (.str x tk)=L at hperm hfits hled ⊢
    obtain ⟨es1,t1,wasDummy,gave⟩:=L
    dsimp only at hperm hfits hled ⊢
    rw [Array.toList_push] at hperm
    have hb1':es1.size < scanBound:=by rw [←Array.length_toList,hperm.length_eq,List.length_append,Array.length_toList];simpa using hb1
    have hpm:(es1.toList.map (fun e=>strOf e.2)).Perm (ks++[x]):=(hperm.map _).trans (by rw [List.map_append];exact S.perm.append_right _)
    have hel1:∀e∈es1.toList,∃x tk,e=(hashStr w x,Value.str x tk):=fun e he=>by
      rcases List.mem_append.mp (hperm.mem_iff.mp he) with z | z
      · exact S.elems e z
      · exact ⟨x,tk,List.mem_singleton.mp z⟩
    refine wpAny_bind (hgw _ ?_)
    split
    · refine wpAny_bind ?_
      rw [hashByValue_scannable 8 (x:= .str x tk) rfl]
      refine wpAny_pure ?_
      simp only [plainKind,Bool.false_eq_true,↓reduceIte]
      refine qQ ?_ ho (t2:={t1 with plain:=false}) (ks:=jJ ks x) (b:=b) ⟨by rw [jJ,if_neg hk];exact hpm,hel1,hb1',SetTable.fits_plain_off hfits,hled.trans S.led,fun _=>rfl⟩ rfl ?_
      · intro b s₁ Q' hq;cases b <;> first | exact wpAny_pure hq | exact wpAny_rule hq
      · intro h' hsb hS';dsimp only;exact wpAny_pure (h _ h' hsb hS')
    · rename_i hpl
      refine wpAny_bind (wpAny_pure ?_)
      simp only [↓reduceIte]
      have hpl':t1.plain=false:=by simpa using hpl
      refine qQ ?_ ho (ks:=jJ ks x) (b:=b) ⟨by rw [jJ,if_neg hk];exact hpm,hel1,hb1',hfits,hled.trans S.led,fun _=>hpl'⟩ hpl' ?_
      · intro b s₁ Q' hq;cases b <;> first | exact wpAny_pure hq | exact wpAny_rule hq
      · intro h' hsb hS';dsimp only;exact wpAny_pure (h _ h' hsb hS')
end
def ip (val:Nat→Str) (i:Nat):List Str:=((List.range i).map val).foldl jJ []
theorem lK (val:Nat→Str) (i:Nat):ip val (i+1)=jJ (ip val i) (val i):=by
  unfold ip;rw [List.range_succ,List.map_append,List.foldl_append];rfl
theorem uQ (ks:List Str) (x:Str):(jJ ks x).length≤ks.length+1:=by
  unfold jJ;split
  · omega
  · simp
theorem om (val:Nat→Str):∀i,(ip val i).length≤i
  | 0=>Nat.le_refl _
  | i+1=>by rw [lK];have:=om val i;have:=uQ (ip val i) (val i);omega
section
variable {prog:Program} {w:World} {A:Around} {R:Result→Shared→Prop} {I:Addr} {fp wr:List Addr} {G:Array GenState→Array GenState→Prop} {n:Nat} {P:Nat→Value→Prop} {St:Nat→Shared→Prop}
theorem jC (W:WalksS prog w A.in1 I fp wr G n P St) (S:Addr) (hSf:S∉fp) (b:Bool)
    (val:Nat→Str) (hval:∀i v,P i v→∃t,v= .str (val i) t) (hb:n+1 < scanBound):
    ∀(k i:Nat) (s:Shared),n - i=k→i≤n→St i s→StrSet w s.heap S b (ip val i)→
      (∀s',Moved (S::wr) G s s'→StrSet w s'.heap S b (ip val n)→R (.ok (.ret .none)) s')→
      codeAny (model prog w) A (.builtin "set.update.loop" ⟨[.ref S, .ref I],[]⟩) R s:=by
  have hSw:S∉wr:=fun h=>hSf (W.sub _ h)
  have hsub:∀b∈wr,b∈S::wr:=fun b hb=>List.mem_cons_of_mem _ hb
  intro k
  induction k with
  | zero=>
    intro i s hk hi hst hS hR
    have hin:i=n:=by omega
    subst hin
    refine codeAny_builtin PyProof.Rows.F.entry_set_update_loop ?_
    rw [Around.under_plainId PyProof.Rows.F.plain_set_update_loop _]
    show wpAny _ A.in1 (pyNext (.ref I) >>= _) _ _ s
    refine wpAny_bind (W.done s _ _ hst fun s' hm=>?_)
    show wpAny _ A.in1 (ret Value.none) _ _ s'
    exact wpAny_pure (hR s' (hm.mono hsub) (hS.at' fun o e=>hm.heap S o hSw e))
  | succ k ih=>
    intro i s hk hi hst hS hR
    have hlt:i < n:=by omega
    refine codeAny_builtin PyProof.Rows.F.entry_set_update_loop ?_
    rw [Around.under_plainId PyProof.Rows.F.plain_set_update_loop _]
    show wpAny _ A.in1 (pyNext (.ref I) >>= _) _ _ s
    refine wpAny_bind (W.item i s _ _ hlt hst fun v s' hP hst' hm=>?_)
    obtain ⟨t,rfl⟩:=hval i v hP
    have hS':StrSet w s'.heap S b (ip val i):=hS.at' fun o e=>hm.heap S o hSw e
    show wpAny _ A.in1 (holding [Value.str (val i) t] (setAdd S (.str (val i) t)) >>= _) _ _ s'
    refine wpAny_bind (wpAny_holding ?_)
    unfold setAdd
    refine wpAny_holding ?_
    refine wpAny_bind (wpAny_pyHash_str ?_)
    have hroom:(ip val i).length+1 < scanBound:=by have:=om val i;omega
    refine je (s:={s' with toks:=s'.toks+1}) hS' hroom fun r h' hsb hS2=>?_
    refine wpAny_pure ⟨plainId_quiet PyProof.Rows.F.plain_set_update_loop _,ih (i+1) _ (by omega) hlt (W.frame _ s' _ _ hst' (Nat.le_succ _) fun b hb o e=>?_) (by rw [lK];exact hS2) fun s'' hm'' hS''=>?_⟩
    · rw [hsb.2 b (fun h:b=S=>hSf (by rw [←h];exact hb))];exact e
    · refine hR s'' (Moved.trans W.gtrans ((hm.mono hsub).then_heap (Nat.le_succ _) fun b o hb e=>?_) hm'') hS''
      rw [hsb.2 b (fun h:b=S=>hb (by rw [h];exact List.mem_cons_self))];exact e
end
theorem iN (w:World) (led:Bool):SS w led [] #[] (.fresh 0 0 led):=⟨by simp,fun e he=>by simp at he,by decide,by rfl,rfl,fun h=>absurd rfl h⟩
def g5 (w:World):Bool:= !w.params.followText "set-order"
section
variable {prog:Program} {w:World} {A:Around} {E:Value→Shared→Prop} {s:Shared}
theorem on (a:Value) {Q₁:Value→Shared→Prop}
    (h:Q₁ (.ref s.heap.objs.size) {s with heap:=s.heap.push (bT #[] 0 (.fresh 0 0 (g5 w)))}):
    codeAny (model prog w) A (.call (.builtin "set.__new__") ⟨[.type "set",a],[]⟩) (wants Q₁ E) s:=by
  refine codeAny_of_tree ?_
  show wpAny _ A.in1 (do checkBuiltinCall "set.__new__" ⟨[.type "set",a],[]⟩;again (.builtin "set.__new__" ⟨[.type "set",a],[]⟩)) _ _ s
  refine wpAny_bind (wpAny_of_eq (PySem.F.newCall_set_1 a) (wpAny_pure ⟨plainId_quiet PySem.F.plain_set_new _,codeAny_builtin PySem.F.entry_set_new ?_⟩))
  rw [Around.under_plainId PySem.F.plain_set_new _]
  unfold Builtin.«set.__new__» Builtin.Frozenset.newClass
  have hsub:=sub_set_self
  obtain ⟨hp,g,d,tk,os⟩:=s
  dsimp only
  wp_walk
  refine wpAny_askSetting (wpAny_pure ?_)
  dsimp only
  simp only [newObj]
  refine wpAny_bind (wpAny_alloc (wpAny_pure ?_))
  exact wpAny_pure h
end
end NhSet
namespace NhSet
open PySem PyProof.Rows
namespace F
theorem oo:isSubtype (.type "str") (.type "set")=pure false:=by rw [isSubtype_type];kernel_rfl
theorem iO:isSubtype (.type "str") (.type "frozenset")=pure false:=by rw [isSubtype_type];kernel_rfl
end F
section
variable {prog:Program} {w:World} {A:Around} {E:Value→Shared→Prop} {s:Shared}
theorem qR:∀{vs:List Value} {ns:List Str},StrsAre vs ns→∀(i:Nat) (v:Value),vs[i]? =some v→∃t,v= .str (ns.getD i ⟨#[]⟩) t
  | _,_, .nil,i,v,h=>by simp at h
  | _,_, .cons n t hr,0,v,h=>by simp at h;exact ⟨t,by rw [←h];rfl⟩
  | _,_, .cons n t hr,i+1,v,h=>by
    simp only [List.getElem?_cons_succ] at h
    obtain ⟨t',e⟩:=qR hr i v h
    exact ⟨t',by rw [e];rfl⟩
set_option maxHeartbeats 4000000 in
theorem sG {l:Addr} {items:Array Value} {ns:List Str} {Q:Value→Shared→Prop}
    (hh:A.handled=none) (hl:s.heap.IsList l items) (hi:StrsAre items.toList ns) (hb:items.size+1 < scanBound)
    (h:∀(h':Heap) (tk:Nat),StrSet w h' s.heap.objs.size (g5 w) (ip (fun i=>ns.getD i ⟨#[]⟩) items.size)→
      (∀b o,b < s.heap.objs.size→s.heap.get? b=some o→h'.get? b=some o)→Q (.ref s.heap.objs.size) {s with heap:=h',toks:=tk}):
    wpAny (model prog w) A (call (.type "set") [.ref l]) Q E s:=by
  obtain ⟨c,tl,hmro⟩:=PySem.F.called_set.mro
  have hmade:=PySem.F.called_set.made
  have hsub:=PySem.F.called_set.sub
  refine wpAny_call (codeAny_of_tree ?_)
  show wpAny _ _ (callAny (.type "set") _) _ _ _
  refine wpAny_pure ⟨Code.quiet_builtin _ (by decide+kernel),codeAny_builtin PySem.F.entry_type_call ?_⟩
  rw [Around.under_plain (weight_type_call_type "set" [.ref l] []) rfl]
  have h1:=PySem.F.called_set.notType
  have h2:=PySem.F.called_set.canCreate
  have hct:=PySem.F.typeCall_set_1 (.ref l)
  repeat (any_goals (first | assumption | wp_step))
  generalize hled:g5 w=led at h
  refine codeAny_mono (on (w:=w) (.ref l) (E:=E) (Q₁:=fun obj s₁=>obj= .ref s.heap.objs.size∧s₁={s with heap:=s.heap.push {cls:= .type "set",dict:=none,data:= .set #[] 0 (.fresh 0 0 led)}}) (by rw [hled];exact ⟨rfl,rfl⟩)) fun r s₁ hr=>?_
  cases r with
  | error e=>exact hr
  | ok fl=>
    cases fl with
    | ret obj=>
      obtain ⟨rfl,rfl⟩:=hr
      have hS:(s.heap.push {cls:= .type "set",dict:=none,data:= .set #[] 0 (.fresh 0 0 led)}).get? s.heap.objs.size=some {cls:= .type "set",dict:=none,data:= .set #[] 0 (.fresh 0 0 led)}:=Heap.get?_push_size _ rfl
      have hT:Shared.TypeIs {s with heap:=s.heap.push {cls:= .type "set",dict:=none,data:= .set #[] 0 (.fresh 0 0 led)}} (.ref s.heap.objs.size) "set":=⟨_,hS,rfl⟩
      have hli:=PySem.F.called_set.init.lookup
      have hbi:=PySem.F.called_set.init.bind (.ref s.heap.objs.size)
      repeat (any_goals (first | assumption | wp_step))
      refine codeAny_mono (codeAny_call_builtin (R:=wants (fun r s₂=>r= .none∧∃h' tk,s₂={s with heap:=h',toks:=tk}∧
          StrSet w h' s.heap.objs.size led (ip (fun i=>ns.getD i ⟨#[]⟩) items.size)∧
          (∀b o,b < s.heap.objs.size→s.heap.get? b=some o→h'.get? b=some o)) E) PySem.F.called_set.init.plain PySem.F.entry_set_init (check_set_init_1 hT ?_)) fun r₂ s₂ hr₂=>?_
      · obtain ⟨ol,hol,hcl,nl,hdl⟩:=hl
        obtain ⟨ocls,odict,odata,oslots⟩:=ol
        simp only at hcl hdl
        subst hcl;subst hdl
        have hol':(s.heap.push {cls:= .type "set",dict:=none,data:= .set #[] 0 (.fresh 0 0 led)}).get? l=some {cls:= .type "list",dict:=odict,data:= .seq items nl,slots:=oslots}:=Heap.get?_push_of_some _ hol
        have hsls:=PySem.F.sub_list_set
        have hslf:=PySem.F.sub_list_frozenset
        have hne:(Value.type "list" == Value.type "dict")=false:=by decide
        have hl1:(s.heap.push {cls:= .type "set",dict:=none,data:= .set #[] 0 (.fresh 0 0 led)}).IsList l items:=⟨_,hol',rfl,nl,rfl⟩
        unfold Builtin.«set.__init__» noKeywords Builtin.Frozenset.updateFrom
        generalize hPI:pyIter=PI
        wp_walk
        subst hPI
        refine wpAny_pyIter_list hl1 ?_
        refine wpAny_bind (wpAny_runValue ?_)
        have hlS:l < s.heap.objs.size:=Heap.lt_size hol
        have hh3:A.in1.in1.in1.handled=none:=by simp [hh]
        have hneI:l≠(s.heap.push {cls:= .type "set",dict:=none,data:= .set #[] 0 (.fresh 0 0 led)}).objs.size:=by
          rw [Heap.size_push];exact Nat.ne_of_lt (Nat.lt_succ_of_lt hlS)
        have hSf:s.heap.objs.size∉[(s.heap.push {cls:= .type "set",dict:=none,data:= .set #[] 0 (.fresh 0 0 led)}).objs.size,l]:=by
          rw [Heap.size_push];simp only [List.mem_cons,List.mem_singleton,List.not_mem_nil,or_false,not_or]
          exact ⟨Nat.ne_of_lt (Nat.lt_succ_self _),Nat.ne_of_gt hlS⟩
        have hval:∀(i:Nat) (v:Value),items[i]? =some v→∃t,v= .str ((fun i=>ns.getD i ⟨#[]⟩) i) t:=fun i v hv=>
          qR hi i v (by rw [Array.getElem?_toList];exact hv)
        refine jC ((Walks.list hh3 _ l hneI items).toS) s.heap.objs.size
          hSf led (fun i=>ns.getD i ⟨#[]⟩) hval hb (items.size - 0) 0 _ (by omega) (Nat.zero_le _)
          ⟨⟨_,Heap.get?_push_size _ rfl,rfl,rfl⟩,(hl1.push _)⟩ ?hS0 ?hR
        case hS0=>
          have hget:((s.heap.push {cls:= .type "set",dict:=none,data:= .set #[] 0 (.fresh 0 0 led)}).push {cls:= .type "list_iterator",data:= .fields #[.ref l, .int 0 0]}).get? s.heap.objs.size
              =some {cls:= .type "set",dict:=none,data:= .set #[] 0 (.fresh 0 0 led)}:=Heap.get?_push_of_some _ hS
          exact ⟨_,_,_,hget,iN w led⟩
        case hR=>
          intro s' hm hS'
          obtain ⟨h',g',d',tk',os'⟩:=s'
          have eg:g'=s.gens:=hm.gens
          have ed:d'=s.drawn:=hm.drawn
          have eo:os'=s.os:=hm.os
          subst eg;subst ed;subst eo
          show wpAny _ _ _ _ _ _
          refine wpAny_pure ?_
          show wpAny _ _ (ret Value.none) _ _ _
          refine wpAny_pure ⟨rfl,h',tk',rfl,hS',fun b o hb e=>?_⟩
          have hb1:b≠s.heap.objs.size:=Nat.ne_of_lt hb
          have hb2:b≠(s.heap.push {cls:= .type "set",dict:=none,data:= .set #[] 0 (.fresh 0 0 led)}).objs.size:=by
            rw [Heap.size_push];exact Nat.ne_of_lt (Nat.lt_succ_of_lt hb)
          exact hm.heap b o (by simp only [List.mem_cons,List.mem_singleton,List.not_mem_nil,or_false,not_or];exact ⟨hb1,hb2⟩) (Heap.get?_push_of_some _ (Heap.get?_push_of_some _ e))
      · cases r₂ with
        | error e=>exact hr₂
        | ok fl₂=>
          cases fl₂ with
          | ret r=>
            obtain ⟨rfl,h',tk,rfl,hS',hk'⟩:=hr₂
            repeat (any_goals (first | assumption | wp_step))
            exact h _ _ hS' hk'
          | _=>exact hr₂.elim
    | _=>exact hr.elim
def fS (x:Str) (i:Nat):Str:=⟨#[x.cps.getD i 0]⟩
set_option maxHeartbeats 4000000 in
theorem uR {x:Str} {t:Tok} {Q:Value→Shared→Prop}
    (hh:A.handled=none) (hb:x.cps.size+1 < scanBound)
    (h:∀(h':Heap) (tk:Nat),StrSet w h' s.heap.objs.size (g5 w) (ip (fS x) x.cps.size)→
      (∀b o,b < s.heap.objs.size→s.heap.get? b=some o→h'.get? b=some o)→Q (.ref s.heap.objs.size) {s with heap:=h',toks:=tk}):
    wpAny (model prog w) A (call (.type "set") [.str x t]) Q E s:=by
  obtain ⟨c,tl,hmro⟩:=PySem.F.called_set.mro
  have hmade:=PySem.F.called_set.made
  have hsub:=PySem.F.called_set.sub
  refine wpAny_call (codeAny_of_tree ?_)
  show wpAny _ _ (callAny (.type "set") _) _ _ _
  refine wpAny_pure ⟨Code.quiet_builtin _ (by decide+kernel),codeAny_builtin PySem.F.entry_type_call ?_⟩
  rw [Around.under_plain (weight_type_call_type "set" [.str x t] []) rfl]
  have h1:=PySem.F.called_set.notType
  have h2:=PySem.F.called_set.canCreate
  have hct:=PySem.F.typeCall_set_1 (.str x t)
  repeat (any_goals (first | assumption | wp_step))
  generalize hled:g5 w=led at h
  refine codeAny_mono (on (w:=w) (.str x t) (E:=E) (Q₁:=fun obj s₁=>obj= .ref s.heap.objs.size∧s₁={s with heap:=s.heap.push {cls:= .type "set",dict:=none,data:= .set #[] 0 (.fresh 0 0 led)}}) (by rw [hled];exact ⟨rfl,rfl⟩)) fun r s₁ hr=>?_
  cases r with
  | error e=>exact hr
  | ok fl=>
    cases fl with
    | ret obj=>
      obtain ⟨rfl,rfl⟩:=hr
      have hS:(s.heap.push {cls:= .type "set",dict:=none,data:= .set #[] 0 (.fresh 0 0 led)}).get? s.heap.objs.size=some {cls:= .type "set",dict:=none,data:= .set #[] 0 (.fresh 0 0 led)}:=Heap.get?_push_size _ rfl
      have hT:Shared.TypeIs {s with heap:=s.heap.push {cls:= .type "set",dict:=none,data:= .set #[] 0 (.fresh 0 0 led)}} (.ref s.heap.objs.size) "set":=⟨_,hS,rfl⟩
      have hli:=PySem.F.called_set.init.lookup
      have hbi:=PySem.F.called_set.init.bind (.ref s.heap.objs.size)
      repeat (any_goals (first | assumption | wp_step))
      refine codeAny_mono (codeAny_call_builtin (R:=wants (fun r s₂=>r= .none∧∃h' tk,s₂={s with heap:=h',toks:=tk}∧
          StrSet w h' s.heap.objs.size led (ip (fS x) x.cps.size)∧
          (∀b o,b < s.heap.objs.size→s.heap.get? b=some o→h'.get? b=some o)) E) PySem.F.called_set.init.plain PySem.F.entry_set_init (check_set_init_1 hT ?_)) fun r₂ s₂ hr₂=>?_
      · have hsls:=F.oo
        have hslf:=F.iO
        have hne:(Value.type "str" == Value.type "dict")=false:=by decide
        have hTx:Shared.TypeIs {s with heap:=s.heap.push {cls:= .type "set",dict:=none,data:= .set #[] 0 (.fresh 0 0 led)}} (.str x t) "str":=rfl
        unfold Builtin.«set.__init__» noKeywords Builtin.Frozenset.updateFrom
        generalize hPI:pyIter=PI
        wp_walk
        subst hPI
        refine wpAny_pyIter_str fun o St W hst=>?_
        refine wpAny_bind (wpAny_runValue ?_)
        have hh3:A.in1.in1.in1.handled=none:=by simp [hh]
        have hSf:s.heap.objs.size∉[(s.heap.push {cls:= .type "set",dict:=none,data:= .set #[] 0 (.fresh 0 0 led)}).objs.size]:=by
          rw [Heap.size_push];simp only [List.mem_cons,List.mem_singleton,List.not_mem_nil,or_false,not_or]
          exact Nat.ne_of_lt (Nat.lt_succ_self _)
        have hval:∀(i:Nat) (v:Value),SignAt x i v→∃t,v= .str (fS x i) t:=fun i v ⟨c,u,hc,hv⟩=>⟨u,by rw [hv];simp [fS,Array.getD_eq_getD_getElem?,hc]⟩
        refine jC ((W _ hh3).toS) s.heap.objs.size
          hSf led (fS x) hval hb (x.cps.size - 0) 0 _ (by omega) (Nat.zero_le _) hst ?hS0 ?hR
        case hS0=>exact ⟨_,_,_,Heap.get?_push_of_some _ hS,iN w led⟩
        case hR=>
          intro s' hm hS'
          obtain ⟨h',g',d',tk',os'⟩:=s'
          have eg:g'=s.gens:=hm.gens
          have ed:d'=s.drawn:=hm.drawn
          have eo:os'=s.os:=hm.os
          subst eg;subst ed;subst eo
          show wpAny _ _ _ _ _ _
          refine wpAny_pure ?_
          show wpAny _ _ (ret Value.none) _ _ _
          refine wpAny_pure ⟨rfl,h',tk',rfl,hS',fun b o hb e=>?_⟩
          have hb1:b≠s.heap.objs.size:=Nat.ne_of_lt hb
          have hb2:b≠(s.heap.push {cls:= .type "set",dict:=none,data:= .set #[] 0 (.fresh 0 0 led)}).objs.size:=by
            rw [Heap.size_push];exact Nat.ne_of_lt (Nat.lt_succ_of_lt hb)
          exact hm.heap b o (by simp only [List.mem_cons,List.mem_singleton,List.not_mem_nil,or_false,not_or];exact ⟨hb1,hb2⟩) (Heap.get?_push_of_some _ (Heap.get?_push_of_some _ e))
      · cases r₂ with
        | error e=>exact hr₂
        | ok fl₂=>
          cases fl₂ with
          | ret r=>
            obtain ⟨rfl,h',tk,rfl,hS',hk'⟩:=hr₂
            repeat (any_goals (first | assumption | wp_step))
            exact h _ _ hS' hk'
          | _=>exact hr₂.elim
    | _=>exact hr.elim
end
end NhSet
namespace NhSet
open PySem PyProof.Rows
theorem iq {α:Type}:∀{l:List α} {i:Nat} (h:i < l.length),(l[i]::l.eraseIdx i).Perm l
  | x::xs,0,h=>List.Perm.refl _
  | x::xs,i+1,h=>by
    have:=iq (l:=xs) (i:=i) (by simpa using h)
    simp only [List.getElem_cons_succ,List.eraseIdx_cons_succ]
    exact (List.Perm.swap x _ _).trans (this.cons x)
theorem lL {α:Type} (next:Nat→Nat):∀(fuel k:Nat) (left:List α) (out:Array α),left.length=fuel→(pickOrder.go next fuel k left out).toList.Perm (out.toList++left)
  | 0,k,left,out,h=>by
    have:left=[]:=List.length_eq_zero_iff.mp h
    subst this;simp [pickOrder.go]
  | fuel+1,k,left,out,h=>by
    unfold pickOrder.go
    have hlt:next k % left.length < left.length:=Nat.mod_lt _ (by omega)
    rw [List.getElem?_eq_getElem hlt]
    dsimp only
    refine (lL next fuel (k+1) _ _ (by rw [List.length_eraseIdx_of_lt hlt];omega)).trans ?_
    rw [Array.toList_push,List.append_assoc]
    exact (iq hlt).append_left _
theorem ke {α:Type} (next:Nat→Nat) (xs:Array α):(pickOrder next xs).toList.Perm xs.toList:=by
  have:=lL next xs.size 0 xs.toList #[] (by simp)
  simpa [pickOrder] using this
section
variable {M:Model} {A:Around} {E:Value→Shared→Prop}
theorem mL {src:Source} {n:Nat} {s:Shared} {Q:Nat→Shared→Prop} (hn:n≠0) (h:∀i d,i < n→Q i {s with drawn:=d}):wpAny M A (choose src n) Q E s:=fun Γ p hΓ=>by
  show Sem.wp M Γ (.choose src n .pure) _ _ p s
  rw [Sem.wp_choose]
  exact ⟨hn,by rw [Sem.wp_pure];exact h _ _ (Nat.mod_lt _ (Nat.pos_of_ne_zero hn))⟩
theorem gc {α:Type}:∀(n:Nat) (xs:List α) (s:Shared) {Q:List α→Shared→Prop},xs.length=n→(∀ys d,ys.Perm xs→Q ys {s with drawn:=d})→wpAny M A (drawOrder n xs) Q E s
  | 0,xs,s,Q,hl,h=>by
    have:xs=[]:=List.length_eq_zero_iff.mp hl
    subst this
    exact wpAny_pure (h [] s.drawn (List.Perm.refl _))
  | n+1,[],s,Q,hl,h=>by simp at hl
  | n+1,x::xs,s,Q,hl,h=>by
    show wpAny M A (choose .order (x::xs).length >>= _) Q E s
    refine wpAny_bind (mL (by simp) fun i d hi=>?_)
    rw [List.getElem?_eq_getElem hi]
    dsimp only
    refine wpAny_bind (gc n _ _ (by rw [List.length_eraseIdx_of_lt hi];simpa using hl) fun ys d' hp=>?_)
    exact wpAny_pure (h _ d' ((hp.cons _).trans (iq hi)))
end
namespace F
theorem kf:entryFor table "set.__iter__"=some Builtin.«frozenset.__iter__»:=
  entryFor_alias (id':="frozenset.__iter__") (by kernel_rfl) rfl (by decide+kernel) (by kernel_rfl)
theorem slot_next:Slot "set_iterator" "__next__" "set_iterator.__next__":=
  .of (owner:="set_iterator") (n:="__next__") (by rw [typeLookup_type,builtinLookup_eq_fast];kernel_rfl) (by decide+kernel) (by decide+kernel) (by decide+kernel)
    (by first | exact .inl (by decide+kernel) | exact .inr (by decide+kernel)) (by rw [isSubtype_type];kernel_rfl)
theorem pR:entryFor table "set_iterator.__next__"=some Builtin.«set_iterator.__next__»:=entryFor_of_fast (by kernel_rfl)
theorem sH (a:Value):argsOk "set_iterator.__next__" ⟨[a],[]⟩:=by unfold argsOk;kernel_rfl
theorem lM:Slot "set_iterator" "__iter__" "set_iterator.__iter__":=
  .of (owner:="set_iterator") (n:="__iter__") (by rw [typeLookup_type,builtinLookup_eq_fast];kernel_rfl) (by decide+kernel) (by decide+kernel) (by decide+kernel)
    (by first | exact .inl (by decide+kernel) | exact .inr (by decide+kernel)) (by rw [isSubtype_type];kernel_rfl)
theorem pS:entryFor table "set_iterator.__iter__"=some Builtin.«dict_keyiterator.__iter__»:=
  entryFor_alias (id':="dict_keyiterator.__iter__") (by kernel_rfl) rfl (by decide+kernel) (by kernel_rfl)
theorem sI (a:Value):argsOk "set_iterator.__iter__" ⟨[a],[]⟩:=by unfold argsOk;kernel_rfl
end F
abbrev oq (first:Value) (i:Nat) (a:Addr) (n ep:Nat):Obj:={cls:= .type "set_iterator",data:= .fields #[first, .int i 0, .ref a, .int n 0, .int ep 0]}
section
variable {prog:Program} {w:World} {A:Around} {E:Value→Shared→Prop} {s:Shared}
theorem mM {I:Addr} {first:Value} {i:Nat} {a:Addr} {n ep:Nat} {Q:Value→Shared→Prop} (ho:s.heap.get? I=some (oq first i a n ep)) (h:Q (.ref I) s):wpAny (model prog w) A (pyIter (.ref I)) Q E s:=by
  have hT:s.TypeIs (.ref I) "set_iterator":=⟨_,ho,rfl⟩
  refine wpAny_pyIter_slot hT F.lM (wpAny_call_entry F.lM hT F.pS ?_ (F.sI _))
  show wpAny _ _ (ret (.ref I)) _ _ s
  exact wpAny_pure ⟨_,rfl,"set_iterator",_,hT,F.slot_next.lookup,h⟩
theorem ou {a:Addr} {es:Array (Int×Value)} {ep:Nat} {t:SetTable} {Q:Bool→Shared→Prop} (ho:s.heap.get? a=some (bT es ep t)) (hf:t.fits es.size=true)
    (h:Q (!(w.params.followText "set-order")&&(!t.plain&&decide (es.size > 1))) s):wpAny (model prog w) A (setDrawn a) Q E s:=by
  unfold setDrawn setsByText
  refine wpAny_bind (wpAny_setState_of ho rfl hf ?_)
  dsimp only
  refine wpAny_bind (wpAny_bind (wpAny_askSetting (wpAny_pure ?_)))
  exact wpAny_pure h
theorem mN {I:Addr} {Q:Option Value→Shared→Prop} (hh:A.handled=none) {o:Obj} (hQ:∀h',Heap.ExtBut I s.heap h'→Q none {s with heap:=h'}) {h1:Heap} (k:Heap.ExtBut I s.heap h1):
    wpAny (model prog w) A.in1 (newExc (.type "StopIteration") [] >>= fun e=>raiseNew e) (fun (fin:Fin) s'=>∃r,fin= .done (.ret r)∧wpAny (model prog w) A (pure (some r)) Q E s')
      (fun e s'=>wpAny (model prog w) A (isInstance e (.type "StopIteration") >>= fun b=>if b=true then pure none else throw e) Q E s') {s with heap:=h1}:=by
  refine wpAny_bind ?_
  simp only [newExc,newTuple]
  refine wpAny_bind (wpAny_newObj_type ?_ (by size_fits))
  refine wpAny_bind (m:=firstArgMember _ _) (wpAny_of_eq (a:=Value.none) (by first | rfl | (simp only [firstArgMember];rfl)) ?_)
  refine wpAny_newObj_type ?_ (by size_fits)
  simp only [raiseNew]
  refine wpAny_bind (wpAny_handled ?_)
  rw [show A.in1.handled=none from hh]
  refine wpAny_bind (wpAny_pure (wpAny_throw ?_))
  refine wpAny_bind (wpAny_isInstance (T:="StopIteration") (b:=true) ⟨_,Heap.get?_push_size _ rfl,rfl⟩ isSubtype_stop ?_)
  exact wpAny_pure (hQ _ ((k.push _).push _))
end
end NhSet
namespace NhSet
open PySem PyProof.Rows
section
variable {prog:Program} {w:World} {A:Around} {E:Value→Shared→Prop} {s:Shared}
theorem dP {I:Addr} {first:Value} {i:Nat} {a:Addr} {n ep:Nat} {Q:Option Value→Shared→Prop} (hI:s.heap.get? I=some (oq first i a n ep)) {es:Array (Int×Value)} {t:SetTable} (ha:s.heap.get? a=some (bT es ep t)) (hf:t.fits es.size=true) (hn:es.size=n)
    (h:wpAny (model prog w) A.in1 (if let .int slot _:=first then do
        match ←setNext a slot.toNat i ep with
        | some (x,next)=>do
          setField (.ref I) 0 (rawInt next)
          setField (.ref I) 1 (rawInt (i+1))
          ret x
        | none=>do setField (.ref I) 2 .none;raiseNew (←newExc (.type "StopIteration") [])
      else do
        let some places ←seqItems? first | unsupported "internal:set_iterator"
        match places[i]? with
        | some (.int place _)=>do
          let x ←setNextDrawn a place.toNat ep
          setField (.ref I) 1 (rawInt (i+1))
          ret x
        | some _=>unsupported "internal:set_iterator"
        | none=>do setField (.ref I) 0 (rawInt 0);setField (.ref I) 2 .none;raiseNew (←newExc (.type "StopIteration") []))
      (fun (fin:Fin) s'=>∃r,fin= .done (.ret r)∧wpAny (model prog w) A (pure (some r)) Q E s')
      (fun e s'=>wpAny (model prog w) A (isInstance e (.type "StopIteration") >>= fun b=>if b=true then pure none else throw e) Q E s') s):
    wpAny (model prog w) A (pyNext (.ref I)) Q E s:=by
  have hT':s.TypeIs (.ref I) "set_iterator":=⟨_,hI,rfl⟩
  unfold pyNext
  refine wpAny_bind (wpAny_attempt (wpAny_callSpecial?_slot (name:=Str.ofString "__next__") hT' F.slot_next (wpAny_call_entry F.slot_next hT' F.pR ?_ (F.sH _))))
  unfold Builtin.«set_iterator.__next__»
  refine wpAny_bind (m:=slotArgs _ _ _) (wpAny_pure ?_)
  refine wpAny_bind (wpAny_fieldsOf hI rfl ?_)
  dsimp only
  refine wpAny_bind (wpAny_setEntries_of ha rfl hf ?_)
  rw [if_neg (by simp [hn])]
  exact h
abbrev xC (es:Array (Int×Value)) (j:Nat):Value:=(es.getD j (0, .none)).2
theorem bP {I:Addr} {o:Obj} {vs:Array Value} {k:Nat} {x:Value} {Q:Unit→Shared→Prop} (ho:s.heap.get? I=some o) (hd:o.data= .fields vs) (hk:k < vs.size) (hQ:∀h',Heap.SameBut I s.heap h'→h'.get? I=some {o with data:= .fields (vs.setIfInBounds k x)}→Q () {s with heap:=h'}):wpAny (model prog w) A (setField (.ref I) k x) Q E s:=by
  refine wpAny_setField ho hd hk (hQ _ (Heap.SameBut.update ..) ?_)
  have:=Heap.get?_update_self (Obj.mapFields fun vs=>vs.setIfInBounds k x) ho (Obj.isFreed_of_fields (Obj.data_mapFields hd _))
  rw [this]
  obtain ⟨c,d,dt,sl⟩:=o
  simp only at hd
  subst hd
  rfl
theorem pT (hh:A.handled=none) {I T a:Addr} {es:Array (Int×Value)} {ep:Nat} {t:SetTable} (π:List Nat) (hp:∀j∈π,j < es.size) (hl:π.length=es.size) (hf:t.fits es.size=true) (hTI:T≠I) (haI:a≠I):
    Walks prog w A I [I,T,a] [I] (π.map (xC es)).length (fun i v=>(π.map (xC es))[i]? =some v)
      (fun i h=>h.get? I=some (oq (.ref T) i a es.size ep)∧h.get? T=some {cls:= .type "tuple",data:= .seq (π.map fun (i:Nat)=>rawInt i).toArray}∧h.get? a=some (bT es ep t)) where
  sub:=fun b hb=>by simp at hb;simp [hb]
  frame:=fun _ _ _ st hk=>⟨hk I (by simp) _ st.1,hk T (by simp) _ st.2.1,hk a (by simp) _ st.2.2⟩
  self:=fun _ _ _ _ st hQ=>mM st.1 hQ
  item:=fun i s Q E hi st hQ=>by
    obtain ⟨hI,hT,ha⟩:=st
    rw [List.length_map] at hi
    refine dP hI ha hf rfl ?_
    dsimp only
    refine wpAny_bind (wpAny_seqItems hT rfl ?_)
    dsimp only
    have e:(π.map fun (i:Nat)=>rawInt i).toArray[i]? =some (.int (π[i]:Nat) 0):=by
      simp [hi,rawInt]
    rw [e]
    dsimp only
    have hj:=hp π[i] (List.getElem_mem hi)
    unfold setNextDrawn
    refine wpAny_bind (wpAny_bind (wpAny_setState_of ha rfl hf ?_))
    dsimp only
    rw [if_neg (by simp)]
    have e2:es[((π[i]:Nat):Int).toNat]? =some (es[π[i]]):=by simp [hj]
    rw [e2]
    refine wpAny_pure ?_
    refine wpAny_bind (bP hI rfl (by simp) fun h' hs' ho'=>?_)
    refine wpAny_pure ⟨_,rfl,wpAny_pure (hQ _ h' s.toks ?_ ⟨?_,?_,?_⟩ fun b o hb e=>hs'.extBut b o (fun z=>hb (by simp [z])) e)⟩
    · simp [hi,xC,hj]
    · rw [ho'];simp [rawInt]
    · exact hs'.extBut T _ hTI hT
    · exact hs'.extBut a _ haI ha
  done:=fun s Q E st hQ=>by
    obtain ⟨hI,hT,ha⟩:=st
    refine dP hI ha hf rfl ?_
    dsimp only
    refine wpAny_bind (wpAny_seqItems hT rfl ?_)
    dsimp only
    have e:(π.map fun (i:Nat)=>rawInt i).toArray[(π.map (xC es)).length]? =none:=by simp
    rw [e]
    dsimp only
    refine wpAny_bind (bP hI rfl (by simp) fun h' hs' ho'=>?_)
    refine wpAny_bind (bP (s:={s with heap:=h'}) ho' rfl (by simp) fun h2 hs2 _=>?_)
    exact mN (I:=I) (o:=bT es ep t) hh (fun h3 k=>hQ h3 s.toks fun b o hb e=>k b o (fun z=>hb (by simp [z])) e) (hs'.trans hs2).extBut
theorem iP {a:Addr} {es:Array (Int×Value)} {ep:Nat} {t:SetTable} {slot given:Nat} {Q:Option (Value×Nat)→Shared→Prop} (hb:w.params.followText "set-order"=true) (ha:s.heap.get? a=some (bT es ep t)) (hf:t.fits es.size=true)
    (h:Q (((pickOrder (w.params.setOrder a ep) es)[given]?).map fun e=>(e.2,slot)) s):wpAny (model prog w) A (setNext a slot given ep) Q E s:=by
  unfold setNext setsByText
  refine wpAny_bind (wpAny_setState_of ha rfl hf ?_)
  dsimp only
  refine wpAny_bind (wpAny_bind (wpAny_askSetting (wpAny_pure ?_)))
  rw [if_pos (show (model prog w).w.params.followText "set-order"=true from hb)]
  rw [if_neg (by simp)]
  refine wpAny_bind ?_
  unfold setWalk setsByText
  refine wpAny_bind (wpAny_setState_of ha rfl hf ?_)
  dsimp only
  refine wpAny_bind (wpAny_bind (wpAny_askSetting (wpAny_pure ?_)))
  rw [if_pos (show (model prog w).w.params.followText "set-order"=true from hb)]
  refine wpAny_bind (wpAny_askSetting (wpAny_pure ?_))
  exact wpAny_pure h
theorem jD {a:Addr} {es:Array (Int×Value)} {ep:Nat} {t:SetTable} {slot given:Nat} {Q:Option (Value×Nat)→Shared→Prop} (hb:w.params.followText "set-order"=false) (hsz:es.size≤1) (hled:t.led=true) (ha:s.heap.get? a=some (bT es ep t)) (hf:t.fits es.size=true)
    (h:Q (match es[SetTable.below t.place slot]?,t.place[SetTable.below t.place slot]? with | some (_,x),some j=>some (x,j+1) | _,_=>none) s):wpAny (model prog w) A (setNext a slot given ep) Q E s:=by
  unfold setNext setsByText
  refine wpAny_bind (wpAny_setState_of ha rfl hf ?_)
  dsimp only
  refine wpAny_bind (wpAny_bind (wpAny_askSetting (wpAny_pure ?_)))
  rw [if_neg (show ¬((model prog w).w.params.followText "set-order"=true) by show ¬(w.params.followText "set-order"=true);rw [hb];decide)]
  have hd:(!t.plain&&decide (es.size > 1))=false:=by rw [decide_eq_false (by omega)];simp
  show wpAny _ _ (if (!t.plain&&decide (es.size > 1))=true then _ else _) _ _ _
  rw [hd,if_neg (by decide)]
  show wpAny _ _ ((if (!t.led&& !es.isEmpty)=true then unsupported "set:maker-not-led" else pure PUnit.unit) >>= _) _ _ _
  rw [hled,if_neg (by simp)]
  refine wpAny_bind (wpAny_pure ?_)
  exact wpAny_pure h
theorem sJ (hh:A.handled=none) {I a:Addr} {es:Array (Int×Value)} {ep:Nat} {t:SetTable} (hb:w.params.followText "set-order"=true) (hf:t.fits es.size=true) (haI:a≠I):
    Walks prog w A I [I,a] [I] ((pickOrder (w.params.setOrder a ep) es).toList.map (·.2)).length (fun i v=>((pickOrder (w.params.setOrder a ep) es).toList.map (·.2))[i]? =some v)
      (fun i h=>h.get? I=some (oq (.int 0 0) i a es.size ep)∧h.get? a=some (bT es ep t)) where
  sub:=fun b hb=>by simp at hb;simp [hb]
  frame:=fun _ _ _ st hk=>⟨hk I (by simp) _ st.1,hk a (by simp) _ st.2⟩
  self:=fun _ _ _ _ st hQ=>mM st.1 hQ
  item:=fun i s Q E hi st hQ=>by
    obtain ⟨hI,ha⟩:=st
    have hi':i < (pickOrder (w.params.setOrder a ep) es).size:=by simpa using hi
    refine dP hI ha hf rfl ?_
    dsimp only
    refine wpAny_bind (iP hb ha hf ?_)
    rw [Array.getElem?_eq_getElem hi']
    dsimp only [Option.map_some]
    refine wpAny_bind (bP hI rfl (by simp) fun h' hs' ho'=>?_)
    refine wpAny_bind (bP (s:={s with heap:=h'}) ho' rfl (by simp) fun h2 hs2 ho2=>?_)
    refine wpAny_pure ⟨_,rfl,wpAny_pure (hQ _ h2 s.toks ?_ ⟨?_,?_⟩ fun b o hb e=>(hs'.trans hs2).extBut b o (fun z=>hb (by simp [z])) e)⟩
    · simp [hi']
    · rw [ho2];simp [rawInt]
    · exact (hs'.trans hs2).extBut a _ haI ha
  done:=fun s Q E st hQ=>by
    obtain ⟨hI,ha⟩:=st
    refine dP hI ha hf rfl ?_
    dsimp only
    refine wpAny_bind (iP hb ha hf ?_)
    rw [show (pickOrder (w.params.setOrder a ep) es)[((pickOrder (w.params.setOrder a ep) es).toList.map (·.2)).length]? =none by simp]
    dsimp only [Option.map_none]
    refine wpAny_bind (bP hI rfl (by simp) fun h' hs' ho'=>?_)
    exact mN (I:=I) (o:=bT es ep t) hh (fun h3 k=>hQ h3 s.toks fun b o hb e=>k b o (fun z=>hb (by simp [z])) e) hs'.extBut
theorem kh {xs:Array Nat} (h:xs.size≤1):SetTable.below xs 0=0:=by
  obtain ⟨l⟩:=xs
  match l,h with
  | [],_=>rfl
  | [p],_=>simp [SetTable.below,SetTable.below.go]
theorem pU {p:Nat}:SetTable.below #[p] (p+1)=1:=by simp [SetTable.below,SetTable.below.go]
theorem uS (hh:A.handled=none) {I a:Addr} {es:Array (Int×Value)} {ep:Nat} {t:SetTable} (hb:w.params.followText "set-order"=false) (hsz:es.size≤1) (hled:t.led=true) (hf:t.fits es.size=true) (haI:a≠I):
    Walks prog w A I [I,a] [I] (es.toList.map (·.2)).length (fun i v=>(es.toList.map (·.2))[i]? =some v)
      (fun i h=>h.get? I=some (oq (.int (if i=0 then 0 else (t.place.getD 0 0+1:Nat)) 0) i a es.size ep)∧h.get? a=some (bT es ep t)) where
  sub:=fun b hb=>by simp at hb;simp [hb]
  frame:=fun _ _ _ st hk=>⟨hk I (by simp) _ st.1,hk a (by simp) _ st.2⟩
  self:=fun _ _ _ _ st hQ=>mM st.1 hQ
  item:=fun i s Q E hi st hQ=>by
    obtain ⟨hI,ha⟩:=st
    have hi':i < es.size:=by simpa using hi
    have hi0:i=0:=by omega
    subst hi0
    rw [if_pos rfl] at hI
    have hps:t.place.size=es.size:=by
      have:=hf;simp only [SetTable.fits,Bool.and_eq_true,beq_iff_eq] at this;exact this.1
    refine dP hI ha hf rfl ?_
    dsimp only
    refine wpAny_bind (jD hb hsz hled ha hf ?_)
    rw [show ((0:Int)).toNat=0 from rfl,kh (by omega),Array.getElem?_eq_getElem hi',Array.getElem?_eq_getElem (show 0 < t.place.size by omega)]
    dsimp only
    refine wpAny_bind (bP hI rfl (by simp) fun h' hs' ho'=>?_)
    refine wpAny_bind (bP (s:={s with heap:=h'}) ho' rfl (by simp) fun h2 hs2 ho2=>?_)
    refine wpAny_pure ⟨_,rfl,wpAny_pure (hQ _ h2 s.toks ?_ ⟨?_,?_⟩ fun b o hb e=>(hs'.trans hs2).extBut b o (fun z=>hb (by simp [z])) e)⟩
    · simp [hi']
    · rw [ho2]
      have:t.place.getD 0 0=t.place[0]:=by simp [Array.getD,show 0 < t.place.size by omega]
      simp [rawInt,this]
    · exact (hs'.trans hs2).extBut a _ haI ha
  done:=fun s Q E st hQ=>by
    obtain ⟨hI,ha⟩:=st
    have hps:t.place.size=es.size:=by
      have:=hf;simp only [SetTable.fits,Bool.and_eq_true,beq_iff_eq] at this;exact this.1
    have hlen:(es.toList.map (·.2)).length=es.size:=by simp
    rw [hlen] at hI
    refine dP hI ha hf rfl ?_
    dsimp only
    refine wpAny_bind (jD hb hsz hled ha hf ?_)
    have hno:(match es[SetTable.below t.place (if es.size=0 then (0:Int) else ((t.place.getD 0 0+1:Nat):Int)).toNat]?,t.place[SetTable.below t.place (if es.size=0 then (0:Int) else ((t.place.getD 0 0+1:Nat):Int)).toNat]? with | some (_,x),some j=>some (x,j+1) | _,_=>(none:Option (Value×Nat)))=none:=by
      by_cases z:es.size=0
      · rw [if_pos z,show ((0:Int)).toNat=0 from rfl,kh (by omega),Array.getElem?_eq_none (by omega)]
      · rw [if_neg z]
        obtain ⟨⟨p⟩,hp⟩:∃q:{p:Nat // t.place=#[p]},True:=by
          generalize t.place=pl at hps
          obtain ⟨l⟩:=pl
          match l,hps with
          | [],h=>simp at h;omega
          | [p],h=>exact ⟨⟨p,rfl⟩,trivial⟩
          | _::_::_,h=>simp at h;omega
        rename_i hpl
        rw [hpl]
        simp only [Int.toNat_natCast]
        have:(#[p]:Array Nat).getD 0 0=p:=rfl
        rw [this,pU,Array.getElem?_eq_none (show es.size≤1 by omega)]
    rw [hno]
    dsimp only
    refine wpAny_bind (bP hI rfl (by simp) fun h' hs' ho'=>?_)
    exact mN (I:=I) (o:=bT es ep t) hh (fun h3 k=>hQ h3 s.toks fun b o hb e=>k b o (fun z=>hb (by simp [z])) e) hs'.extBut
theorem uT {a:Addr} {es:Array (Int×Value)} {ep:Nat} {t:SetTable} {ks:List Str} {Q:Value→Shared→Prop} (ha:s.heap.get? a=some (bT es ep t)) (S:SS w (g5 w) ks es t)
    (hQ:∀(s':Shared) (I:Addr) (fp:List Addr) (St:Nat→Heap→Prop) (items:List Value),(∀b o,s.heap.get? b=some o→s'.heap.get? b=some o)→s.heap.objs.size≤s'.heap.objs.size→s'.gens=s.gens→s'.os=s.os→s'.toks=s.toks→(∀b∈fp,b=a∨s.heap.objs.size≤b)→s.heap.objs.size≤I→
      (∀A':Around,A'.handled=none→Walks prog w A' I fp [I] items.length (fun i v=>items[i]? =some v) St)→St 0 s'.heap→items.Perm (es.toList.map (·.2))→Q (.ref I) s'):
    wpAny (model prog w) A (pyIter (.ref a)) Q E s:=by
  have hT:s.TypeIs (.ref a) "set":=⟨_,ha,rfl⟩
  have hlt:a < s.heap.objs.size:=Heap.lt_size ha
  refine wpAny_pyIter_slot hT PySem.F.slot_set_iter (wpAny_call_entry PySem.F.slot_set_iter hT F.kf ?_ (PySem.F.args_set_iter_1 _))
  unfold Builtin.«frozenset.__iter__» Builtin.Frozenset.slot0 slotArgs
  simp only [List.isEmpty_nil,Bool.not_true,Bool.false_eq_true,↓reduceIte,bind_assoc,List.length_nil,bne_self_eq_false]
  unfold Builtin.Frozenset.addrOf Builtin.Frozenset.sizeOf
  refine wpAny_bind (wpAny_pure ?_)
  try dsimp only
  refine wpAny_bind (wpAny_pure ?_)
  refine wpAny_bind (wpAny_bind (wpAny_setEntries_of ha rfl S.fits (wpAny_pure ?_)))
  refine wpAny_bind (ou ha S.fits ?_)
  cases hd:(!(w.params.followText "set-order")&&(!t.plain&&decide (es.size > 1))) with
  | true=>
    simp only [↓reduceIte]
    refine wpAny_bind (gc es.size (List.range es.size) s (by simp) fun π d hp=>?_)
    have hl:π.length=es.size:=by rw [hp.length_eq,List.length_range]
    have hm:∀j∈π,j < es.size:=fun j hj=>List.mem_range.mp (hp.mem_iff.mp hj)
    refine wpAny_bind (wpAny_newTuple (s:={s with drawn:=d}) ?_ (by rw [List.length_map,hl];exact fits_of_scanBound S.bound))
    have ha2:(s.heap.push {cls:= .type "tuple",data:= .seq (π.map fun (i:Nat)=>rawInt i).toArray}).get? a=some (bT es ep t):=Heap.get?_push_of_some _ ha
    refine wpAny_bind (wpAny_setEpoch_of (s:={s with drawn:=d,heap:=s.heap.push {cls:= .type "tuple",data:= .seq (π.map fun (i:Nat)=>rawInt i).toArray}}) ha2 rfl S.fits ?_)
    refine wpAny_bind (wpAny_newObj_type ?_)
    have hs1:(s.heap.push {cls:= .type "tuple",data:= .seq (π.map fun (i:Nat)=>rawInt i).toArray}).objs.size=s.heap.objs.size+1:=by rw [Heap.size_push]
    refine wpAny_pure ⟨_,rfl,"set_iterator",_,⟨_,Heap.get?_push_size _ rfl,rfl⟩,F.slot_next.lookup,?_⟩
    refine hQ _ _ _ _ (π.map (xC es)) (fun b o e=>Heap.get?_push_of_some _ (Heap.get?_push_of_some _ e)) (by rw [Heap.size_push,Heap.size_push];omega) rfl rfl rfl ?_ (by dsimp only;rw [hs1];omega)
      (fun A' hA=>pT hA (T:=s.heap.objs.size) (a:=a) (ep:=ep) (t:=t) π hm hl S.fits (by dsimp only;rw [hs1];exact Nat.ne_of_lt (Nat.lt_succ_self _)) (by dsimp only;rw [hs1];exact Nat.ne_of_lt (Nat.lt_succ_of_lt hlt)))
      ⟨Heap.get?_push_size _ rfl,Heap.get?_push_of_some _ (Heap.get?_push_size _ rfl),Heap.get?_push_of_some _ ha2⟩ ?_
    · intro b hb
      rcases List.mem_cons.mp hb with rfl | hb
      · right;dsimp only;rw [hs1];omega
      rcases List.mem_cons.mp hb with rfl | hb
      · right;exact Nat.le_refl _
      · left;exact List.mem_singleton.mp hb
    · refine (hp.map (xC es)).trans ?_
      rw [show (List.range es.size).map (xC es)=es.toList.map (·.2) from ?_]
      refine List.ext_getElem (by simp) fun i h1 h2=>?_
      have hi:i < es.size:=by simpa using h1
      simp [xC,hi]
  | false=>
    simp only [Bool.false_eq_true,↓reduceIte]
    refine wpAny_bind (wpAny_pure ?_)
    refine wpAny_bind (wpAny_setEpoch_of ha rfl S.fits ?_)
    refine wpAny_bind (wpAny_newObj_type ?_)
    refine wpAny_pure ⟨_,rfl,"set_iterator",_,⟨_,Heap.get?_push_size _ rfl,rfl⟩,F.slot_next.lookup,?_⟩
    have hfp:∀b∈[s.heap.objs.size,a],b=a∨s.heap.objs.size≤b:=fun b hb=>by
      rcases List.mem_cons.mp hb with rfl | hb
      · right;exact Nat.le_refl _
      · left;exact List.mem_singleton.mp hb
    cases hb:w.params.followText "set-order" with
    | true=>
      exact hQ _ _ _ _ ((pickOrder (w.params.setOrder a ep) es).toList.map (·.2)) (fun b o e=>Heap.get?_push_of_some _ e) (by rw [Heap.size_push];omega) rfl rfl rfl hfp (Nat.le_refl _)
        (fun A' hA=>sJ hA (t:=t) hb S.fits (Nat.ne_of_lt hlt)) ⟨Heap.get?_push_size _ rfl,Heap.get?_push_of_some _ ha⟩ ((ke _ es).map _)
    | false=>
      have hled:t.led=true:=by rw [S.led,g5,hb];rfl
      have hsz:es.size≤1:=by
        rw [hb] at hd
        by_cases z:es.size=0
        · omega
        · rw [S.plain z] at hd
          simp at hd
          omega
      exact hQ _ _ _ _ (es.toList.map (·.2)) (fun b o e=>Heap.get?_push_of_some _ e) (by rw [Heap.size_push];omega) rfl rfl rfl hfp (Nat.le_refl _)
        (fun A' hA=>uS hA (t:=t) hb hsz hled S.fits (Nat.ne_of_lt hlt)) ⟨Heap.get?_push_size _ rfl,Heap.get?_push_of_some _ ha⟩ (List.Perm.refl _)
end
end NhSet
namespace NhSet
open PySem PyProof.Rows
namespace F
theorem wC:typeLookup (.type "set") "__len__"=pure (some (.builtin "set.__len__")):=by rw [typeLookup_type,builtinLookup_eq_fast];kernel_rfl
end F
section
variable {prog:Program} {w:World} {A:Around} {E:Value→Shared→Prop} {s:Shared}
theorem ov {a:Addr} {es:Array (Int×Value)} {ep:Nat} {t:SetTable} {ks:List Str} {Q:List Value→Shared→Prop} (hh:A.handled=none) (ha:s.heap.get? a=some (bT es ep t)) (S:SS w (g5 w) ks es t)
    (hQ:∀(s':Shared) (items:List Value),(∀b o,s.heap.get? b=some o→s'.heap.get? b=some o)→s'.gens=s.gens→s'.os=s.os→s.heap.objs.size≤s'.heap.objs.size→items.Perm (es.toList.map (·.2))→Q items s'):
    wpAny (model prog w) A (collect (.ref a)) Q E s:=by
  have hlt:a < s.heap.objs.size:=Heap.lt_size ha
  unfold collect
  refine wpAny_bind (wpAny_runValue (codeAny_builtin PySem.F.entry_proto_collect ?_))
  rw [Around.under_plainId PySem.F.plain_proto_collect _]
  show wpAny _ A.in1 (newList [] >>= fun l=>again (.builtin "list.__iadd__" ⟨[l, .ref a],[]⟩)) _ _ s
  refine wpAny_bind (wpAny_newObj_type ?_)
  refine wpAny_pure ⟨plainId_quiet PySem.F.plain_list_iadd _,codeAny_builtin PySem.F.entry_list_iadd ?_⟩
  rw [Around.under_plainId PySem.F.plain_list_iadd _]
  show wpAny _ A.in1 (Builtin.List.listExtendWith (.ref s.heap.objs.size) (.ref a) (.ref s.heap.objs.size)) _ _ _
  unfold Builtin.List.listExtendWith
  have ha1:(s.heap.push {cls:= .type "list",data:= .seq ([]:List Value).toArray}).get? a=some (bT es ep t):=Heap.get?_push_of_some _ ha
  have hT1:Shared.TypeIs {s with heap:=s.heap.push {cls:= .type "list",data:= .seq ([]:List Value).toArray}} (.ref a) "set":=⟨_,ha1,rfl⟩
  refine wpAny_bind (wpAny_typeOf hT1 ?_)
  have h1:Builtin.List.listSameRef (.ref s.heap.objs.size) (.ref a)=false:=by simp [Builtin.List.listSameRef];exact Nat.ne_of_gt hlt
  have h2:(Value.type "set" == Value.type "list")=false:=by decide
  have h3:(Value.type "set" == Value.type "tuple")=false:=by decide
  simp only [h1,h2,h3,Bool.or_false,Bool.false_eq_true,if_false]
  refine wpAny_bind (uT ha1 S fun s2 I fp St items k2 z2 g2 o2 t2 hfp hI W hst hp=>?_)
  have hT2:s2.TypeIs (.ref a) "set":=⟨_,k2 a _ ha1,rfl⟩
  refine wpAny_bind (wpAny_holding ?_)
  unfold Builtin.List.listLengthHint
  refine wpAny_bind (wpAny_specialOf hT2 F.wC ?_)
  wp_delta
  refine wpAny_bind (wpAny_isInstance (T:="set") (b:=true) hT2 sub_set_self ?_)
  show wpAny _ A.in1 (typeOf (Value.ref a) >>= _) _ _ _
  refine wpAny_bind (wpAny_typeOf hT2 ?_)
  refine wpAny_pure ?_
  rw [if_pos (by decide)]
  refine wpAny_bind (wpAny_rule ?_)
  have hS0:s2.heap.get? s.heap.objs.size=some {cls:= .type "list",data:= .seq ([]:List Value).toArray}:=k2 _ _ (Heap.get?_push_size _ rfl)
  refine wpAny_bind ?_
  show wpAny _ A.in1 (updateSeq s.heap.objs.size (·.push .none) >>= fun _=>updateSeq s.heap.objs.size (·.pop)) _ _ _
  refine wpAny_bind (wpAny_updateSeq hS0 rfl ?_)
  have hS2:=Heap.get?_update_self (Obj.mapSeq (·.push Value.none)) hS0 rfl
  refine wpAny_updateSeq hS2 rfl ?_
  have hS3:=Heap.get?_update_self (Obj.mapSeq (·.pop)) hS2 rfl
  have oth:∀b o,b≠s.heap.objs.size→s2.heap.get? b=some o→
      ((s2.heap.update s.heap.objs.size (Obj.mapSeq (·.push Value.none))).update s.heap.objs.size (Obj.mapSeq (·.pop))).get? b=some o:=
    fun b o hb e=>(Heap.get?_update_other _ _ (Ne.symm hb)).trans ((Heap.get?_update_other _ _ (Ne.symm hb)).trans e)
  have hz1:(s.heap.push {cls:= .type "list",data:= .seq ([]:List Value).toArray}).objs.size=s.heap.objs.size+1:=by rw [Heap.size_push]
  have hnS:∀b,(s.heap.push {cls:= .type "list",data:= .seq ([]:List Value).toArray}).objs.size≤b→b≠s.heap.objs.size:=fun b hb e=>by
    rw [hz1,e] at hb;exact Nat.not_succ_le_self _ hb
  have hSf:s.heap.objs.size∉fp:=fun hm=>by
    rcases hfp _ hm with e | e
    · exact absurd e (Nat.ne_of_gt hlt)
    · exact hnS _ e rfl
  have hlen:items.length≤sizeLine:=by
    rw [hp.length_eq];simpa using fits_of_scanBound S.bound
  refine wpAny_pure ⟨plainId_quiet PySem.F.plain_extend_loop _,codeAny_extend_loopS (W A.in1 (by simp [hh])).toS hlen _ hSf _ items.length 0 _ _ _ rfl (Nat.zero_le _)
    ((W A.in1 (by simp [hh])).frame 0 s2.heap _ hst fun b hb o e=>oth b o (fun z=>hSf (z▸hb)) e) hS3 (ItemsOf.nil _) fun s' acc' c' hm hS' hacc=>?_⟩
  show wpAny _ A (load s.heap.objs.size >>= _) _ _ s'
  refine wpAny_bind (wpAny_load hS' ?_)
  have hacc':acc'.toList=items:=by
    refine List.ext_getElem? fun i=>?_
    rw [Array.getElem?_toList]
    by_cases hi:i < acc'.size
    · rw [Array.getElem?_eq_getElem hi]
      exact (hacc.2 i _ (Array.getElem?_eq_getElem hi)).symm
    · rw [Array.getElem?_eq_none (by omega),List.getElem?_eq_none (by rw [←hacc.1];omega)]
  refine wpAny_pure ?_
  rw [hacc']
  refine hQ s' items (fun b o e=>?_) (hm.gens.trans g2) (hm.os.trans o2) (Nat.le_of_lt (Heap.lt_size hS')) hp
  have hb:b < s.heap.objs.size:=Heap.lt_size e
  refine hm.heap b o (fun z=>?_) (oth b o (Nat.ne_of_lt hb) (k2 b o (Heap.get?_push_of_some _ e)))
  rcases List.mem_cons.mp z with z | z
  · exact absurd z (Nat.ne_of_lt hb)
  · rw [List.mem_singleton.mp z] at hb
    have hI':s.heap.objs.size+1≤I:=by rw [←hz1];exact hI
    exact absurd (Nat.lt_of_lt_of_le (Nat.lt_succ_self _) hI') (Nat.lt_asymm hb)
theorem pV {a:Addr} {ks:List Str} {Q:Value→Shared→Prop} (hh:A.handled=none) (hS:StrSet w s.heap a (g5 w) ks) (h64:ks.length < 64)
    (h:∀(s':Shared) (l:Addr) (out:Array Value) (e:Nat) (ss':List Str),(∀b o,s.heap.get? b=some o→s'.heap.get? b=some o)→s'.gens=s.gens→s'.os=s.os→s.heap.objs.size≤l→s'.heap.get? l=some (seqObj "list" out e)→StrsAre out.toList ss'→ss'.Perm ks→sortedS ss'=true→Q (.ref l) s'):
    wpAny (model prog w) A (call (.builtin "sorted") [.ref a]) Q E s:=by
  obtain ⟨es,ep,t,ha,S⟩:=hS
  refine Calls.call_function_entry kind_sorted plain_sorted entry_sorted (args_sorted1 _) ?_
  unfold Builtin.«sorted»
  refine wpAny_bind (m:=checkCount "sorted" 1 1 _) (wpAny_pure ?_)
  refine wpAny_bind (ov (by simp [hh]) ha S fun s1 items k1 g1 o1 hsz hp=>?_)
  have hpk:(items.map strOf).Perm ks:=(hp.map strOf).trans (by rw [List.map_map];exact S.perm)
  have hst:∀v∈items,∃x tk,v= .str x tk:=fun v hv=>by
    obtain ⟨e,he,rfl⟩:=List.mem_map.mp (hp.mem_iff.mp hv)
    obtain ⟨x,tk,rfl⟩:=S.elems e he
    exact ⟨x,tk,rfl⟩
  have hSA:=strsAre_map items hst
  have hl64:items.length < 64:=by have:=hpk.length_eq;rw [List.length_map] at this;omega
  refine wpAny_bind (wpAny_newList ?_)
  have hoL:(s1.heap.push (seqObj "list" items.toArray 0)).get? s1.heap.objs.size=some (seqObj "list" items.toArray 0):=Heap.get?_push_size _ rfl
  refine wpAny_bind (wpAny_holding (wpAny_call_entry slot_list_sort ⟨_,hoL,rfl⟩ entry_list_sort (list_sort_treeK (s:={s1 with heap:=s1.heap.push (seqObj "list" items.toArray 0)}) strKind_oneLt hoL hSA.keysOf (fun v₁ v₂ aW e=>keyKind_strs (by rw [←e];exact hSA)) hl64 fun st' a1 a2=>⟨_,rfl,?_⟩) (args_list_sort _)))
  obtain ⟨ss',b1,b2,b3⟩:=sorted_out_str hSA a1 a2
  obtain ⟨e,he⟩:=sortedHeap_at (out:=(arrOf st').map (·.2)) hoL
  refine wpAny_pure ⟨_,rfl,h _ s1.heap.objs.size _ e ss' (fun b o hb=>?_) g1 o1 hsz he b1 (b2.trans hpk) b3⟩
  have hb1:=k1 b o hb
  have hlt:=Heap.lt_size hb1
  dsimp only
  rw [sortedHeap_old (Nat.ne_of_lt hlt) (by rw [size_push'];exact Nat.lt_succ_of_lt hlt),Heap.get?_push_ne _ _ _ (Nat.ne_of_lt hlt)]
  exact hb1
end
end NhSet
namespace PL
open PySem L2 Nh
def sK (w:World) (a:Addr) (ks:List Str):HO:= .ext fun h=>NhSet.StrSet w h a (NhSet.g5 w) ks
theorem uU (ns:List Str) (n:Nat) (h:n=ns.length):NhSet.ip (fun i=>ns.getD i ⟨#[]⟩) n=gV ns:=by
  have e:(List.range n).map (fun i=>ns.getD i ⟨#[]⟩)=ns:=by
    subst h
    refine List.ext_getElem (by simp) fun i h1 h2=>?_
    simp [h2]
  show ((List.range n).map (fun i=>ns.getD i ⟨#[]⟩)).foldl NhSet.jJ []=ns.foldl vF []
  rw [e]
  rfl
theorem sL (x:Str):NhSet.ip (NhSet.fS x) x.cps.size=gV (iM x):=by
  have e:(List.range x.cps.size).map (NhSet.fS x)=iM x:=by
    refine List.ext_getElem (by simp [iM]) fun i h1 h2=>?_
    have hi:i < x.cps.size:=by simpa using h1
    simp [iM,NhSet.fS,hi]
  show ((List.range x.cps.size).map (NhSet.fS x)).foldl NhSet.jJ []=(iM x).foldl vF []
  rw [e]
  rfl
section
variable {X:Cx} {e:Expr} {m1:Bool} {f:aS} {p p2 pos pos2:Pos}
def Bx (K:PySem.W.Frag) (w:World):List V→Hp→VK→Prop:=fun xs H Q=>
  (∃(p:Addr) (ss:List Str),xs=[.ref p]∧SqL K H p (ss.map V.str)∧ss.length < 4000∧∀a,H a=none→Q (.ref a) (upd H a (sK w a (gV ss))))∨
  ∃x:Str,xs=[.str x]∧(iM x).length < 4000∧∀a,H a=none→Q (.ref a) (upd H a (sK w a (gV (iM x))))
theorem sM (hc:X.calm=true):CallR X (.type "set") (Bx X.K X.w):=by
  intro pins s σ H xs us Q I r h
  rcases h with ⟨p,ss,rfl,hq,hl,q⟩ | ⟨x,rfl,hl,q⟩
  · cases r with
    | cons r rr=>
      cases rr
      cases r
      obtain ⟨its,rv,pl,hz⟩:=I.list hq
      have hS:=j_ rv
      have hlen:its.length=ss.length:=by have:=rv.length;simpa using this.symm
      refine NhSet.sG (I.ok.hd hc) pl.isList (by simpa using hS) (by simp only [List.size_toArray,scanBound];omega) fun h' tk S k=>?_
      rw [uU ss its.toArray.size (by simpa using hlen)] at S
      exact ⟨.ref s.heap.objs.size,_,I.laid (fun b o e=>k b o (Heap.lt_size e) e) (Nat.le_refl _) (show ObjOk X.prog X.w _ _ _ (sK X.w s.heap.objs.size (gV ss)) from ⟨S,S.obj,fun h1 h2 T kk=>T.at' kk⟩),rfl,q _ (I.hok.fresh (Nat.le_refl _))⟩
  · cases r with
    | cons r rr=>
      cases rr
      obtain ⟨t,rfl⟩:=r
      have hl2:x.cps.size < 4000:=by simpa [iM] using hl
      refine NhSet.uR (I.ok.hd hc) (by simp only [scanBound];omega) fun h' tk S k=>?_
      rw [sL] at S
      exact ⟨.ref s.heap.objs.size,_,I.laid (fun b o e=>k b o (Heap.lt_size e) e) (Nat.le_refl _) (show ObjOk X.prog X.w _ _ _ (sK X.w s.heap.objs.size (gV (iM x))) from ⟨S,S.obj,fun h1 h2 T kk=>T.at' kk⟩),rfl,q _ (I.hok.fresh (Nat.le_refl _))⟩
def uV (w:World):List V→Hp→VK→Prop:=fun xs H Q=>∃(a:Addr) (ks:List Str),xs=[.ref a]∧H a=some (sK w a ks)∧ks.length < 64∧∀l,H l=none→Q (.ref l) (upd H l (.lst ((gb ks).map V.str)))
theorem mO (hc:X.calm=true):CallR X (.builtin "sorted") (uV X.w):=by
  intro pins s σ H xs us Q I r h
  obtain ⟨a,ks,rfl,ha,h64,q⟩:=h
  cases r with
  | cons r rr=>
    cases rr
    cases r
    obtain ⟨S,_,_⟩:ObjOk X.prog X.w H s.heap a (sK X.w a ks):=I.hok a _ ha
    refine NhSet.pV (I.ok.hd hc) S h64 fun s' l out e ss' k g o hl he b1 b2 b3=>?_
    have:=j9 b2 b3
    subst this
    have new:ObjOk X.prog X.w (upd H l (.lst ((gb ks).map V.str))) s'.heap l (.lst ((gb ks).map V.str)):=⟨by rw [List.length_map,jd];exact eC (by omega),out.toList,e,ka b1,he⟩
    exact ⟨.ref l,_,I.call' (ch:=[]) o (Un.laid k hl (I.hok.fresh hl)) (I.hok.laid k hl new) (by rw [g];exact I.bare) (fun _ z=>nomatch z),rfl,q _ (I.hok.fresh hl)⟩
theorem pW (hc:X.calm=true) (hg:Gl X "sorted") (hm:X.mg "sorted"=none) (hg2:Gl X "set") (hm2:X.mg "set"=none) (ha:EX X e m1 f) (he:starEach [e] X.env=[(false,eval e X.env)]:=by rfl)
    (he2:starEach [.Call (.Name "set" p2) [e] [] pos2] X.env=[(false,eval (.Call (.Name "set" p2) [e] [] pos2) X.env)]:=by rfl):EX X (.Call (.Name "sorted" p) [.Call (.Name "set" p2) [e] [] pos2] [] pos) m1 (kb f):=by
  refine bA (iB (mO hc) hg hm PyProof.Rows.boot_sorted (cB (la (sM hc) hg2 hm2 PyProof.Rows.boot_set (cB ha dM he) (by decide) (by decide) he rfl) dM he2) (by decide) (by decide) he2 rfl) fun σ H Q z=>?_
  obtain ⟨B,E,xs,Xs,res,E',fr,cl,e,q⟩:=z
  obtain ⟨⟨s,E1⟩,e1,e⟩:=Option.bind_eq_some_iff.mp e
  refine ⟨B,E,xs,Xs,s,E1,fr,cl,e1,fun v1 H1 ⟨F,A,fr1⟩=>?_⟩
  obtain ⟨A',fr2⟩:=fr1.pop
  simp only at e
  split at e
  · rename_i ds ld
    obtain ⟨ss,es,e⟩:=Option.bind_eq_some_iff.mp e
    split at e
    · rename_i hc
      cases e
      have r:=(fr1.look0 ld).1
      cases r with
      | lst h1 h2=>
        have:=iK h2 es
        subst this
        exact .inl ⟨_,ss,rfl,h1,hc.1,fun a ha=>⟨a,_,rfl,bx,hc.2,fun l hl=>q _ _ ⟨_,_,(fr2.grow (ft ha _)).newl (eT _) hl⟩⟩⟩
    · cases e
  · rename_i x ld
    split at e
    · rename_i hc
      cases e
      have r:=(fr1.look0 ld).1
      cases r
      exact .inr ⟨x,rfl,hc.1,fun a ha=>⟨a,_,rfl,bx,hc.2,fun l hl=>q _ _ ⟨_,_,(fr2.grow (ft ha _)).newl (eT _) hl⟩⟩⟩
    · cases e
  · cases e
end
end PL
namespace PL
open PySem L2 Nh
theorem wD {X:Cx} {x y:Str} {t:Tok} {pos:Pos} (hg:Gl X x) (hm:X.mg x=some (.str y t)) (hd:(x == ("__debug__":Str))=false:=by decide):EX X (.Name x pos) false (pC (.str y)):=by
  refine bA (vI (v:= .str y) hg hm ⟨t,rfl⟩ hd) fun σ H Q z=>?_
  obtain ⟨B,E,xs,Xs,res,E',⟨F,A,fr⟩,cl,e,q⟩:=z
  cases e
  exact q _ _ ⟨F,A,fr.push ⟨rfl,_,rfl, .str _⟩⟩
end PL
namespace Nh
open PySem L2
theorem NailsOk.stp {r:List Pc} {p:Pc} (h:NailsOk r) (hp:p.1 < 128):NailsOk (NH.stp r p):=by
  cases r with
  | nil=>
    show NailsOk (if p.2=0 then [] else [p])
    split
    · exact h
    · intro q hq;rw [List.mem_singleton.mp hq];exact hp
  | cons x r=>
    rw [NH.iD]
    intro q hq
    rcases List.mem_append.mp hq with h1 | h1
    · unfold NH.xp at h1
      split at h1
      · split at h1
        · cases h1
        · rw [List.mem_singleton.mp h1];exact hp
      · split at h1
        · rw [List.mem_singleton.mp h1];exact h x (List.mem_cons_self ..)
        · rcases List.mem_cons.mp h1 with h2 | h2
          · rw [h2];exact hp
          · rw [List.mem_singleton.mp h2];exact h x (List.mem_cons_self ..)
    · exact h q (List.mem_cons_of_mem _ h1)
theorem NailsOk.foldl:∀(c:List Pc) {r:List Pc},NailsOk r→NailsOk c→NailsOk (c.foldl NH.stp r)
  | [],_,h,_=>h
  | p::c,_,h,hc=>NailsOk.foldl c (h.stp (hc p (List.mem_cons_self ..))) fun q hq=>hc q (List.mem_cons_of_mem _ hq)
theorem NailsOk.take {c:List Pc} (h:NailsOk c) (i:Nat):NailsOk (c.take i):=fun p hp=>h p (List.mem_of_mem_take hp)
theorem NailsOk.drop {c:List Pc} (h:NailsOk c) (i:Nat):NailsOk (c.drop i):=fun p hp=>h p (List.mem_of_mem_drop hp)
theorem NailsOk.reverse {c:List Pc} (h:NailsOk c):NailsOk c.reverse:=fun p hp=>h p (List.mem_reverse.mp hp)
theorem NailsOk.append {c d:List Pc} (h:NailsOk c) (h':NailsOk d):NailsOk (c++d):=fun p hp=>(List.mem_append.mp hp).elim (h p) (h' p)
theorem NailsOk.short {c:List Pc} (h:NailsOk c):NailsOk (NH.short c):=(NailsOk.foldl c (fun _ z=>by cases z) h).reverse
end Nh
namespace Nh
open PySem L2 PL
theorem NailsOk.rep {c:List Pc} (h:NailsOk c) (k:Nat):NailsOk (List.replicate k c).flatten:=fun p hp=>by
  obtain ⟨l,hl,hpl⟩:=List.mem_flatten.mp hp
  rw [(List.mem_replicate.mp hl).2] at hpl
  exact h p hpl
theorem NailsOk.cutL {c:List Pc} (h:NailsOk c) (lo hi:Option Int):NailsOk (cutL c lo hi):=fun p hp=>h p (uH hp)
def l4 (i:Int):Nat:=[97,98,99,122].getD i.toNat 97
theorem AC:∀j,j < 26→(Str.ofString "abcdefghijklmnopqrstuvwxyz").cps.toList[j]? =some (97+j):=by decide+kernel
theorem By (v:Int):atI (Str.ofString "abcdefghijklmnopqrstuvwxyz").cps.toList (v % 26)=some (97+(v % 26).toNat):=by
  have h0:=Int.emod_nonneg v (show (26:Int)≠0 by decide)
  have h1:=Int.emod_lt_of_pos v (show (0:Int) < 26 by decide)
  rw [yP h0]
  exact AC _ (by omega)
theorem yW:(Str.ofString "abcdefghijklmnopqrstuvwxyz").length≤1000000:=by decide+kernel
theorem mP {i j:Int} (h1: -(2 ^ 64) < j) (h2:j < 2 ^ 64):e8 i j=true:=by
  simp only [e8,Bool.or_eq_true,decide_eq_true_eq]
  exact .inl (.inr ⟨h1,h2⟩)
theorem mQ {i j:Int} (h1: -(2 ^ 64) < i) (h2:i < 2 ^ 64):e8 i j=true:=by
  simp only [e8,Bool.or_eq_true,decide_eq_true_eq]
  exact .inl (.inl ⟨h1,h2⟩)
theorem uW {j:Int} (h1:0 < j) (h2:j < 2 ^ 200):jV j=true:=decide_eq_true ⟨h1,h2⟩
theorem jN (i j:Int):rZ (.int i) (.int j)=some (decide (i=j)):=rfl
theorem wE (i j:Str):rZ (.str i) (.str j)=some (decide (i=j)):=rfl
end Nh
namespace L2
open PySem PySem.Spec PyProof.Rows
def qS (K:PySem.W.Frag) (h:Heap):Prop:=∀b q,jF K b=some q→h.get? b=some (PySem.W.tabObj #[])∧(∃c,PySem.W.CodeHd h c b)∧K.lookup b=none
def cA (K:PySem.W.Frag) (a:Addr) (so:Option HO):Hp:=fun b=>match jF K b with
  | some q=>some (.tbl q)
  | none=>if b=a then so else none
theorem pX {K:PySem.W.Frag} {a b:Addr} {so:Option HO} {q:Str} (e:jF K b=some q):cA K a so b=some (.tbl q):=by unfold cA;rw [e]
theorem sN {K:PySem.W.Frag} {a:Addr} {so:Option HO} (e:jF K a=none):cA K a so a=so:=by unfold cA;rw [e];exact if_pos rfl
theorem dY {K:PySem.W.Frag} {a b:Addr} {so:Option HO} {u:HO} (e:cA K a so b=some u):(∃q,jF K b=some q∧u= .tbl q)∨(b=a∧so=some u):=by
  unfold cA at e
  split at e
  · rename_i q h;cases e;exact .inl ⟨q,h,rfl⟩
  · by_cases hb:b=a
    · rw [if_pos hb] at e;exact .inr ⟨hb,e⟩
    · rw [if_neg hb] at e;cases e
section
variable {P:Program} {w:World} {K:PySem.W.Frag} {mg mb:Str→Option Value} {CX:tO} {k:Nat} {fa a:Addr} {fd:FuncData} {x:Str} {sp:Sp} {s₁:Shared} {vs:List Value} {ns:List Int}
theorem wF (KX:K.In s₁.heap) (hns:s₁.heap.Ns mainGlobals mg) (hb:s₁.heap.Ns builtinsNs mb) (hbb:∀x:Str,x≠"__name__"→mb x=bootBuiltins x) (hlim:s₁.heap.NoLimit) (hg:s₁.gens=#[]) (hbm:∃bm ob,mg "__builtins__"=some (.ref bm)∧bm≠builtinsNs∧s₁.heap.get? bm=some ob∧ob.cls= .type "module"∧ob.dict=some builtinsNs∧ob.data= .plain) (hT:qS K s₁.heap)
    (ha:s₁.heap.get? a=some {cls:= .type "list",data:= .seq vs.toArray}) (hi:IntsAre vs ns) (hl:ns.length≤sizeLine) (hr:Room k callerA)
    (F:∀base:Heap,K.In base→base.Ns mainGlobals mg→FnOk P w K mg base CX k fa fd [x] sp) (hbind:∀(s:Shared) (u:Value),BindsTo s fd ⟨[u],[]⟩ [(x,u)])
    (hsp:∀H:Hp,SqL K H a (ns.map V.int)→sp [.ref a] H (fun v _=>v= .bl true) fun _ _ _=>False)
    (hCX:∀H e s',CX [] H s₁ (fun _ _ _=>False) e s'→False):
    codeAny (model P w) callerA (.call (.ref fa) ⟨[.ref a],[]⟩) (fun r s'=>r= .ok (.ret (.bool true))∧OldK s₁.heap s'.heap∧s'.os=s₁.os∧AllBare s'.gens) s₁:=by
  have rv:=gE hi
  have lenV:=hi.length
  have tabA:jF K a=none:=by
    cases q:jF K a with
    | none=>rfl
    | some z=>
      have e:=(hT a z q).1
      rw [ha] at e
      cases e
  have main:∀so:Option HO,(so=none∨(so=some (.frz {cls:= .type "list",data:= .seq vs.toArray} (.lst (ns.map V.int)))∧K.lookup a=none))→SqL K (cA K a so) a (ns.map V.int)→
      codeAny (model P w) callerA (.call (.ref fa) ⟨[.ref a],[]⟩) (fun r s'=>r= .ok (.ret (.bool true))∧OldK s₁.heap s'.heap∧s'.os=s₁.os∧AllBare s'.gens) s₁:=by
    intro so hso hS
    have hok:HOk P w (cA K a so) s₁.heap:=fun b u e=>by
      rcases dY e with ⟨q,e1,rfl⟩ | ⟨rfl,e1⟩
      · exact ObjOk.tbl0 (hT b q e1).1
      · rcases hso with z | ⟨z,_⟩
        · rw [z] at e1;cases e1
        · rw [z] at e1;cases e1
          exact ⟨ha,by rw [List.length_map];exact hl,vs,_,rv,ha⟩
    have free:∀{b:Addr} {o:Obj} {es:Array DictEntry} {ep:Nat},s₁.heap.get? b=some o→o.data= .dict es ep→cA K a so b=none:=fun {b o es ep} e d=>by
      cases q:cA K a so b with
      | none=>rfl
      | some u=>
        rcases dY q with ⟨z,e1,_⟩ | ⟨rfl,_⟩
        · rw [(hT b z e1).1] at e;cases e;cases d
        · rw [ha] at e;cases e;cases d
    have nsK:∀{b:Addr} {m:Str→Option Value},s₁.heap.Ns b m→(nI s₁.heap (cA K a so)).Ns b m:=fun {b m} ⟨o,es,ep,e,d,r⟩=>⟨o,es,ep,jO e (free e d),d,r⟩
    have kin:K.In (nI s₁.heap (cA K a so)):=fun b o e=>jO (KX b o e) (by
      cases q:cA K a so b with
      | none=>rfl
      | some u=>
        rcases dY q with ⟨z,e1,_⟩ | ⟨rfl,e1⟩
        · rw [(hT b z e1).2.2] at e;cases e
        · rcases hso with z | ⟨_,z⟩
          · rw [z] at e1;cases e1
          · rw [z] at e;cases e)
    have bmK:∃bm ob,mg "__builtins__"=some (.ref bm)∧bm≠builtinsNs∧(nI s₁.heap (cA K a so)).get? bm=some ob∧ob.cls= .type "module"∧ob.dict=some builtinsNs∧ob.data= .plain:=by
      obtain ⟨bm,ob,c1,c2,c3,c4,c5⟩:=hbm
      refine ⟨bm,ob,c1,c2,jO c3 ?_,c4,c5⟩
      cases q:cA K a so bm with
      | none=>rfl
      | some u=>
        rcases dY q with ⟨z,e1,_⟩ | ⟨rfl,_⟩
        · rw [(hT bm z e1).1] at c3;cases c3;cases c4
        · rw [ha] at c3
          cases c3
          injection c4 with c6
          exact absurd c6 (by decide)
    have e0:Env0 P w K mg (nI s₁.heap (cA K a so)) callerA [] s₁ (cA K a so):=
      ⟨rfl,⟨kin,nsK hns,⟨mb,nsK hb,hbb⟩,let ⟨mc,h1,h2⟩:=hlim;⟨mc,nsK h1,h2⟩,bmK⟩,fun b o e=>vG e,Nat.le_of_eq (rH _ _),trivial,fun b hb=>absurd (show b∈([]:List Addr) from hb) (by simp),hok, .of_eq hg,fun b q e=>pX e⟩
    refine codeAny_mono ((F _ kin (nsK hns)).run callerA [] s₁ _ ⟨[.ref a],[]⟩ [.ref a] [.ref a] _ _ hr e0 (hbind s₁ (.ref a)) (.cons rfl .nil) (hsp _ hS)) fun r s' h=>?_
    cases r with
    | error e=>exact (hCX _ e s' h).elim
    | ok fl=>
      cases fl with
      | next=>exact False.elim h
      | brk=>exact False.elim h
      | cont=>exact False.elim h
      | ret u=>
        obtain ⟨v,H',os,bare,un,hok',r',q⟩:=h
        have q':v= .bl true:=q
        subst q'
        obtain rfl:u=Value.bool true:=r'
        have nofs:∀b,b∉tN ([]:List Env):=fun b z=>absurd (show b∈([]:List Addr) from z) (by simp)
        have step:∀b o,s₁.heap.get? b=some o→asItWas s₁.heap s'.heap b o∧∃o',s'.heap.get? b=some o':=fun b o e=>by
          cases q:cA K a so b with
          | none=>exact ⟨.inl (un.keep b o e q (nofs b) (by simp)),_,un.keep b o e q (nofs b) (by simp)⟩
          | some u=>
            rcases dY q with ⟨z,e1,rfl⟩ | ⟨rfl,e1⟩
            · obtain ⟨t1,⟨c,t2⟩,_⟩:=hT b z e1
              obtain ⟨ps,p1,_⟩:=hok' b _ (un.tbls b z q)
              rw [t1] at e
              cases e
              exact ⟨.inr (.inl ⟨(t2.tab t1).isCodeTable,rfl,#[],ps,rfl,by simpa using p1⟩),_,p1⟩
            · rcases hso with z | ⟨z,_⟩
              · rw [z] at e1;cases e1
              · rw [z] at e1;cases e1
                have z2:=un.frzs b _ _ q
                obtain ⟨e2,_⟩:=hok' b _ z2
                rw [ha] at e;cases e
                exact ⟨.inl e2,_,e2⟩
        exact ⟨rfl,⟨fun b o e=>(step b o e).1,fun b o e=>(step b o e).2⟩,os,bare⟩
  cases hk:K.lookup a with
  | some o=>
    have e:=KX a o hk
    rw [ha] at e
    cases e
    exact main none (.inl rfl) (.inr ⟨_,vs.toArray,_,hk,rfl,rfl,rfl,by rw [List.size_toArray,lenV];exact hl,by simpa using rv⟩)
  | none=>exact main _ (.inr ⟨rfl,hk⟩) (.inl (.inr ⟨_,sN tabA⟩))
end
theorem uX {l:PySem.W.OpenLaw} {n k:Nat} {q:Program} {loose:List Str} {XP:(Str→Option Value)→Heap→Prop} {YP:World→Heap→Prop} {d:DefRec} {K:Params→PySem.W.Frag} {CX:World→tO} {sp:World→Sp} {x:Str}
    (hn:l.most=some n) (hn2:n≤sizeLine) (hdf:d.params.defaults=[]) (hr:Room k callerA)
    (hY:∀(w:World) (h:Heap),YP w h→(K w.params).In h∧qS (K w.params) h)
    (F:∀(w:World) (mg:Str→Option Value) (fa:Addr) (h:Heap),(K w.params).In h→h.Ns mainGlobals mg→mg d.name=some (.ref fa)→
      ∃fd:FuncData,(∀(s:Shared) (u:Value),BindsTo s fd ⟨[u],[]⟩ [(x,u)])∧
        ∀base:Heap,(K w.params).In base→base.Ns mainGlobals mg→FnOk l.prog w (K w.params) mg base (CX w) k fa fd [x] (sp w))
    (hsp:∀(w:World) (H:Hp) (a:Addr) (ns:List Int),ns.length≤n→SqL (K w.params) H a (ns.map V.int)→sp w [.ref a] H (fun v _=>v= .bl true) fun _ _ _=>False)
    (hCX:∀(w:World) (H:Hp) (s:Shared) (e:Value) (s':Shared),CX w [] H s (fun _ _ _=>False) e s'→False):
    PySem.W.WalkO q loose XP YP l.row.toRowW d [] (fun f vs=>PySem.call f vs):=by
  refine Att.nP hn hdf fun w s₀ s₁ mg mb fa o pm cd doc a vs ns G Y ho hd hcd hmg hobj hints hlen hg=>?_
  obtain ⟨KX,KT⟩:=hY w _ Y
  obtain ⟨fd,hb,hF⟩:=F w mg fa _ KX G.T.g hmg
  exact wF KX G.T.g G.T.b G.T.builtins G.T.nolimit hg G.T.bmain KT hobj hints (Nat.le_trans hlen hn2) hr hF hb (fun H hS=>hsp w H a ns hlen hS) fun H e s'=>hCX w H s₁ e s'
end L2
namespace NH
def ck (w:List Nat):Nat→Nat
  | 0=>0
  | n+1=>ck w n+if 97+n∈w then 2 ^ n else 0
theorem lN (w:List Nat):∀n,ck w n < 2 ^ n
  | 0=>by simp [ck]
  | n+1=>by
    have:=lN w n
    rw [ck,Nat.pow_succ]
    split <;> omega
theorem gM (w:List Nat):∀n i,(ck w n).testBit i=(decide (i < n)&&decide (97+i∈w))
  | 0,i=>by simp [ck]
  | n+1,i=>by
    have ih:=gM w n i
    have lt:=lN w n
    rw [ck]
    by_cases h:97+n∈w
    · rw [if_pos h,Nat.add_comm]
      by_cases e:i=n
      · subst e
        rw [Nat.testBit_two_pow_add_eq,ih]
        simp [h]
      · by_cases l:i < n
        · rw [Nat.testBit_two_pow_add_gt l,ih]
          simp [l,show i < n+1 by omega]
        · have big:2 ^ n+ck w n < 2 ^ i:=by
            have:2 ^ (n+1)≤2 ^ i:=Nat.pow_le_pow_right (by decide) (by omega)
            rw [Nat.pow_succ] at this
            omega
          rw [Nat.testBit_lt_two_pow big]
          simp [show ¬i < n+1 by omega]
    · rw [if_neg h,Nat.add_zero,ih]
      by_cases e:i=n
      · subst e;simp [h]
      · by_cases l:i < n
        · simp [l,show i < n+1 by omega]
        · simp [l,show ¬i < n+1 by omega]
def bH (w:List Nat):Nat:=ck w 26
def pY (w:List Nat):Prop:=∀a∈w,97≤a∧a < 97+26
theorem sO {a b:List Nat} (ha:pY a):bH a &&& bH b=bH a↔∀x∈a,x∈b:=by
  unfold bH
  constructor
  · intro h x hx
    have l:=ha x hx
    have:=congrArg (fun n=>n.testBit (x - 97)) h
    simp only [Nat.testBit_and,gM,show 97+(x - 97)=x by omega,show x - 97 < 26 by omega,hx] at this
    simpa using this
  · intro h
    refine Nat.eq_of_testBit_eq fun i=>?_
    rw [Nat.testBit_and,gM,gM]
    by_cases m:97+i∈a
    · simp [m,h _ m]
    · simp [m]
end NH
namespace NhLS
set_option autoImplicit false
open PySem PyProof.Rows
def wG:Bool→Keyed→Array Keyed→Nat→Nat→Nat→StateT SortSt Sem (Option Nat):=sortPriv% PySem.Builtin.gallop
def uY:Array Keyed→Array Keyed→StateT SortSt Sem (Array Keyed):=sortPriv% PySem.Builtin.mergeLo
def uZ:Array Keyed→Array Keyed→StateT SortSt Sem (Array Keyed):=sortPriv% PySem.Builtin.mergeHi
def wH:Keyed:=(Value.none,Value.none)
def at' (a:Array Keyed) (i:Nat):Keyed:=a.getD i wH
theorem AD {a:Array Keyed} {i:Nat} (h:i < a.size):a[i]? =some (at' a i):=by simp [at',Array.getD,h]
structure Cmp (prog:Program) (w:World) (A:Around) (s:Shared) (κ:SortKind) (O:KeyOrd) (key:Keyed→O.α) (dom:Keyed→Prop):Prop where
  ask:∀(E:Value→Shared→Prop) (x y:Keyed) (Q:Bool→Shared→Prop),dom x→dom y→Q (O.blt (key x) (key y)) s→wpAny (model prog w) A (keyLt' κ x.1 y.1) Q E s
section
variable {prog:Program} {w:World} {A:Around} {E:Value→Shared→Prop} {s:Shared} {κ:SortKind} {O:KeyOrd} {key:Keyed→O.α} {dom:Keyed→Prop} {st:SortSt}
theorem u0 (C:Cmp prog w A s κ O key dom) {x y:Keyed} {Q:Option Bool→SortSt→Prop} (hk:kindOf st=κ) (dx:dom x) (dy:dom y) (h:Q (some (O.blt (key x) (key y))) st):wpS (model prog w) A E s (lt' x y) Q st:=by
  rw [lt'_eq]
  refine wpS_bind (wpS_get ?_)
  rw [hk]
  refine wpS_bind (wpS_lift (wpAny_attempt (C.ask _ _ _ _ dx dy ⟨rfl,?_⟩)))
  exact wpS_pure h
theorem eU {arr:Array Keyed} {i:Nat} {Q:Keyed→SortSt→Prop} (hi:i < arr.size) (h:Q (at' arr i) st):wpS (model prog w) A E s (elem' arr i) Q st:=by
  rw [elem'_eq,AD hi]
  exact wpS_pure h
def eZ (O:KeyOrd) (key:Keyed→O.α) (left:Bool) (k:Keyed) (arr:Array Keyed) (base i:Nat):Bool:=if left then O.blt (key (at' arr (base+i))) (key k) else !O.blt (key k) (key (at' arr (base+i)))
theorem fB (C:Cmp prog w A s κ O key dom) {left:Bool} {k:Keyed} {arr:Array Keyed} {base n hint:Nat} {Q:Option Nat→SortSt→Prop} (hk:kindOf st=κ) (hh:hint < n) (hb:base+n≤arr.size) (dk:dom k) (da:∀i,i < arr.size→dom (at' arr i))
    (mono:∀i j,i < j→j < n→eZ O key left k arr base j=true→eZ O key left k arr base i=true)
    (h:∀m,m≤n→(∀i,i < m→eZ O key left k arr base i=true)→(∀i,m≤i→i < n→eZ O key left k arr base i=false)→Q (some m) st):wpS (model prog w) A E s (wG left k arr base n hint) Q st:=by
  have bey:∀{i:Nat} {Q':Option Bool→SortSt→Prop},i < n→Q' (some (eZ O key left k arr base i)) st→wpS (model prog w) A E s (elem' arr (base+i) >>= fun x=>if left=true then lt' x k else (lt' k x >>= fun r=>pure (r.map (!·)))) Q' st:=by
    intro i Q' hi hq
    refine wpS_bind (eU (by lia) ?_)
    have dx:=da (base+i) (by lia)
    cases left with
    | true=>exact u0 C hk dx dk hq
    | false=>exact wpS_bind (u0 C hk dk dx (wpS_pure hq))
  refine wpS_bind (bey hh ?_)
  have up:∀i j,i≤j→j < n→eZ O key left k arr base j=true→eZ O key left k arr base i=true:=fun i j hij hj e=>by
    by_cases z:i=j
    · rw [z];exact e
    · exact mono i j (by exact Nat.lt_of_le_of_ne ‹_› ‹_›) hj e
  have dn:∀i j,i≤j→j < n→eZ O key left k arr base i=false→eZ O key left k arr base j=false:=fun i j hij hj e=>by
    cases z:eZ O key left k arr base j with
    | false=>rfl
    | true=>rw [up i j hij hj z] at e;cases e
  have fin:∀{body:Nat→Option (Option Nat)×Nat×Nat→StateT SortSt Sem (ForInStep (Option (Option Nat)×Nat×Nat))} {cont:Option (Option Nat)×Nat×Nat→StateT SortSt Sem (Option Nat)},
      (∀lo,Q (some lo) st→wpS (model prog w) A E s (cont (none,lo,lo)) Q st)→
      (∀x lo hi (R:ForInStep (Option (Option Nat)×Nat×Nat)→SortSt→Prop),lo≥hi→R (.done (none,lo,hi)) st→wpS (model prog w) A E s (body x (none,lo,hi)) R st)→
      (∀x lo hi (R:ForInStep (Option (Option Nat)×Nat×Nat)→SortSt→Prop),lo < hi→hi≤n→R (.yield (if eZ O key left k arr base (lo+(hi - lo) / 2)=true then (none,lo+(hi - lo) / 2+1,hi) else (none,lo,lo+(hi - lo) / 2))) st→wpS (model prog w) A E s (body x (none,lo,hi)) R st)→
      ∀lo hi,lo≤hi→hi≤n→(∀i,i < lo→eZ O key left k arr base i=true)→(∀i,hi≤i→i < n→eZ O key left k arr base i=false)→
      wpS (model prog w) A E s (forIn [0:n] (none,lo,hi) body >>= cont) Q st:=by
    intro body cont b3 b1 b2 lo hi f1 f2 f3 f4
    refine wpS_bind (wpS_mono (wpS_forRange (I:=fun x c st'=>st'=st∧∃lo hi,c=(none,lo,hi)∧lo≤hi∧hi≤n∧hi+x≤n+lo∧(∀i,i < lo→eZ O key left k arr base i=true)∧(∀i,hi≤i→i < n→eZ O key left k arr base i=false))
      (Q:=fun c st'=>st'=st∧∃lo,c=(none,lo,lo)∧lo≤n∧(∀i,i < lo→eZ O key left k arr base i=true)∧(∀i,lo≤i→i < n→eZ O key left k arr base i=false)) ?s1 ?s2 ⟨rfl,lo,hi,rfl,f1,f2,by exact Nat.le_add_right_of_le ‹_›,f3,f4⟩) ?s3)
    case s2=>
      rintro c st' ⟨rfl,l,o,rfl,h1,h2,h3,h4,h5⟩
      have:l=o:=by lia
      subst this
      exact ⟨rfl,l,rfl,h2,h4,h5⟩
    case s3=>
      rintro c st' ⟨rfl,l,rfl,h2,h4,h5⟩
      exact b3 l (h l h2 h4 h5)
    case s1=>
      rintro x c st' - hx ⟨rfl,l,o,rfl,h1,h2,h3,h4,h5⟩
      by_cases z:l≥o
      · have:l=o:=by exact Nat.le_antisymm ‹_› ‹_›
        subst this
        exact b1 x l l _ z ⟨rfl,l,rfl,h2,h4,h5⟩
      · refine b2 x l o _ (by exact Nat.lt_of_not_le ‹_›) h2 ?_
        cases e:eZ O key left k arr base (l+(o - l) / 2) with
        | true=>exact ⟨rfl,_,_,rfl,by lia,by assumption,by lia,fun i hi=>up i _ (by exact Nat.le_of_lt_succ ‹_›) (by lia) e,h5⟩
        | false=>exact ⟨rfl,_,_,rfl,by exact Nat.le_add_right _ _,by lia,by lia,h4,fun i hi hn=>dn _ i hi hn e⟩
  cases eh:eZ O key left k arr base hint with
  | true=>
    dsimp only
    rw [if_pos rfl]
    refine wpS_bind (wpS_mono (wpS_forRange (I:=fun x c st'=>st'=st∧∃l o,c=(none,l,o)∧l < o∧x < o∧hint+l < n∧eZ O key left k arr base (hint+l)=true)
      (Q:=fun c st'=>st'=st∧∃l o,c=(none,l,o)∧l < o∧hint+l < n∧eZ O key left k arr base (hint+l)=true∧(n - hint≤o∨eZ O key left k arr base (hint+o)=false)) ?s1 ?s2 ⟨rfl,0,1,rfl,by exact Nat.lt_succ_self _,by exact Nat.lt_succ_self _,by assumption,eh⟩) ?s3)
    case s2=>
      rintro c st' ⟨rfl,l,o,rfl,h1,h2,h3,h4⟩
      exact ⟨rfl,l,o,rfl,h1,h3,h4, .inl (by lia)⟩
    case s1=>
      rintro x c st' - hx ⟨rfl,l,o,rfl,h1,h2,h3,h4⟩
      dsimp only
      by_cases z:o≥n - hint
      · rw [if_pos z]
        exact wpS_pure ⟨rfl,l,o,rfl,h1,h3,h4, .inl z⟩
      · rw [if_neg z]
        refine wpS_bind (bey (by lia) ?_)
        cases e:eZ O key left k arr base (hint+o) with
        | true=>exact wpS_pure ⟨rfl,o,2*o+1,rfl,by lia,by lia,by lia,e⟩
        | false=>exact wpS_pure ⟨rfl,l,o,rfl,h1,h3,h4, .inr e⟩
    case s3=>
      rintro c st' ⟨rfl,l,o,rfl,h1,h3,h4,h5⟩
      dsimp only
      have f1:hint+l+1≤hint+min o (n - hint):=by lia
      have f2:hint+min o (n - hint)≤n:=by lia
      have f3:∀i,i < hint+l+1→eZ O key left k arr base i=true:=fun i hi=>up i _ (by exact Nat.le_of_lt_succ ‹_›) h3 h4
      have f4:∀i,hint+min o (n - hint)≤i→i < n→eZ O key left k arr base i=false:=fun i hi hn=>by
        rcases h5 with h5 | h5
        · lia
        · exact dn (hint+o) i (by lia) hn h5
      revert f1 f2 f3 f4
      generalize hint+l+1=lo
      generalize hint+min o (n - hint)=hi
      refine fin (fun lo hq=>wpS_pure hq) (fun x lo hi R hz hR=>?_) (fun x lo hi R hz hn hR=>?_) lo hi
      · dsimp only
        rw [if_pos hz]
        exact wpS_pure hR
      · dsimp only
        rw [if_neg (by exact Nat.not_le.mpr ‹_›)]
        refine wpS_bind (bey (by lia) ?_)
        cases e:eZ O key left k arr base (lo+(hi - lo) / 2) with
        | true=>rw [e] at hR;exact wpS_pure hR
        | false=>rw [e] at hR;exact wpS_pure hR
  | false=>
    dsimp only
    rw [if_neg (by simp)]
    refine wpS_bind (wpS_mono (wpS_forRange (I:=fun x c st'=>st'=st∧∃l o,c=(none,l,o)∧l < o∧x < o∧l≤hint∧eZ O key left k arr base (hint - l)=false)
      (Q:=fun c st'=>st'=st∧∃l o,c=(none,l,o)∧l < o∧l≤hint∧eZ O key left k arr base (hint - l)=false∧(hint+1≤o∨eZ O key left k arr base (hint - o)=true)) ?s1 ?s2 ⟨rfl,0,1,rfl,by exact Nat.lt_succ_self _,by exact Nat.lt_succ_self _,by exact Nat.zero_le _,eh⟩) ?s3)
    case s2=>
      rintro c st' ⟨rfl,l,o,rfl,h1,h2,h3,h4⟩
      exact ⟨rfl,l,o,rfl,h1,h3,h4, .inl (by lia)⟩
    case s1=>
      rintro x c st' - hx ⟨rfl,l,o,rfl,h1,h2,h3,h4⟩
      dsimp only
      by_cases z:o≥hint+1
      · rw [if_pos z]
        exact wpS_pure ⟨rfl,l,o,rfl,h1,h3,h4, .inl z⟩
      · rw [if_neg z]
        refine wpS_bind (bey (by exact Nat.lt_of_le_of_lt (Nat.sub_le _ _) ‹_›) ?_)
        cases e:eZ O key left k arr base (hint - o) with
        | false=>exact wpS_pure ⟨rfl,o,2*o+1,rfl,by lia,by lia,by exact Nat.le_of_not_lt ‹_›,e⟩
        | true=>exact wpS_pure ⟨rfl,l,o,rfl,h1,h3,h4, .inr e⟩
    case s3=>
      rintro c st' ⟨rfl,l,o,rfl,h1,h3,h4,h5⟩
      dsimp only
      have f1:hint+1 - min o (hint+1)≤hint - l:=by omega
      have f2:hint - l≤n:=by lia
      have f3:∀i,i < hint+1 - min o (hint+1)→eZ O key left k arr base i=true:=fun i hi=>by
        rcases h5 with h5 | h5
        · lia
        · exact up i (hint - o) (by lia) (by exact Nat.lt_of_le_of_lt (Nat.sub_le _ _) ‹_›) h5
      have f4:∀i,hint - l≤i→i < n→eZ O key left k arr base i=false:=fun i hi hn=>dn _ i hi hn h4
      revert f1 f2 f3 f4
      generalize hint+1 - min o (hint+1)=lo
      generalize hint - l=hi
      refine fin (fun lo hq=>wpS_pure hq) (fun x lo hi R hz hR=>?_) (fun x lo hi R hz hn hR=>?_) lo hi
      · dsimp only
        rw [if_pos hz]
        exact wpS_pure hR
      · dsimp only
        rw [if_neg (by exact Nat.not_le.mpr ‹_›)]
        refine wpS_bind (bey (by lia) ?_)
        cases e:eZ O key left k arr base (lo+(hi - lo) / 2) with
        | true=>rw [e] at hR;exact wpS_pure hR
        | false=>rw [e] at hR;exact wpS_pure hR
end
end NhLS
namespace NhLS
set_option autoImplicit false
open PySem PyProof.Rows
def Le (O:KeyOrd) (key:Keyed→O.α) (x y:Keyed):Prop:=O.blt (key y) (key x)=false
structure G (le:Keyed→Keyed→Prop) (T out ra rb:List Keyed):Prop where
  perm:(out++(ra++rb)).Perm T
  pa:(out++ra).Pairwise le
  pb:(out++rb).Pairwise le
def fk (le:Keyed→Keyed→Prop) (T l:List Keyed):Prop:=l.Perm T∧l.Pairwise le
section
variable {le:Keyed→Keyed→Prop} {T out ra rb p:List Keyed}
theorem G.takeA (g:G le T out (p++ra) rb) (h:∀x∈p,∀y∈rb,le x y):G le T (out++p) ra rb where
  perm:=by have:=g.perm;simpa [List.append_assoc] using this
  pa:=by have:=g.pa;simpa [List.append_assoc] using this
  pb:=by
    have h1:=g.pa
    have h2:=g.pb
    simp only [List.pairwise_append,List.mem_append] at h1 h2 ⊢
    refine ⟨⟨h1.1,h1.2.1.1,fun x hx y hy=>h1.2.2 x hx y (.inl hy)⟩,h2.2.1,fun x hx y hy=>?_⟩
    rcases hx with hx | hx
    · exact h2.2.2 x hx y hy
    · exact h x hx y hy
theorem G.takeB (g:G le T out ra (p++rb)) (h:∀x∈p,∀y∈ra,le x y):G le T (out++p) ra rb where
  perm:=by
    refine List.Perm.trans ?_ g.perm
    rw [List.append_assoc]
    refine List.Perm.append_left _ ?_
    rw [←List.append_assoc,←List.append_assoc]
    exact List.Perm.append_right _ List.perm_append_comm
  pb:=by have:=g.pb;simpa [List.append_assoc] using this
  pa:=by
    have h1:=g.pa
    have h2:=g.pb
    simp only [List.pairwise_append,List.mem_append] at h1 h2 ⊢
    refine ⟨⟨h2.1,h2.2.1.1,fun x hx y hy=>h2.2.2 x hx y (.inl hy)⟩,h1.2.1,fun x hx y hy=>?_⟩
    rcases hx with hx | hx
    · exact h1.2.2 x hx y hy
    · exact h x hx y hy
theorem G.endA (g:G le T out ra []):fk le T (out++ra):=⟨by have:=g.perm;simpa using this,g.pa⟩
theorem G.endB (g:G le T out [] rb):fk le T (out++rb):=⟨by have:=g.perm;simpa using this,g.pb⟩
end
section
variable {O:KeyOrd} {key:Keyed→O.α} {a b:Array Keyed} {T:List Keyed} {out:Array Keyed} {i j ia ib k:Nat} {x y z:Keyed}
theorem Le.refl (x:Keyed):Le O key x x:=O.irrefl _
theorem Le.trans (h1:Le O key x y) (h2:Le O key y z):Le O key x z:=KeyOrd.kle_trans (O:=O) (a:=key x) (b:=key y) (c:=key z) h1 h2
theorem Le.of (h:O.blt (key x) (key y)=true):Le O key x y:=KeyOrd.klt_asymm (O:=O) h
theorem fD (h:i < a.toList.length):a.toList[i]=at' a i:=by
  have h':i < a.size:=by simpa using h
  simp [at',Array.getD,h']
theorem mR (h:y∈a.toList.drop i):∃j,i≤j∧j < a.size∧y=at' a j:=by
  obtain ⟨j,hj,e⟩:=List.mem_iff_getElem.mp h
  rw [List.length_drop,Array.length_toList] at hj
  refine ⟨i+j,by exact Nat.le_add_right _ _,by exact Nat.add_lt_of_lt_sub' ‹_›,?_⟩
  rw [List.getElem_drop] at e
  rw [←e,fD]
theorem ir (h:i < a.size):at' a i∈a.toList:=by
  rw [←fD (by simpa using h)]
  exact List.getElem_mem _
theorem lO (pa:a.toList.Pairwise (Le O key)) (h:i≤j) (hj:j < a.size):Le O key (at' a i) (at' a j):=by
  by_cases e:i=j
  · rw [e];exact Le.refl _
  · have:=List.pairwise_iff_getElem.mp pa i j (by simp;exact Nat.lt_of_le_of_lt ‹_› ‹_›) (by simpa using hj) (by exact Nat.lt_of_le_of_ne ‹_› ‹_›)
    rw [fD,fD] at this
    exact this
theorem oz (pa:a.toList.Pairwise (Le O key)) (h:y∈a.toList.drop i):Le O key (at' a i) y:=by
  obtain ⟨j,h1,h2,rfl⟩:=mR h
  exact lO pa h1 h2
theorem qT (h:i < a.size):a.toList.drop i=[at' a i]++a.toList.drop (i+1):=by
  rw [List.drop_eq_getElem_cons (by simpa using h),fD]
  rfl
theorem qU (k:Nat):a.toList.drop i=(a.extract i (i+k)).toList++a.toList.drop (i+k):=by
  rw [Array.toList_extract,List.extract_eq_take_drop,Nat.add_sub_cancel_left,←List.drop_drop,List.take_append_drop]
theorem jf:(a.extract i).toList=a.toList.drop i:=by
  rw [Array.toList_extract,List.extract_eq_take_drop]
  exact List.take_of_length_le (by simp)
theorem mS (h:a.size≤i):a.toList.drop i=[]:=List.drop_eq_nil_of_le (by simpa using h)
theorem u4 (h:x∈(a.extract i (i+k)).toList):∃j,j < k∧i+j < a.size∧x=at' a (i+j):=by
  rw [Array.toList_extract,List.extract_eq_take_drop,Nat.add_sub_cancel_left] at h
  obtain ⟨j,hj,e⟩:=List.mem_iff_getElem.mp h
  rw [List.length_take,List.length_drop,Array.length_toList] at hj
  refine ⟨j,by lia,by lia,?_⟩
  rw [List.getElem_take,List.getElem_drop] at e
  rw [←e,fD]
theorem G.pushA (g:G (Le O key) T out.toList (a.toList.drop ia) (b.toList.drop ib)) (h:ia < a.size) (hl:∀y∈b.toList.drop ib,Le O key (at' a ia) y):G (Le O key) T (out.push (at' a ia)).toList (a.toList.drop (ia+1)) (b.toList.drop ib):=by
  rw [qT h] at g
  rw [Array.toList_push]
  exact g.takeA fun x hx y hy=>by rw [List.mem_singleton.mp hx];exact hl y hy
theorem G.pushB (g:G (Le O key) T out.toList (a.toList.drop ia) (b.toList.drop ib)) (h:ib < b.size) (hl:∀y∈a.toList.drop ia,Le O key (at' b ib) y):G (Le O key) T (out.push (at' b ib)).toList (a.toList.drop ia) (b.toList.drop (ib+1)):=by
  rw [qT h] at g
  rw [Array.toList_push]
  exact g.takeB fun x hx y hy=>by rw [List.mem_singleton.mp hx];exact hl y hy
theorem G.blkA (g:G (Le O key) T out.toList (a.toList.drop ia) (b.toList.drop ib)) (k:Nat) (hl:∀j,j < k→ia+j < a.size→∀y∈b.toList.drop ib,Le O key (at' a (ia+j)) y):G (Le O key) T (out++a.extract ia (ia+k)).toList (a.toList.drop (ia+k)) (b.toList.drop ib):=by
  rw [qU k] at g
  rw [Array.toList_append]
  exact g.takeA fun x hx y hy=>by obtain ⟨j,h1,h2,rfl⟩:=u4 hx;exact hl j h1 h2 y hy
theorem G.blkB (g:G (Le O key) T out.toList (a.toList.drop ia) (b.toList.drop ib)) (k:Nat) (hl:∀j,j < k→ib+j < b.size→∀y∈a.toList.drop ia,Le O key (at' b (ib+j)) y):G (Le O key) T (out++b.extract ib (ib+k)).toList (a.toList.drop ia) (b.toList.drop (ib+k)):=by
  rw [qU (a:=b) k] at g
  rw [Array.toList_append]
  exact g.takeB fun x hx y hy=>by obtain ⟨j,h1,h2,rfl⟩:=u4 hx;exact hl j h1 h2 y hy
theorem G.doneB (g:G (Le O key) T out.toList (a.toList.drop ia) (b.toList.drop ib)) (h:b.size≤ib):fk (Le O key) T (out++a.extract ia++b.extract ib).toList:=by
  rw [Array.toList_append,Array.toList_append,jf,jf,mS h,List.append_nil]
  rw [mS h] at g
  exact g.endA
theorem G.doneA (g:G (Le O key) T out.toList (a.toList.drop ia) (b.toList.drop ib)) (h:a.size≤ia):fk (Le O key) T (out++a.extract ia++b.extract ib).toList:=by
  rw [Array.toList_append,Array.toList_append,jf,jf,mS h,List.append_nil]
  rw [mS h] at g
  exact g.endB
theorem G.lastA (g:G (Le O key) T out.toList (a.toList.drop ia) (b.toList.drop ib)) (h:ia+1=a.size) (h1:∀y∈b.toList,Le O key y (at' a (a.size - 1))):fk (Le O key) T (out++b.extract ib++a.extract ia).toList:=by
  rw [Array.toList_append,Array.toList_append,jf,jf]
  have g':G (Le O key) T out.toList (a.toList.drop ia) (b.toList.drop ib++[]):=by rw [List.append_nil];exact g
  refine (g'.takeB fun x hx y hy=>?_).endA
  obtain ⟨j,q1,q2,rfl⟩:=mR hy
  rw [show j=a.size - 1 by lia]
  exact h1 x (List.mem_of_mem_drop hx)
end
def SS (st st':SortSt):Prop:=∃g,st'=SortSt.mk' (kindOf st) (arrOf st) (pendingOf st) g (failedOf st)
theorem SS.refl (st:SortSt):SS st st:=⟨gallopOf st,rfl⟩
theorem SS.kind {st st':SortSt} (h:SS st st'):kindOf st'=kindOf st:=by obtain ⟨g,rfl⟩:=h;rfl
section
variable {prog:Program} {w:World} {A:Around} {E:Value→Shared→Prop} {s:Shared} {κ:SortKind} {O:KeyOrd} {key:Keyed→O.α} {dom:Keyed→Prop} {st:SortSt}
def AE:Nat→StateT SortSt Sem Unit:=sortPriv% PySem.Builtin.setMinGallop
theorem mT {st':SortSt} {g:Nat} {Q:Unit→SortSt→Prop} (hs:SS st st') (h:∀st2,SS st st2→Q () st2):wpS (model prog w) A E s (AE g) Q st':=
  wpS_modify (h _ (by obtain ⟨g',rfl⟩:=hs;exact ⟨g,rfl⟩))
theorem aQ {α:Type} {c:Prop} [Decidable c] {x y:StateT SortSt Sem α} {Q:α→SortSt→Prop} (hc:c) (h:wpS (model prog w) A E s x Q st):wpS (model prog w) A E s (if c then x else y) Q st:=by rw [if_pos hc];exact h
theorem aL {α:Type} {c:Prop} [Decidable c] {x y:StateT SortSt Sem α} {Q:α→SortSt→Prop} (hc:¬c) (h:wpS (model prog w) A E s y Q st):wpS (model prog w) A E s (if c then x else y) Q st:=by rw [if_neg hc];exact h
theorem yX {α:Type} {m:StateT SortSt Sem α} {Q:α→SortSt→Prop} (h:∀R,R=Q→wpS (model prog w) A E s m R st):wpS (model prog w) A E s m Q st:=h Q rfl
theorem AF {α:Type} {c:Prop} [Decidable c] (f:Nat→StateT SortSt Sem α) {x y:Nat} {Q:α→SortSt→Prop} (h:∀m,wpS (model prog w) A E s (f m) Q st):wpS (model prog w) A E s (if c then f x else f y) Q st:=by
  split <;> exact h _
theorem sP (C:Cmp prog w A s κ O key dom) {a b:Array Keyed} {Q:Array Keyed→SortSt→Prop} (hk:kindOf st=κ) (da:∀x∈a.toList,dom x) (db:∀x∈b.toList,dom x) (ha:0 < a.size) (hb:0 < b.size)
    (pa:a.toList.Pairwise (Le O key)) (pb:b.toList.Pairwise (Le O key)) (h0:O.blt (key (at' b 0)) (key (at' a 0))=true) (h1:∀y∈b.toList,Le O key y (at' a (a.size - 1)))
    (h:∀r st',SS st st'→fk (Le O key) (a.toList++b.toList) r.toList→Q r st'):wpS (model prog w) A E s (uY a b) Q st:=by
  refine wpS_bind (wpS_lift (wpAny_rule ⟨rfl,?_⟩))
  refine wpS_bind (eU hb ?_)
  obtain ⟨T,hT⟩:∃T,T=a.toList++b.toList:=⟨_,rfl⟩
  rw [←hT] at h
  have g0:G (Le O key) T (#[at' b 0]:Array Keyed).toList (a.toList.drop 0) (b.toList.drop 1):=by
    have q:G (Le O key) T (#[]:Array Keyed).toList (a.toList.drop 0) (b.toList.drop 0):=⟨by simp [hT],by simpa using pa,by simpa using pb⟩
    exact q.pushB hb fun y hy=>(Le.of h0).trans (oz pa hy)
  have dA:∀i,i < a.size→dom (at' a i):=fun i hi=>da _ (ir hi)
  have dB:∀i,i < b.size→dom (at' b i):=fun i hi=>db _ (ir hi)
  extract_lets o0 i0 i1
  by_cases e1:(1 == b.size)=true
  · refine aQ e1 ?_
    exact wpS_pure (h _ st (SS.refl _) (g0.doneB (by simp at e1;exact Nat.le_of_eq (Eq.symm ‹_›))))
  refine aL e1 ?_
  by_cases e2:(0+1 == a.size)=true
  · refine aQ e2 ?_
    exact wpS_pure (h _ st (SS.refl _) (g0.lastA (by simpa using e2) h1))
  refine aL e2 ?_
  refine wpS_bind (wpS_get ?_)
  refine wpS_bind (wpS_mono (wpS_forRange (I:=fun x c st'=>SS st st'∧∃out ia ib mg,c=(none,out,ia,ib,mg)∧ia+1 < a.size∧ib < b.size∧x < ia+ib∧G (Le O key) T out.toList (a.toList.drop ia) (b.toList.drop ib))
    (Q:=fun c st'=>SS st st'∧∃r o,c=(some r,o)∧fk (Le O key) T r.toList) ?s1 ?s2 ⟨SS.refl _,_,0,1,_,rfl,by simp at e2;exact Nat.lt_of_le_of_ne ‹_› ‹_›,by simp at e1;exact Nat.lt_of_le_of_ne ‹_› ‹_›,by exact Nat.lt_succ_self _,g0⟩) ?s3)
  case s3=>
    rintro c st' ⟨hs,r,o,rfl,hg⟩
    exact wpS_pure (h r st' hs hg)
  case s2=>
    rintro c st' ⟨hs,out,ia,ib,mg,rfl,q1,q2,q3,g⟩
    lia
  case s1=>
    rintro x c st1 - hx ⟨hs,out,ia,ib,mg,rfl,q1,q2,q3,g⟩
    refine wpS_bind (wpS_mono (wpS_forRange (I:=fun y c st'=>SS st st'∧∃out ia ib ac bc,c=(none,out,ia,ib,ac,bc)∧ia+1 < a.size∧ib < b.size∧x < ia+ib∧(y=0∨x+1 < ia+ib)∧G (Le O key) T out.toList (a.toList.drop ia) (b.toList.drop ib))
      (Q:=fun c st'=>SS st st'∧((∃r o,c=(some r,o)∧fk (Le O key) T r.toList)∨∃out ia ib ac bc,c=(none,out,ia,ib,ac,bc)∧ia+1 < a.size∧ib < b.size∧x+1 < ia+ib∧G (Le O key) T out.toList (a.toList.drop ia) (b.toList.drop ib))) ?t1 ?t2 ⟨hs,out,ia,ib,0,0,rfl,q1,q2,q3, .inl rfl,g⟩) ?t3)
    case t2=>
      rintro c st' ⟨hs,out,ia,ib,ac,bc,rfl,q1,q2,q3,q4,g⟩
      exact ⟨hs, .inr ⟨out,ia,ib,ac,bc,rfl,q1,q2,by lia,g⟩⟩
    case t1=>
      rintro y c st2 - hy ⟨hs,out,ia,ib,ac,bc,rfl,q1,q2,q3,q4,g⟩
      have q0:ia < a.size:=by exact Nat.lt_of_succ_lt ‹_›
      refine wpS_bind (eU q2 ?_)
      refine wpS_bind (eU q0 ?_)
      refine wpS_bind (u0 C (hs.kind.trans hk) (dB _ q2) (dA _ q0) ?_)
      cases e:O.blt (key (at' b ib)) (key (at' a ia)) with
      | true=>
        refine wpS_bind (eU q2 ?_)
        have g':=g.pushB q2 (fun y hy=>(Le.of e).trans (oz pa hy))
        by_cases z:(ib+1 == b.size)=true
        · exact aQ z (wpS_pure ⟨hs, .inl ⟨_,_,rfl,g'.doneB (by simp at z;exact Nat.le_of_eq (Eq.symm ‹_›))⟩⟩)
        · refine aL z ?_
          have z':ib+1 < b.size:=by simp at z;exact Nat.lt_of_le_of_ne ‹_› ‹_›
          dsimp only
          split
          · exact wpS_pure ⟨hs, .inr ⟨_,_,_,_,_,rfl,q1,z',by exact Nat.succ_lt_succ ‹_›,g'⟩⟩
          · exact wpS_pure ⟨hs,_,_,_,_,_,rfl,q1,z',by exact Nat.lt_succ_of_lt ‹_›, .inr (by exact Nat.succ_lt_succ ‹_›),g'⟩
      | false=>
        refine wpS_bind (eU q0 ?_)
        have g':=g.pushA (by assumption) (fun y hy=>Le.trans e (oz pb hy))
        by_cases z:(ia+1+1 == a.size)=true
        · exact aQ z (wpS_pure ⟨hs, .inl ⟨_,_,rfl,g'.lastA (by simpa using z) h1⟩⟩)
        · refine aL z ?_
          have z':ia+1+1 < a.size:=by simp at z;exact Nat.lt_of_le_of_ne ‹_› ‹_›
          dsimp only
          split
          · exact wpS_pure ⟨hs, .inr ⟨_,_,_,_,_,rfl,z',q2,by lia,g'⟩⟩
          · exact wpS_pure ⟨hs,_,_,_,_,_,rfl,z',q2,by lia, .inr (by lia),g'⟩
    case t3=>
      rintro c st2 ⟨hs,⟨r,o,rfl,hg⟩ | ⟨out,ia,ib,ac,bc,rfl,q1,q2,q3,g⟩⟩
      · exact wpS_pure ⟨hs,r,_,rfl,hg⟩
      · refine wpS_bind (wpS_lift (wpAny_rule ⟨rfl,?_⟩))
        refine wpS_bind (wpS_mono (wpS_forRange (I:=fun y c st'=>SS st st'∧∃out ia ib mg ac bc,c=(none,out,ia,ib,mg,ac,bc)∧ia+1 < a.size∧ib < b.size∧x+1 < ia+ib∧G (Le O key) T out.toList (a.toList.drop ia) (b.toList.drop ib))
          (Q:=fun c st'=>SS st st'∧((∃r o,c=(some r,o)∧fk (Le O key) T r.toList)∨∃out ia ib mg ac bc,c=(none,out,ia,ib,mg,ac,bc)∧ia+1 < a.size∧ib < b.size∧x+1 < ia+ib∧G (Le O key) T out.toList (a.toList.drop ia) (b.toList.drop ib))) ?u1 ?u2 ⟨hs,out,ia,ib,_,ac,bc,rfl,q1,q2,q3,g⟩) ?u3)
        case u2=>
          rintro c st' ⟨hs,out,ia,ib,mg,ac,bc,rfl,q1,q2,q3,g⟩
          exact ⟨hs, .inr ⟨out,ia,ib,mg,ac,bc,rfl,q1,q2,by assumption,g⟩⟩
        case u3=>
          rintro c st3 ⟨hs,⟨r,o,rfl,hg⟩ | ⟨out,ia,ib,mg,ac,bc,rfl,q1,q2,q3,g⟩⟩
          · exact wpS_pure ⟨hs,r,_,rfl,hg⟩
          · exact wpS_bind (mT hs fun st4 h4=>wpS_pure ⟨h4,out,ia,ib,_,rfl,q1,q2,q3,g⟩)
        case u1=>
          rintro y c st3 - hy ⟨hs,out,ia,ib,mg,ac,bc,rfl,q1,q2,q3,g⟩
          refine yX fun R hR=>?_
          have Rd:∀r o st',SS st st'→fk (Le O key) T r.toList→R (.done (some r,o)) st':=fun r o st' a1 a2=>by rw [hR];exact ⟨a1, .inl ⟨r,o,rfl,a2⟩⟩
          have Rn:∀out ia ib mg ac bc st',SS st st'→ia+1 < a.size→ib < b.size→x+1 < ia+ib→G (Le O key) T out.toList (a.toList.drop ia) (b.toList.drop ib)→R (.done (none,out,ia,ib,mg,ac,bc)) st':=
            fun out ia ib mg ac bc st' a1 a2 a3 a4 a5=>by rw [hR];exact ⟨a1, .inr ⟨_,_,_,_,_,_,rfl,a2,a3,a4,a5⟩⟩
          have Ry:∀out ia ib mg ac bc st',SS st st'→ia+1 < a.size→ib < b.size→x+1 < ia+ib→G (Le O key) T out.toList (a.toList.drop ia) (b.toList.drop ib)→R (.yield (none,out,ia,ib,mg,ac,bc)) st':=
            fun out ia ib mg ac bc st' a1 a2 a3 a4 a5=>by rw [hR];exact ⟨a1,_,_,_,_,_,_,rfl,a2,a3,a4,a5⟩
          clear hR
          extract_lets
          rename Unit→Nat→_=>jp
          refine AF (jp ()) fun mg'=>?_
          refine wpS_bind (mT hs fun st4 h4=>?_)
          refine wpS_bind (eU q2 ?_)
          refine wpS_bind (fB C (base:=ia) (n:=a.size - ia) (hint:=0) (h4.kind.trans hk) (by exact Nat.sub_pos_of_lt (Nat.lt_of_succ_lt ‹_›)) (by exact Nat.le_of_eq (Nat.add_sub_of_le (Nat.le_of_lt (Nat.lt_of_succ_lt ‹_›)))) (dB _ q2) dA ?m1 fun k hk1 hk2 hk3=>?_)
          case m1=>
            intro i j hij hj e
            simp only [eZ,Bool.false_eq_true,if_false,Bool.not_eq_true'] at e ⊢
            exact (lO pa (by lia) (by exact Nat.add_lt_of_lt_sub' ‹_›):Le O key (at' a (ia+i)) (at' a (ia+j))).trans e
          simp only [eZ,Bool.false_eq_true,if_false,Bool.not_eq_true',Bool.not_eq_false'] at hk2 hk3
          dsimp -zeta only
          extract_lets
          rename Unit→Array Keyed→Nat→_=>jp1
          have J1:∀(out:Array Keyed) (ia:Nat),ia+1 < a.size→x+1 < ia+ib→G (Le O key) T out.toList (a.toList.drop ia) (b.toList.drop ib)→(∀y∈a.toList.drop ia,Le O key (at' b ib) y)→wpS (model prog w) A E s (jp1 () out ia) R st4:=by
            intro out ia q1 q3 g hl
            have q0:ia < a.size:=by exact Nat.lt_of_succ_lt ‹_›
            refine wpS_bind (eU q2 ?_)
            have g':=g.pushB q2 hl
            by_cases z:(ib+1 == b.size)=true
            · exact aQ z (wpS_pure (Rd _ _ _ h4 (g'.doneB (by simp at z;exact Nat.le_of_eq (Eq.symm ‹_›)))))
            refine aL z ?_
            have z':ib+1 < b.size:=by simp at z;exact Nat.lt_of_le_of_ne ‹_› ‹_›
            refine wpS_bind (eU q0 ?_)
            refine wpS_bind (fB C (base:=ib+1) (n:=b.size - (ib+1)) (hint:=0) (h4.kind.trans hk) (by exact Nat.sub_pos_of_lt ‹_›) (by exact Nat.le_of_eq (Nat.add_sub_of_le ‹_›)) (dA _ q0) dB ?m2 fun k' hk1' hk2' hk3'=>?_)
            case m2=>
              intro i j hij hj e
              simp only [eZ,if_true] at e ⊢
              exact KeyOrd.klt_of_kle_of_klt (O:=O) (lO pb (by lia) (by exact Nat.add_lt_of_lt_sub' ‹_›):Le O key (at' b (ib+1+i)) (at' b (ib+1+j))) e
            simp only [eZ,if_true] at hk2' hk3'
            dsimp -zeta only
            extract_lets
            rename Unit→Array Keyed→Nat→_=>jp2
            have J2:∀(out:Array Keyed) (ib':Nat),ib' < b.size→x+1 < ia+ib'→G (Le O key) T out.toList (a.toList.drop ia) (b.toList.drop ib')→(∀y∈b.toList.drop ib',Le O key (at' a ia) y)→wpS (model prog w) A E s (jp2 () out ib') R st4:=by
              intro out ib' p2 p3 g hl
              refine wpS_bind (eU q0 ?_)
              have g':=g.pushA q0 hl
              by_cases z:(ia+1+1 == a.size)=true
              · exact aQ z (wpS_pure (Rd _ _ _ h4 (g'.lastA (by simpa using z) h1)))
              refine aL z ?_
              have z':ia+1+1 < a.size:=by simp at z;exact Nat.lt_of_le_of_ne ‹_› ‹_›
              by_cases z2:(decide (k < 7)&&decide (k' < 7))=true
              · exact aQ z2 (wpS_pure (Rn _ _ _ _ _ _ _ h4 z' p2 (by lia) g'))
              · exact aL z2 (wpS_pure (Ry _ _ _ _ _ _ _ h4 z' p2 (by lia) g'))
            clear_value jp2
            have tl:∀y∈b.toList.drop (ib+1+k'),Le O key (at' a ia) y:=fun y hy=>by
              obtain ⟨j,r1,r2,rfl⟩:=mR hy
              have:=hk3' (j - (ib+1)) (by exact Nat.le_sub_of_add_le' ‹_›) (by exact Nat.sub_lt_sub_right (Nat.le_trans (Nat.le_add_right _ _) ‹_›) ‹_›)
              rwa [show ib+1+(j - (ib+1))=j by exact Nat.add_sub_of_le (Nat.le_trans (Nat.le_add_right _ _) ‹_›)] at this
            by_cases z2:k' > 0
            · refine aQ z2 ?_
              have g2:=g'.blkB k' fun j j1 j2 y hy=>(Le.of (hk2' j j1)).trans (oz pa hy)
              by_cases z3:(ib+1+k' == b.size)=true
              · exact aQ z3 (wpS_pure (Rd _ _ _ h4 (g2.doneB (by simp at z3;exact Nat.le_of_eq (Eq.symm ‹_›)))))
              · exact aL z3 (J2 _ (ib+1+k') (by simp at z3;lia) (by lia) g2 tl)
            · have k0:k'=0:=by exact Nat.eq_zero_of_not_pos ‹_›
              subst k0
              exact aL z2 (J2 _ (ib+1) z' (by exact Nat.lt_succ_of_lt ‹_›) g' tl)
          clear_value jp1
          have tl:∀y∈a.toList.drop (ia+k),Le O key (at' b ib) y:=fun y hy=>by
            obtain ⟨j,r1,r2,rfl⟩:=mR hy
            have:=hk3 (j - ia) (by exact Nat.le_sub_of_add_le' ‹_›) (by exact Nat.sub_lt_sub_right (Nat.le_trans (Nat.le_add_right _ _) ‹_›) ‹_›)
            rw [show ia+(j - ia)=j by exact Nat.add_sub_of_le (Nat.le_trans (Nat.le_add_right _ _) ‹_›)] at this
            exact Le.of this
          by_cases z2:k > 0
          · refine aQ z2 ?_
            have g2:=g.blkA k fun j j1 j2 y hy=>Le.trans (hk2 j j1) (oz pb hy)
            by_cases z3:(ia+k+1 == a.size)=true
            · exact aQ z3 (wpS_pure (Rd _ _ _ h4 (g2.lastA (by simpa using z3) h1)))
            refine aL z3 ?_
            by_cases z4:(ia+k == a.size)=true
            · exact aQ z4 (wpS_pure (Rd _ _ _ h4 (g2.doneA (by simp at z4;exact Nat.le_of_eq (Eq.symm ‹_›)))))
            · exact aL z4 (J1 _ (ia+k) (by simp at z3 z4;lia) (by lia) g2 tl)
          · have k0:k=0:=by exact Nat.eq_zero_of_not_pos ‹_›
            subst k0
            exact aL z2 (J1 _ ia q1 q3 g tl)
end
end NhLS
namespace NhLS
set_option autoImplicit false
open PySem PyProof.Rows
structure H (le:Keyed→Keyed→Prop) (T ra rb out:List Keyed):Prop where
  perm:(ra++rb++out).Perm T
  pa:(ra++out).Pairwise le
  pb:(rb++out).Pairwise le
section
variable {le:Keyed→Keyed→Prop} {T out ra rb p:List Keyed}
theorem H.takeA (g:H le T (ra++p) rb out) (h:∀x∈p,∀y∈rb,le y x):H le T ra rb (p++out) where
  perm:=by
    refine List.Perm.trans ?_ g.perm
    rw [←List.append_assoc]
    refine List.Perm.append_right _ ?_
    rw [List.append_assoc,List.append_assoc]
    exact List.Perm.append_left _ List.perm_append_comm
  pa:=by have:=g.pa;simpa [List.append_assoc] using this
  pb:=by
    have h1:=g.pa
    have h2:=g.pb
    simp only [List.pairwise_append,List.mem_append] at h1 h2 ⊢
    refine ⟨h2.1,⟨h1.1.2.1,h1.2.1,fun x hx y hy=>h1.2.2 x (.inr hx) y hy⟩,fun x hx y hy=>?_⟩
    rcases hy with hy | hy
    · exact h y hy x hx
    · exact h2.2.2 x hx y hy
theorem H.takeB (g:H le T ra (rb++p) out) (h:∀x∈p,∀y∈ra,le y x):H le T ra rb (p++out) where
  perm:=by have:=g.perm;simpa [List.append_assoc] using this
  pb:=by have:=g.pb;simpa [List.append_assoc] using this
  pa:=by
    have h1:=g.pa
    have h2:=g.pb
    simp only [List.pairwise_append,List.mem_append] at h1 h2 ⊢
    refine ⟨h1.1,⟨h2.1.2.1,h2.2.1,fun x hx y hy=>h2.2.2 x (.inr hx) y hy⟩,fun x hx y hy=>?_⟩
    rcases hy with hy | hy
    · exact h y hy x hx
    · exact h1.2.2 x hx y hy
theorem H.endA (g:H le T ra [] out):fk le T (ra++out):=⟨by have:=g.perm;simpa using this,g.pa⟩
theorem H.endB (g:H le T [] rb out):fk le T (rb++out):=⟨by have:=g.perm;simpa using this,g.pb⟩
end
section
variable {O:KeyOrd} {key:Keyed→O.α} {a b:Array Keyed} {T:List Keyed} {out:Array Keyed} {i j na nb k:Nat} {x y z:Keyed}
theorem mU (h:y∈a.toList.take i):∃j,j < i∧j < a.size∧y=at' a j:=by
  obtain ⟨j,hj,e⟩:=List.mem_iff_getElem.mp h
  rw [List.length_take,Array.length_toList] at hj
  refine ⟨j,by lia,by lia,?_⟩
  rw [List.getElem_take] at e
  rw [←e,fD]
theorem qV (pa:a.toList.Pairwise (Le O key)) (hi:i < a.size) (h:y∈a.toList.take (i+1)):Le O key y (at' a i):=by
  obtain ⟨j,h1,h2,rfl⟩:=mU h
  exact lO pa (by exact Nat.le_of_lt_succ ‹_›) hi
theorem qW (h:i < a.size):a.toList.take (i+1)=a.toList.take i++[at' a i]:=by
  rw [List.take_succ_eq_append_getElem (by simpa using h),fD]
theorem mV (h:i≤j):a.toList.take j=a.toList.take i++(a.extract i j).toList:=by
  rw [Array.toList_extract,List.extract_eq_take_drop,←List.take_add]
  congr 1
  lia
theorem jg:(a.extract 0 i).toList=a.toList.take i:=by
  rw [Array.toList_extract,List.extract_eq_take_drop]
  rfl
theorem mW (h:x∈(a.extract i j).toList):∃k,i≤k∧k < j∧k < a.size∧x=at' a k:=by
  rw [Array.toList_extract,List.extract_eq_take_drop] at h
  obtain ⟨k,hk,e⟩:=List.mem_iff_getElem.mp h
  rw [List.length_take,List.length_drop,Array.length_toList] at hk
  refine ⟨i+k,by exact Nat.le_add_right _ _,by lia,by lia,?_⟩
  rw [List.getElem_take,List.getElem_drop] at e
  rw [←e,fD]
theorem H.pushA (g:H (Le O key) T (a.toList.take (na+1)) (b.toList.take nb) out.toList.reverse) (h:na < a.size) (hl:∀y∈b.toList.take nb,Le O key y (at' a na)):H (Le O key) T (a.toList.take na) (b.toList.take nb) (out.push (at' a na)).toList.reverse:=by
  rw [qW h] at g
  rw [Array.toList_push,List.reverse_append]
  exact g.takeA fun x hx y hy=>by rw [List.mem_singleton.mp hx];exact hl y hy
theorem H.pushB (g:H (Le O key) T (a.toList.take na) (b.toList.take (nb+1)) out.toList.reverse) (h:nb < b.size) (hl:∀y∈a.toList.take na,Le O key y (at' b nb)):H (Le O key) T (a.toList.take na) (b.toList.take nb) (out.push (at' b nb)).toList.reverse:=by
  rw [qW h] at g
  rw [Array.toList_push,List.reverse_append]
  exact g.takeB fun x hx y hy=>by rw [List.mem_singleton.mp hx];exact hl y hy
theorem H.blkA (g:H (Le O key) T (a.toList.take na) (b.toList.take nb) out.toList.reverse) (h:i≤na) (hl:∀j,i≤j→j < na→j < a.size→∀y∈b.toList.take nb,Le O key y (at' a j)):H (Le O key) T (a.toList.take i) (b.toList.take nb) (out++(a.extract i na).reverse).toList.reverse:=by
  rw [mV h] at g
  rw [Array.toList_append,List.reverse_append,Array.toList_reverse,List.reverse_reverse]
  exact g.takeA fun x hx y hy=>by obtain ⟨j,h1,h2,h3,rfl⟩:=mW hx;exact hl j h1 h2 h3 y hy
theorem H.blkB (g:H (Le O key) T (a.toList.take na) (b.toList.take nb) out.toList.reverse) (h:i≤nb) (hl:∀j,i≤j→j < nb→j < b.size→∀y∈a.toList.take na,Le O key y (at' b j)):H (Le O key) T (a.toList.take na) (b.toList.take i) (out++(b.extract i nb).reverse).toList.reverse:=by
  rw [mV (a:=b) h] at g
  rw [Array.toList_append,List.reverse_append,Array.toList_reverse,List.reverse_reverse]
  exact g.takeB fun x hx y hy=>by obtain ⟨j,h1,h2,h3,rfl⟩:=mW hx;exact hl j h1 h2 h3 y hy
theorem H.doneA (g:H (Le O key) T (a.toList.take na) (b.toList.take nb) out.toList.reverse) (h:na=0):fk (Le O key) T (a.extract 0 na++b.extract 0 nb++out.reverse).toList:=by
  subst h
  rw [Array.toList_append,Array.toList_append,jg,jg,Array.toList_reverse]
  exact g.endB
theorem H.doneB (g:H (Le O key) T (a.toList.take na) (b.toList.take nb) out.toList.reverse) (h:nb=0):fk (Le O key) T (a.extract 0 na++b.extract 0 nb++out.reverse).toList:=by
  subst h
  rw [Array.toList_append,Array.toList_append,jg,jg,Array.toList_reverse,List.take_zero,List.append_nil]
  exact g.endA
theorem H.firstB (g:H (Le O key) T (a.toList.take na) (b.toList.take nb) out.toList.reverse) (h:nb=1) (h1:∀y∈a.toList,Le O key (at' b 0) y):fk (Le O key) T (b.extract 0 nb++a.extract 0 na++out.reverse).toList:=by
  rw [Array.toList_append,Array.toList_append,jg,jg,Array.toList_reverse,List.append_assoc]
  have g':H (Le O key) T ([]++a.toList.take na) (b.toList.take nb) out.toList.reverse:=g
  refine (g'.takeA fun x hx y hy=>?_).endB
  obtain ⟨j,q1,q2,rfl⟩:=mU hy
  rw [show j=0 by lia]
  exact h1 x (List.mem_of_mem_take hx)
end
section
variable {prog:Program} {w:World} {A:Around} {E:Value→Shared→Prop} {s:Shared} {κ:SortKind} {O:KeyOrd} {key:Keyed→O.α} {dom:Keyed→Prop} {st:SortSt}
theorem fm {α:Type} {c:Prop} [Decidable c] {x y:StateT SortSt Sem α} {Q:α→SortSt→Prop} (h1:c→wpS (model prog w) A E s x Q st) (h2:¬c→wpS (model prog w) A E s y Q st):wpS (model prog w) A E s (if c then x else y) Q st:=by
  split
  · rename_i z;exact h1 z
  · rename_i z;exact h2 z
theorem sQ (C:Cmp prog w A s κ O key dom) {a b:Array Keyed} {Q:Array Keyed→SortSt→Prop} (hk:kindOf st=κ) (da:∀x∈a.toList,dom x) (db:∀x∈b.toList,dom x) (ha:0 < a.size) (hb:0 < b.size)
    (pa:a.toList.Pairwise (Le O key)) (pb:b.toList.Pairwise (Le O key)) (h0:∀y∈b.toList,Le O key y (at' a (a.size - 1))) (h1:∀y∈a.toList,Le O key (at' b 0) y)
    (h:∀r st',SS st st'→fk (Le O key) (a.toList++b.toList) r.toList→Q r st'):wpS (model prog w) A E s (uZ a b) Q st:=by
  refine wpS_bind (wpS_lift (wpAny_rule ⟨rfl,?_⟩))
  have ha':a.size - 1 < a.size:=by exact Nat.sub_lt ‹_› Nat.one_pos
  refine wpS_bind (eU ha' ?_)
  obtain ⟨T,hT⟩:∃T,T=a.toList++b.toList:=⟨_,rfl⟩
  rw [←hT] at h
  have g0:H (Le O key) T (a.toList.take (a.size - 1)) (b.toList.take b.size) (#[at' a (a.size - 1)]:Array Keyed).toList.reverse:=by
    have q:H (Le O key) T (a.toList.take (a.size - 1+1)) (b.toList.take b.size) (#[]:Array Keyed).toList.reverse:=by
      have e1:a.toList.take (a.size - 1+1)=a.toList:=List.take_of_length_le (by simp;lia)
      have e2:b.toList.take b.size=b.toList:=List.take_of_length_le (by simp)
      rw [e1,e2]
      exact ⟨by simp [hT],by simpa using pa,by simpa using pb⟩
    exact q.pushA ha' fun y hy=>h0 y (List.mem_of_mem_take hy)
  have dA:∀i,i < a.size→dom (at' a i):=fun i hi=>da _ (ir hi)
  have dB:∀i,i < b.size→dom (at' b i):=fun i hi=>db _ (ir hi)
  by_cases e1:(a.size - 1 == 0)=true
  · refine aQ e1 ?_
    exact wpS_pure (h _ st (SS.refl _) (g0.doneA (by simpa using e1)))
  refine aL e1 ?_
  by_cases e2:(b.size == 1)=true
  · refine aQ e2 ?_
    exact wpS_pure (h _ st (SS.refl _) (g0.firstB (by simpa using e2) h1))
  refine aL e2 ?_
  refine wpS_bind (wpS_get ?_)
  refine wpS_bind (wpS_mono (wpS_forRange (I:=fun x c st'=>SS st st'∧∃na nb out mg,c=(none,na,nb,out,mg)∧na≤a.size∧1≤na∧nb≤b.size∧2≤nb∧na+nb+x < a.size+b.size∧H (Le O key) T (a.toList.take na) (b.toList.take nb) out.toList.reverse)
    (Q:=fun c st'=>SS st st'∧∃r o,c=(some r,o)∧fk (Le O key) T r.toList) ?s1 ?s2 ⟨SS.refl _,a.size - 1,b.size,_,_,rfl,by exact Nat.sub_le _ _,by simp at e1;exact Nat.pos_of_ne_zero ‹_›,by exact Nat.le_refl _,by simp at e2;lia,by lia,g0⟩) ?s3)
  case s3=>
    rintro c st' ⟨hs,r,o,rfl,hg⟩
    exact wpS_pure (h r st' hs hg)
  case s2=>
    rintro c st' ⟨hs,na,nb,out,mg,rfl,p1,q1,p2,q2,q3,g⟩
    lia
  case s1=>
    rintro x c st1 - hx ⟨hs,na,nb,out,mg,rfl,p1,q1,p2,q2,q3,g⟩
    refine wpS_bind (wpS_mono (wpS_forRange (I:=fun y c st'=>SS st st'∧∃na nb out ac bc,c=(none,na,nb,out,ac,bc)∧na≤a.size∧1≤na∧nb≤b.size∧2≤nb∧na+nb+x < a.size+b.size∧(y=0∨na+nb+(x+1) < a.size+b.size)∧H (Le O key) T (a.toList.take na) (b.toList.take nb) out.toList.reverse)
      (Q:=fun c st'=>SS st st'∧((∃r o,c=(some r,o)∧fk (Le O key) T r.toList)∨∃na nb out ac bc,c=(none,na,nb,out,ac,bc)∧na≤a.size∧1≤na∧nb≤b.size∧2≤nb∧na+nb+(x+1) < a.size+b.size∧H (Le O key) T (a.toList.take na) (b.toList.take nb) out.toList.reverse)) ?t1 ?t2 ⟨hs,na,nb,out,0,0,rfl,p1,q1,p2,q2,q3, .inl rfl,g⟩) ?t3)
    case t2=>
      rintro c st' ⟨hs,na,nb,out,ac,bc,rfl,p1,q1,p2,q2,q3,q4,g⟩
      exact ⟨hs, .inr ⟨na,nb,out,ac,bc,rfl,p1,q1,p2,q2,by lia,g⟩⟩
    case t1=>
      rintro y c st2 - hy ⟨hs,na,nb,out,ac,bc,rfl,p1,q1,p2,q2,q3,q4,g⟩
      obtain ⟨na,rfl⟩:∃n,na=n+1:=⟨na - 1,by exact (Nat.sub_add_cancel ‹_›).symm⟩
      obtain ⟨nb,rfl⟩:∃n,nb=n+1:=⟨nb - 1,by lia⟩
      have p1':na < a.size:=by assumption
      have p2':nb < b.size:=by assumption
      refine wpS_bind (eU p2' ?_)
      refine wpS_bind (eU p1' ?_)
      refine wpS_bind (u0 C (hs.kind.trans hk) (dB _ p2') (dA _ p1') ?_)
      simp only [Nat.add_sub_cancel]
      cases e:O.blt (key (at' b nb)) (key (at' a na)) with
      | true=>
        refine wpS_bind (eU p1' ?_)
        have g':=g.pushA p1' (fun y hy=>(qV pb p2' hy).trans (Le.of e))
        by_cases z:(na == 0)=true
        · exact aQ z (wpS_pure ⟨hs, .inl ⟨_,_,rfl,g'.doneA (by simpa using z)⟩⟩)
        · refine aL z ?_
          have z':1≤na:=by simp at z;exact Nat.pos_of_ne_zero ‹_›
          split
          · exact wpS_pure ⟨hs, .inr ⟨na,nb+1,_,_,_,rfl,by exact Nat.le_of_lt ‹_›,z',p2,q2,by lia,g'⟩⟩
          · exact wpS_pure ⟨hs,na,nb+1,_,_,_,rfl,by exact Nat.le_of_lt ‹_›,z',p2,q2,by lia, .inr (by lia),g'⟩
      | false=>
        refine wpS_bind (eU p2' ?_)
        have g':=g.pushB p2' (fun y hy=>(qV pa p1' hy).trans e)
        by_cases z:(nb == 1)=true
        · exact aQ z (wpS_pure ⟨hs, .inl ⟨_,_,rfl,g'.firstB (by simpa using z) h1⟩⟩)
        · refine aL z ?_
          have z':2≤nb:=by simp at z;lia
          split
          · exact wpS_pure ⟨hs, .inr ⟨na+1,nb,_,_,_,rfl,p1,q1,by exact Nat.le_of_lt ‹_›,z',by lia,g'⟩⟩
          · exact wpS_pure ⟨hs,na+1,nb,_,_,_,rfl,p1,q1,by exact Nat.le_of_lt ‹_›,z',by lia, .inr (by lia),g'⟩
    case t3=>
      rintro c st2 ⟨hs,⟨r,o,rfl,hg⟩ | ⟨na,nb,out,ac,bc,rfl,p1,q1,p2,q2,q3,g⟩⟩
      · exact wpS_pure ⟨hs,r,_,rfl,hg⟩
      · refine wpS_bind (wpS_lift (wpAny_rule ⟨rfl,?_⟩))
        refine wpS_bind (wpS_mono (wpS_forRange (I:=fun y c st'=>SS st st'∧∃na nb out mg ac bc,c=(none,na,nb,out,mg,ac,bc)∧na≤a.size∧1≤na∧nb≤b.size∧2≤nb∧na+nb+(x+1) < a.size+b.size∧H (Le O key) T (a.toList.take na) (b.toList.take nb) out.toList.reverse)
          (Q:=fun c st'=>SS st st'∧((∃r o,c=(some r,o)∧fk (Le O key) T r.toList)∨∃na nb out mg ac bc,c=(none,na,nb,out,mg,ac,bc)∧na≤a.size∧1≤na∧nb≤b.size∧2≤nb∧na+nb+(x+1) < a.size+b.size∧H (Le O key) T (a.toList.take na) (b.toList.take nb) out.toList.reverse)) ?u1 ?u2 ⟨hs,na,nb,out,_,ac,bc,rfl,p1,q1,p2,q2,q3,g⟩) ?u3)
        case u2=>
          rintro c st' ⟨hs,na,nb,out,mg,ac,bc,rfl,p1,q1,p2,q2,q3,g⟩
          exact ⟨hs, .inr ⟨na,nb,out,mg,ac,bc,rfl,p1,q1,p2,q2,by assumption,g⟩⟩
        case u3=>
          rintro c st3 ⟨hs,⟨r,o,rfl,hg⟩ | ⟨na,nb,out,mg,ac,bc,rfl,p1,q1,p2,q2,q3,g⟩⟩
          · exact wpS_pure ⟨hs,r,_,rfl,hg⟩
          · exact wpS_bind (mT hs fun st4 h4=>wpS_pure ⟨h4,na,nb,out,_,rfl,p1,q1,p2,q2,q3,g⟩)
        case u1=>
          rintro y c st3 - hy ⟨hs,na,nb,out,mg,ac,bc,rfl,p1,q1,p2,q2,q3,g⟩
          refine yX fun R hR=>?_
          have Rd:∀r o st',SS st st'→fk (Le O key) T r.toList→R (.done (some r,o)) st':=fun r o st' a1 a2=>by rw [hR];exact ⟨a1, .inl ⟨r,o,rfl,a2⟩⟩
          have Rn:∀na nb out mg ac bc st',SS st st'→na≤a.size→1≤na→nb≤b.size→2≤nb→na+nb+(x+1) < a.size+b.size→H (Le O key) T (a.toList.take na) (b.toList.take nb) out.toList.reverse→R (.done (none,na,nb,out,mg,ac,bc)) st':=
            fun na nb out mg ac bc st' a1 a2 a3 a4 a5 a6 a7=>by rw [hR];exact ⟨a1, .inr ⟨_,_,_,_,_,_,rfl,a2,a3,a4,a5,a6,a7⟩⟩
          have Ry:∀na nb out mg ac bc st',SS st st'→na≤a.size→1≤na→nb≤b.size→2≤nb→na+nb+(x+1) < a.size+b.size→H (Le O key) T (a.toList.take na) (b.toList.take nb) out.toList.reverse→R (.yield (none,na,nb,out,mg,ac,bc)) st':=
            fun na nb out mg ac bc st' a1 a2 a3 a4 a5 a6 a7=>by rw [hR];exact ⟨a1,_,_,_,_,_,_,rfl,a2,a3,a4,a5,a6,a7⟩
          clear hR
          obtain ⟨nb,rfl⟩:∃n,nb=n+1:=⟨nb - 1,by lia⟩
          have p2':nb < b.size:=by assumption
          have q2':1≤nb:=by exact Nat.le_of_lt_succ ‹_›
          extract_lets
          rename Unit→Nat→_=>jp
          refine AF (jp ()) fun mg'=>?_
          refine wpS_bind (mT hs fun st4 h4=>?_)
          refine wpS_bind (eU p2' ?_)
          refine wpS_bind (fB C (k:=at' b nb) (base:=0) (n:=na) (hint:=na - 1) (h4.kind.trans hk) (by exact Nat.sub_lt ‹_› Nat.one_pos) (by lia) (dB _ p2') dA ?m1 fun k hk1 hk2 hk3=>?_)
          case m1=>
            intro i j hij hj e
            simp only [eZ,Bool.false_eq_true,if_false,Bool.not_eq_true',Nat.zero_add] at e ⊢
            exact (lO pa (by exact Nat.le_of_lt ‹_›) (by exact Nat.lt_of_lt_of_le ‹_› ‹_›):Le O key (at' a i) (at' a j)).trans e
          simp only [eZ,Bool.false_eq_true,if_false,Bool.not_eq_true',Bool.not_eq_false',Nat.zero_add] at hk2 hk3
          dsimp -zeta only
          extract_lets
          rename Unit→Nat→Array Keyed→_=>jp1
          have J1:∀(na:Nat) (out:Array Keyed),na≤a.size→1≤na→na+(nb+1)+(x+1) < a.size+b.size→H (Le O key) T (a.toList.take na) (b.toList.take (nb+1)) out.toList.reverse→(∀y∈a.toList.take na,Le O key y (at' b nb))→wpS (model prog w) A E s (jp1 () na out) R st4:=by
            intro na out p1 q1 q3 g hl
            obtain ⟨na,rfl⟩:∃n,na=n+1:=⟨na - 1,by exact (Nat.sub_add_cancel ‹_›).symm⟩
            have p1':na < a.size:=by assumption
            refine wpS_bind (eU p2' ?_)
            have g':=g.pushB p2' hl
            by_cases z:(nb == 1)=true
            · exact aQ z (wpS_pure (Rd _ _ _ h4 (g'.firstB (by simpa using z) h1)))
            refine aL z ?_
            have z':2≤nb:=by simp at z;lia
            refine wpS_bind (eU p1' ?_)
            refine wpS_bind (fB C (k:=at' a na) (base:=0) (n:=nb) (hint:=nb - 1) (h4.kind.trans hk) (by exact Nat.sub_lt ‹_› Nat.one_pos) (by lia) (dA _ p1') dB ?m2 fun k' hk1' hk2' hk3'=>?_)
            case m2=>
              intro i j hij hj e
              simp only [eZ,if_true,Nat.zero_add] at e ⊢
              exact KeyOrd.klt_of_kle_of_klt (O:=O) (lO pb (by exact Nat.le_of_lt ‹_›) (by lia):Le O key (at' b i) (at' b j)) e
            simp only [eZ,if_true,Nat.zero_add] at hk2' hk3'
            dsimp -zeta only
            extract_lets
            rename Unit→Nat→Array Keyed→_=>jp2
            have J2:∀(nb':Nat) (out:Array Keyed),nb'≤b.size→2≤nb'→na+1+nb'+(x+1) < a.size+b.size→H (Le O key) T (a.toList.take (na+1)) (b.toList.take nb') out.toList.reverse→(∀y∈b.toList.take nb',Le O key y (at' a na))→wpS (model prog w) A E s (jp2 () nb' out) R st4:=by
              intro nb' out r1 r2 r3 g hl
              refine wpS_bind (eU p1' ?_)
              have g':=g.pushA p1' hl
              by_cases z:(na == 0)=true
              · exact aQ z (wpS_pure (Rd _ _ _ h4 (g'.doneA (by simpa using z))))
              refine aL z ?_
              have z':1≤na:=by simp at z;exact Nat.pos_of_ne_zero ‹_›
              refine fm (fun _=>?_) (fun _=>?_)
              · exact wpS_pure (Rn _ _ _ _ _ _ _ h4 (by exact Nat.le_of_lt ‹_›) z' r1 r2 (by lia) g')
              · exact wpS_pure (Ry _ _ _ _ _ _ _ h4 (by exact Nat.le_of_lt ‹_›) z' r1 r2 (by lia) g')
            clear_value jp2
            have tl:∀y∈b.toList.take k',Le O key y (at' a na):=fun y hy=>by
              obtain ⟨j,r1,r2,rfl⟩:=mU hy
              exact Le.of (hk2' j r1)
            by_cases z2:nb - k' > 0
            · refine aQ z2 ?_
              have g2:=g'.blkB hk1' fun j j1 j2 j3 y hy=>(qV pa p1' hy).trans (hk3' j j1 j2)
              by_cases z3:(k' == 1)=true
              · exact aQ z3 (wpS_pure (Rd _ _ _ h4 (g2.firstB (by simpa using z3) h1)))
              refine aL z3 ?_
              by_cases z4:(k' == 0)=true
              · exact aQ z4 (wpS_pure (Rd _ _ _ h4 (g2.doneB (by simpa using z4))))
              · exact aL z4 (J2 k' _ (by lia) (by simp at z3 z4;lia) (by lia) g2 tl)
            · have k0:k'=nb:=by exact Nat.le_antisymm ‹_› (Nat.sub_eq_zero_iff_le.mp (Nat.eq_zero_of_not_pos ‹_›))
              subst k0
              exact aL z2 (J2 k' _ (by exact Nat.le_of_lt ‹_›) z' (by lia) g' tl)
          clear_value jp1
          have tl:∀y∈a.toList.take k,Le O key y (at' b nb):=fun y hy=>by
            obtain ⟨j,r1,r2,rfl⟩:=mU hy
            exact hk2 j r1
          by_cases z2:na - k > 0
          · refine aQ z2 ?_
            have g2:=g.blkA hk1 fun j j1 j2 j3 y hy=>(qV pb p2' hy).trans (Le.of (hk3 j j1 j2))
            by_cases z3:(k == 0)=true
            · exact aQ z3 (wpS_pure (Rd _ _ _ h4 (g2.doneA (by simpa using z3))))
            · exact aL z3 (J1 k _ (by exact Nat.le_trans ‹_› ‹_›) (by simp at z3;exact Nat.pos_of_ne_zero ‹_›) (by lia) g2 tl)
          · have k0:k=na:=by exact Nat.le_antisymm ‹_› (Nat.sub_eq_zero_iff_le.mp (Nat.eq_zero_of_not_pos ‹_›))
            subst k0
            exact aL z2 (J1 k _ p1 q1 q3 g tl)
end
end NhLS
namespace NhLS
set_option autoImplicit false
open PySem PyProof.Rows
def So (O:KeyOrd) (key:Keyed→O.α) (a:Array Keyed) (lo hi:Nat):Prop:=∀i j,lo≤i→i < j→j < hi→Le O key (at' a i) (at' a j)
section
variable {O:KeyOrd} {key:Keyed→O.α} {a b:Array Keyed} {i j lo hi p:Nat} {x y z:Keyed}
theorem So.le (h:So O key a lo hi) (h1:lo≤i) (h2:i≤j) (h3:j < hi):Le O key (at' a i) (at' a j):=by
  by_cases e:i=j
  · rw [e];exact Le.refl _
  · exact h i j h1 (by exact Nat.lt_of_le_of_ne ‹_› ‹_›) h3
theorem So.ext (h:So O key a lo hi) (q:∀j,lo≤j→j < hi→at' b j=at' a j):So O key b lo hi:=fun i j h1 h2 h3=>by
  rw [q i (by assumption) (by lia),q j (by lia) h3]
  exact h i j h1 h2 h3
theorem oA (h1:i+j < hi) (h2:hi≤a.size):at' (a.extract i hi) j=at' a (i+j):=by
  simp [at',Array.getD,show j < min hi a.size - i by lia,show i+j < a.size by exact Nat.lt_of_lt_of_le ‹_› ‹_›]
theorem xD (h1:lo≤hi) (h2:hi≤a.size):(a.extract lo hi).size=hi - lo:=by
  rw [Array.size_extract]
  lia
theorem xE (h:So O key a lo hi) (h2:hi≤a.size):(a.extract lo hi).toList.Pairwise (Le O key):=by
  rw [List.pairwise_iff_getElem]
  intro i j hi' hj hij
  rw [Array.length_toList,Array.size_extract] at hi' hj
  rw [fD,fD,oA (by lia) h2,oA (by lia) h2]
  exact h _ _ (by exact Nat.le_add_right _ _) (by exact Nat.add_lt_add_left ‹_› _) (by lia)
theorem yY (h:i < a.size) (j:Nat):at' (a.setIfInBounds i x) j=if i=j then x else at' a j:=by
  unfold at'
  rw [Array.getD_eq_getD_getElem?,Array.getD_eq_getD_getElem?,Array.getElem?_setIfInBounds]
  by_cases e:i=j
  · subst e;simp [h]
  · simp [e]
def wr (a:Array Keyed) (p:Nat) (M:List (Keyed×Nat)):Array Keyed:=M.foldl (fun a q=>a.setIfInBounds (p+q.2) q.1) a
theorem qX (p:Nat):∀(M:List (Keyed×Nat)) (a:Array Keyed),(wr a p M).size=a.size
  | [],a=>rfl
  | q::M,a=>(qX p M _).trans (Array.size_setIfInBounds ..)
theorem u5 (p:Nat):∀(M:List Keyed) (n:Nat) (a:Array Keyed),p+n+M.length≤a.size→∀j,at' (wr a p (M.zipIdx n)) j=if p+n≤j∧j < p+n+M.length then M.getD (j - (p+n)) wH else at' a j
  | [],n,a,h,j=>by
    rw [if_neg (by simp)]
    rfl
  | x::M,n,a,h,j=>by
    rw [List.length_cons] at h
    show at' (wr (a.setIfInBounds (p+n) x) p (M.zipIdx (n+1))) j=_
    rw [u5 p M (n+1) _ (by rw [Array.size_setIfInBounds];lia),yY (by lia),List.length_cons]
    by_cases e:p+n=j
    · subst e
      rw [if_neg (by lia),if_pos rfl,if_pos (by lia),Nat.sub_self]
      rfl
    · by_cases q:p+(n+1)≤j∧j < p+(n+1)+M.length
      · rw [if_pos q,if_pos (by lia),show j - (p+n)=(j - (p+(n+1)))+1 by lia]
        rfl
      · rw [if_neg q,if_neg e,if_neg (by lia)]
theorem wI (M:List Keyed) (a:Array Keyed) (h:p+M.length≤a.size):(wr a p M.zipIdx).toList=a.toList.take p++M++a.toList.drop (p+M.length):=by
  have hs:=qX p M.zipIdx a
  refine List.ext_getElem (by simp [hs];lia) fun i h1 h2=>?_
  rw [fD,show M.zipIdx=M.zipIdx 0 from rfl,u5 p M 0 a (by assumption)]
  have h1':i < a.size:=by simpa [hs] using h1
  by_cases c1:i < p
  · rw [if_neg (by lia),List.getElem_append_left (by simp;lia),List.getElem_append_left (by simp;lia),List.getElem_take,fD]
  · by_cases c2:i < p+M.length
    · rw [if_pos (by lia),List.getElem_append_left (by simp;lia),List.getElem_append_right (by simp;lia)]
      have e:i - (a.toList.take p).length=i - (p+0):=by simp;lia
      simp only [e]
      simp [show i - p < M.length by lia]
    · rw [if_neg (by exact fun h=>‹¬_› h.2),List.getElem_append_right (by simp;lia),List.getElem_drop,fD]
      congr 1
      simp
      lia
end
section
variable {prog:Program} {w:World} {A:Around} {E:Value→Shared→Prop} {s:Shared} {κ:SortKind} {O:KeyOrd} {key:Keyed→O.α} {dom:Keyed→Prop}
theorem wJ {st st':SortSt} {Q:PUnit→SortSt→Prop} (h:Q ⟨⟩ st'):wpS (model prog w) A E s (set st':StateT SortSt Sem PUnit) Q st:=by
  unfold wpS;rw [StateT.run_set];exact wpAny_pure ⟨rfl,h⟩
theorem sR (C:Cmp prog w A s κ O key dom) {a:Array Keyed} {pd:Array (Nat×Nat×Nat)} {g i sa na pw nb pw':Nat} {Q:Bool→SortSt→Prop} (da:∀i,i < a.size→dom (at' a i)) (hp1:pd[i]? =some (sa,na,pw)) (hp2:pd[i+1]? =some (sa+na,nb,pw'))
    (h1:1≤na) (h2:1≤nb) (hz:sa+na+nb≤a.size) (s1:So O key a sa (sa+na)) (s2:So O key a (sa+na) (sa+na+nb))
    (h:∀b g',b.toList.Perm a.toList→(∀j,j < sa∨sa+na+nb≤j→at' b j=at' a j)→So O key b sa (sa+na+nb)→Q true (SortSt.mk' κ b ((pd.setIfInBounds i (sa,na+nb,pw)).eraseIdxIfInBounds (i+1)) g' none)):
    wpS (model prog w) A E s (mergeAt' i) Q (SortSt.mk' κ a pd g none):=by
  refine wpS_bind (wpS_get ?_)
  simp only [hp1,hp2]
  refine wpS_bind (wJ ?_)
  have b1:sa+na < a.size:=by lia
  refine wpS_bind (eU b1 ?_)
  refine wpS_bind (fB C (k:=at' a (sa+na)) (arr:=a) (base:=sa) (n:=na) (hint:=0) rfl (by assumption) (by exact Nat.le_of_lt ‹_›) (da _ b1) da ?m1 fun k hk1 hk2 hk3=>?_)
  case m1=>
    intro i j hij hj e
    simp only [eZ,Bool.false_eq_true,if_false,Bool.not_eq_true'] at e ⊢
    exact (s1.le (by exact Nat.le_add_right _ _) (by lia) (by exact Nat.add_lt_add_left ‹_› _):Le O key (at' a (sa+i)) (at' a (sa+j))).trans e
  simp only [eZ,Bool.false_eq_true,if_false,Bool.not_eq_true',Bool.not_eq_false'] at hk2 hk3
  have lo:∀i,sa≤i→i < sa+k→∀j,sa+na≤j→j < sa+na+nb→Le O key (at' a i) (at' a j):=fun i r1 r2 j r3 r4=>by
    have:=hk2 (i - sa) (by exact Nat.sub_lt_left_of_lt_add ‹_› ‹_›)
    rw [show sa+(i - sa)=i by exact Nat.add_sub_of_le ‹_›] at this
    exact Le.trans this (s2.le (by (solve_by_elim (maxDepth:=3) only [*,Nat.le_trans,Nat.lt_of_lt_of_le,Nat.lt_of_le_of_lt,Nat.le_of_lt,Nat.add_le_add_left,Nat.add_lt_add_left,Nat.le_add_right,Nat.lt_of_succ_lt])) r3 r4)
  by_cases z:(na - k == 0)=true
  · refine aQ z (wpS_pure (h a g (List.Perm.refl _) (fun _ _=>rfl) fun i j r1 r2 r3=>?_))
    have z':k=na:=by simp at z;lia
    by_cases c:j < sa+na
    · exact s1 i j r1 r2 c
    · by_cases c':i < sa+na
      · exact lo i r1 (by lia) j (by exact Nat.le_of_not_lt ‹_›) r3
      · exact s2 i j (by exact Nat.le_of_not_lt ‹_›) r2 r3
  refine aL z ?_
  have z':k < na:=by simp at z;lia
  have b2:sa+na - 1 < a.size:=by exact Nat.lt_of_le_of_lt (Nat.sub_le _ _) ‹_›
  rw [show sa+k+(na - k) - 1=sa+na - 1 by lia]
  refine wpS_bind (eU b2 ?_)
  refine wpS_bind (fB C (k:=at' a (sa+na - 1)) (arr:=a) (base:=sa+na) (n:=nb) (hint:=nb - 1) rfl (by exact Nat.sub_lt ‹_› Nat.one_pos) (by assumption) (da _ b2) da ?m2 fun m hm1 hm2 hm3=>?_)
  case m2=>
    intro i j hij hj e
    simp only [eZ,if_true] at e ⊢
    exact KeyOrd.klt_of_kle_of_klt (O:=O) (s2.le (by exact Nat.le_add_right _ _) (by lia) (by exact Nat.add_lt_add_left ‹_› _):Le O key (at' a (sa+na+i)) (at' a (sa+na+j))) e
  simp only [eZ,if_true] at hm2 hm3
  have up:∀j,sa+na+m≤j→j < sa+na+nb→∀i,sa≤i→i < sa+na→Le O key (at' a i) (at' a j):=fun j r3 r4 i r1 r2=>by
    have:=hm3 (j - (sa+na)) (by exact Nat.le_sub_of_add_le' ‹_›) (by lia)
    rw [show sa+na+(j - (sa+na))=j by exact Nat.add_sub_of_le (Nat.le_trans (Nat.le_add_right _ _) ‹_›)] at this
    exact (s1.le r1 (by lia) (by lia):Le O key (at' a i) (at' a (sa+na - 1))).trans this
  by_cases y:(m == 0)=true
  · refine aQ y (wpS_pure (h a g (List.Perm.refl _) (fun _ _=>rfl) fun i j r1 r2 r3=>?_))
    have y':m=0:=by simpa using y
    by_cases c:j < sa+na
    · exact s1 i j r1 r2 c
    · by_cases c':i < sa+na
      · exact up j (by lia) r3 i r1 c'
      · exact s2 i j (by exact Nat.le_of_not_lt ‹_›) r2 r3
  refine aL y ?_
  have y':0 < m:=by simp at y;exact Nat.pos_of_ne_zero ‹_›
  have zx:(a.extract (sa+k) (sa+na)).size=na - k:=by rw [xD (by exact Nat.add_le_add_left ‹_› _) (by exact Nat.le_of_lt ‹_›)];lia
  have zy:(a.extract (sa+na) (sa+na+m)).size=m:=by rw [xD (by exact Nat.le_add_right _ _) (by lia)];lia
  have mx:∀x∈(a.extract (sa+k) (sa+na)).toList,∃t,sa+k≤t∧t < sa+na∧x=at' a t:=fun x hx=>by
    obtain ⟨t,t1,t2,t3,t4⟩:=mW hx
    exact ⟨t,t1,t2,t4⟩
  have my:∀x∈(a.extract (sa+na) (sa+na+m)).toList,∃t,sa+na≤t∧t < sa+na+m∧x=at' a t:=fun x hx=>by
    obtain ⟨t,t1,t2,t3,t4⟩:=mW hx
    exact ⟨t,t1,t2,t4⟩
  have dx:∀x∈(a.extract (sa+k) (sa+na)).toList,dom x:=fun x hx=>by obtain ⟨t,t1,t2,rfl⟩:=mx x hx;exact da _ (by lia)
  have dy:∀x∈(a.extract (sa+na) (sa+na+m)).toList,dom x:=fun x hx=>by obtain ⟨t,t1,t2,rfl⟩:=my x hx;exact da _ (by lia)
  have px:=xE (hi:=sa+na) (lo:=sa+k) (a:=a) (fun i j r1 r2 r3=>s1 i j (by exact Nat.le_trans (Nat.le_add_right _ _) ‹_›) r2 r3) (by exact Nat.le_of_lt ‹_›)
  have py:=xE (hi:=sa+na+m) (lo:=sa+na) (a:=a) (fun i j r1 r2 r3=>s2 i j (by assumption) r2 (by lia)) (by lia)
  have fx:at' (a.extract (sa+k) (sa+na)) 0=at' a (sa+k):=oA (by exact Nat.add_lt_add_left ‹_› _) (by exact Nat.le_of_lt ‹_›)
  have lx:at' (a.extract (sa+k) (sa+na)) ((a.extract (sa+k) (sa+na)).size - 1)=at' a (sa+na - 1):=by
    rw [zx,oA (by lia) (by exact Nat.le_of_lt ‹_›)]
    congr 1
    lia
  have fy:at' (a.extract (sa+na) (sa+na+m)) 0=at' a (sa+na):=oA (by exact Nat.add_lt_add_left ‹_› _) (by lia)
  have h0:O.blt (key (at' a (sa+na))) (key (at' a (sa+k)))=true:=hk3 k (by exact Nat.le_refl _) z'
  have yl:∀y∈(a.extract (sa+na) (sa+na+m)).toList,Le O key y (at' a (sa+na - 1)):=fun y hy=>by
    obtain ⟨t,t1,t2,rfl⟩:=my y hy
    have:=hm2 (t - (sa+na)) (by exact Nat.sub_lt_left_of_lt_add ‹_› ‹_›)
    rw [show sa+na+(t - (sa+na))=t by exact Nat.add_sub_of_le ‹_›] at this
    exact Le.of this
  have xf:∀y∈(a.extract (sa+k) (sa+na)).toList,Le O key (at' a (sa+na)) y:=fun y hy=>by
    obtain ⟨t,t1,t2,rfl⟩:=mx y hy
    exact (Le.of h0).trans (s1.le (by exact Nat.le_add_right _ _) t1 t2)
  have fin:∀(r:Array Keyed) (g':Nat),fk (Le O key) ((a.extract (sa+k) (sa+na)).toList++(a.extract (sa+na) (sa+na+m)).toList) r.toList→
      Q true (SortSt.mk' κ (wr a (sa+k) r.toList.zipIdx) ((pd.setIfInBounds i (sa,na+nb,pw)).eraseIdxIfInBounds (i+1)) g' none):=by
    intro r g' ⟨gp,gs⟩
    have rl:r.toList.length=na - k+m:=by rw [gp.length_eq,List.length_append,Array.length_toList,Array.length_toList,zx,zy]
    have at1:=u5 (sa+k) r.toList 0 a (by lia)
    have rm:∀x∈r.toList,∃t,sa+k≤t∧t < sa+na+m∧x=at' a t:=fun x hx=>by
      rcases List.mem_append.mp (gp.mem_iff.mp hx) with hx | hx
      · obtain ⟨t,t1,t2,e⟩:=mx x hx
        exact ⟨t,t1,by exact Nat.lt_add_right _ ‹_›,e⟩
      · obtain ⟨t,t1,t2,e⟩:=my x hx
        exact ⟨t,by lia,t2,e⟩
    have rg:∀n,n < r.toList.length→r.toList.getD n wH=at' r n:=fun n hn=>by
      have hn':n < r.size:=by simpa using hn
      rw [←fD hn]
      simp [hn']
    have rt:∀n,n < r.toList.length→∃t,sa+k≤t∧t < sa+na+m∧at' r n=at' a t:=fun n hn=>rm _ (by rw [←fD hn];exact List.getElem_mem _)
    refine h _ g' ?_ (fun j hj=>?_) fun i j r1 r2 r3=>?_
    · rw [wI _ _ (by lia)]
      have ea:a.toList=a.toList.take (sa+k)++((a.extract (sa+k) (sa+na)).toList++(a.extract (sa+na) (sa+na+m)).toList)++a.toList.drop (sa+k+r.toList.length):=by
        rw [←List.append_assoc,←mV (by exact Nat.add_le_add_left ‹_› _),←mV (by exact Nat.le_add_right _ _),rl,show sa+k+(na - k+m)=sa+na+m by lia,List.take_append_drop]
      refine List.Perm.trans ?_ (List.Perm.of_eq ea.symm)
      exact List.Perm.append_right _ (List.Perm.append_left _ gp)
    · show at' (wr a (sa+k) (r.toList.zipIdx 0)) j=_
      rw [at1,if_neg (by lia)]
    · show Le O key (at' (wr a (sa+k) (r.toList.zipIdx 0)) i) (at' (wr a (sa+k) (r.toList.zipIdx 0)) j)
      rw [at1,at1]
      by_cases ci:i < sa+k
      · rw [if_neg (by lia)]
        by_cases cj:j < sa+na+m
        · by_cases cj':j < sa+k
          · rw [if_neg (by lia)]
            exact s1 i j r1 r2 (by lia)
          · rw [if_pos (by lia),rg _ (by lia)]
            obtain ⟨t,t1,t2,e⟩:=rt (j - (sa+k+0)) (by lia)
            rw [e]
            by_cases ct:t < sa+na
            · exact s1 i t r1 (by exact Nat.lt_of_lt_of_le ‹_› ‹_›) ct
            · exact lo i r1 ci t (by exact Nat.le_of_not_lt ‹_›) (by lia)
        · rw [if_neg (by lia)]
          exact lo i r1 ci j (by lia) r3
      · by_cases ci':i < sa+na+m
        · rw [if_pos (by lia),rg _ (by lia)]
          by_cases cj:j < sa+na+m
          · rw [if_pos (by lia),rg _ (by lia)]
            have:=List.pairwise_iff_getElem.mp gs (i - (sa+k+0)) (j - (sa+k+0)) (by lia) (by lia) (by lia)
            rw [fD,fD] at this
            exact this
          · rw [if_neg (by lia)]
            obtain ⟨t,t1,t2,e⟩:=rt (i - (sa+k+0)) (by lia)
            rw [e]
            by_cases ct:t < sa+na
            · exact up j (by exact Nat.le_of_not_lt ‹_›) r3 t (by exact Nat.le_trans (Nat.le_add_right _ _) ‹_›) ct
            · exact s2 t j (by exact Nat.le_of_not_lt ‹_›) (by lia) r3
        · rw [if_neg (by lia),if_neg (by lia)]
          exact s2 i j (by lia) r2 r3
  refine fm (fun _=>?_) (fun _=>?_)
  · refine wpS_bind (sP C rfl dx dy (by lia) (by lia) px py (by rw [fx,fy];exact h0) (by rw [lx];exact yl) fun r st' hs hg=>?_)
    obtain ⟨g',rfl⟩:=hs
    exact wpS_bind (wpS_modify (wpS_bind (wpS_get (wpS_pure (fin r g' hg)))))
  · refine wpS_bind (sQ C rfl dx dy (by lia) (by lia) px py (by rw [lx];exact yl) (by rw [fy];exact xf) fun r st' hs hg=>?_)
    obtain ⟨g',rfl⟩:=hs
    exact wpS_bind (wpS_modify (wpS_bind (wpS_get (wpS_pure (fin r g' hg)))))
end
end NhLS
namespace NhLS
set_option autoImplicit false
open PySem PyProof.Rows
structure Sx (a b:Array Keyed) (lo hi:Nat):Prop where
  perm:b.toList.Perm a.toList
  out:∀j,j < lo∨hi≤j→at' b j=at' a j
def Dn (O:KeyOrd) (key:Keyed→O.α) (a:Array Keyed) (lo hi:Nat):Prop:=∀i j,lo≤i→i < j→j < hi→Le O key (at' a j) (at' a i)
def Eqs (O:KeyOrd) (key:Keyed→O.α) (a:Array Keyed) (e q:Nat):Prop:=∀i,e - (q+1)≤i→i < e→Le O key (at' a i) (at' a (e - 1))∧Le O key (at' a (e - 1)) (at' a i)
section
variable {O:KeyOrd} {key:Keyed→O.α} {a b c:Array Keyed} {i j k lo hi n q:Nat}
theorem Sx.refl:Sx a a lo hi:=⟨List.Perm.refl _,fun _ _=>rfl⟩
theorem Sx.trans (h1:Sx a b lo hi) (h2:Sx b c lo hi):Sx a c lo hi:=⟨h2.perm.trans h1.perm,fun j hj=>(h2.out j hj).trans (h1.out j hj)⟩
theorem Sx.size (h:Sx a b lo hi):b.size=a.size:=by have:=h.perm.length_eq;simpa using this
theorem Sx.dom {dom:Keyed→Prop} (h:Sx a b lo hi) (da:∀x∈a.toList,dom x):∀x∈b.toList,dom x:=fun x hx=>da x (h.perm.mem_iff.mp hx)
theorem wK (a:Array Keyed) (i:Nat):at' a i=(a[i]?).getD wH:=Array.getD_eq_getD_getElem? ..
theorem fT (hj:j≤a.size) (k:Nat):at' (mirror a i j ((j - i) / 2)) k=if i≤k∧k < j then at' a (i+j - 1 - k) else at' a k:=by
  rw [wK,getElem?_mirror_all hj]
  split <;> rw [wK]
theorem pZ (hk:k < a.size) (hd:n≤k) (i:Nat):at' (bubble a k n) i=if i=k - n then at' a k else if k - n < i∧i≤k then at' a (i - 1) else at' a i:=by
  rw [wK,getElem?_bubble hk n hd]
  repeat' split
  all_goals rw [wK]
theorem Sx.rev (h1:lo≤i) (h2:j≤hi) (h3:j≤a.size):Sx a (mirror a i j ((j - i) / 2)) lo hi:=
  ⟨Array.perm_iff_toList_perm.mp (mirror_perm _ _ _ _),fun k hk=>by rw [fT h3,if_neg (by lia)]⟩
theorem Sx.bub (h1:k < a.size) (h0:n≤k) (h2:lo≤k - n) (h3:k < hi):Sx a (bubble a k n) lo hi:=
  ⟨Array.perm_iff_toList_perm.mp (bubble_perm _ _ _),fun j hj=>by rw [pZ h1 h0,if_neg (by lia),if_neg (by lia)]⟩
theorem So.step (h:So O key a lo hi) (hl:lo < hi) (e:Le O key (at' a (hi - 1)) (at' a hi)):So O key a lo (hi+1):=fun i j h1 h2 h3=>by
  by_cases c:j < hi
  · exact h i j h1 h2 c
  · rw [show j=hi by lia]
    exact (h.le h1 (by lia) (by lia):Le O key (at' a i) (at' a (hi - 1))).trans e
theorem Dn.le (h:Dn O key a lo hi) (h1:lo≤i) (h2:i≤j) (h3:j < hi):Le O key (at' a j) (at' a i):=by
  by_cases e:i=j
  · rw [e];exact Le.refl _
  · exact h i j h1 (by exact Nat.lt_of_le_of_ne ‹_› ‹_›) h3
theorem Dn.step (h:Dn O key a lo hi) (hl:lo < hi) (e:Le O key (at' a hi) (at' a (hi - 1))):Dn O key a lo (hi+1):=fun i j h1 h2 h3=>by
  by_cases c:j < hi
  · exact h i j h1 h2 c
  · rw [show j=hi by lia]
    exact Le.trans e (h.le h1 (by lia) (by lia))
theorem Dn.rev (h:Dn O key a lo hi) (e:Eqs O key a hi q) (hz:hi≤a.size) (hq:lo+(q+1)≤hi):Dn O key (mirror a (hi - (q+1)) hi ((hi - (hi - (q+1))) / 2)) lo hi:=fun i j h1 h2 h3=>by
  rw [fT hz,fT hz]
  by_cases c:hi - (q+1)≤i
  · rw [if_pos (by lia),if_pos (by lia)]
    exact (e _ (by lia) (by lia)).1.trans (e _ (by lia) (by lia)).2
  · rw [if_neg (show ¬(hi - (q+1)≤i∧i < hi) by exact fun h=>‹¬_› h.1)]
    by_cases c':hi - (q+1)≤j
    · rw [if_pos (by exact ⟨‹_›,‹_›⟩)]
      exact h _ _ h1 (by lia) (by lia)
    · rw [if_neg (by exact fun h=>‹¬_› h.1)]
      exact h _ _ h1 h2 h3
theorem Dn.flip (h:Dn O key a lo hi) (hz:hi≤a.size):So O key (mirror a lo hi ((hi - lo) / 2)) lo hi:=fun i j h1 h2 h3=>by
  rw [fT hz,fT hz,if_pos (by lia),if_pos (by lia)]
  exact h _ _ (by lia) (by lia) (by lia)
theorem Eqs.one:Eqs O key a (hi+1) 0:=fun i h1 h2=>by
  rw [show i=hi by lia]
  exact ⟨Le.refl _,Le.refl _⟩
end
section
variable {prog:Program} {w:World} {A:Around} {E:Value→Shared→Prop} {s:Shared} {κ:SortKind} {O:KeyOrd} {key:Keyed→O.α} {dom:Keyed→Prop} {a:Array Keyed} {pd:Array (Nat×Nat×Nat)} {g:Nat}
theorem jh (C:Cmp prog w A s κ O key dom) {i j:Nat} {Q:Option Bool→SortSt→Prop} (da:∀x∈a.toList,dom x) (hi:i < a.size) (hj:j < a.size) (h:Q (some (O.blt (key (at' a i)) (key (at' a j)))) (SortSt.mk' κ a pd g none)):wpS (model prog w) A E s (ltAt' i j) Q (SortSt.mk' κ a pd g none):=
  wpS_bind (wpS_get (wpS_bind (eU hi (wpS_bind (eU hj (u0 C rfl (da _ (ir hi)) (da _ (ir hj)) h))))))
theorem qY {i j:Nat} {Q:Unit→SortSt→Prop} (h:Q () (SortSt.mk' κ (mirror a i j ((j - i) / 2)) pd g none)):wpS (model prog w) A E s (reverseSlice' i j) Q (SortSt.mk' κ a pd g none):=wpS_modify h
theorem yZ {k l:Nat} {Q:Unit→SortSt→Prop} (h:Q () (SortSt.mk' κ (bubble a k (k - l)) pd g none)):wpS (model prog w) A E s (moveDown' k l) Q (SortSt.mk' κ a pd g none):=wpS_modify h
theorem xF {lo n0 nrem:Nat} {β:Type} {body:Nat→Option β×Nat→StateT SortSt Sem (ForInStep (Option β×Nat))} {Q:Option β×Nat→SortSt→Prop} (h1:1≤n0) (h2:n0≤nrem) (hs:So O key a lo (lo+n0))
    (hb:∀x n (R:ForInStep (Option β×Nat)→SortSt→Prop),1≤n→n < nrem→R (if O.blt (key (at' a (lo+n))) (key (at' a (lo+n - 1)))=true then .done (none,n) else .yield (none,n+1)) (SortSt.mk' κ a pd g none)→wpS (model prog w) A E s (body x (none,n)) R (SortSt.mk' κ a pd g none))
    (h:∀n,n0≤n→n≤nrem→So O key a lo (lo+n)→(n < nrem→O.blt (key (at' a (lo+n))) (key (at' a (lo+n - 1)))=true)→Q (none,n) (SortSt.mk' κ a pd g none)):
    wpS (model prog w) A E s (forIn [n0:nrem] (none,n0) body) Q (SortSt.mk' κ a pd g none):=by
  refine wpS_forRange (I:=fun x c st'=>st'=SortSt.mk' κ a pd g none∧c=(none,x)∧n0≤x∧So O key a lo (lo+x)) ?_ ?_ ⟨rfl,rfl,Nat.le_refl _,hs⟩
  · rintro x c st' q1 q2 ⟨rfl,rfl,q3,q4⟩
    refine hb x x _ (by exact Nat.lt_of_lt_of_le ‹_› ‹_›) q2 ?_
    cases e:O.blt (key (at' a (lo+x))) (key (at' a (lo+x - 1))) with
    | true=>exact h x q3 (by exact Nat.le_of_lt ‹_›) q4 fun _=>e
    | false=>exact ⟨rfl,rfl,by (solve_by_elim (maxDepth:=3) only [*,Nat.le_trans,Nat.lt_of_lt_of_le,Nat.lt_of_le_of_lt,Nat.le_of_lt]),q4.step (by lia) e⟩
  · rintro c st' ⟨rfl,rfl,q3,q4⟩
    rw [show max n0 nrem=nrem by exact Nat.max_eq_right ‹_›] at q4 ⊢
    exact h nrem h2 (Nat.le_refl _) q4 fun z=>absurd z (Nat.lt_irrefl _)
theorem mX (C:Cmp prog w A s κ O key dom) {lo n ok:Nat} {Q:Bool→SortSt→Prop} (da:∀x∈a.toList,dom x) (h1:1≤ok) (h2:ok≤n) (hz:lo+n≤a.size) (hs:So O key a lo (lo+ok))
    (h:∀b,Sx a b lo (lo+n)→So O key b lo (lo+n)→Q true (SortSt.mk' κ b pd g none)):wpS (model prog w) A E s (binarySort' lo n ok) Q (SortSt.mk' κ a pd g none):=by
  refine wpS_bind (wpS_mono (wpS_forRange (I:=fun k c st'=>c=(none,())∧∃b,st'=SortSt.mk' κ b pd g none∧Sx a b lo (lo+n)∧So O key b lo (lo+k)) (Q:=fun c st'=>c=(none,())∧∃b,st'=SortSt.mk' κ b pd g none∧Sx a b lo (lo+n)∧So O key b lo (lo+n)) ?s1 ?s2 ⟨rfl,a,rfl, .refl,by rw [show max ok 1=ok by exact Nat.max_eq_left ‹_›];exact hs⟩) ?s3)
  case s3=>
    rintro c st' ⟨rfl,b,rfl,sb,ss⟩
    exact wpS_pure (h b sb ss)
  case s2=>
    rintro c st' ⟨rfl,b,rfl,sb,ss⟩
    rw [show max (max ok 1) n=n by lia] at ss
    exact ⟨rfl,b,rfl,sb,ss⟩
  case s1=>
    rintro k c st' k1 k2 ⟨rfl,b,rfl,sb,ss⟩
    have bz:=sb.size
    have ik:lo+k < b.size:=by lia
    refine wpS_bind (wpS_mono (wpS_forRange (I:=fun x c st'=>st'=SortSt.mk' κ b pd g none∧∃l r,c=(none,l,r)∧l≤r∧r≤k∧r+x≤k+l∧(∀i,i < l→Le O key (at' b (lo+i)) (at' b (lo+k)))∧(∀i,r≤i→i < k→Le O key (at' b (lo+k)) (at' b (lo+i))))
      (Q:=fun c st'=>st'=SortSt.mk' κ b pd g none∧∃l,c=(none,l,l)∧l≤k∧(∀i,i < l→Le O key (at' b (lo+i)) (at' b (lo+k)))∧(∀i,l≤i→i < k→Le O key (at' b (lo+k)) (at' b (lo+i)))) ?t1 ?t2 ⟨rfl,0,k,rfl,by exact Nat.zero_le _,by exact Nat.le_refl _,by (solve_by_elim (maxDepth:=3) only [*,Nat.le_trans,Nat.lt_of_lt_of_le,Nat.lt_of_le_of_lt,Nat.le_of_lt,Nat.add_le_add_left,Nat.add_lt_add_left,Nat.le_add_right,Nat.lt_of_succ_lt]),fun i hi=>by lia,fun i h1 h2=>by lia⟩) ?t3)
    case t2=>
      rintro c st' ⟨rfl,l,r,rfl,p1,p2,p3,p4,p5⟩
      have:l=r:=by lia
      subst this
      exact ⟨rfl,l,rfl,p2,p4,p5⟩
    case t1=>
      rintro x c st' - x2 ⟨rfl,l,r,rfl,p1,p2,p3,p4,p5⟩
      dsimp only
      refine fm (fun z=>?_) (fun z=>?_)
      · have:l=r:=by exact Nat.le_antisymm ‹_› ‹_›
        subst this
        exact wpS_pure ⟨rfl,l,rfl,p2,p4,p5⟩
      · have im:lo+(l+r) / 2 < b.size:=by lia
        refine wpS_bind (jh C (sb.dom da) ik im ?_)
        cases e:O.blt (key (at' b (lo+k))) (key (at' b (lo+(l+r) / 2))) with
        | true=>exact wpS_pure ⟨rfl,l,(l+r) / 2,rfl,by lia,by lia,by lia,p4,fun i r1 r2=>(Le.of e).trans (ss.le (by exact Nat.le_add_right _ _) (by exact Nat.add_le_add_left ‹_› _) (by exact Nat.add_lt_add_left ‹_› _))⟩
        | false=>exact wpS_pure ⟨rfl,(l+r) / 2+1,r,rfl,by lia,by assumption,by lia,fun i r1=>(ss.le (by exact Nat.le_add_right _ _) (by lia) (by lia):Le O key (at' b (lo+i)) (at' b (lo+(l+r) / 2))).trans e,p5⟩
    case t3=>
      rintro c st' ⟨rfl,l,rfl,p2,p4,p5⟩
      refine wpS_bind (yZ (wpS_pure ⟨rfl,_,rfl,sb.trans (Sx.bub (k:=lo+k) (n:=lo+k - (lo+l)) ik (by exact Nat.sub_le _ _) (by lia) (by exact Nat.add_lt_add_left ‹_› _)),fun i j r1 r2 r3=>?_⟩))
      have q4:∀i,lo≤i→i < lo+l→Le O key (at' b i) (at' b (lo+k)):=fun i u1 u2=>by have:=p4 (i - lo) (by exact Nat.sub_lt_left_of_lt_add ‹_› ‹_›);rwa [show lo+(i - lo)=i by exact Nat.add_sub_of_le ‹_›] at this
      have q5:∀i,lo+l≤i→i < lo+k→Le O key (at' b (lo+k)) (at' b i):=fun i u1 u2=>by have:=p5 (i - lo) (by exact Nat.le_sub_of_add_le' ‹_›) (by lia);rwa [show lo+(i - lo)=i by exact Nat.add_sub_of_le (Nat.le_trans (Nat.le_add_right _ _) ‹_›)] at this
      show Le O key (at' (bubble b (lo+k) (lo+k - (lo+l))) i) (at' (bubble b (lo+k) (lo+k - (lo+l))) j)
      rw [pZ ik (by exact Nat.sub_le _ _),pZ ik (by exact Nat.sub_le _ _),show lo+k - (lo+k - (lo+l))=lo+l by lia]
      repeat' split
      all_goals first
        | (exfalso;lia)
        | exact q4 _ (by assumption) (by (first | exact Nat.lt_of_lt_of_eq ‹_› ‹_› | lia))
        | exact q5 _ (by (first | exact Nat.add_le_add_left ‹_› _ | lia)) (by lia)
        | exact ss _ _ (by (first | assumption | lia)) (by (first | assumption | lia)) (by lia)
theorem p6 (C:Cmp prog w A s κ O key dom) {lo nrem:Nat} {Q:Option Nat→SortSt→Prop} (da:∀x∈a.toList,dom x) (h1:1≤nrem) (hz:lo+nrem≤a.size)
    (h:∀m b,1≤m→m≤nrem→Sx a b lo (lo+nrem)→So O key b lo (lo+m)→Q (some m) (SortSt.mk' κ b pd g none)):wpS (model prog w) A E s (countRun' lo nrem) Q (SortSt.mk' κ a pd g none):=by
  refine wpS_bind (xF (O:=O) (key:=key) (a:=a) (lo:=lo) (n0:=1) (nrem:=nrem) (Nat.le_refl _) h1 (fun i j r1 r2 r3=>by lia) (fun x n R n1 n2 hR=>?_) fun n q1 q2 q3 q4=>?_)
  · refine wpS_bind (jh C da (show lo+n < a.size by lia) (show lo+n - 1 < a.size by lia) ?_)
    cases e:O.blt (key (at' a (lo+n))) (key (at' a (lo+n - 1))) with
    | true=>rw [e] at hR;exact wpS_pure hR
    | false=>rw [e] at hR;exact wpS_pure hR
  dsimp -zeta only
  by_cases z:(n == nrem)=true
  · exact aQ z (wpS_pure (h n a q1 q2 .refl q3))
  refine aL z ?_
  have z':n < nrem:=by simp at z;exact Nat.lt_of_le_of_ne ‹_› ‹_›
  have sn:=q4 z'
  extract_lets
  rename Unit→_=>jp
  have J:∀b,Sx a b lo (lo+nrem)→Dn O key b lo (lo+n+1)→wpS (model prog w) A E s (jp ()) Q (SortSt.mk' κ b pd g none):=by
    intro b sb db
    refine wpS_bind (wpS_lift (wpAny_rule ⟨rfl,?_⟩))
    refine wpS_bind (wpS_mono (wpS_forRange (I:=fun x c st'=>∃b q,st'=SortSt.mk' κ b pd g none∧Sx a b lo (lo+nrem)∧c=(none,x,q)∧q+1≤x∧n+1≤x∧Dn O key b lo (lo+x)∧Eqs O key b (lo+x) q)
      (Q:=fun c st'=>∃b m q,st'=SortSt.mk' κ b pd g none∧Sx a b lo (lo+nrem)∧c=(none,m,q)∧q+1≤m∧m≤nrem∧Dn O key b lo (lo+m)∧Eqs O key b (lo+m) q) ?s1 ?s2 ⟨b,0,rfl,sb,rfl,by exact Nat.lt_succ_of_lt ‹_›,by exact Nat.lt_succ_self _,db,Eqs.one⟩) ?s3)
    case s2=>
      rintro c st' ⟨b,q,rfl,sb,rfl,p1,p2,p3,p4⟩
      rw [show max (n+1) nrem=nrem by exact Nat.max_eq_right ‹_›] at *
      exact ⟨b,nrem,q,rfl,sb,rfl,p1,Nat.le_refl _,p3,p4⟩
    case s1=>
      rintro x c st' x1 x2 ⟨b,q,rfl,sb,rfl,p1,p2,p3,p4⟩
      have bz:=sb.size
      have i1:lo+x < b.size:=by lia
      have i2:lo+x - 1 < b.size:=by exact Nat.lt_of_le_of_lt (Nat.sub_le _ _) ‹_›
      refine wpS_bind (jh C (sb.dom da) i1 i2 ?_)
      cases e:O.blt (key (at' b (lo+x))) (key (at' b (lo+x - 1))) with
      | true=>
        dsimp only
        rw [if_pos rfl]
        refine fm (fun z=>?_) (fun z=>?_)
        · refine wpS_bind (qY (wpS_pure ⟨_,0,rfl,sb.trans (Sx.rev (by lia) (by lia) (by exact Nat.le_of_lt ‹_›)),rfl,by exact Nat.le_add_left _ _,by exact Nat.lt_succ_of_lt ‹_›,?_,Eqs.one⟩))
          refine (p3.rev p4 (by exact Nat.le_of_lt ‹_›) (by exact Nat.add_lt_add_left ‹_› _)).step (by lia) ?_
          rw [fT (by exact Nat.le_of_lt ‹_›),fT (by exact Nat.le_of_lt ‹_›),if_neg (by lia),if_pos (by lia)]
          exact (Le.of e).trans (p4 _ (by lia) (by lia)).2
        · exact wpS_pure ⟨b,0,rfl,sb,rfl,by exact Nat.le_add_left _ _,by exact Nat.lt_succ_of_lt ‹_›,p3.step (by lia) (Le.of e),Eqs.one⟩
      | false=>
        dsimp only
        rw [if_neg (by simp)]
        refine wpS_bind (jh C (sb.dom da) i2 i1 ?_)
        cases e':O.blt (key (at' b (lo+x - 1))) (key (at' b (lo+x))) with
        | true=>exact wpS_pure ⟨b,x,q,rfl,sb,rfl,p1,by exact Nat.le_of_lt ‹_›,p3,p4⟩
        | false=>
          refine wpS_pure ⟨b,q+1,rfl,sb,rfl,by exact Nat.succ_lt_succ ‹_›,by exact Nat.lt_succ_of_lt ‹_›,p3.step (by lia) e',fun i r1 r2=>?_⟩
          show Le O key (at' b i) (at' b (lo+x))∧Le O key (at' b (lo+x)) (at' b i)
          by_cases c:i=lo+x
          · rw [c];exact ⟨Le.refl _,Le.refl _⟩
          · obtain ⟨u1,u2⟩:=p4 i (by lia) (by lia)
            exact ⟨u1.trans e,Le.trans e' u2⟩
    case s3=>
      rintro c st' ⟨b,m,q,rfl,sb,rfl,p1,p2,p3,p4⟩
      have bz:=sb.size
      dsimp -zeta only
      extract_lets
      rename Unit→_=>jp2
      have J2:∀b,Sx a b lo (lo+nrem)→Dn O key b lo (lo+m)→wpS (model prog w) A E s (jp2 ()) Q (SortSt.mk' κ b pd g none):=by
        intro b sb db
        have bz:=sb.size
        refine wpS_bind (qY ?_)
        have sc:=sb.trans (Sx.rev (a:=b) (i:=lo) (j:=lo+m) (Nat.le_refl lo) (show lo+m≤lo+nrem by exact Nat.add_le_add_left ‹_› _) (by lia))
        have cz:=sc.size
        have ss:=db.flip (by lia)
        revert sc cz ss
        generalize mirror b lo (lo+m) ((lo+m - lo) / 2)=c
        intro sc cz ss
        refine wpS_bind (xF (O:=O) (key:=key) (a:=c) (lo:=lo) (n0:=m) (nrem:=nrem) (by exact Nat.le_trans (Nat.le_add_left _ _) ‹_›) p2 ss (fun x n R n1 n2 hR=>?_) fun n q1 q2 q3 q4=>?_)
        · refine wpS_bind (jh C (sc.dom da) (show lo+n < c.size by lia) (show lo+n - 1 < c.size by lia) ?_)
          cases e:O.blt (key (at' c (lo+n))) (key (at' c (lo+n - 1))) with
          | true=>rw [e] at hR;exact wpS_pure hR
          | false=>rw [e] at hR;exact wpS_pure hR
        · exact wpS_pure (h n c (by lia) q2 sc q3)
      clear_value jp2
      refine fm (fun z=>?_) (fun z=>?_)
      · exact wpS_bind (qY (J2 _ (sb.trans (Sx.rev (a:=b) (i:=lo+m - (q+1)) (j:=lo+m) (by lia) (by exact Nat.add_le_add_left ‹_› _) (by lia))) (Dn.rev (hi:=lo+m) (q:=q) p3 p4 (by lia) (by exact Nat.add_lt_add_left ‹_› _))))
      · exact J2 b sb p3
  clear_value jp
  refine fm (fun c=>?_) (fun c=>?_)
  · refine wpS_bind (jh C da (show lo < a.size by lia) (show lo+n - 1 < a.size by lia) ?_)
    cases e:O.blt (key (at' a lo)) (key (at' a (lo+n - 1))) with
    | true=>exact wpS_pure (h n a q1 q2 .refl q3)
    | false=>
      refine wpS_bind (qY (J _ (Sx.rev (Nat.le_refl _) (by exact Nat.add_le_add_left ‹_› _) (by lia)) fun i j r1 r2 r3=>?_))
      have all:∀x y,lo≤x→x < lo+n→lo≤y→y < lo+n→Le O key (at' a x) (at' a y):=fun x y x1 x2 y1 y2=>
        ((q3.le x1 (by lia) (by lia):Le O key (at' a x) (at' a (lo+n - 1))).trans e).trans (q3.le (Nat.le_refl _) y1 y2)
      rw [fT (by lia),fT (by lia),if_pos (show lo≤i∧i < lo+n by lia)]
      by_cases c':j < lo+n
      · rw [if_pos (by lia)]
        exact all _ _ (by lia) (by lia) (by lia) (by lia)
      · rw [if_neg (by exact fun h=>‹¬_› h.2),show j=lo+n by lia]
        exact (Le.of sn).trans (all _ _ (by lia) (by lia) (by lia) (by lia))
  · refine J a .refl fun i j r1 r2 r3=>?_
    rw [show i=lo+n - 1 by lia,show j=lo+n by lia]
    exact Le.of sn
end
end NhLS
namespace NhLS
set_option autoImplicit false
open PySem PyProof.Rows
def Ch (O:KeyOrd) (key:Keyed→O.α) (a:Array Keyed):List (Nat×Nat×Nat)→Nat→Nat→Prop
  | [],p,e=>p=e
  | t::l,p,e=>t.1=p∧1≤t.2.1∧So O key a p (p+t.2.1)∧Ch O key a l (p+t.2.1) e
section
variable {O:KeyOrd} {key:Keyed→O.α} {a b:Array Keyed}
theorem Ch.app:∀{l l':List (Nat×Nat×Nat)} {p e:Nat},Ch O key a (l++l') p e→∃m,Ch O key a l p m∧Ch O key a l' m e
  | [],_,p,e,h=>⟨p,rfl,h⟩
  | t::l,_,p,e,h=>by
    obtain ⟨m,h1,h2⟩:=Ch.app h.2.2.2
    exact ⟨m,⟨h.1,h.2.1,h.2.2.1,h1⟩,h2⟩
theorem Ch.join:∀{l l':List (Nat×Nat×Nat)} {p m e:Nat},Ch O key a l p m→Ch O key a l' m e→Ch O key a (l++l') p e
  | [],_,p,m,e,h1,h2=>by rw [show p=m from h1];exact h2
  | t::l,_,p,m,e,h1,h2=>⟨h1.1,h1.2.1,h1.2.2.1,Ch.join h1.2.2.2 h2⟩
theorem Ch.le:∀{l:List (Nat×Nat×Nat)} {p e:Nat},Ch O key a l p e→p+l.length≤e
  | [],p,e,h=>by rw [show p=e from h];exact Nat.le_refl _
  | t::l,p,e,h=>by
    have:=Ch.le h.2.2.2
    have:=h.2.1
    rw [List.length_cons]
    lia
theorem Ch.ext:∀{l:List (Nat×Nat×Nat)} {p e:Nat},Ch O key a l p e→(∀j,p≤j→j < e→at' b j=at' a j)→Ch O key b l p e
  | [],p,e,h,_=>h
  | t::l,p,e,h,q=>by
    have:=Ch.le h.2.2.2
    exact ⟨h.1,h.2.1,h.2.2.1.ext fun j h1 h2=>q j h1 (by lia),Ch.ext h.2.2.2 fun j h1 h2=>q j (by exact Nat.le_trans (Nat.le_add_right _ _) ‹_›) h2⟩
theorem Ch.map:∀{l l':List (Nat×Nat×Nat)} {p e:Nat},Ch O key a l p e→l'.map (fun t=>(t.1,t.2.1))=l.map (fun t=>(t.1,t.2.1))→Ch O key a l' p e
  | [],l',p,e,h,q=>by
    cases l' with
    | nil=>exact h
    | cons _ _=>simp at q
  | t::l,l',p,e,h,q=>by
    cases l' with
    | nil=>simp at q
    | cons t' l'=>
      simp only [List.map_cons,List.cons.injEq,Prod.mk.injEq] at q
      refine ⟨q.1.1.trans h.1,by rw [q.1.2];exact h.2.1,by rw [q.1.2];exact h.2.2.1,?_⟩
      rw [q.1.2]
      exact Ch.map h.2.2.2 q.2
theorem wL (f:Nat×Nat×Nat→Nat×Nat×Nat) (hf:∀t,(f t).1=t.1∧(f t).2.1=t.2.1) (l:List (Nat×Nat×Nat)) (k:Nat):(l.modify k f).map (fun t=>(t.1,t.2.1))=l.map (fun t=>(t.1,t.2.1)):=by
  refine List.ext_getElem? fun j=>?_
  rw [List.getElem?_map,List.getElem?_map,List.getElem?_modify]
  cases l[j]? with
  | none=>rfl
  | some t=>
    by_cases e:k=j
    · simp [e,hf t]
    · simp [e]
theorem Ch.one {p n w:Nat} (h:So O key a p (p+n)) (h1:1≤n):Ch O key a [(p,n,w)] p (p+n):=⟨rfl,h1,h,rfl⟩
end
section
variable {prog:Program} {w:World} {A:Around} {E:Value→Shared→Prop} {s:Shared} {κ:SortKind} {O:KeyOrd} {key:Keyed→O.α} {dom:Keyed→Prop} {a:Array Keyed} {pd:Array (Nat×Nat×Nat)} {g:Nat}
theorem lP (C:Cmp prog w A s κ O key dom) {i lo:Nat} {Q:Bool→SortSt→Prop} (da:∀x∈a.toList,dom x) (hi:i+1 < pd.size) (hz:lo≤a.size) (hc:Ch O key a pd.toList 0 lo)
    (h:∀b pd' g',b.toList.Perm a.toList→(∀j,lo≤j→at' b j=at' a j)→Ch O key b pd'.toList 0 lo→pd'.size+1=pd.size→Q true (SortSt.mk' κ b pd' g' none)):wpS (model prog w) A E s (mergeAt' i) Q (SortSt.mk' κ a pd g none):=by
  have el:pd.toList=pd.toList.take i++(pd[i]::pd[i+1]::pd.toList.drop (i+2)):=by
    conv=>lhs;rw [←List.take_append_drop i pd.toList]
    congr 1
    rw [List.drop_eq_getElem_cons (by simp;exact Nat.lt_of_succ_lt ‹_›),List.drop_eq_getElem_cons (by simp;assumption)]
    simp
  have e1:pd[i]? =some pd[i]:=getElem?_pos ..
  have e2:pd[i+1]? =some pd[i+1]:=getElem?_pos ..
  revert el e1 e2
  generalize pd[i]=t1
  generalize pd[i+1]=t2
  intro el e1 e2
  obtain ⟨sa,na,w1⟩:=t1
  obtain ⟨sb,nb,w2⟩:=t2
  have li:(pd.toList.take i).length=i:=by simp;lia
  revert el li
  generalize pd.toList.take i=pre
  generalize pd.toList.drop (i+2)=post
  intro el li
  rw [el] at hc
  obtain ⟨m,c1,c2⟩:=hc.app
  obtain ⟨u1,u2,u3,v1,v2,v3,c3⟩:=c2
  simp only at u1 u2 u3 v1 v2 v3 c3
  subst u1
  subst v1
  have le3:=c3.le
  refine sR C (fun i hi=>da _ (ir hi)) e1 e2 u2 v2 (by lia) u3 v3 fun b g' pb ob sb=>h b _ g' pb (fun j hj=>ob j (.inr (by lia))) ?_ ?_
  · have:((pd.setIfInBounds i (sa,na+nb,w1)).eraseIdxIfInBounds (i+1)).toList=pre++((sa,na+nb,w1)::post):=by
      have hs:i+1 < (pd.setIfInBounds i (sa,na+nb,w1)).size:=by simpa using hi
      rw [Array.eraseIdxIfInBounds,dif_pos hs,Array.toList_eraseIdx,Array.toList_setIfInBounds,el]
      subst li
      simp [List.eraseIdx_append_of_length_le]
    rw [this]
    refine (c1.ext fun j _ hj=>ob j (.inl hj)).join ⟨rfl,by show 1≤na+nb;exact Nat.lt_add_right _ ‹_›,by rw [←Nat.add_assoc];exact sb,?_⟩
    show Ch O key b post (sa+(na+nb)) lo
    rw [←Nat.add_assoc]
    exact c3.ext fun j hj _=>ob j (.inr hj)
  · have hs:i+1 < (pd.setIfInBounds i (sa,na+nb,w1)).size:=by simpa using hi
    rw [Array.eraseIdxIfInBounds,dif_pos hs,Array.size_eraseIdx]
    simp
    lia
theorem u6 {c:Prop} [Decidable c] {x y:Nat} {Q:Bool→SortSt→Prop} {st:SortSt} (h:∀i,i=x∨i=y→wpS (model prog w) A E s (mergeAt' i) Q st):wpS (model prog w) A E s (mergeAt' (if c then x else y)) Q st:=by
  split
  · exact h _ (.inl rfl)
  · exact h _ (.inr rfl)
theorem p7 (C:Cmp prog w A s κ O key dom) {Q:Unit→SortSt→Prop} (da:∀x∈a.toList,dom x) (h:∀b pd' g',b.toList.Perm a.toList→So O key b 0 a.size→Q () (SortSt.mk' κ b pd' g' none)):wpS (model prog w) A E s sortRuns' Q (SortSt.mk' κ a #[] g none):=by
  refine wpS_bind (wpS_get ?_)
  refine wpS_bind (wpS_mono (wpS_forRange (I:=fun x c st'=>∃b lo pd g,st'=SortSt.mk' κ b pd g none∧b.toList.Perm a.toList∧c=(none,lo)∧lo≤a.size∧(x≤lo∨lo=a.size)∧Ch O key b pd.toList 0 lo)
    (Q:=fun c st'=>∃b pd g,st'=SortSt.mk' κ b pd g none∧b.toList.Perm a.toList∧c=(none,a.size)∧Ch O key b pd.toList 0 a.size) ?s1 ?s2 ⟨a,0,#[],g,rfl,List.Perm.refl _,rfl,by exact Nat.zero_le _,by (solve_by_elim (maxDepth:=3) only [*,Nat.le_trans,Nat.lt_of_lt_of_le,Nat.lt_of_le_of_lt,Nat.le_of_lt]),rfl⟩) ?s3)
  case s2=>
    rintro c st' ⟨b,lo,pd,g,rfl,p1,rfl,p2,p3,p4⟩
    have:lo=a.size:=by
      rcases p3 with p3 | p3
      · have p3':max 0 a.size≤lo:=p3
        exact Nat.le_antisymm ‹_› ‹_›
      · exact p3
    subst this
    exact ⟨b,pd,g,rfl,p1,rfl,p4⟩
  case s1=>
    rintro x c st' - x2 ⟨b,lo,pd,g,rfl,p1,rfl,p2,p3,p4⟩
    have bz:b.size=a.size:=by have:=p1.length_eq;simpa using this
    refine yX fun R hR=>?_
    have Rd:∀b pd g,b.toList.Perm a.toList→Ch O key b pd.toList 0 a.size→R (.done (none,a.size)) (SortSt.mk' κ b pd g none):=fun b pd g q1 q2=>by rw [hR];exact ⟨b,pd,g,rfl,q1,rfl,q2⟩
    have Ry:∀b lo pd g,b.toList.Perm a.toList→lo≤a.size→(x+1≤lo∨lo=a.size)→Ch O key b pd.toList 0 lo→R (.yield (none,lo)) (SortSt.mk' κ b pd g none):=fun b lo pd g q1 q2 q3 q4=>by rw [hR];exact ⟨b,lo,pd,g,rfl,q1,rfl,q2,q3,q4⟩
    clear hR
    dsimp -zeta only
    extract_lets
    refine fm (fun z=>?_) (fun z=>?_)
    · have:lo=a.size:=by exact Nat.le_antisymm ‹_› ‹_›
      subst this
      exact wpS_pure (Rd b pd g p1 p4)
    have z':lo < a.size:=by exact Nat.lt_of_not_le ‹_›
    refine wpS_bind (p6 C (fun x hx=>da x (p1.mem_iff.mp hx)) (lo:=lo) (nrem:=a.size - lo) (by exact Nat.sub_pos_of_lt ‹_›) (by lia) fun n c n1 n2 sc ss=>?_)
    dsimp -zeta only
    extract_lets
    rename Unit→Nat→_=>jp
    have J:∀(n:Nat) (c:Array Keyed),1≤n→n≤a.size - lo→Sx b c lo (lo+(a.size - lo))→So O key c lo (lo+n)→wpS (model prog w) A E s (jp () n) R (SortSt.mk' κ c pd g none):=by
      intro n c n1 n2 sc ss
      have cp:c.toList.Perm a.toList:=sc.perm.trans p1
      have ch:Ch O key c pd.toList 0 lo:=p4.ext fun j _ hj=>sc.out j (.inl hj)
      refine wpS_bind (wpS_get ?_)
      dsimp -zeta only
      extract_lets
      rename Unit→_=>jq
      have K:∀c pd g,c.toList.Perm a.toList→Ch O key c pd.toList 0 lo→So O key c lo (lo+n)→wpS (model prog w) A E s (jq ()) R (SortSt.mk' κ c pd g none):=by
        intro c pd g cp ch ss
        refine wpS_bind (wpS_modify (wpS_pure (Ry c (lo+n) (pd.push (lo,n,0)) g cp (by lia) (by lia) ?_)))
        rw [Array.toList_push]
        exact ch.join (Ch.one ss n1)
      clear_value jq
      cases eb:pd.back? with
      | none=>exact K c pd g cp ch ss
      | some t=>
        dsimp -zeta only
        refine wpS_bind (wpS_mono (wpS_forRange (I:=fun x r st'=>r=(none,())∧∃c pd g,st'=SortSt.mk' κ c pd g none∧c.toList.Perm a.toList∧Ch O key c pd.toList 0 lo∧So O key c lo (lo+n))
          (Q:=fun r st'=>r=(none,())∧∃c pd g,st'=SortSt.mk' κ c pd g none∧c.toList.Perm a.toList∧Ch O key c pd.toList 0 lo∧So O key c lo (lo+n)) ?t1 (fun _ _ q=>q) ⟨rfl,c,pd,g,rfl,cp,ch,ss⟩) ?t3)
        case t3=>
          rintro r st' ⟨rfl,c,pd,g,rfl,cp,ch,ss⟩
          refine wpS_bind (wpS_modify (K c _ g cp (ch.map ?_) ss))
          rw [Array.toList_modify]
          refine wL _ ?_ _ _
          exact fun _=>⟨rfl,rfl⟩
        case t1=>
          rintro y r st' - - ⟨rfl,c,pd,g,rfl,cp,ch,ss⟩
          refine wpS_bind (wpS_get ?_)
          dsimp only
          by_cases pz:pd.size > 1
          · rw [if_pos pz,getElem?_pos pd (pd.size - 2) (by lia)]
            refine fm (fun _=>?_) (fun _=>?_)
            · exact wpS_pure ⟨rfl,c,pd,g,rfl,cp,ch,ss⟩
            · have cz:c.size=a.size:=by have:=cp.length_eq;simpa using this
              refine wpS_bind (lP C (fun x hx=>da x (cp.mem_iff.mp hx)) (i:=pd.size - 2) (lo:=lo) (by lia) (by lia) ch fun d pd' g' dp od dc _=>?_)
              exact wpS_pure ⟨rfl,d,pd',g',rfl,dp.trans cp,dc,ss.ext fun j j1 _=>od j j1⟩
          · rw [if_neg pz]
            exact wpS_pure ⟨rfl,c,pd,g,rfl,cp,ch,ss⟩
    clear_value jp
    refine fm (fun y=>?_) (fun y=>?_)
    · refine wpS_bind (wpS_lift (wpAny_rule ⟨rfl,?_⟩))
      have cz:=sc.size
      refine wpS_bind (mX C (a:=c) (lo:=lo) (n:=min (a.size - lo) (minRun' a.size a.size 0)) (ok:=n) (fun x hx=>da x (p1.mem_iff.mp (sc.perm.mem_iff.mp hx))) n1 (by have y':n < minRun' a.size a.size 0:=y;lia) (by lia) ss fun d sd ds=>?_)
      refine aL (by simp) ?_
      exact J _ d (by have y':n < minRun' a.size a.size 0:=y;lia) (by lia) (sc.trans ⟨sd.perm,fun j hj=>sd.out j (by lia)⟩) ds
    · exact J n c n1 n2 sc ss
  case s3=>
    rintro c st' ⟨b,pd,g,rfl,p1,rfl,p2⟩
    refine wpS_bind (wpS_mono (wpS_forRange (I:=fun x r st'=>r=(none,())∧∃c pd g,st'=SortSt.mk' κ c pd g none∧c.toList.Perm a.toList∧Ch O key c pd.toList 0 a.size∧(pd.size+x≤a.size∨pd.size≤1))
      (Q:=fun r st'=>r=(none,())∧∃c pd g,st'=SortSt.mk' κ c pd g none∧c.toList.Perm a.toList∧Ch O key c pd.toList 0 a.size∧pd.size≤1) ?t1 ?t2 ⟨rfl,b,pd,g,rfl,p1,p2, .inl (by have:=p2.le;simp at this;assumption)⟩) ?t3)
    case t2=>
      rintro r st' ⟨rfl,c,pd,g,rfl,cp,ch,hz⟩
      refine ⟨rfl,c,pd,g,rfl,cp,ch,?_⟩
      rcases hz with hz | hz
      · have hz':pd.size+max 0 a.size≤a.size:=hz
        lia
      · exact hz
    case t1=>
      rintro y r st' - - ⟨rfl,c,pd,g,rfl,cp,ch,hz⟩
      refine wpS_bind (wpS_get ?_)
      refine fm (fun z=>?_) (fun z=>?_)
      · exact wpS_pure ⟨rfl,c,pd,g,rfl,cp,ch,z⟩
      · have z':1 < pd.size:=Nat.lt_of_not_le z
        have cz:c.size=a.size:=by have:=cp.length_eq;simpa using this
        extract_lets
        refine wpS_bind (u6 fun i hi=>?_)
        refine lP C (fun x hx=>da x (cp.mem_iff.mp hx)) (i:=i) (lo:=a.size) ?_ (by exact Nat.le_of_eq (Eq.symm ‹_›)) ch fun d pd' g' dp od dc dz=>?_
        · rcases hi with rfl | rfl
          · show pd.size - 2 - 1+1 < pd.size
            lia
          · show pd.size - 2+1 < pd.size
            lia
        · exact wpS_pure ⟨rfl,d,pd',g',rfl,dp.trans cp,dc,by lia⟩
    case t3=>
      rintro r st' ⟨rfl,c,pd,g,rfl,cp,ch,hz⟩
      refine wpS_pure (h c pd g cp ?_)
      obtain ⟨l⟩:=pd
      match l,hz,ch with
      | [],_,ch=>
        have:0=a.size:=ch
        rw [←this]
        exact fun i j _ _ q=>by lia
      | [t],_,ch=>
        obtain ⟨_,_,s1,e⟩:=ch
        have e':0+t.2.1=a.size:=e
        rw [e'] at s1
        exact s1
      | _::_::_,hz,_=>simp at hz
end
end NhLS
namespace NhSG
set_option autoImplicit false
open PySem PyProof PyProof.Rows PySem.W
abbrev Ky:=Int×List Nat
def eL (a b:Ky):Bool:=decide (a.1 < b.1)||(decide (a.1=b.1)&&decide (a.2 < b.2))
theorem ltKy_iff {a b:Ky}:eL a b=true↔a.1 < b.1∨(a.1=b.1∧a.2 < b.2):=by simp [eL]
theorem mY {a b:Ky}:eL a b=false↔¬(a.1 < b.1∨(a.1=b.1∧a.2 < b.2)):=by rw [←ltKy_iff];simp
def ki (hp:Heap):Value→Option Ky
  | .ref a=>(hp.get? a).bind fun o=>match o.data with
    | .seq xs _=>match xs.toList with
      | [.int n _, .str z _]=>some (n,z.cps.toList)
      | _=>none
    | _=>none
  | _=>none
theorem wM {hp:Heap} {a:Addr} {o:Obj} {xs:Array Value} {k:Nat} {n:Int} {t u:Tok} {z:Str} (ho:hp.get? a=some o) (hd:o.data= .seq xs k) (hx:xs.toList=[.int n t, .str z u]):ki hp (.ref a)=some (n,z.cps.toList):=by
  simp [ki,ho,hd,hx]
theorem qZ {hp:Heap} {v:Value} {y:Ky} (h:ki hp v=some y):∃a o xs k t z u,v= .ref a∧hp.get? a=some o∧o.data= .seq xs k∧xs.toList=[.int y.1 t, .str z u]∧y.2=z.cps.toList:=by
  unfold ki at h
  split at h
  · rename_i a
    obtain ⟨o,ho,h⟩:=Option.bind_eq_some_iff.mp h
    split at h
    · rename_i xs k hd
      split at h
      · rename_i n t z u hx
        cases h
        exact ⟨a,o,xs,k,t,z,u,rfl,ho,hd,hx,rfl⟩
      · cases h
    · cases h
  · cases h
@[reducible] def dX (hp:Heap):PyProof.Rows.KeyKind where
  α:=Ky
  blt:=eL
  irrefl a:=by
    rw [mY]
    rintro (h | h)
    · omega
    · exact List.lt_irrefl _ h.2
  trans a b c h1 h2:=by
    rw [ltKy_iff] at *
    rcases h1 with h1 | h1
    · rcases h2 with h2 | h2
      · exact .inl (by omega)
      · exact .inl (by omega)
    · rcases h2 with h2 | h2
      · exact .inl (by omega)
      · exact .inr ⟨by omega,List.lt_trans h1.2 h2.2⟩
  negTrans a b c h:=by
    rw [ltKy_iff] at *
    rw [ltKy_iff]
    by_cases hab:a.1 < b.1
    · exact .inl (.inl hab)
    · by_cases hbc:b.1 < c.1
      · exact .inr (.inl hbc)
      · have e:a.1=c.1∧a.2 < c.2:=by
          rcases h with h | h
          · omega
          · exact h
        by_cases hab2:a.2 < b.2
        · exact .inl (.inr ⟨by omega,hab2⟩)
        · exact .inr (.inr ⟨by omega,List.lt_of_le_of_lt (List.not_lt.mp hab2) e.2⟩)
  total a b h1 h2:=by
    rw [mY] at *
    have e:a.1=b.1:=by
      have n1:¬a.1 < b.1:=fun z=>h1 (.inl z)
      have n2:¬b.1 < a.1:=fun z=>h2 (.inl z)
      omega
    have e2:a.2=b.2:=List.le_antisymm (List.not_lt.mp fun z=>h2 (.inr ⟨e.symm,z⟩)) (List.not_lt.mp fun z=>h1 (.inr ⟨e,z⟩))
    exact Prod.ext e e2
  keyOf:=ki hp
  dflt:=(0,[])
def BZ (prog:Program) (w:World) (A:Around) (κ:PyProof.Rows.KeyKind) (kd:SortKind) (s:Shared):Prop:=
  ∀(E:Value→Shared→Prop) (x y:Value) (a b:κ.α) {Q:Bool→Shared→Prop},κ.keyOf x=some a→κ.keyOf y=some b→Q (κ.blt a b) s→wpAny (model prog w) A (keyLt' kd x y) Q E s
theorem wN {prog:Program} {w:World} {A:Around} {s:Shared}:BZ prog w A (dX s.heap) (tuples' true) s:=fun E x y a b Q ha hb hq=>by
  obtain ⟨ax,ox,xs,kx,tx,zx,ux,rfl,hox,hdx,hxx,ea⟩:=qZ ha
  obtain ⟨ay,oy,ys,ky,ty,zy,uy,rfl,hoy,hdy,hyy,eb⟩:=qZ hb
  refine kat_lt hox hdx hoy hdy ?_
  have fin:decide (xs.size < ys.size)=false:=by
    have l1:xs.size=2:=by rw [←Array.length_toList,hxx];rfl
    have l2:ys.size=2:=by rw [←Array.length_toList,hyy];rfl
    rw [l1,l2]
    rfl
  rw [hxx,hyy,fin]
  show KatLex prog w A true false Q [(.int a.1 tx, .int b.1 ty),(.str zx ux, .str zy uy)] 0 s
  refine kat_cons (wpAny_eqBool_int (kat_go (fun e1=>kat_yes (kat_cons (wpAny_eqBool_str (kat_go (fun e2=>kat_yes (kat_nil ?_)) (fun e2=>kat_no ?_))))) (fun e1=>kat_no ?_)))
  · have e1:a.1=b.1:=by simpa using e1
    have e2:zx=zy:=by simpa using e2
    have:eL a b=false:=by
      rw [mY,ea,eb,e2]
      rintro (z | z)
      · omega
      · exact List.lt_irrefl _ z.2
    rw [←this]
    exact hq
  · have e1:a.1=b.1:=by simpa using e1
    show wpAny (model prog w) A (oneLt' false (.str zx ux) (.str zy uy)) Q _ s
    refine kat_one _ _ (PySem.P.lt_str ?_)
    have:eL a b=decide (zx.cps.toList < zy.cps.toList):=by
      unfold eL
      rw [←ea,←eb]
      simp [e1]
    have hq':Q (eL a b) s:=hq
    rw [this] at hq'
    exact hq'
  · have e1:¬a.1=b.1:=by simpa using e1
    show wpAny (model prog w) A (oneLt' true (.int a.1 tx) (.int b.1 ty)) Q _ s
    refine oneLt_int ?_
    have:eL a b=decide (a.1 < b.1):=by
      unfold eL
      simp [e1]
    have hq':Q (eL a b) s:=hq
    rw [this] at hq'
    exact hq'
end NhSG
namespace NhSG
set_option autoImplicit false
open PySem PyProof PyProof.Rows PySem.W
def Keep (h h':Heap):Prop:=∀b o,h.get? b=some o→h'.get? b=some o
theorem Keep.refl (h:Heap):Keep h h:=fun _ _ e=>e
theorem Keep.trans {h h1 h2:Heap} (a:Keep h h1) (b:Keep h1 h2):Keep h h2:=fun c o e=>b c o (a c o e)
def IsKy (hp:Heap) (v:Value) (y:Ky):Prop:=∃c o xs k t z u,v= .ref c∧hp.get? c=some o∧o.cls= .type "tuple"∧o.data= .seq xs k∧xs.toList=[.int y.1 t, .str z u]∧y.2=z.cps.toList
theorem IsKy.keep {h h':Heap} {v:Value} {y:Ky} (a:IsKy h v y) (k:Keep h h'):IsKy h' v y:=by
  obtain ⟨c,o,xs,n,t,z,u,e,ho,r⟩:=a
  exact ⟨c,o,xs,n,t,z,u,e,k c o ho,r⟩
theorem IsKy.key {h:Heap} {v:Value} {y:Ky} (a:IsKy h v y):ki h v=some y:=by
  obtain ⟨c,o,xs,n,t,z,u,rfl,ho,hc,hd,hx,e⟩:=a
  rw [wM ho hd hx,←e]
def KA (hp:Heap):List Value→List Ky→Prop
  | [],[]=>True
  | v::vs,y::ys=>IsKy hp v y∧KA hp vs ys
  | _,_=>False
theorem KA.keep {h h':Heap} (k:Keep h h'):∀{vs:List Value} {ys:List Ky},KA h vs ys→KA h' vs ys
  | [],[],_=>trivial
  | v::vs,y::ys,a=>⟨a.1.keep k,KA.keep k a.2⟩
  | [],_::_,a=>a.elim
  | _::_,[],a=>a.elim
theorem KA.len {h:Heap}:∀{vs:List Value} {ys:List Ky},KA h vs ys→vs.length=ys.length
  | [],[],_=>rfl
  | v::vs,y::ys,a=>by simp [KA.len a.2]
  | [],_::_,a=>a.elim
  | _::_,[],a=>a.elim
theorem KA.snoc {h:Heap} {v:Value} {y:Ky} (b:IsKy h v y):∀{vs:List Value} {ys:List Ky},KA h vs ys→KA h (vs++[v]) (ys++[y])
  | [],[],_=>⟨b,trivial⟩
  | _::_,_::_,a=>⟨a.1,KA.snoc b a.2⟩
  | [],_::_,a=>a.elim
  | _::_,[],a=>a.elim
theorem KA.tups {h:Heap}:∀{vs:List Value} {ys:List Ky},KA h vs ys→∃fs,KatTups h vs fs∧(∀f∈fs,∃n t,f= .int n t)∧fs.length=vs.length
  | [],[],_=>⟨[],trivial,(fun _ z=>by cases z),rfl⟩
  | v::vs,y::ys,a=>by
    obtain ⟨fs,t,hf,hl⟩:=KA.tups a.2
    obtain ⟨c,o,xs,n,tk,z,u,rfl,ho,hc,hd,hx,e⟩:=a.1
    refine ⟨.int y.1 tk::fs,KatTups.cons ho hc hd ?_ t,fun f hm=>?_,by simp [hl]⟩
    · rw [←Array.getElem?_toList,hx]
      rfl
    · rcases List.mem_cons.mp hm with rfl | hm
      · exact ⟨_,_,rfl⟩
      · exact hf f hm
  | [],_::_,a=>a.elim
  | _::_,[],a=>a.elim
theorem KA.at {h:Heap}:∀{ks:List Value} {ys:List Ky} {i:Nat},KA h ks ys→i < ks.length→ki h (ks.getD i Value.none)=some (ys.getD i (0,[]))
  | k::ks,y::ys,0,a,_=>a.1.key
  | k::ks,y::ys,i+1,a,hi=>by
    have:=KA.at (i:=i) a.2 (by simpa using hi)
    simpa using this
  | [],_,_,_,hi=>by simp at hi
  | _::_,[],_,a,_=>a.elim
def sS (ys:List Ky) (vs out:List Value):Prop:=∃ps:List (Ky×Value),ps.Perm (ys.zip vs)∧ps.Pairwise (fun p q=>eL q.1 p.1=false)∧out=ps.map (·.2)
@[reducible] def oB (h:Heap) (p:Keyed):Ky:=(ki h p.1).getD (0,[])
theorem Bz {prog:Program} {w:World} {A:Around} {s:Shared}:NhLS.Cmp prog w A s (tuples' true) (dX s.heap).toKeyOrd (oB s.heap) (fun p=>∃y,ki s.heap p.1=some y):=
  ⟨fun E x y Q ⟨a,ha⟩ ⟨b,hb⟩ hq=>by
    have hq':Q (eL (oB s.heap x) (oB s.heap y)) s:=hq
    unfold oB at hq'
    rw [ha,hb] at hq'
    exact wN E x.1 y.1 a b ha hb hq'⟩
theorem KA.zip {h:Heap}:∀{ks:List Value} {ys:List Ky} {vs:List Value},KA h ks ys→(ks.zip vs).map (fun p=>(oB h p,p.2))=ys.zip vs
  | [],[],_,_=>by simp
  | k::ks,y::ys,[],_=>by simp
  | k::ks,y::ys,v::vs,a=>by
    simp only [List.zip_cons_cons,List.map_cons]
    rw [KA.zip a.2]
    congr 1
    show ((ki h k).getD (0,[]),v)=(y,v)
    rw [a.1.key]
    rfl
  | [],_::_,_,a=>a.elim
  | _::_,[],_,a=>a.elim
theorem KA.dom {h:Heap} {vs:List Value}:∀{ks:List Value} {ys:List Ky},KA h ks ys→∀p∈ks.zip vs,∃y,ki h p.1=some y:=fun {ks ys} a p hp=>by
  have hk:p.1∈ks:=(List.of_mem_zip hp).1
  clear hp
  induction ks generalizing ys with
  | nil=>cases hk
  | cons k ks ih=>cases ys with
    | nil=>exact a.elim
    | cons y ys=>
      rcases List.mem_cons.mp hk with e | hk
      · rw [e];exact ⟨y,a.1.key⟩
      · exact ih a.2 hk
theorem y9 {h:Heap} {ks:List Value} {ys:List Ky} {vs:List Value} {b:Array Keyed} (hK:KA h ks ys) (hp:b.toList.Perm (ks.zip vs)) (hs:NhLS.So (dX h).toKeyOrd (oB h) b 0 b.size):sS ys vs (b.map (·.2)).toList:=by
  refine ⟨b.toList.map (fun p=>(oB h p,p.2)),?_,?_,?_⟩
  · rw [←hK.zip (vs:=vs)]
    exact hp.map _
  · rw [List.pairwise_map,List.pairwise_iff_getElem]
    intro i j hi hj hij
    rw [NhLS.fD,NhLS.fD]
    exact hs i j (Nat.zero_le _) hij (by simpa using hj)
  · rw [Array.toList_map,List.map_map]
    rfl
section
variable {prog:Program} {w:World} {A:Around} {E:Value→Shared→Prop} {s:Shared} {a kS:Addr} {ks vs:List Value} {ys:List Ky} {e e1:Nat} {P:PySem.Fin→Shared→Prop}
theorem q9 {st:SortSt} (hk:s.heap.get? kS=some (seqObj "list" ks.toArray e)) (ha:s.heap.get? a=some (seqObj "list" #[] e1)) (hka:kS≠a) (h64:vs.length < 65536) (hl:ks.length=vs.length) (hn:(arrOf st).size=vs.length) (hfl:failedOf st=none)
    (h:∀h' tk c,h'.get? a=some (seqObj "list" ((arrOf st).map (·.2)) c)→(∀b o,b≠a→b≠kS→s.heap.get? b=some o→h'.get? b=some o)→P (.done (.ret .none)) {s with heap:=h',toks:=tk}):
    wpAny (model prog w) A (ksk_tail a false e1 (.ref kS) st) P E s:=by
  have s1:=Heap.SameBut.update s.heap kS (Obj.mapSeq fun _=>(#[]:Array Value))
  have na1:(s.heap.update kS (Obj.mapSeq fun _=>(#[]:Array Value))).get? a=some (seqObj "list" #[] e1):=(s1.2 a hka.symm).trans ha
  have s2:=Heap.SameBut.update (s.heap.update kS (Obj.mapSeq fun _=>(#[]:Array Value))) a (Obj.mapSeq fun _=>(arrOf st).map (·.2))
  obtain ⟨c2,hc2⟩:∃c2,((s.heap.update kS (Obj.mapSeq fun _=>(#[]:Array Value))).update a (Obj.mapSeq fun _=>(arrOf st).map (·.2))).get? a=some (seqObj "list" ((arrOf st).map (·.2)) c2):=⟨_,get?_update_seq na1 fun _=>(arrOf st).map (·.2)⟩
  unfold ksk_tail
  try dsimp only
  refine wpAny_bind (listUpdate_at hk rfl ?_ (by rw [List.size_toArray,sizeLine_eq];omega) (Nat.zero_le _))
  refine wpAny_bind (wpAny_letGo ?_)
  refine wpAny_bind (seqEpoch_at na1 rfl ?_)
  simp only [Bool.false_eq_true,if_false]
  refine wpAny_bind (listUpdate_at na1 rfl ?_ (Nat.zero_le _) (by rw [Array.size_map,hn,sizeLine_eq];omega))
  rw [hfl]
  simp only [bne_self_eq_false,Bool.false_eq_true,if_false]
  exact wpAny_pure (h _ _ c2 hc2 fun b o h1 h2 q=>(s2.2 b h1).trans ((s1.2 b h2).trans q))
theorem y_ (hK:KA s.heap ks ys) (hk:s.heap.get? kS=some (seqObj "list" ks.toArray e)) (ha:s.heap.get? a=some (seqObj "list" #[] e1)) (hka:kS≠a) (h64:vs.length < 65536) (hl:ks.length=vs.length)
    (h:∀h' tk out c,h'.get? a=some (seqObj "list" out c)→sS ys vs out.toList→(∀b o,b≠a→b≠kS→s.heap.get? b=some o→h'.get? b=some o)→P (.done (.ret .none)) {s with heap:=h',toks:=tk}):
    wpAny (model prog w) A (ksk_end a false vs.toArray e1 (.ref kS) ks.toArray) P E s:=by
  have hzs:(ks.toArray.zip vs.toArray).size=vs.length:=by rw [Array.size_zip,List.size_toArray,List.size_toArray,hl,Nat.min_self]
  unfold ksk_end
  try dsimp only
  simp only [Bool.false_eq_true,if_false]
  by_cases h2:vs.toArray.size < 2
  · rw [if_pos h2,if_pos h2]
    refine wpAny_bind (wpAny_pure ?_)
    rw [StateT.run_pure]
    refine wpAny_bind (wpAny_pure ?_)
    try dsimp only
    refine q9 (st:=SortSt.mk' general' (ks.toArray.zip vs.toArray) #[] 7 none) hk ha hka h64 hl hzs rfl fun h' tk c h1 h3=>h h' tk _ c h1 ⟨ys.zip vs,List.Perm.refl _,?_,?_⟩ h3
    · rw [List.size_toArray] at h2
      rw [List.pairwise_iff_getElem]
      intro i j hi hj hij
      simp at hj
      omega
    · have e1:(ys.zip vs).map (·.2)=vs:=by rw [List.map_snd_zip];have:=hK.len;omega
      have e2:((arrOf (SortSt.mk' general' (ks.toArray.zip vs.toArray) #[] 7 none)).map (·.2)).toList=(ks.zip vs).map (·.2):=by
        show ((ks.toArray.zip vs.toArray).map (·.2)).toList=_
        simp
      rw [e1,e2,List.map_snd_zip]
      omega
  · rw [if_neg h2,if_neg h2]
    rw [List.size_toArray] at h2
    obtain ⟨fs,tt,hf,lf⟩:=hK.tups
    refine wpAny_bind (kat_kind (T:= .type "int") tt (by omega) (fun v hv=>?_) (by decide) ?_)
    · obtain ⟨n,t,rfl⟩:=hf v hv
      exact .now
    · have run:=NhLS.p7 (E:=E) (a:=ks.toArray.zip vs.toArray) (g:=7) (Bz (prog:=prog) (w:=w) (A:=A) (s:=s)) (Q:=fun _ st'=>∃b pd g,st'=SortSt.mk' (tuples' true) b pd g none∧b.toList.Perm (ks.zip vs)∧NhLS.So (dX s.heap).toKeyOrd (oB s.heap) b 0 b.size)
        (by simpa using hK.dom) fun b pd g hp hs=>⟨b,pd,g,rfl,by simpa using hp,by have:=hp.length_eq;simp only [Array.length_toList] at this;rw [this];exact hs⟩
      refine wpAny_bind (wpAny_mono run ?_ fun _ _ e=>e)
      rintro ⟨⟨⟩,st'⟩ s' ⟨es,b,pd,g,e,hp,hs⟩
      subst es
      dsimp only at e
      subst e
      try dsimp only
      have hz:b.size=vs.length:=by have:=hp.length_eq;simpa [hl] using this
      exact q9 (st:=SortSt.mk' (tuples' true) b pd g none) hk ha hka h64 hl hz rfl fun h' tk c h1 h3=>h h' tk _ c h1 (y9 hK hp hs) h3
def gN (prog:Program) (w:World) (A:Around) (f:Value) (s:Shared) (v:Value) (y:Ky):Prop:=∀(h:Heap) (tk:Nat),Keep s.heap h→
  wpAny (model prog w) A (call f [v]) (fun r s'=>∃h' tk',s'={s with heap:=h',toks:=tk'}∧Keep h h'∧IsKy h' r y) (fun _ _=>False) {s with heap:=h,toks:=tk}
theorem wO {f:Value} {s0:Shared} (hs0:Keep s0.heap s.heap) (hss:∃tk,s={s0 with heap:=s.heap,toks:=tk}) (h0a:s0.heap.get? a=none) (h0k:s0.heap.get? kS=none) (hk:s.heap.get? kS=some (seqObj "list" #[] 0)) (ha:s.heap.get? a=some (seqObj "list" #[] e1)) (hka:kS≠a) (h64:vs.length < 65536) (hl:ys.length=vs.length)
    (turn:∀(i:Nat) (v:Value) (y:Ky),vs[i]? =some v→ys[i]? =some y→gN prog w A f s0 v y)
    (h:∀h' tk out c,h'.get? a=some (seqObj "list" out c)→sS ys vs out.toList→Keep s0.heap h'→P (.done (.ret .none)) {s0 with heap:=h',toks:=tk}):
    wpAny (model prog w) A (ksk_rest a f false vs.toArray e1 (.ref kS)) P E s:=by
  unfold ksk_rest
  refine wpAny_bind (wpAny_rule ?_)
  first
    | rw [List.forIn_toArray]
    | (rw [←Array.forIn_toList];simp only [List.toList_toArray])
    | rw [←Array.forIn_toList]
  obtain ⟨tk0,es⟩:=hss
  refine wpAny_bind (ksk_fold (fun i s'=>∃h' tk kL e,s'={s0 with heap:=h',toks:=tk}∧Keep s0.heap h'∧h'.get? kS=some (seqObj "list" kL.toArray e)∧h'.get? a=some (seqObj "list" #[] e1)∧KA h' kL (ys.take i)) vs 0 s
    ⟨s.heap,tk0,[],0,es,hs0,hk,ha,by simp [KA]⟩ ?step ?done)
  case step=>
    rintro j x s' hx ⟨h',tk,kL,e,rfl,F',N1,N2,hK⟩
    simp only [Nat.zero_add] at hK ⊢
    have hj:j < vs.length:=(List.getElem?_eq_some_iff.mp hx).1
    obtain ⟨y,hyj⟩:∃y,ys[j]? =some y:=⟨_,List.getElem?_eq_getElem (by omega)⟩
    have hz:kL.length≤vs.length:=by
      have h1:=hK.len
      rw [List.length_take] at h1
      omega
    refine wpAny_bind (wpAny_attempt (wpAny_mono (turn j x y hx hyj h' tk F') (fun v s'' he=>?_) fun _ _ hF=>hF.elim))
    obtain ⟨g,tk2,rfl,kg,hy⟩:=he
    try dsimp only
    have nk:=kg _ _ N1
    have na:=kg _ _ N2
    have s1:=Heap.SameBut.update g kS (Obj.mapSeq (·.push v))
    obtain ⟨c2,hc2⟩:∃c2,(g.update kS (Obj.mapSeq (·.push v))).get? kS=some (seqObj "list" (kL.toArray.push v) c2):=⟨_,get?_update_seq nk (·.push v)⟩
    have ek:ys.take (j+1)=ys.take j++[y]:=by rw [List.take_add_one,hyj];simp
    have ea:kL.toArray.push v=(kL++[v]).toArray:=by simp
    have ng:∀{ks':List Value} {ys':List Ky},KA g ks' ys'→KA (g.update kS (Obj.mapSeq (·.push v))) ks' ys':=fun {ks'} {ys'} q=>by
      induction ks' generalizing ys' with
      | nil=>cases ys' with
        | nil=>trivial
        | cons _ _=>exact q.elim
      | cons k ks' ih=>cases ys' with
        | nil=>exact q.elim
        | cons y' ys'=>
          refine ⟨?_,ih q.2⟩
          obtain ⟨c,o,xs,n,t,z,u,ec,ho,hcl,r⟩:=q.1
          refine ⟨c,o,xs,n,t,z,u,ec,(s1.2 c ?_).trans ho,hcl,r⟩
          intro e3
          subst e3
          rw [nk] at ho
          cases ho
          have e4:Value.type "list"=Value.type "tuple":=hcl
          injection e4 with e5
          exact absurd e5 (by decide)
    refine wpAny_bind (listUpdate_at nk rfl ?_ (by rw [List.size_toArray,sizeLine_eq];omega) (Nat.le_trans (Nat.le_of_eq (Array.size_push ..)) (by rw [List.size_toArray,sizeLine_eq];omega)))
    refine wpAny_pure ⟨rfl,_,_,kL++[v],c2,rfl,fun b o q=>?_,by rw [←ea];exact hc2,(s1.2 a hka.symm).trans na,by rw [ek];exact ng (KA.snoc hy (hK.keep kg))⟩
    refine (s1.2 b fun e3=>?_).trans (kg _ _ (F' _ _ q))
    subst e3
    rw [h0k] at q
    cases q
  case done=>
    rintro s' ⟨h',tk,kL,e,rfl,F',N1,N2,hK⟩
    have e3:ys.take (0+vs.length)=ys:=List.take_of_length_le (by omega)
    rw [e3] at hK
    try dsimp only
    refine wpAny_bind (listItems_at N1 rfl ?_)
    refine y_ (s:={s0 with heap:=h',toks:=tk}) hK N1 N2 hka h64 (by rw [hK.len,hl]) fun h3 tk3 out c g1 g2 g3=>h h3 tk3 out c g1 g2 fun b o q=>g3 b o ?_ ?_ (F' b o q)
    · intro z;subst z;rw [h0a] at q;cases q
    · intro z;subst z;rw [h0k] at q;cases q
theorem wP {f:Value} {n:Nat} {s0:Shared} (hs0:Keep s0.heap s.heap) (hss:∃tk,s={s0 with heap:=s.heap,toks:=tk}) (h0a:s0.heap.get? a=none) (hle:s0.heap.objs.size≤s.heap.objs.size) (ho:s.heap.get? a=some (seqObj "list" vs.toArray n)) (h64:vs.length < 65536) (hl:ys.length=vs.length)
    (turn:∀(i:Nat) (v:Value) (y:Ky),vs[i]? =some v→ys[i]? =some y→gN prog w A f s0 v y)
    (h:∀h' tk out c,h'.get? a=some (seqObj "list" out c)→sS ys vs out.toList→Keep s0.heap h'→P (.done (.ret .none)) {s0 with heap:=h',toks:=tk}):
    wpAny (model prog w) A (ksk_tree a f false) P E s:=by
  have ha:a < s.heap.objs.size:=Heap.lt_size ho
  have s1:=Heap.SameBut.update s.heap a (Obj.mapSeq fun _=>(#[]:Array Value))
  obtain ⟨e1,ho1⟩:∃e1,(s.heap.update a (Obj.mapSeq fun _=>(#[]:Array Value))).get? a=some (seqObj "list" #[] e1):=⟨_,get?_update_seq ho fun _=>#[]⟩
  have hkS:((s.heap.update a (Obj.mapSeq fun _=>(#[]:Array Value))).push (seqObj "tuple" vs.toArray 0)).objs.size=s.heap.objs.size+1:=by rw [size_push',Heap.size_update]
  obtain ⟨tk0,es⟩:=hss
  unfold ksk_tree
  refine wpAny_bind (listItems_at ho rfl ?_)
  refine wpAny_bind (listUpdate_at ho rfl ?_ (by rw [List.size_toArray,sizeLine_eq];omega) (Nat.zero_le _))
  refine wpAny_bind (seqEpoch_at ho1 rfl ?_)
  refine wpAny_bind (wpAny_newTuple ?_ (by show vs.length≤_;rw [sizeLine_eq];omega))
  refine wpAny_bind (wpAny_newList ?_ (Nat.zero_le _))
  refine wpAny_holding ?_
  refine wO (s:={s with heap:=((s.heap.update a (Obj.mapSeq fun _=>(#[]:Array Value))).push (seqObj "tuple" vs.toArray 0)).push (seqObj "list" #[] 0)}) (kS:=((s.heap.update a (Obj.mapSeq fun _=>(#[]:Array Value))).push (seqObj "tuple" vs.toArray 0)).objs.size) (s0:=s0)
    (fun b o q=>?_) ⟨tk0,by rw [es]⟩ h0a (Heap.get?_none_of_le (by rw [hkS];omega)) (Heap.get?_push_size _ rfl) (Heap.get?_push_of_some _ (Heap.get?_push_of_some _ ho1)) (by rw [hkS];exact Nat.ne_of_gt (Nat.lt_succ_of_lt ha)) h64 hl turn h
  refine Heap.get?_push_of_some _ (Heap.get?_push_of_some _ ((s1.2 b fun z=>?_).trans (hs0 b o q)))
  subst z
  rw [h0a] at q
  cases q
end
end NhSG
namespace NhSG
set_option autoImplicit false
open PySem PyProof PyProof.Rows PySem.W
section
variable {prog:Program} {w:World} {A:Around} {E:Value→Shared→Prop} {s:Shared} {l q:Addr} {vs:List Value} {ys:List Ky} {Q:Value→Shared→Prop}
theorem p8 (hl:s.heap.IsList l vs.toArray) (hlen:ys.length=vs.length) (h64:vs.length < 65536)
    (turn:∀(i:Nat) (v:Value) (y:Ky),vs[i]? =some v→ys[i]? =some y→gN prog w A.in1.in1 (.ref q) s v y)
    (h:∀D h' tk out c,h'.get? D=some (seqObj "list" out c)→s.heap.objs.size≤D→sS ys vs out.toList→Keep s.heap h'→Q (.ref D) {s with heap:=h',toks:=tk}):
    wpAny (model prog w) A (call (.builtin "sorted") [.ref l] [(Str.ofString "key", .ref q)]) Q E s:=by
  refine call_function_entry_kw kind_sorted plain_sorted entry_sorted (ksk_s1 _ _) ?_
  unfold Builtin.«sorted»
  refine wpAny_bind (m:=checkCount "sorted" 1 1 _) (wpAny_pure ?_)
  refine wpAny_bind (collect_list hl ?_ (by rw [sizeLine_eq];omega))
  refine wpAny_bind (wpAny_newList ?_ (by rw [sizeLine_eq];omega))
  have hsz:((s.heap.push (seqObj "list" #[] 0)).update s.heap.objs.size (Obj.mapSeq (· ++vs.toArray))).objs.size=s.heap.objs.size+1:=by
    rw [Heap.size_update,size_push']
  have hoL:(((s.heap.push (seqObj "list" #[] 0)).update s.heap.objs.size (Obj.mapSeq (· ++vs.toArray))).push (seqObj "list" vs.toArray 0)).get? (s.heap.objs.size+1)=some (seqObj "list" vs.toArray 0):=by
    rw [←hsz];exact Heap.get?_push_size _ rfl
  have keep:Keep s.heap (((s.heap.push (seqObj "list" #[] 0)).update s.heap.objs.size (Obj.mapSeq (· ++vs.toArray))).push (seqObj "list" vs.toArray 0)):=fun b o q=>by
    have hlt:b < s.heap.objs.size:=Heap.lt_size q
    rw [Heap.get?_push_ne _ _ _ (by rw [hsz];exact Nat.ne_of_lt (Nat.lt_succ_of_lt hlt)),Heap.get?_update_ne _ _ _ _ (Nat.ne_of_lt hlt),Heap.get?_push_ne _ _ _ (Nat.ne_of_lt hlt)]
    exact q
  show wpAny _ _ _ _ _ {s with heap:=((s.heap.push (seqObj "list" #[] 0)).update s.heap.objs.size (Obj.mapSeq (· ++vs.toArray))).push (seqObj "list" vs.toArray 0)}
  rw [hsz]
  have h0:s.heap.get? (s.heap.objs.size+1)=none:=Heap.get?_none_of_le (Nat.le_succ _)
  refine wpAny_bind (wpAny_holding (wpAny_call_entry_kw slot_list_sort ⟨_,hoL,rfl⟩ entry_list_sort ?body (ksk_l1 _ _)))
  case body=>
    show wpAny (model prog w) A.in1.in1 (Builtin.«list.sort» ⟨[.ref (s.heap.objs.size+1)],[(Str.ofString "key", .ref q)]⟩) _ _ _
    rw [ksk_t1]
    refine wP (s:={s with heap:=((s.heap.push (seqObj "list" #[] 0)).update s.heap.objs.size (Obj.mapSeq (· ++vs.toArray))).push (seqObj "list" vs.toArray 0)}) (s0:=s) keep ⟨s.toks,rfl⟩ h0 (by rw [size_push',hsz];omega) hoL h64 hlen turn fun h' tk out c g1 g2 g3=>⟨_,rfl,?_⟩
    exact wpAny_pure ⟨_,rfl,h _ h' tk out c g1 (Nat.le_succ _) g2 g3⟩
end
end NhSG
namespace NhSG
set_option autoImplicit false
open PySem
def fE (z:Str):Ky:=(z.length,z.cps.toList)
def nH (a b:Str):Bool:= !eL (fE b) (fE a)
def gq (ws:List Str):List Str:=ws.mergeSort nH
def o_:Value→Option Str
  | .str z _=>some z
  | _=>none
theorem u7 {a b:Str} (h:fE a=fE b):a=b:=by
  have e:a.cps.toList=b.cps.toList:=congrArg Prod.snd h
  cases a;cases b
  congr
  exact Array.toList_inj.mp e
theorem sT (a b c:Str) (h1:nH a b=true) (h2:nH b c=true):nH a c=true:=by
  unfold nH at *
  simp only [Bool.not_eq_true'] at *
  exact (PyProof.Rows.KeyOrd.kle_trans (O:=(dX default).toKeyOrd) h1 h2)
theorem sU (a b:Str):(nH a b||nH b a)=true:=by
  unfold nH
  by_cases h:eL (fE b) (fE a)=true
  · have:eL (fE a) (fE b)=false:=PyProof.Rows.KeyOrd.klt_asymm (O:=(dX default).toKeyOrd) h
    simp [this]
  · simp [Bool.not_eq_true _▸h]
theorem u8 {a b:Str} (h1:nH a b=true) (h2:nH b a=true):a=b:=by
  unfold nH at *
  simp only [Bool.not_eq_true'] at *
  exact u7 ((dX default).total _ _ h2 h1)
theorem lQ {qs ws:List Str} (hp:qs.Perm ws) (hs:qs.Pairwise fun a b=>nH a b=true):qs=gq ws:=by
  have h1:(gq ws).Pairwise fun a b=>nH a b=true:=List.pairwise_mergeSort sT sU ws
  have h2:qs.Perm (gq ws):=hp.trans (List.mergeSort_perm ws nH).symm
  exact h2.eq_of_pairwise (fun a b _ _ x y=>u8 x y) hs h1
theorem sV {ws:List Str} {vs out:List Value} (hv:vs.map o_=ws.map some) (h:sS (ws.map fE) vs out):out.map o_=(gq ws).map some:=by
  obtain ⟨ps,hp,hs,rfl⟩:=h
  have key:∀(ws:List Str) (vs:List Value),vs.map o_=ws.map some→∀p∈(ws.map fE).zip vs,∃z,p.1=fE z∧o_ p.2=some z:=fun ws=>by
    induction ws with
    | nil=>intro vs _ p hp;simp at hp
    | cons w ws ih=>
      intro vs hv p hp
      cases vs with
      | nil=>simp at hp
      | cons v vs=>
        simp only [List.map_cons,List.cons.injEq] at hv
        rw [List.map_cons,List.zip_cons_cons] at hp
        rcases List.mem_cons.mp hp with rfl | hp
        · exact ⟨w,rfl,hv.1⟩
        · exact ih vs hv.2 p hp
  have zm:∀(ws:List Str) (vs:List Value),vs.map o_=ws.map some→((ws.map fE).zip vs).map (fun p=>o_ p.2)=ws.map some:=fun ws=>by
    induction ws with
    | nil=>intro vs _;simp
    | cons w ws ih=>
      intro vs hv
      cases vs with
      | nil=>simp at hv
      | cons v vs=>
        simp only [List.map_cons,List.cons.injEq] at hv
        simp only [List.map_cons,List.zip_cons_cons,hv.1,ih vs hv.2]
  have ex:∀ps:List (Ky×Value),(∀p∈ps,∃z,p.1=fE z∧o_ p.2=some z)→∃qs:List Str,ps.map (·.1)=qs.map fE∧ps.map (fun p=>o_ p.2)=qs.map some:=fun ps=>by
    induction ps with
    | nil=>intro _;exact ⟨[],rfl,rfl⟩
    | cons p ps ih=>
      intro h
      obtain ⟨z,h1,h2⟩:=h p (List.mem_cons_self ..)
      obtain ⟨qs,e1,e2⟩:=ih fun q hq=>h q (List.mem_cons_of_mem _ hq)
      exact ⟨z::qs,by simp [h1,e1],by simp [h2,e2]⟩
  obtain ⟨qs,e1,e2⟩:=ex ps fun p hp'=>key ws vs hv p (hp.mem_iff.mp hp')
  have perm:qs.Perm ws:=by
    have h1:=hp.map (fun p=>o_ p.2)
    rw [e2,zm ws vs hv] at h1
    have h2:=h1.filterMap id
    simpa using h2
  have srt:qs.Pairwise fun a b=>nH a b=true:=by
    have h1:(ps.map (·.1)).Pairwise fun a b=>eL b a=false:=List.pairwise_map.mpr hs
    rw [e1,List.pairwise_map] at h1
    exact h1.imp fun h=>by unfold nH;simp [h]
  rw [List.map_map]
  show ps.map (fun p=>o_ p.2)=_
  rw [e2,lQ perm srt]
end NhSG
namespace NhSG
open PySem PySem.Spec PySem.Calls PyProof PyProof.Rows PySem.W
section
variable {prog:Program} {w:World} {A:Around} {E:Value→Shared→Prop} {s:Shared} {Q:Value→Shared→Prop}
theorem oC {env:Env} {x z:Str} {t:Tok} {m mg mb:Str→Option Value} {p1 p2 p3 p4 pos:Pos} {x1} (hk:env.scope.kind= .function) (hx:env.kindOf x=some .local) (hl:env.kindOf "len"=some .globalImplicit)
    (hn:s.heap.Ns env.locals m) (hm:m x=some (.str z t)) (hg:s.heap.Ns env.globals mg) (hlg:mg "len"=none) (hb:s.heap.Ns env.builtins mb) (hlb:mb "len"=some (.builtin "len")) (hz:z.length≤sizeLine)
    (h:∀h' tk r,Keep s.heap h'→IsKy h' r (fE z)→Q r {s with heap:=h',toks:=tk})
    (hd:(x == ("__debug__":Str))=false:=by decide) (h1:starEach [Expr.Call (.Name "len" p1) [.Name x p2] [] p3, .Name x p4] env=(false,eval (.Call (.Name "len" p1) [.Name x p2] [] p3) env)::starEach [Expr.Name x p4] env:=by rfl)
    (h2:starEach [Expr.Name x p4] env=[(false,eval (.Name x p4) env)]:=by rfl) (h3:starEach [Expr.Name x p2] env=(false,eval (.Name x p2) env)::starEach [] env:=by rfl):
    wpAny (model prog w) A (eval (.Tuple [.Call (.Name "len" p1) [.Name x p2] [] p3, .Name x p4] x1 pos) env) Q E s:=by
  refine wpAny_Tuple_spliced ?_
  rw [h1,h2]
  show wpAny _ _ (spliced ((false,eval (.Call (.Name "len" p1) [.Name x p2] [] p3) env)::backTo pos [(false,eval (.Name x p4) env)])) _ _ s
  refine Calls.spliced_cons ?_
  refine wpAny_Call_Name_kw (Calls.Name_function_global hk hl (Calls.loadGlobal_builtin hg hlg hb hlb ?_) (by decide))
  refine PyProof.Rows.callWith_builtin1 ?_ h3 rfl
  rw [h3]
  show wpAny _ _ (spliced ((false,eval (.Name x p2) env)::backTo p3 (starEach [] env))) _ _ s
  refine Calls.spliced_cons (wpAny_Name (wpAny_loadName_local hk hx hn hm ?_) hd)
  show wpAny _ _ (spliced []) _ _ s
  refine Calls.spliced_nil ?_
  refine len_str (by have:=hz;rw [sizeLine_eq] at this;omega) ?_
  show wpAny _ _ (spliced [(false,standAt pos >>= fun _=>eval (.Name x p4) env)]) _ _ _
  refine Calls.spliced_cons (wpAny_bind (wpAny_standAt (wpAny_Name (wpAny_loadName_local hk hx hn hm ?_) hd)))
  refine Calls.spliced_nil ⟨by rw [sizeLine_eq];simp,?_⟩
  exact h _ _ _ (fun b o e=>Heap.get?_push_of_some _ e) ⟨_,_,_,_,_,z,t,rfl,Heap.get?_push_size _ rfl,rfl,rfl,rfl,rfl⟩
structure KMod (h:Heap):Prop where
  g:∃mg,h.Ns mainGlobals mg∧mg "len"=none
  b:∃mb,h.Ns builtinsNs mb∧mb "len"=some (.builtin "len")
  lim:h.NoLimit
theorem KMod.keeps {h h':Heap} (a:KMod h) (k:Keep h h'):KMod h':=
  ⟨let ⟨mg,e,r⟩:=a.g;⟨mg,e.keeps k,r⟩,let ⟨mb,e,r⟩:=a.b;⟨mb,e.keeps k,r⟩,a.lim.keeps k⟩
theorem oD {f c':Addr} {name qual x z:Str} {t:Tok} {params:Arguments} {scope:Scope} {pm ctv:Value} {p1 p2 p3 p4 pos:Pos} {x1} (M:KMod s.heap) (hroom:A.depth < recursionLimit)
    (ho:s.heap.get? f=some (kla_obj name qual params (.Tuple [.Call (.Name "len" p1) [.Name x p2] [] p3, .Name x p4] x1 pos) scope [] pm c' ctv)) (hcd:s.heap.CodeRec (.ref c') qual) (hz:z.length≤sizeLine)
    (hbind:bindArgs (kla_fn name qual params (.Tuple [.Call (.Name "len" p1) [.Name x p2] [] p3, .Name x p4] x1 pos) scope [] pm (.ref c') ctv) ⟨[.str z t],[]⟩=pure [(x, .str z t)])
    (hx:scope.names.lookup x=some .local) (hlen:scope.names.lookup (Str.ofString "len")=some .globalImplicit) (hco:scope.isCoroutine=false) (hgen:scope.isGenerator=false) (hk:scope.kind= .function) (hcell:∀x∈scope.names,x.2≠ .cell)
    (hd:(x == ("__debug__":Str))=false):gN prog w A (.ref f) s (.str z t) (fE z):=by
  intro h tk kp
  refine wpAny_call (kla_callFunE hroom (kp _ _ ho) rfl hco hgen rfl (hcd.keeps kp) ?_)
  rw [hbind]
  refine wpAny_pure (wpAny_newFunctionEnv hcell (fun y hy=>?_) (fun h₁ hns hsb=>⟨((M.keeps kp).lim).fresh _ hsb,?_⟩) hk)
  · rw [List.mem_singleton.mp hy];exact hx
  have hk₁:Keep h h₁:=fun b o e=>hsb.extBut b o (Nat.ne_of_lt (Heap.lt_size e)) (Heap.get?_push_of_some _ e)
  have M1:=(M.keeps kp).keeps hk₁
  obtain ⟨mg,g1,g2⟩:=M1.g
  obtain ⟨mb,b1,b2⟩:=M1.b
  refine kla_codeExpr (oC (t:=t) (z:=z) (m:=fun y=>List.lookup y [(x,Value.str z t)].reverse) hk hx hlen hns ?_ g1 g2 b1 b2 hz (fun h' tk' r k1 k2=>?_) hd)
  · simp
  · exact ⟨h',tk',rfl,hk₁.trans k1,k2⟩
theorem u9 {f:Addr} {o:Obj} {fd:FuncData} {x z:Str} {t:Tok} {p1 p2 p3 p4 pos rp:Pos} {x1} (M:KMod s.heap) (hroom:A.depth < recursionLimit)
    (ho:s.heap.get? f=some o) (hfd:o.data= .func fd) (hbody:fd.body= .stmts [.Return (some (.Tuple [.Call (.Name "len" p1) [.Name x p2] [] p3, .Name x p4] x1 pos)) rp]) (hcd:s.heap.CodeRec fd.code fd.qualname) (hz:z.length≤sizeLine)
    (hbind:∀(h:Heap) (tk:Nat),Keep s.heap h→BindsTo {s with heap:=h,toks:=tk} fd ⟨[.str z t],[]⟩ [(x, .str z t)]) (hgl:fd.globals=mainGlobals) (hbl:fd.builtins=builtinsNs)
    (hx:fd.scope.names.lookup x=some .local) (hlen:fd.scope.names.lookup (Str.ofString "len")=some .globalImplicit) (hco:fd.scope.isCoroutine=false) (hgen:fd.scope.isGenerator=false) (hk:fd.scope.kind= .function) (hcell:∀x∈fd.scope.names,x.2≠ .cell)
    (hd:(x == ("__debug__":Str))=false):gN prog w A (.ref f) s (.str z t) (fE z):=by
  intro h tk kp
  refine wpAny_call (codeAny_call_function hroom (kp _ _ ho) hfd hco hgen hbody (hcd.keeps kp) ?_)
  refine hbind h tk kp _ _ _ _ (wpAny_newFunctionEnv hcell (fun y hy=>?_) (fun h₁ hns hsb=>⟨((M.keeps kp).lim).fresh _ hsb,?_⟩) hk)
  · rw [List.mem_singleton.mp hy];exact hx
  have hk₁:Keep h h₁:=fun b o e=>hsb.extBut b o (Nat.ne_of_lt (Heap.lt_size e)) (Heap.get?_push_of_some _ e)
  have M1:=(M.keeps kp).keeps hk₁
  obtain ⟨mg,g1,g2⟩:=M1.g
  obtain ⟨mb,b1,b2⟩:=M1.b
  rw [←hgl] at g1
  rw [←hbl] at b1
  refine codeAny_func (wpAny_execs_cons (wpAny_Return_some (oC (t:=t) (z:=z) (m:=fun y=>List.lookup y [(x,Value.str z t)].reverse) hk hx hlen hns ?_ g1 g2 b1 b2 hz (fun h' tk' r k1 k2=>?_) hd)))
  · simp
  · exact ⟨h',tk',rfl,hk₁.trans k1,k2⟩
end
end NhSG
namespace PL
open PySem L2 Nh
def gr (f:aS):aS:=fun E=>(f E).bind fun a=>match look a.2 a.1 with
  | some (.list ds)=>(gZ ds).bind fun ss=>if (decide (ss.length < 65536)&&ss.all fun z=>decide (z.length≤1000))=true then some (.ow ((NhSG.gq ss).map .str),a.2) else none
  | _=>none
theorem oE:∀{ws:List Str} {vs:List Value},Vals (ws.map V.str) vs→vs.map NhSG.o_=ws.map some
  | [],_, .nil=>rfl
  | w::ws,_, .cons r t=>by
    obtain ⟨u,rfl⟩:=r
    simp only [List.map_cons,oE t]
    rfl
theorem oF:∀{ws:List Str} {vs:List Value},vs.map NhSG.o_=ws.map some→Vals (ws.map V.str) vs
  | [],[],_=> .nil
  | [],_::_,h=>by simp at h
  | _::_,[],h=>by simp at h
  | w::ws,v::vs,h=>by
    simp only [List.map_cons,List.cons.injEq] at h
    refine .cons ?_ (oF h.2)
    have h1:=h.1
    unfold NhSG.o_ at h1
    split at h1
    · cases h1;exact ⟨_,rfl⟩
    · cases h1
section
variable {X:Cx} {pins:List (Addr×Obj)} {σ:L2.St} {H:Hp} {s:Shared}
theorem za (I:Inv X pins σ H s) (hl:X.mg "len"=none):NhSG.KMod s.heap:=
  ⟨⟨X.mg,I.mod.glob.keeps I.bk,hl⟩,let ⟨mb,h1,h2⟩:=I.mod.blt;⟨mb,h1.keeps I.bk,(h2 _ (by decide)).trans rfl⟩,I.nolimit⟩
theorem ji {l q:Addr} {ss:List Str} {Q:VK} (I:Inv X pins σ H s) (hq:SqL X.K H l (ss.map V.str)) (h64:ss.length < 65536)
    (turn:∀z t,z∈ss→NhSG.gN X.prog X.w X.A.in1.in1 (.ref q) s (.str z t) (NhSG.fE z))
    (h:∀D,H D=none→Q (.ref D) (upd H D (.lst ((NhSG.gq ss).map V.str)))):
    wpAny (model X.prog X.w) X.A (call (.builtin "sorted") [.ref l] [(Str.ofString "key", .ref q)]) (EP X pins σ Q) X.xe s:=by
  obtain ⟨its,rv,pl,hz⟩:=I.list hq
  have hv:=oE rv
  have hlen:its.length=ss.length:=by have:=congrArg List.length hv;simpa using this
  refine NhSG.p8 (ys:=ss.map NhSG.fE) pl.isList (by simp [hlen]) (by omega) (fun i v y hv' hy'=>?_) fun D h' tk out c g1 g2 g3 g4=>?_
  · rw [List.getElem?_map] at hy'
    obtain ⟨z,hz1,rfl⟩:=Option.map_eq_some_iff.mp hy'
    have e:(its.map NhSG.o_)[i]? =(ss.map some)[i]? :=by rw [hv]
    rw [List.getElem?_map,List.getElem?_map,hv',hz1] at e
    have e1:NhSG.o_ v=some z:=by simpa using e
    unfold NhSG.o_ at e1
    split at e1
    · cases e1;exact turn _ _ (List.mem_of_getElem? hz1)
    · cases e1
  · have ot:=NhSG.sV hv g3
    refine ⟨.ref D,_,I.laid (t':=tk) g4 g2 (show ObjOk X.prog X.w _ _ _ (.lst ((NhSG.gq ss).map V.str)) from ⟨?_,out.toList,c,oF ot,by simpa using g1⟩),rfl,h D (I.hok.fresh g2)⟩
    rw [List.length_map]
    have:(NhSG.gq ss).length=ss.length:=(List.mergeSort_perm ss NhSG.nH).length_eq
    rw [this,sizeLine_eq]
    omega
end
theorem kj {z:Str} (h:z.length≤1000):z.length≤sizeLine:=by rw [sizeLine_eq];omega
section
variable {X:Cx} {e:Expr} {m:Bool} {f:aS} {p pos kp np:Pos} {x y:Str} {st:Stmt} {k:Nat} {p1 p2 p3 p4 tp rp:Pos} {x1:Nat}
theorem u_ (D:Def X.K X.mg x st [y]) (hr:Room k X.A) (hg:Gl X "sorted") (hm:X.mg "sorted"=none) (hl:X.mg "len"=none) (hgx:Gl X x) (ha:EX X e m f)
    (hb:aB st=[.Return (some (.Tuple [.Call (.Name "len" p1) [.Name y p2] [] p3, .Name y p4] x1 tp)) rp]:=by rfl)
    (sc1:(ag st).names.lookup y=some .local:=by rfl) (eY:(ag st).names.lookup (Str.ofString "len")=some .globalImplicit:=by rfl) (sc3:(ag st).isCoroutine=false:=by rfl) (sc4:(ag st).isGenerator=false:=by rfl) (sc5:(ag st).kind= .function:=by rfl)
    (sc6:∀x∈(ag st).names,x.2≠ .cell:=by decide) (hdy:(y == ("__debug__":Str))=false:=by decide) (hdx:(x == ("__debug__":Str))=false:=by decide)
    (he:starEach [e] X.env=[(false,eval e X.env)]:=by rfl)
    (he':backTo pos (starEach [e] X.env)=(false,eval e X.env)::backTo pos (starEach [] X.env):=by rfl) (hpl:(backTo pos (starEach [e] X.env)).any (·.1)=false:=by rfl)
    (hall:(backToKw pos (keywordEach [⟨some "key", .Name x np,kp⟩] X.env)).all (·.1.isSome)=true:=by rfl) (hkw:(backToKw pos (keywordEach [⟨some "key", .Name x np,kp⟩] X.env)).any (·.1.isNone)=false:=by rfl)
    (hnm:(backToKw pos (keywordEach [⟨some "key", .Name x np,kp⟩] X.env)).filterMap (·.1)=[Str.ofString "key"]:=by rfl):
    EX X (.Call (.Name "sorted" p) [e] [⟨some "key", .Name x np,kp⟩] pos) m (gr f):=by
  intro pins s σ H Q I z
  obtain ⟨B,E,xs,Xs,res,E',fr,cl,e0,q⟩:=z
  obtain ⟨⟨r1,E1⟩,e1,e2⟩:=Option.bind_eq_some_iff.mp e0
  simp only at e2
  split at e2
  · rename_i ds ld
    obtain ⟨ss,en,e3⟩:=Option.bind_eq_some_iff.mp e2
    split at e3
    · rename_i hc
      cases e3
      simp only [Bool.and_eq_true,decide_eq_true_eq,List.all_eq_true] at hc
      refine wpAny_Call_Name_kw (g9 I hg hm PyProof.Rows.boot_sorted ?_ (by decide) (by decide))
      refine PyProof.Rows.callWith_kw (cZ (cB ha dM he pos pins s σ H (fun vs H1=>∃p,vs=[.ref p]∧SqL X.K H1 p (ss.map V.str)∧∀D,H1 D=none→Q (.ref D) (upd H1 D (.lst ((NhSG.gq ss).map V.str)))) I ⟨B,E,xs,Xs,r1,_,fr,cl,e1,fun v1 H1 ⟨F,A,fr1⟩=>?_⟩) fun us s2 ⟨vs,H1,I1,r1,p0,ev,hq,q1⟩=>?_) he' hpl hall hkw
      · obtain ⟨A',fr2⟩:=fr1.pop
        have r:=(fr1.look0 ld).1
        cases r with
        | lst h1 h2=>
          have:=iK h2 en
          subst this
          exact ⟨_,rfl,h1,fun D hD=>q _ _ ⟨F,_,fr2.newl (eT _) hD⟩⟩
      · subst ev
        cases r1 with
        | cons r rr=>
          cases rr
          cases r
          obtain ⟨fa,fd,F,hmx,hbd⟩:=D.ex
          refine PyProof.Rows.kws_cons (me I1 hgx hmx (PyProof.Rows.kws_nil ?_) hdx)
          rw [hnm]
          refine ji I1 hq hc.1 (fun z t hz=>?_) q1
          obtain ⟨oc,od,kV,doc,pm,an,cdv,ct,osl,rfl,lk,hcd⟩:=F.ex
          exact NhSG.u9 (za I1 hl) (show X.A.depth < recursionLimit by have:=hr.dp;omega) (I1.kIn _ _ lk) rfl (by show FuncBody.stmts (aB st)=_;rw [hb]) (PySem.W.codeRec_of I1.kIn hcd) (kj (hc.2 z hz))
            (fun h tk kpp=>hbd {s2 with heap:=h,toks:=tk} [.str z t] (I1.kIn.keeps kpp) rfl) rfl rfl sc1 eY sc3 sc4 sc5 sc6 hdy
    · cases e3
  · cases e2
end
end PL
namespace PL
open PySem L2 Nh
theorem kO {pos:Pos} {a b:Int} {c cv:Value} (l:List Value) (h:TriplesOk l) (e:codeAmong pos (l++[rawInt a,rawInt b,c])=some cv):codeAmong pos l=some cv∨cv=c:=by
  fun_induction TriplesOk l with
  | case1=>
    simp only [List.nil_append,codeAmong,rawInt] at e
    split at e
    · cases e;exact .inr rfl
    · cases e
  | case2 a' t b' u x aW ih=>
    simp only [List.cons_append,codeAmong] at e ⊢
    split at e
    · rename_i hc;rw [if_pos hc];exact .inl e
    · rename_i hc;rw [if_neg hc];exact ih h e
  | case3 l h1 h2=>exact h.elim
section
variable {X:Cx} {pins:List (Addr×Obj)} {σ:L2.St} {H:Hp} {s:Shared}
theorem sW {P c':Addr} {q:Str} {ps:Array Value} {a b:Int} {h':Heap} {tk:Nat} (I:Inv X pins σ H s) (hT:H P=some (.tbl q)) (hps:s.heap.get? P=some (PySem.W.tabObj ps))
    (hx:∀b o,b≠P→s.heap.get? b=some o→h'.get? b=some o) (hc:s.heap.objs.size≤c') (hr:h'.CodeRec (.ref c') q) (hP:h'.get? P=some (PySem.W.tabObj (ps++#[rawInt a,rawInt b, .ref c']))):
    Inv X pins σ (upd H c' (.own P)) {s with heap:=h',toks:=tk}:=by
  have hn:H c'=none:=I.hok.fresh hc
  have neP:∀b,H b=none→b≠P:=fun b n z=>by subst z;rw [hT] at n;cases n
  obtain ⟨ps0,e0,t0,r0⟩:=I.hok P _ hT
  rw [hps] at e0
  cases e0
  refine I.un (h':=h') (t':=tk) ⟨fun b o e n _ _=>hx b o (neP b n) e,fun b o e n _ _=>⟨o.slots,hx b o (neP b n) e⟩,fun b o e n _=>?_,fun b o e _=>?_,fun b xs e=>?_,fun b o u e=>?_,fun b z e=>?_⟩ fun d o e=>?_
  · rw [aH (Nat.ne_of_lt (Nat.lt_of_lt_of_le (Heap.lt_size e) hc))];exact n
  · by_cases hb:b=P
    · subst hb;exact ⟨_,hP⟩
    · exact ⟨o,hx b o hb e⟩
  · rw [aH (aY e hn)];exact e
  · rw [aH (aY e hn)];exact e
  · rw [aH (aY e hn)];exact e
  · by_cases hd:d=c'
    · subst hd
      rw [bx] at e
      cases e
      obtain ⟨c2,oc,_,_,hc2,hoc,_⟩:=hr
      cases hc2
      exact ⟨oc,hoc⟩
    · rw [aH hd] at e
      by_cases hp:d=P
      · subst hp
        rw [hT] at e
        cases e
        refine ⟨_,hP,by simpa using TriplesOk_snoc a b (.ref c') _ t0,fun pos cv z=>?_⟩
        rcases kO (a:=a) (b:=b) (c:= .ref c') ps.toList t0 (by simpa using z) with z | z
        · obtain ⟨c,ec,ho,c2,oc,vs,tq,hc2,hoc,hr2⟩:=r0 pos cv z
          subst ec
          cases hc2
          refine ⟨c,rfl,by rw [aH (aY ho hn)];exact ho,c,oc,vs,tq,rfl,hx _ _ (fun z=>?_) hoc,hr2⟩
          subst z
          rw [hT] at ho
          cases ho
        · subst z
          exact ⟨c',rfl,bx,hr⟩
      · refine (I.hok d o e).stay (fun b u hb q=>hx b u ?_ q) (fun b hb=>by rw [aH (aY hb hn)];exact hb) fun b xs hb=>by rw [aH (aY hb hn)];exact hb
        rcases hb with rfl | hb
        · exact hp
        · intro z
          subst z
          rw [hT] at hb
          cases hb
theorem AG {P:Addr} {ps:Array Value} (I:Inv X pins σ H s) (hps:s.heap.get? P=some (PySem.W.tabObj ps)):mainGlobals≠P∧s.heap.BuiltinsAt X.mg P:=by
  have hg:=I.mod.glob.keeps I.bk
  obtain ⟨bm,ob,b1,b2,b3,b4,b5,b6⟩:=I.mod.bmain
  have b3':=I.bk _ _ b3
  refine ⟨fun q=>?_,bm,ob,b1,b2,fun q=>?_,fun q=>?_,b3',b4,b5,b6⟩
  · obtain ⟨o,es,ep,e,hd,_⟩:=hg
    rw [q,hps] at e;cases e;cases hd
  · obtain ⟨o,es,ep,e,hd,_⟩:=hg
    rw [q,e] at b3';cases b3';rw [hd] at b6;cases b6
  · rw [q,hps] at b3';cases b3';cases b4
end
section
variable {X:Cx} {e:Expr} {m:Bool} {f:aS} {p pos kp lp:Pos} {y:Str} {k:Nat} {p1 p2 p3 p4 tp:Pos} {x1:Nat} {params:Arguments} {scope:Scope} {c P:Addr}
theorem va (hcode:X.env.code= .ref c) (hP:tP X.K=some P) (hC:PySem.W.codeHdIn X.K c P=true) (hr:Room k X.A) (hg:Gl X "sorted") (hm:X.mg "sorted"=none) (hl:X.mg "len"=none) (ha:EX X e m f)
    (hq:X.env.qual++"<lambda>"=Str.ofString "in_told_order.<locals>.<lambda>") (hdef:defaultsOf params X.env=([],[]):=by rfl)
    (hbind:∀(name qual:Str) (pm cd ctv u:Value),bindArgs (PySem.W.kla_fn name qual params (.Tuple [.Call (.Name "len" p1) [.Name y p2] [] p3, .Name y p4] x1 tp) scope [] pm cd ctv) ⟨[u],[]⟩=pure [(y,u)]:=by intros;rfl)
    (sc1:scope.names.lookup y=some .local:=by rfl) (eY:scope.names.lookup (Str.ofString "len")=some .globalImplicit:=by rfl) (sc3:scope.isCoroutine=false:=by rfl) (sc4:scope.isGenerator=false:=by rfl) (sc5:scope.kind= .function:=by rfl)
    (sc6:∀x∈scope.names,x.2≠ .cell:=by decide) (sc7:∀x∈scope.names,x.2≠ .free:=by decide) (hdy:(y == ("__debug__":Str))=false:=by decide)
    (he:starEach [e] X.env=[(false,eval e X.env)]:=by rfl)
    (he':backTo pos (starEach [e] X.env)=(false,eval e X.env)::backTo pos (starEach [] X.env):=by rfl) (hpl:(backTo pos (starEach [e] X.env)).any (·.1)=false:=by rfl)
    (hall:(backToKw pos (keywordEach [⟨some "key", .Lambda params (.Tuple [.Call (.Name "len" p1) [.Name y p2] [] p3, .Name y p4] x1 tp) scope lp,kp⟩] X.env)).all (·.1.isSome)=true:=by rfl)
    (hkw:(backToKw pos (keywordEach [⟨some "key", .Lambda params (.Tuple [.Call (.Name "len" p1) [.Name y p2] [] p3, .Name y p4] x1 tp) scope lp,kp⟩] X.env)).any (·.1.isNone)=false:=by rfl)
    (hnm:(backToKw pos (keywordEach [⟨some "key", .Lambda params (.Tuple [.Call (.Name "len" p1) [.Name y p2] [] p3, .Name y p4] x1 tp) scope lp,kp⟩] X.env)).filterMap (·.1)=[Str.ofString "key"]:=by rfl):
    EX X (.Call (.Name "sorted" p) [e] [⟨some "key", .Lambda params (.Tuple [.Call (.Name "len" p1) [.Name y p2] [] p3, .Name y p4] x1 tp) scope lp,kp⟩] pos) m (gr f):=by
  intro pins s σ H Q I z
  obtain ⟨B,E,xs,Xs,res,E',fr,cl,e0,q⟩:=z
  obtain ⟨⟨r1,E1⟩,e1,e2⟩:=Option.bind_eq_some_iff.mp e0
  simp only at e2
  split at e2
  · rename_i ds ld
    obtain ⟨ss,en,e3⟩:=Option.bind_eq_some_iff.mp e2
    split at e3
    · rename_i hc
      cases e3
      simp only [Bool.and_eq_true,decide_eq_true_eq,List.all_eq_true] at hc
      refine wpAny_Call_Name_kw (g9 I hg hm PyProof.Rows.boot_sorted ?_ (by decide) (by decide))
      refine PyProof.Rows.callWith_kw (cZ (cB ha dM he pos pins s σ H (fun vs H1=>∃p,vs=[.ref p]∧SqL X.K H1 p (ss.map V.str)∧∀H2,Same H1 H2→∀D,H2 D=none→Q (.ref D) (upd H2 D (.lst ((NhSG.gq ss).map V.str)))) I ⟨B,E,xs,Xs,r1,_,fr,cl,e1,fun v1 H1 ⟨F,A,fr1⟩=>?_⟩) fun us s2 ⟨vs,H1,I1,r1,p0,ev,hq1,q1⟩=>?_) he' hpl hall hkw
      · obtain ⟨A',fr2⟩:=fr1.pop
        have r:=(fr1.look0 ld).1
        cases r with
        | lst h1 h2=>
          have:=iK h2 en
          subst this
          exact ⟨_,rfl,h1,fun H2 g D hD=>q _ _ ⟨_,_,(fr2.grow g).newl (eT _) hD⟩⟩
      · subst ev
        cases r1 with
        | cons r rr=>
          cases rr
          cases r
          refine PyProof.Rows.kws_cons (PySem.W.kla_eval hdef ?_)
          have hT:H1 P=some (.tbl (Str.ofString "in_told_order.<locals>.<lambda>")):=I1.tab P _ (by unfold jF;rw [if_pos hP])
          obtain ⟨ps,hps,ht,hit⟩:=I1.hok P _ hT
          obtain ⟨hgP,hbA⟩:=AG I1 hps
          have hcl:closureFor scope X.env=pure []:=closureFor_none sc7
          have C:=PySem.W.codeHd_of_K I1.kIn hC
          have hroom:X.A.in1.in1.depth < recursionLimit:=by have:=hr.dp;show X.A.depth < recursionLimit;omega
          cases hca:codeAmong lp ps.toList with
          | none=>
            refine PySem.W.kla_makeFunction hcl I1.ok.glob (I1.mod.glob.keeps I1.bk) hcode C hps ht hca hgP hbA fun c' ctv h' tk hx hge hlt hrec htb=>?_
            rw [hq] at hrec
            have I2:=sW (tk:=tk) I1 hT hps (fun b o hb e=>hx b o hb e) hge hrec htb
            have g:Same H1 (upd H1 c' (.own P)):=ft (I1.hok.fresh hge) _
            have I3:=I2.kept (t':=tk) (fun b o e=>Heap.get?_push_of_some (PySem.W.kla_obj "<lambda>" (X.env.qual++"<lambda>") params (.Tuple [.Call (.Name "len" p1) [.Name y p2] [] p3, .Name y p4] x1 tp) scope [] ((X.mg "__name__").getD .none) c' ctv) e)
            refine PyProof.Rows.kws_nil ?_
            rw [hnm]
            refine ji I3 (g.seq hq1) hc.1 (fun z t hz=>?_) (q1 _ g)
            exact NhSG.oD (za I3 hl) hroom (Heap.get?_push_size _ rfl) (by rw [hq];exact hrec.keeps fun b o e=>Heap.get?_push_of_some _ e) (kj (hc.2 z hz)) (hbind _ _ _ _ _ _) sc1 eY sc3 sc4 sc5 sc6 hdy
          | some cv=>
            obtain ⟨c',rfl,ho,hrec⟩:=hit lp cv hca
            refine PySem.W.kla_makeFunctionHit hcl I1.ok.glob (I1.mod.glob.keeps I1.bk) hcode C hps ht hca hbA fun ctv h' tk hx hsz=>?_
            have I3:=I1.kept (t':=tk) (fun b o e=>Heap.get?_push_of_some (PySem.W.kla_obj "<lambda>" (X.env.qual++"<lambda>") params (.Tuple [.Call (.Name "len" p1) [.Name y p2] [] p3, .Name y p4] x1 tp) scope [] ((X.mg "__name__").getD .none) c' ctv) (hx b o e))
            refine PyProof.Rows.kws_nil ?_
            rw [hnm]
            refine ji I3 hq1 hc.1 (fun z t hz=>?_) (q1 _ (Same.refl _))
            exact NhSG.oD (za I3 hl) hroom (Heap.get?_push_size _ rfl) (by rw [hq];exact hrec.keeps fun b o e=>Heap.get?_push_of_some _ (hx b o e)) (kj (hc.2 z hz)) (hbind _ _ _ _ _ _) sc1 eY sc3 sc4 sc5 sc6 hdy
    · cases e3
  · cases e2
end
structure DefT (K:PySem.W.Frag) (mg:Str→Option Value) (x:Str) (st:Stmt) (ps:List Str) (c P:Addr):Prop where
  ex:∃(f:Addr) (oc:Value) (od:Option Addr) (kV doc pm:Value) (an:Option Addr) (ct:Value) (osl:Array (Option Value)),
    K.lookup f=some ⟨oc,od, .func (PySem.W.fnOf x x (aF st) (aB st) (ag st) .none kV doc pm an (.ref c) ct),osl⟩∧PySem.W.codeIn K (.ref c) x=true∧PySem.W.keepIn K (.ref f)=true∧mg x=some (.ref f)∧
      Binds K (PySem.W.fnOf x x (aF st) (aB st) (ag st) .none kV doc pm an (.ref c) ct) ps []
  hd:PySem.W.codeHdIn K c P=true
  tp:tP K=some P
theorem BA {P:Program} {w:World} {K:PySem.W.Frag} {mg:Str→Option Value} {base:Heap} {x:Str} {st:Stmt} {N ps:List Str} {k a n:Nat} {g:dE} {c T:Addr} (D:DefT K mg x st ps c T) (S:FnScope N ps (ag st)) (hpa:ps.length=a) (hNn:N.length=n) (hps:a≤n)
    (hbody:∀(f:Addr) (A:Around) (outer:List Env) (s:Shared) (H:Hp) (E:XK),Room k (A.deeper (PyProof.Rows.envOfC x (ag st) s.heap.objs.size f (.ref c)))→
      rX (kK rW P w K mg base N x (ag st) f (.ref c) A outer s H E).nox (aB st) g):Own P w K mg base (k+1) x ps (dF K (fq a n g)):=by
  subst hpa hNn
  obtain ⟨f,oc,od,kV,doc,pm,an,ct,osl,lk,hcd,kp,hm,hb⟩:=D.ex
  refine ⟨f,_,xo lk hcd S (fun vs H Q E h=>?_) (fun A outer s H vs Q E hr h=>?_),hb,hm,kp⟩
  · obtain ⟨ds,r,e,rp,_⟩:=h
    unfold fq at e
    split at e
    · rename_i hl
      rw [rp.len];exact hl
    · cases e
  obtain ⟨ds,r,e,rp,q⟩:=h
  unfold fq at e
  split at e
  · rename_i hl
    refine ⟨_,(hbody f A outer s H E hr).nox,?_⟩
    obtain ⟨⟨E',fl⟩,e1,e⟩:=Option.bind_eq_some_iff.mp e
    refine ⟨H,cg N.length ds,[],[],E',fl,⟨H,[],mG rp (by omega)⟩,rfl,e1,?_⟩
    cases fl with
    | nx=>
      cases e
      rintro σ' H' ⟨F',A',fr'⟩
      exact q _ _ (fr'.bf.trans fr'.fh) .non
    | bk=>cases e
    | ct=>cases e
    | rt r'=>
      rintro σ' v H' ⟨F',A',fr'⟩
      obtain ⟨s1,s2⟩:=fr'.resultO e
      exact q v H' s1 s2
  · cases e
theorem vb {K:PySem.W.Frag} {f c P:Addr} {oc occ:Value} {od odc:Option Addr} {fd:FuncData} {sl slc:Array (Option Value)} {vs:Array Value} (a:PySem.W.nsIn K mainGlobals "in_told_order"=some (some (.ref f))) (l:K.lookup f=some ⟨oc,od, .func fd,sl⟩) (hc:fd.code= .ref c)
    (lc:K.lookup c=some ⟨occ,odc, .fields vs,slc⟩) (hv:(vs[11]? :Option Value)=some (.ref P)):tP K=some P:=by
  unfold tP
  rw [a]
  simp only [l,hc,lc,hv]
theorem vc {K:PySem.W.Frag} {h:Heap} {f c P:Addr} {oc occ:Value} {od odc:Option Addr} {fd:FuncData} {sl slc:Array (Option Value)} {vs:Array Value} (X:K.In h) (a:PySem.W.nsIn K mainGlobals "in_told_order"=some (some (.ref f))) (l:K.lookup f=some ⟨oc,od, .func fd,sl⟩) (hc:fd.code= .ref c)
    (lc:K.lookup c=some ⟨occ,odc, .fields vs,slc⟩) (hv:(vs[11]? :Option Value)=some (.ref P)) (hd:PySem.W.codeHdIn K c P=true) (hn:K.lookup P=none) (ht:h.get? P=some (PySem.W.tabObj #[])):qS K h:=fun b q e=>by
  have tp:=vb a l hc lc hv
  unfold jF at e
  split at e
  · rename_i hb
    rw [tp] at hb
    cases hb
    exact ⟨ht,⟨c,PySem.W.codeHd_of_K X hd⟩,hn⟩
  · cases e
end PL
namespace NhFam
abbrev Tx:=List Nat
def Srt (w:Tx):Prop:=w.Pairwise (· < ·)
def le (v w:Tx):Prop:=∀x∈v,x∈w
instance (v w:Tx):Decidable (le v w):=inferInstanceAs (Decidable (∀x∈v,x∈w))
theorem le.refl (v:Tx):le v v:=fun _ h=>h
theorem le.trans {u v w:Tx} (a:le u v) (b:le v w):le u w:=fun x h=>b x (a x h)
def Sub (U w:Tx):Prop:=Srt w∧le w U
theorem Srt.nodup {w:Tx} (h:Srt w):w.Nodup:=h.imp fun h=>Nat.ne_of_lt h
theorem dQ:∀{w v:Tx},Srt v→Srt w→le v w→v.Sublist w
  | [],v,_,_,h=>by
    cases v with
    | nil=>exact .slnil
    | cons x v=>cases h x (List.mem_cons_self ..)
  | y::w,v,hv,hw,h=>by
    cases v with
    | nil=>exact List.nil_sublist _
    | cons x v=>
      have hw':=List.pairwise_cons.mp hw
      have hv':=List.pairwise_cons.mp hv
      by_cases e:x=y
      · subst e
        refine (dQ hv'.2 hw'.2 fun z hz=>?_).cons_cons _
        rcases List.mem_cons.mp (h z (List.mem_cons_of_mem _ hz)) with q | q
        · have:=hv'.1 z hz;omega
        · exact q
      · have hx:x∈w:=(List.mem_cons.mp (h x (List.mem_cons_self ..))).resolve_left e
        have lt:=hw'.1 x hx
        refine (dQ hv hw'.2 fun z hz=>?_).cons _
        rcases List.mem_cons.mp (h z hz) with q | q
        · subst q
          rcases List.mem_cons.mp hz with q | q
          · omega
          · have:=hv'.1 z q;omega
        · exact q
theorem Srt.ext {v w:Tx} (hv:Srt v) (hw:Srt w) (a:le v w) (b:le w v):v=w:=
  (dQ hv hw a).eq_of_length (Nat.le_antisymm (dQ hv hw a).length_le (dQ hw hv b).length_le)
theorem vd {v w:Tx} (hv:Srt v) (hw:Srt w) (a:le v w) (n:v≠w):v.length < w.length:=by
  have s:=dQ hv hw a
  rcases Nat.lt_or_ge v.length w.length with h | h
  · exact h
  · exact absurd (s.eq_of_length (Nat.le_antisymm s.length_le h)) n
def key (w:Tx):NhSG.Ky:=((w.length:Int),w)
def gW (v w:Tx):Prop:=NhSG.eL (key v) (key w)=true
theorem p9 {v w:Tx} (h:v.length < w.length):gW v w:=NhSG.ltKy_iff.mpr (.inl (by simp only [key];omega))
theorem kl (v:Tx):¬gW v v:=fun h=>by
  have:=(NhSG.dX default).irrefl (key v)
  unfold gW at h
  rw [show NhSG.eL (key v) (key v)=false from this] at h
  cases h
theorem jj {v w:Tx} (h1:¬gW v w) (h2:¬gW w v):v=w:=by
  have h:=(NhSG.dX default).total (key v) (key w) (by simpa [gW] using h1) (by simpa [gW] using h2)
  exact congrArg Prod.snd h
theorem lR {u v w:Tx} (a:gW u v) (b:gW v w):gW u w:=(NhSG.dX default).trans _ _ _ a b
theorem lS {v w:Tx} (a:gW v w):¬gW w v:=fun b=>kl v (lR a b)
def up (F:List Tx) (w:Tx):Prop:=∃v∈F,le v w
def Min (U:Tx) (f:Tx→Prop) (w:Tx):Prop:=Sub U w∧f w∧∀v,Sub U v→f v→le v w→v=w
structure Told (U:Tx) (L:List Tx) (f:Tx→Prop):Prop where
  srt:L.Pairwise gW
  mem:∀w,w∈L↔Min U f w
def zb (U:Tx) (f:Tx→Prop):Prop:=∀v w,Sub U v→Sub U w→le v w→f v→f w
theorem km {U:Tx} {f:Tx→Prop}:∀(n:Nat) (w:Tx),w.length≤n→Sub U w→f w→∃v,Min U f v∧le v w
  | n,w,hn,hw,hf=>by
    by_cases h:∀v,Sub U v→f v→le v w→v=w
    · exact ⟨w,⟨hw,hf,h⟩,le.refl w⟩
    · obtain ⟨v,h⟩:=Classical.not_forall.mp h
      obtain ⟨v1,h⟩:=Classical.not_imp.mp h
      obtain ⟨v2,h⟩:=Classical.not_imp.mp h
      obtain ⟨v3,v4⟩:=Classical.not_imp.mp h
      have:=vd v1.1 hw.1 v3 v4
      cases n with
      | zero=>omega
      | succ n=>
        obtain ⟨u,a,b⟩:=km n v (by omega) v1 v2
        exact ⟨u,a,b.trans v3⟩
theorem Told.sub {U:Tx} {L:List Tx} {f:Tx→Prop} (h:Told U L f):∀w∈L,Sub U w:=fun w hw=>((h.mem w).mp hw).1
theorem Told.up_iff {U:Tx} {L:List Tx} {f:Tx→Prop} (h:Told U L f) (m:zb U f) {w:Tx} (hw:Sub U w):up L w↔f w:=by
  constructor
  · rintro ⟨v,hv,l⟩
    have:=(h.mem v).mp hv
    exact m v w this.1 hw l this.2.1
  · intro hf
    obtain ⟨v,a,b⟩:=km w.length w (Nat.le_refl _) hw hf
    exact ⟨v,(h.mem v).mpr a,b⟩
theorem Min.congr {U:Tx} {f g:Tx→Prop} (h:∀w,Sub U w→(f w↔g w)) {w:Tx}:Min U f w↔Min U g w:=by
  constructor
  · rintro ⟨a,b,c⟩;exact ⟨a,(h w a).mp b,fun v v1 v2 v3=>c v v1 ((h v v1).mpr v2) v3⟩
  · rintro ⟨a,b,c⟩;exact ⟨a,(h w a).mpr b,fun v v1 v2 v3=>c v v1 ((h v v1).mp v2) v3⟩
theorem Told.congr {U:Tx} {L:List Tx} {f g:Tx→Prop} (a:Told U L f) (h:∀w,Sub U w→(f w↔g w)):Told U L g:=⟨a.srt,fun w=>(a.mem w).trans (Min.congr h)⟩
theorem jk {L:List Tx} (h:L.Pairwise gW):L.Nodup:=h.imp fun {a b} h e=>by subst e;exact kl a h
theorem ve {L L':List Tx} (a:L.Pairwise gW) (b:L'.Pairwise gW) (h:∀w,w∈L↔w∈L'):L=L':=
  ((List.perm_ext_iff_of_nodup (jk a) (jk b)).mpr h).eq_of_pairwise (fun x y _ _ p q=>absurd q (lS p)) a b
theorem Told.uniq {U:Tx} {L L':List Tx} {f g:Tx→Prop} (a:Told U L f) (b:Told U L' g) (h:∀w,Sub U w→(f w↔g w)):L=L':=
  ve a.srt b.srt fun w=>(a.mem w).trans ((Min.congr h).trans (b.mem w).symm)
theorem q_ (U:Tx) (F:List Tx):zb U (up F):=fun v w _ _ l ⟨u,hu,h⟩=>⟨u,hu,h.trans l⟩
theorem p_ {U:Tx} {F:List Tx} (hF:∀v∈F,Sub U v) {w:Tx}:Min U (up F) w↔w∈F∧∀v∈F,le v w→v=w:=by
  constructor
  · rintro ⟨a,⟨v,hv,l⟩,c⟩
    have e:=c v (hF v hv) ⟨v,hv,le.refl v⟩ l
    subst e
    exact ⟨hv,fun u hu l=>c u (hF u hu) ⟨u,hu,le.refl u⟩ l⟩
  · rintro ⟨a,b⟩
    refine ⟨hF w a,⟨w,a,le.refl w⟩,fun v hv ⟨u,hu,l⟩ lv=>?_⟩
    have e:=b u hu (l.trans lv)
    subst e
    exact hv.1.ext (hF u hu).1 lv l
def gu (K:List Tx):List Tx→List Tx
  | []=>K
  | w::r=>if K.any (fun k=>decide (le k w)) then gu K r else gu (K++[w]) r
theorem iu:∀(S K Pre:List Tx),(∀v∈Pre++S,Srt v)→(∀v∈Pre,∃k∈K,le k v)→(∀k∈K,k∈Pre)→(∀v∈Pre,∀w∈S,¬gW w v)→S.Pairwise (fun a b=>¬gW b a)→
    (∀k∈K,∀v∈Pre,le v k→v=k)→K.Pairwise gW→(gu K S).Pairwise gW∧∀w,w∈gu K S↔w∈Pre++S∧∀v∈Pre++S,le v w→v=w
  | [],K,Pre,hs,h1,h2,h3,h4,h5,h6=>by
    refine ⟨h6,fun w=>?_⟩
    simp only [gu,List.append_nil]
    refine ⟨fun hw=>⟨h2 w hw,h5 w hw⟩,fun ⟨a,b⟩=>?_⟩
    obtain ⟨k,hk,l⟩:=h1 w a
    rw [←b k (h2 k hk) l]
    exact hk
  | w::S,K,Pre,hs,h1,h2,h3,h4,h5,h6=>by
    have e:Pre++w::S=(Pre++[w])++S:=by simp
    have h4':=List.pairwise_cons.mp h4
    have sw:Srt w:=hs w (by simp)
    have back:∀k∈K,le w k→w=k:=fun k hk l=>Classical.byContradiction fun n=>h3 k (h2 k hk) w (by simp) (p9 (vd sw (hs k (by simp [h2 k hk])) l n))
    have o3:∀v∈Pre++[w],∀u∈S,¬gW u v:=fun v hv u hu=>by
      rcases List.mem_append.mp hv with q | q
      · exact h3 v q u (List.mem_cons_of_mem _ hu)
      · rw [List.mem_singleton.mp q];exact h4'.1 u hu
    rw [e] at hs ⊢
    by_cases h:K.any (fun k=>decide (le k w))=true
    · rw [gu,if_pos h]
      obtain ⟨k0,hk0,l0⟩:=List.any_eq_true.mp h
      refine iu S K (Pre++[w]) hs (fun v hv=>?_) (fun k hk=>by simp [h2 k hk]) o3 h4'.2 (fun k hk v hv l=>?_) h6
      · rcases List.mem_append.mp hv with q | q
        · exact h1 v q
        · rw [List.mem_singleton.mp q];exact ⟨k0,hk0,of_decide_eq_true l0⟩
      · rcases List.mem_append.mp hv with q | q
        · exact h5 k hk v q l
        · rw [List.mem_singleton.mp q] at l ⊢;exact back k hk l
    · rw [gu,if_neg h]
      have no:∀k∈K,¬le k w:=fun k hk l=>h (List.any_eq_true.mpr ⟨k,hk,decide_eq_true l⟩)
      refine iu S (K++[w]) (Pre++[w]) hs (fun v hv=>?_) (fun k hk=>?_) o3 h4'.2 (fun k hk v hv l=>?_) ?_
      · rcases List.mem_append.mp hv with q | q
        · obtain ⟨k,hk,l⟩:=h1 v q;exact ⟨k,by simp [hk],l⟩
        · rw [List.mem_singleton.mp q];exact ⟨w,by simp,le.refl w⟩
      · rcases List.mem_append.mp hk with q | q
        · simp [h2 k q]
        · simp [List.mem_singleton.mp q]
      · rcases List.mem_append.mp hk with p | p <;> rcases List.mem_append.mp hv with q | q
        · exact h5 k p v q l
        · rw [List.mem_singleton.mp q] at l ⊢;exact back k p l
        · rw [List.mem_singleton.mp p] at l ⊢
          obtain ⟨k',hk',l'⟩:=h1 v q
          exact absurd (l'.trans l) (no k' hk')
        · rw [List.mem_singleton.mp p,List.mem_singleton.mp q]
      · refine List.pairwise_append.mpr ⟨h6,List.pairwise_singleton _ _,fun k hk u hu=>?_⟩
        rw [List.mem_singleton.mp hu]
        refine Classical.byContradiction fun n=>no k hk ?_
        rw [jj n (h3 k (h2 k hk) w (by simp))]
        exact le.refl w
def dJ (F:List Tx):List Tx:=F.mergeSort fun a b=> !NhSG.eL (key b) (key a)
theorem sortT_mem {F:List Tx} {w:Tx}:w∈dJ F↔w∈F:=(List.mergeSort_perm F _).mem_iff
theorem jm (F:List Tx):(dJ F).Pairwise fun a b=>¬gW b a:=by
  have h:=List.pairwise_mergeSort (le:=fun a b=> !NhSG.eL (key b) (key a)) (fun a b c h1 h2=>by
    have h1':¬gW b a:=by simpa [gW] using h1
    have h2':¬gW c b:=by simpa [gW] using h2
    have:¬gW c a:=fun z=>by
      by_cases q:gW a b
      · exact h2' (lR z q)
      · rw [jj q h1'] at z;exact h2' z
    simpa [gW] using this) (fun a b=>by
    by_cases q:NhSG.eL (key b) (key a)=true
    · have:¬gW a b:=lS q
      have:NhSG.eL (key a) (key b)=false:=by simpa [gW] using this
      simp [this]
    · simp [Bool.not_eq_true _▸q]) F
  exact h.imp fun {a b} h=>by simpa [gW] using h
def cW (F:List Tx):List Tx:=gu [] (dJ F)
theorem jE {U:Tx} {F:List Tx} (hF:∀v∈F,Sub U v):Told U (cW F) (up F):=by
  obtain ⟨a,b⟩:=iu (dJ F) [] [] (fun v hv=>(hF v (sortT_mem.mp (by simpa using hv))).1) (fun v hv=>by cases hv) (fun v hv=>by cases hv) (fun v hv=>by cases hv) (jm F) (fun v hv=>by cases hv) .nil
  refine ⟨a,fun w=>(b w).trans ?_⟩
  rw [p_ hF]
  simp only [List.nil_append,sortT_mem]
def comp (U w:Tx):Tx:=U.filter fun x=> !decide (x∈w)
end NhFam
namespace NhFam
def BP (F:List Tx) (w:Tx):Bool:=F.any fun k=>decide (le k w)
def aV:Tx→Nat→Tx
  | [],_=>[]
  | x::U,m=>if m % 2=1 then x::aV U (m / 2) else aV U (m / 2)
theorem dZ:∀(U:Tx) (m:Nat),(aV U m).Sublist U
  | [],_=> .slnil
  | x::U,m=>by
    unfold aV
    split
    · exact (dZ U _).cons_cons _
    · exact (dZ U _).cons _
theorem kn {U:Tx} (hU:Srt U) (m:Nat):Sub U (aV U m):=⟨List.Pairwise.sublist (dZ U m) hU,fun x hx=>(dZ U m).subset hx⟩
theorem vf {a b:Nat}:a &&& b=a↔(a % 2=1→b % 2=1)∧(a / 2) &&& (b / 2)=a / 2:=by
  have h1:(a &&& b) % 2=(a % 2) &&& (b % 2):=by
    have:=Nat.and_mod_two_pow (a:=a) (b:=b) (n:=1)
    simpa using this
  have h2:(a &&& b) / 2=(a / 2) &&& (b / 2):=Nat.and_div_two
  have ha:a % 2=0∨a % 2=1:=by omega
  have hb:b % 2=0∨b % 2=1:=by omega
  constructor
  · intro h
    rw [h] at h1 h2
    refine ⟨fun z=>?_,h2.symm⟩
    rcases hb with q | q
    · rw [q,Nat.and_zero] at h1;omega
    · exact q
  · rintro ⟨p,q⟩
    rw [q] at h2
    have h3:(a &&& b) % 2=a % 2:=by
      rw [h1]
      rcases ha with z | z
      · rw [z,Nat.zero_and]
      · rw [z,p z];rfl
    omega
theorem iQ:∀{U:Tx} {a b:Nat},U.Nodup→a < 2 ^ U.length→b < 2 ^ U.length→(le (aV U a) (aV U b)↔a &&& b=a)
  | [],a,b,_,ha,hb=>by
    have:a=0:=by simpa using ha
    subst this
    simp [aV,le]
  | x::U,a,b,hU,ha,hb=>by
    have hU':=List.nodup_cons.mp hU
    rw [List.length_cons,Nat.pow_succ] at ha hb
    have ih:=iQ (a:=a / 2) (b:=b / 2) hU'.2 (by omega) (by omega)
    have nx:∀m,x∉aV U m:=fun m h=>hU'.1 ((dZ U m).subset h)
    rw [vf,←ih]
    by_cases p:a % 2=1 <;> by_cases q:b % 2=1
    · simp only [aV,if_pos p,if_pos q]
      constructor
      · intro h
        refine ⟨fun _=>q,fun y hy=>?_⟩
        rcases List.mem_cons.mp (h y (List.mem_cons_of_mem _ hy)) with z | z
        · subst z;exact absurd hy (nx _)
        · exact z
      · rintro ⟨_,h⟩ y hy
        rcases List.mem_cons.mp hy with z | z
        · rw [z];exact List.mem_cons_self ..
        · exact List.mem_cons_of_mem _ (h y z)
    · simp only [aV,if_pos p,if_neg q]
      exact ⟨fun h=>absurd (h x (List.mem_cons_self ..)) (nx _),fun h=>absurd (h.1 p) q⟩
    · simp only [aV,if_neg p,if_pos q]
      constructor
      · intro h
        refine ⟨fun z=>absurd z p,fun y hy=>?_⟩
        rcases List.mem_cons.mp (h y hy) with z | z
        · subst z;exact absurd hy (nx _)
        · exact z
      · rintro ⟨_,h⟩ y hy
        exact List.mem_cons_of_mem _ (h y hy)
    · simp only [aV,if_neg p,if_neg q]
      exact ⟨fun h=>⟨fun z=>absurd z p,h⟩,fun h=>h.2⟩
theorem ko {U:Tx} {a b:Nat} (hU:U.Nodup) (ha:a < 2 ^ U.length) (hb:b < 2 ^ U.length) (h:aV U a=aV U b):a=b:=by
  have h1:=(iQ hU ha hb).mp (by rw [h];exact le.refl _)
  have h2:=(iQ hU hb ha).mp (by rw [h];exact le.refl _)
  rw [Nat.and_comm] at h2
  rw [←h1,h2]
structure LeastM (M D:List Nat):Prop where
  nd:D.Nodup
  mem:∀m,m∈D↔m∈M∧∀k∈M,k &&& m=k→k=m
theorem qa {U:Tx} {M D:List Nat} (hU:Srt U) (h:LeastM M D) (hM:∀m∈M,m < 2 ^ U.length):Told U (dJ (D.map (aV U))) (up (M.map (aV U))):=by
  have nd:=Srt.nodup hU
  have lt:∀m∈D,m < 2 ^ U.length:=fun m hm=>hM m ((h.mem m).mp hm).1
  have hF:∀v∈M.map (aV U),Sub U v:=fun v hv=>by
    obtain ⟨m,_,rfl⟩:=List.mem_map.mp hv
    exact kn hU m
  refine ⟨?_,fun w=>?_⟩
  · have n1:(D.map (aV U)).Nodup:=by
      rw [List.Nodup,List.pairwise_map]
      exact List.Pairwise.imp_of_mem (fun {a b} ha hb q e=>q (ko nd (lt a ha) (lt b hb) e)) h.nd
    have n2:(dJ (D.map (aV U))).Nodup:=(List.mergeSort_perm _ _).nodup_iff.mpr n1
    have o:=jm (D.map (aV U))
    exact (List.pairwise_and_iff.mpr ⟨o,n2⟩).imp fun {a b} q=>Classical.byContradiction fun z=>q.2 (jj z q.1)
  · rw [sortT_mem,p_ hF]
    constructor
    · intro hw
      obtain ⟨m,hm,rfl⟩:=List.mem_map.mp hw
      obtain ⟨a,b⟩:=(h.mem m).mp hm
      refine ⟨List.mem_map.mpr ⟨m,a,rfl⟩,fun v hv l=>?_⟩
      obtain ⟨k,hk,rfl⟩:=List.mem_map.mp hv
      rw [b k hk ((iQ nd (hM k hk) (hM m a)).mp l)]
    · rintro ⟨a,b⟩
      obtain ⟨m,hm,rfl⟩:=List.mem_map.mp a
      refine List.mem_map.mpr ⟨m,(h.mem m).mpr ⟨hm,fun k hk l=>?_⟩,rfl⟩
      exact ko nd (hM k hk) (hM m hm) (b _ (List.mem_map.mpr ⟨k,hk,rfl⟩) ((iQ nd (hM k hk) (hM m hm)).mpr l))
end NhFam
namespace PL
open PySem L2 Nh
def zc:V→List V→Hp→VK→Prop:=fun x vs H Q=>∃z y,x= .str z∧vs=[.str y]∧(y.length == 0)=false∧z.length≤100000∧∀l,H l=none→Q (.ref l) (upd H l (.lst ((Txt.split z y).map V.str)))
theorem rc:∀l:List (Str×Tok),Vals ((l.map (·.1)).map V.str) (strValues l)
  | []=> .nil
  | p::l=> .cons ⟨p.2,rfl⟩ (rc l)
theorem sX (z y:Str):(Txt.split z y).length≤z.length+2:=by
  unfold Txt.split
  split
  · simp
  · split
    · simp
    · have:=StrLaws.occ_length_le_len z y 0 z.length (z.length+1)
      rw [length_partsBetween]
      omega
theorem vg {X:Cx}:MtR X "str.split" zc:=by
  intro pins s σ H x vs v us Q I rx rv h
  obtain ⟨z,y,rfl,rfl,hy,hz,q⟩:=h
  obtain ⟨t,rfl⟩:=rx
  obtain ⟨u,rfl,ru⟩:=rv.one
  obtain ⟨u,rfl⟩:=ru
  have few:=sX z y
  have new:∀(l:List (Str×Tok)) (k:Nat),l.map (·.1)=Txt.split z y→EP X pins σ Q (.ref s.heap.objs.size) {s with heap:=s.heap.push {cls:= .type "list",data:= .seq (strValues l).toArray},toks:=k}:=fun l k e=>by
    refine ⟨.ref s.heap.objs.size,_,I.laid (a:=s.heap.objs.size) (o:= .lst ((Txt.split z y).map V.str)) (t':=k) (fun _ _ w=>Heap.get?_push_of_some _ w) (Nat.le_refl _) ?_,rfl,q _ (I.hok.fresh (Nat.le_refl _))⟩
    refine ⟨?_,strValues l,0,?_,Heap.get?_push_size _ rfl⟩
    · rw [List.length_map]
      exact eC (by omega)
    · rw [←e]
      exact rc l
  have call:∀{S:Spec},Meets (PySem.Builtin.«str.split» ⟨[.str z t, .str y u],[]⟩) S→S X.A (wants (EP X pins σ Q) X.xe) s→wpAny (model X.prog X.w) X.A (call (.builtin "str.split") [.str z t, .str y u]) (EP X pins σ Q) X.xe s:=
    fun g w=>call_meets F.slot_str_split (typeIs_str _ _ _) F.entry_str_split (F.args_str_split_2 _ _) g w
  by_cases h1:(decide (z.length < y.length)||decide (Builtin.Str.strKind z < Builtin.Str.strKind y))=true
  · exact call (meets_str_split_cannot_occur z y t u h1) (new [(z,t)] s.toks (by unfold Txt.split;rw [if_pos h1];rfl))
  · have h1':=Bool.not_eq_true _▸h1
    by_cases h2:(Builtin.Str.occurrences z y 0 z.length (z.length+1)).isEmpty=true
    · exact call (meets_str_split_not_found z y t u (by simpa using h1) hy h2) (new [(z,t)] s.toks (by unfold Txt.split;rw [if_neg h1,if_pos h2];rfl))
    · have e:Txt.split z y=Builtin.Str.partsBetween z (Builtin.Str.occurrences z y 0 z.length (z.length+1)) y.length:=by unfold Txt.split;rw [if_neg h1,if_neg h2]
      have sl:z.length+2≤sizeLine:=eC (by omega)
      refine call (meets_str_split_sep z y t u (by simpa using h1) hy (by simpa using h2) (by omega) (by rw [←e];omega)) ?_
      rw [←e]
      have:=new (numbered s.toks (Txt.split z y)) (s.toks+(Txt.split z y).length) (numbered_texts _ _)
      rw [←strsFrom_eq] at this
      exact this
def kq (i:Nat) (f:aS):aS:=fun E=>match E[i]? with
  | some (.sh (.str x))=>(f E).bind fun a=>match look a.2 a.1 with
    | some (.str y)=>if (y.length == 0)=false∧x.length≤100000 then some (.ow ((Txt.split x y).map .str),a.2) else none
    | _=>none
  | _=>none
section
variable {X:Cx} {e:Expr} {m1:Bool} {f:aS} {x:Str} {p apos cpos:Pos}
theorem vh (i:Nat) (he:EX X e m1 f) (hN:X.N[i]? =some x:=by rfl) (hv:zG X.env.scope x:=by first | exact Or.inl rfl | exact Or.inr (Or.inl rfl) | exact Or.inr (Or.inr rfl)) (hd:(x == ("__debug__":Str))=false:=by decide) (hcd:(x == ("__classdict__":Str))=false:=by decide)
    (hs:starEach [e] X.env=[(false,eval e X.env)]:=by rfl) (hbase:attributeBase (.Name x p) "split" X.env (eval (.Name x p) X.env)=eval (.Name x p) X.env:=by rfl)
    (hfew:((backTo cpos (starEach [e] X.env)).all (fun x=> !x.1)&&(backToKw cpos (keywordEach [] X.env)).all (fun x=>x.1.isSome)
      &&decide (([e]:List Expr).length+([]:List Keyword).length+(if ([]:List Keyword).isEmpty then 0 else 1) < 30))=true:=by rfl) (hline:(apos.endLine == cpos.line)=true:=by rfl):
    EX X (.Call (.Attribute (.Name x p) "split" apos) [e] [] cpos) m1 (kq i f):=by
  refine bA (t_ PySem.F.plainAttrs_str PySem.F.slot_str_split PySem.F.type_str_split vg (pc hN hv hd hcd) (cB he dM hs) hbase hfew hline hs rfl) fun σ H Q z=>?_
  obtain ⟨B,E,xs,Xs,res,E',⟨F,A,fr⟩,cl,e,q⟩:=z
  unfold kq at e
  split at e
  · rename_i z ei
    obtain ⟨⟨s,E1⟩,e1,e⟩:=Option.bind_eq_some_iff.mp e
    simp only at e
    split at e
    · rename_i y ly
      split at e
      · rename_i hc
        cases e
        obtain ⟨o,A1,eo,rfl,v0,rfl,rp⟩:=fr.var ei
        cases rp
        refine ⟨_,eo,rfl,B,E,xs,Xs,_,E',⟨F,A,fr⟩,cl,e1,fun v H1 ⟨F1,A1,fr1⟩=>?_⟩
        have r1:=(fr1.look0 ly).1
        obtain ⟨A',fr2⟩:=fr1.pop
        cases r1
        exact ⟨z,y,rfl,rfl,hc.1,hc.2,fun l hl=>q _ _ ⟨F1,_,fr2.newl (eT _) hl⟩⟩
      · cases e
    · cases e
  · cases e
end
end PL
namespace PL
open PySem L2 Nh
section
variable {X:Cx}
theorem zd {body:List Stmt} {h₀:ExceptHandler} {hs:List ExceptHandler} {pos:Pos} {g:dE} (hx:X.xe=fun _ _=>False) (h:rX X body g):SX X (.Try body (h₀::hs) [] [] pos) g:=by
  intro pins s σ H D I hw
  have q:=h pins s σ H D I hw
  rw [hx] at q
  refine wpAny_Try_except (wpAny_mono q (fun f s1 z=>?_) fun _ _ z=>z.elim)
  cases f with
  | next=>exact wpAny_execs_nil z
  | brk=>exact z
  | cont=>exact z
  | ret u=>exact z
end
end PL
namespace Nhk45
open PySem L2 Nh PL
def gO:dE:=(bi (lj (h8 (fi .str) (aa 0)) (lj (af i6 false (bI cS (ad false (aa 0) ak)) (pC (.int 1))) (eD (fR .le) (fR .le) false false (pC (.str "a")) (aa 0) (pC (.str "z"))))))
def dR:List PyData→Option Sl:=fq 1 1 gO
def d0:gf:=(bX 1)
def d7:dE:=(cy (bq (dN (am dR (ad false (aa 1) ak))))
  eH
  ba)
def iR:dE:=(aT (cy (bq (dN (h8 (fi .str) (aa 0))))
  eH
  ba)
  (aT (fu (cV (aa 0)) d0
  d7)
  (bi (dI "" (kb (aa 0))))))
def cK:List PyData→Option Sl:=fq 1 2 iR
def dr:gf:=(bX 3)
def du:dE:=(aT (cy (cP (af (o9 false) false (aa 3) (aa 0)))
  (aK 1 (af bj false (aa 1) (aa 2)))
  ba)
  (aK 2 (af gU false (aa 2) (pC (.int 2)))))
def gP:dE:=(aT (aK 1 (pC (.int 0)))
  (aT (aK 2 (pC (.int 1)))
  (aT (fu (cV (pC (.str "abcdefghijklmnopqrstuvwxyz"))) dr
  du)
  (bi (aa 1)))))
def bh:List PyData→Option Sl:=fq 1 4 gP
def cY:dE:=(bi (gr (aa 0)))
def aM:List PyData→Option Sl:=fq 1 1 cY
def aX:gf:=(bX 2)
def aP:dE:=(cy (cP (af i6 false (af pL false (aa 2) (aa 0)) (aa 2)))
  (bi (pC (.bool true)))
  ba)
def bY:dE:=(aT (fu (cV (aa 1)) aX
  aP)
  (bi (pC (.bool false))))
def au:List PyData→Option Sl:=fq 2 3 bY
def bU:gf:=(bX 3)
def bu:dE:=(aT (aK 4 (am bh (ad false (aa 3) ak)))
  (cy (bq (dN (am au (ad false (aa 4) (ad false (aa 2) ak)))))
  (aT (dG (bn 2 (aa 4)))
  (dG (bn 1 (aa 3))))
  ba))
def eV:dE:=(aT (aK 1 (eQ fg))
  (aT (aK 2 (eQ fg))
  (aT (fu (cV (am aM (ad false (aa 0) ak))) bU
  bu)
  (bi (aa 1)))))
def cG:List PyData→Option Sl:=fq 1 5 eV
def bJ:gf:=(bX 0)
def bK:aS:=(am cK (ad false (aa 0) ak))
def eM:dE:=(bi (am cG (ad false (bt [none] (cV (aa 0)) bJ bG bK) ak)))
def aR:List PyData→Option Sl:=fq 1 1 eM
def bC:dE:=(bi (am aR (ad false (aa 0) ak)))
def aA:List PyData→Option Sl:=fq 1 1 bC
def dv:dE:=(aT (cy (gd (bq (dN (h8 (fi .list) (aa 0)))) (cP (af i6 false (bI cS (ad false (aa 0) ak)) (pC (.int 0)))))
  eH
  ba)
  (aT (cy (cP (af jM false (am aA (ad false (aa 0) ak)) (aa 0)))
  eH
  ba)
  (cy (cP (af i6 false (af nD false (aa 0) (pC (.int 0))) (pC (.str ""))))
  eH
  ba)))
def bv:List PyData→Option Sl:=fq 1 1 dv
def d8:gf:=(bX 0)
def d9:aS:=(am bh (ad false (aa 0) ak))
def gv:dE:=(bi (am au (ad false (am bh (ad false (am cK (ad false (aa 1) ak)) ak)) (ad false (bt [none] (cV (aa 0)) d8 bG d9) ak))))
def de:List PyData→Option Sl:=fq 2 2 gv
def d_:dE:=(bi (dI " " (aa 0)))
def bQ:List PyData→Option Sl:=fq 1 1 d_
def ee:dE:=(aT (cy (bq (dN (h8 (fi .str) (aa 0))))
  eH
  ba)
  (aT (aK 1 (kq 0 (pC (.str " "))))
  (aT (cy (cP (af (o9 false) false (pC (.str "")) (aa 1)))
  eH
  ba)
  (bi (am aA (ad false (aa 1) ak))))))
def aG:List PyData→Option Sl:=fq 1 2 ee
def iS:dE:=(aT (cy (cP (af (eY (fR .lt)) false (aa 1) (bI cS (ad false (aa 0) ak))))
  (bi (af nD false (aa 0) (aa 1)))
  ba)
  (bi (pC (.int 0))))
def av:List PyData→Option Sl:=fq 2 2 iS
def fU:dE:=(aT (aK 2 (af cJ false (af bj false (af bj false (af bj false (af cJ false (aa 0) (pC (.int 2147483629))) (af gU false (pC (.int 7919)) (aa 1))) (af gU false (aa 1) (aa 1))) (pC (.int 11))) (pC (.int 2147483629))))
  (aT (aK 2 (af cJ false (af gU false (aa 2) (aa 2)) (pC (.int 2147483587))))
  (bi (af c_ false (af cJ false (af bj false (af gU false (aa 2) (pC (.int 48271))) (af gU false (pC (.int 31)) (aa 1))) (pC (.int 2147483563))) (pC (.int 13))))))
def ce:List PyData→Option Sl:=fq 2 3 fU
def cH:gf:=(bX 0)
def bZ:aS:=(af nD false (aa 1) (af cJ false (af bj false (aa 2) (af gU false (aa 0) (aa 3))) (pC (.int 26))))
def e_:dE:=(aT (aK 2 (pC (.str "abcdefghijklmnopqrstuvwxyz")))
  (aT (aK 3 (af nD false (eQ (uG [1,3,5,7,9,11,15,17,19,21,23,25])) (af cJ false (af c_ false (aa 0) (pC (.int 26))) (pC (.int 12)))))
  (bi (bt [none,some 2,some 0,some 3] (eF (ad false (aa 1) ak)) cH bG bZ))))
def bp:List PyData→Option Sl:=fq 2 4 e_
def cL:gf:=(bX 0)
def cm:aS:=(af nD false (aa 1) (aa 0))
def cn:iG:=(cP (af i6 false (af pL false (af uM false (aa 2) (aa 0)) (pC (.int 1))) (pC (.int 1))))
def gQ:dE:=(bi (dI "" (bt [none,some 1,some 0] (eF (ad false (bI cS (ad false (aa 1) ak)) ak)) cL cn cm)))
def bV:List PyData→Option Sl:=fq 2 2 gQ
def b7:gf:=(bX 0)
def b8:aS:=(aa 0)
def bD:iG:=(jB (cP (af i6 false (af pL false (aa 0) (aa 1)) (aa 0))) (cP (af jM false (aa 0) (aa 1))))
def bE:gf:=(bX 2)
def bd:dE:=(aT (aK 3 (bt [none,some 2] (cV (aa 0)) b7 bD b8))
  (cy (jB (cP (af i6 false (aa 3) (eQ fg))) (cP (af (o9 true) false (aa 2) (aa 1))))
  (dG (bn 1 (aa 2)))
  ba))
def ef:dE:=(aT (aK 1 (eQ fg))
  (aT (fu (cV (aa 0)) bE
  bd)
  (bi (aa 1))))
def bR:List PyData→Option Sl:=fq 1 4 ef
def b_:gf:=(bX 0)
def cb:aS:=(am bV (ad false (aa 0) (ad false (aa 1) ak)))
def fb:dE:=(bi (gr (bt [none,some 1] (cV (aa 0)) b_ bG cb)))
def bS:List PyData→Option Sl:=fq 2 2 fb
def cc:gf:=(bX 7)
def bF:dE:=(aT (cy (bq (cP (eD (fR .lt) (fR .lt) false false (h8 rY (af nW false (pC (.int 10)) (pC (.int 18)))) (aa 5) (af nW false (pC (.int 10)) (pC (.int 18))))))
  (aT (aK 8 (af bj false (pC (.int 1)) (af cJ false (aa 6) (af pD false (af pK false (pC (.int 1)) (aa 2)) (pC (.int 1))))))
  (aK 6 (af c_ false (aa 6) (af pD false (af pK false (pC (.int 1)) (aa 2)) (pC (.int 1))))))
  (aK 8 (af bj false (pC (.int 1)) (af cJ false (am ce (ad false (af bj false (am av (ad false (aa 0) (ad false (af bj false (af bj false (aa 1) (pC (.int 1))) (af cJ false (aa 7) (pC (.int 4)))) ak))) (aa 7)) (ad false (aa 7) ak))) (af pD false (af pK false (pC (.int 1)) (aa 2)) (pC (.int 1)))))))
  (dG (bn 4 (aa 8))))
def eu:dE:=(aT (aK 4 (eQ fg))
  (aT (aK 5 (am av (ad false (aa 0) (ad false (aa 1) ak))))
  (aT (aK 6 (af c_ false (aa 5) (af gU false (pC (.int 2)) (aa 3))))
  (aT (fu (eF (ad false (af bj false (pC (.int 1)) (af cJ false (af c_ false (aa 5) (pC (.int 2))) (aa 3))) ak)) cc
  bF)
  (bi (aa 4))))))
def cq:List PyData→Option Sl:=fq 4 9 eu
def dw:dE:=(aT (aK 2 (af cJ false (aa 1) (af bj false (bI cS (ad false (aa 0) ak)) (pC (.int 1)))))
  (bi (af bj false (af bj false (fj false (aa 0) (cE (aa 2)) cQ) (fj false (aa 0) cQ (cE (aa 2)))) (fj false (aa 0) cQ (cE (af cJ false (af c_ false (aa 1) (pC (.int 8))) (af bj false (bI cS (ad false (aa 0) ak)) (pC (.int 1)))))))))
def a_:List PyData→Option Sl:=fq 2 3 dw
def gw:gf:=(bX 0)
def eW:aS:=(h8 (fi .str) (aa 0))
def fF:gf:=(uz 2 (pG (bX 9) (pG (bX 10) uw)))
def fH:dE:=(aT (dG (bn 8 (am a_ (ad false (am bV (ad false (aa 10) (ad false (aa 2) ak))) (ad false (am av (ad false (aa 0) (ad false (af bj false (pC (.int 8)) (aa 9)) ak))) ak)))))
  (cy (cP (af i6 false (af cJ false (am av (ad false (aa 0) (ad false (af bj false (pC (.int 8)) (aa 9)) ak))) (pC (.int 3))) (pC (.int 0))))
  (dG (bn 8 (am a_ (ad false (af bj false (am bV (ad false (aa 10) (ad false (aa 2) ak))) (af nD false (aa 2) (af cJ false (aa 9) (bI cS (ad false (aa 2) ak))))) (ad false (af c_ false (am av (ad false (aa 0) (ad false (af bj false (pC (.int 9)) (aa 9)) ak))) (pC (.int 3))) ak)))))
  ba))
def iT:gf:=(bX 0)
def gy:aS:=(af (o9 false) false (aa 0) (aa 1))
def eX:gf:=(bX 0)
def eB:aS:=(bI pO (ad false (bt [none,some 1] (cV (aa 0)) iT bG gy) ak))
def oG:dE:=(aT (aK 1 (af bj false (pC (.int 1)) (af cJ false (am av (ad false (aa 0) (ad false (pC (.int 1)) ak))) (pC (.int 6)))))
  (aT (cy (cP (af i6 false (af cJ false (af c_ false (am av (ad false (aa 0) (ad false (pC (.int 1)) ak))) (pC (.int 6))) (pC (.int 8))) (pC (.int 3))))
  (aK 1 (af bj false (pC (.int 11)) (af cJ false (af c_ false (am av (ad false (aa 0) (ad false (pC (.int 1)) ak))) (pC (.int 48))) (pC (.int 16)))))
  ba)
  (aT (aK 2 (iL (am bp (ad false (am av (ad false (aa 0) (ad false (pC (.int 0)) ak))) (ad false (aa 1) ak)))))
  (aT (aK 3 (am cq (ad false (aa 0) (ad false (pC (.int 2)) (ad false (bI cS (ad false (aa 2) ak)) (ad false (pC (.int 9)) ak))))))
  (aT (aK 4 (am bS (ad false (am bR (ad false (aa 3) ak)) (ad false (aa 2) ak))))
  (aT (aK 5 (j0 (aa 4)))
  (aT (aK 6 (am bQ (ad false (aa 5) ak)))
  (aT (cy (gd (bq (dN (h8 (fi .str) (aa 6)))) (gd (cP (af jM false (aa 6) (dI " " (aa 4)))) (cP (af jM false (aa 5) (aa 4)))))
  (bi (pC (.bool false)))
  ba)
  (aT (aK 7 (am aG (ad false (aa 6) ak)))
  (aT (cy (gd (bq (dN (h8 (fi .list) (aa 7)))) (gd (cP (af jM false (aa 7) (aa 4))) (bq (dN (bI pO (ad false (bt [none] (n6 (aa 7)) gw bG eW) ak))))))
  (bi (pC (.bool false)))
  ba)
  (aT (dG (bn 7 (pC (.str ""))))
  (aT (aK 8 (eQ fg))
  (aT (fu (mI (aa 3)) fF
  fH)
  (aT (aK 11 (af cJ false (am av (ad false (aa 0) (ad false (pC (.int 7)) ak))) (bI cS (ad false (aa 8) ak))))
  (aT (aK 8 (af bj false (fj false (aa 8) (cE (aa 11)) cQ) (fj false (aa 8) cQ (cE (aa 11)))))
  (aT (cy (gd (cP (af jM false (am aG (ad false (dI " " (aa 8)) ak)) (aa 4))) (gd (cP (af jM false (am aG (ad false (aa 6) ak)) (aa 4))) (cP (af jM false (am aR (ad false (aa 8) ak)) (aa 4)))))
  (bi (pC (.bool false)))
  ba)
  (aT (aK 12 (dI "" (fj false (aa 2) (cE (pC (.int 1))) cQ)))
  (aT (aK 13 (bI uO (ad false (bt [none,some 12] (cV (aa 4)) eX bG eB) ak)))
  (bi (lj (af (eY (ul false)) false (am bv (ad false (aa 4) ak)) (pC .none)) (af i6 false (am de (ad false (aa 4) (ad false (aa 12) ak))) (aa 13))))))))))))))))))))))
def iv:List PyData→Option Sl:=fq 1 14 oG
end Nhk45
namespace Nhk45
open PySem L2 Nh PL
def kI (i:Nat):Stmt:=PySem.Challenge.pw_nailhang_k45_rules_written_and_read.main.body.getD i (.Pass ⟨0,0,0,0⟩)
section
variable {P:Program} {w:World} {K:PySem.W.Frag} {mg:Str→Option Value} {base:Heap}
abbrev eN:Stmt:=kI 5
theorem qc:FnScope ["thing"] ["thing"] (ag eN):=⟨rfl,rfl,rfl,by decide+kernel,rfl,by decide+kernel,by decide+kernel⟩
theorem qd (D:Def K mg "is_nail" eN ["thing"]) (B:Bn mg):Own P w K mg base 1 "is_nail" ["thing"] (dF K dR):=by
  delta dR
  refine fQ (g:=gO) D qc rfl rfl (by decide) fun f cdv A outer s H E hr=>?_
  delta gO
  exact (aq (bg (pF (ii .str (by rfl) (by exact B.isinstance) (ab 0) (by rfl) (by exact B.str) PyProof.Rows.boot_str) (pF (xx hr.units (fO (by rfl) (by exact B.len) (ai (ab 0) ar)) ao) (uo (Ax .le .le hZ (ab 0) hZ))))))
abbrev fI:Stmt:=kI 7
theorem sc_set_of:FnScope ["nails","sign"] ["nails"] (ag fI):=⟨rfl,rfl,rfl,by decide+kernel,rfl,by decide+kernel,by decide+kernel⟩
theorem sY (D:Def K mg "set_of" fI ["nails"]) (B:Bn mg) (D_is_nail:Own P w K mg base 1 "is_nail" ["thing"] (dF K dR)):Own P w K mg base 2 "set_of" ["nails"] (dF K cK):=by
  delta cK
  refine fQ (g:=iR) D sc_set_of rfl rfl (by decide) fun f cdv A outer s H E hr=>?_
  delta iR
  exact (aj (dH (fN (gl (ii .str (by rfl) (by exact B.isinstance) (ab 0) (by rfl) (by exact B.str) PyProof.Rows.boot_str)))
  (aq eS)
  bN)
  (aj (ij PassesOwn.never (by rfl) (eR (ab 0)) (by delta d0;exact (bO 1 sc_set_of.nd))
  (by delta d7;exact (aq (dH (fN (gl (aE D_is_nail (hr.mono (by decide)) (by rfl) (ai (ab 1) ar))))
  (aq eS)
  bN))))
  (aq (bg (gK (pW rfl (by rfl) (by exact B.sorted) (by rfl) (by exact B.set) (ab 0)))))))
abbrev eO:Stmt:=kI 10
theorem sc_bits_of:FnScope ["nails","bits","bit","letter"] ["nails"] (ag eO):=⟨rfl,rfl,rfl,by decide+kernel,rfl,by decide+kernel,by decide+kernel⟩
theorem qe (D:Def K mg "bits_of" eO ["nails"]) (B:Bn mg) {t_LETTERS:Tok} (G_LETTERS:mg "LETTERS"=some (.str "abcdefghijklmnopqrstuvwxyz" t_LETTERS)):Own P w K mg base 1 "bits_of" ["nails"] (dF K bh):=by
  delta bh
  refine fQ (g:=gP) D sc_bits_of rfl rfl (by decide) fun f cdv A outer s H E hr=>?_
  delta gP
  exact (aj (aO 1 sc_bits_of.nd ao)
  (aj (aO 2 sc_bits_of.nd ao)
  (aj (ij PassesOwn.never (by rfl) (eR (wD (by rfl) (by exact G_LETTERS))) (by delta dr;exact (bO 3 sc_bits_of.nd))
  (by delta du;exact (aj (dH (xB (ab 3) (ab 0))
  (aq (aO 1 sc_bits_of.nd (bB (ab 1) (ab 2))))
  bN)
  (aq (aO 2 sc_bits_of.nd (gk (ab 2) ao))))))
  (aq (bg (ab 1))))))
abbrev bL:Stmt:=kI 11
theorem jr:FnScope ["sets"] ["sets"] (ag bL):=⟨rfl,rfl,rfl,by decide+kernel,rfl,by decide+kernel,by decide+kernel⟩
theorem jt {c T:Addr} (D:DefT K mg "in_told_order" bL ["sets"] c T) (B:Bn mg):Own P w K mg base 1 "in_told_order" ["sets"] (dF K aM):=by
  delta aM
  refine BA (g:=cY) D jr rfl rfl (by decide) fun f A outer s H E hr=>?_
  delta cY
  exact (aq (bg (va rfl D.tp D.hd hr (by rfl) (by exact B.sorted) (by exact B.len) (ab 0) (by show (Str.ofString "in_told_order"++Str.ofString ".<locals>.")++Str.ofString "<lambda>"=_;decide+kernel))))
abbrev bw:Stmt:=kI 12
theorem sc_has_part_among:FnScope ["bits","parts","part"] ["bits","parts"] (ag bw):=⟨rfl,rfl,rfl,by decide+kernel,rfl,by decide+kernel,by decide+kernel⟩
theorem iU (D:Def K mg "has_part_among" bw ["bits","parts"]) (B:Bn mg):Own P w K mg base 1 "has_part_among" ["bits","parts"] (dF K au):=by
  delta au
  refine fQ (g:=bY) D sc_has_part_among rfl rfl (by decide) fun f cdv A outer s H E hr=>?_
  delta bY
  exact (aj (ij PassesOwn.never (by rfl) (eR (ab 1)) (by delta aX;exact (bO 2 sc_has_part_among.nd))
  (by delta aP;exact (aq (dH (jz hr.units (mJ (ab 2) (ab 0)) (ab 2))
  (aq (bg nV))
  bN))))
  (aq (bg nV)))
abbrev dS:Stmt:=kI 13
theorem sc_least_of:FnScope ["sets","told","kept","nails","bits"] ["sets"] (ag dS):=⟨rfl,rfl,rfl,by decide+kernel,rfl,by decide+kernel,by decide+kernel⟩
theorem oH (D:Def K mg "least_of" dS ["sets"]) (B:Bn mg) (D_in_told_order:Own P w K mg base 1 "in_told_order" ["sets"] (dF K aM)) (D_bits_of:Own P w K mg base 1 "bits_of" ["nails"] (dF K bh)) (D_has_part_among:Own P w K mg base 1 "has_part_among" ["bits","parts"] (dF K au)):Own P w K mg base 2 "least_of" ["sets"] (dF K cG):=by
  delta cG
  refine fQ (g:=eV) D sc_least_of rfl rfl (by decide) fun f cdv A outer s H E hr=>?_
  delta eV
  exact (aj (aO 1 sc_least_of.nd (ig ie))
  (aj (aO 2 sc_least_of.nd (ig ie))
  (aj (ij PassesOwn.never (by rfl) (eR (aE D_in_told_order (hr.mono (by decide)) (by rfl) (ai (ab 0) ar))) (by delta bU;exact (bO 3 sc_least_of.nd))
  (by delta bu;exact (aj (aO 4 sc_least_of.nd (aE D_bits_of (hr.mono (by decide)) (by rfl) (ai (ab 3) ar)))
  (aq (dH (fN (gl (aE D_has_part_among (hr.mono (by decide)) (by rfl) (ai (ab 4) (ai (ab 2) ar)))))
  (aj (fP (dO 2 (ab 4)))
  (aq (fP (dO 1 (ab 3)))))
  bN)))))
  (aq (bg (ab 1))))))
abbrev cM:Stmt:=kI 14
theorem kP:FnScope ["family"] ["family"] (ag cM):=⟨rfl,rfl,rfl,by decide+kernel,rfl,by decide+kernel,by decide+kernel⟩
theorem kQ (D:Def K mg "least_sets" cM ["family"]) (B:Bn mg) (D_set_of:Own P w K mg base 2 "set_of" ["nails"] (dF K cK)) (D_least_of:Own P w K mg base 2 "least_of" ["sets"] (dF K cG)):Own P w K mg base 3 "least_sets" ["family"] (dF K aR):=by
  delta aR
  refine fQ (g:=eM) D kP rfl rfl (by decide) fun f cdv A outer s H E hr=>?_
  delta eM
  exact (aq (bg (aE D_least_of (hr.mono (by decide)) (by rfl) (ai (fv (N:=["nails"]) (js:=[none]) g_ (by rfl) (eR (ab 0)) (fun _ _ _ _=>(by delta bJ;exact (bO 0 (show (["nails"]:List Str).Nodup by decide+kernel)))) (fun _ _ _ _=>(by delta bK;exact (aE D_set_of (hr.mono (by decide)) (by rfl) (ai (ab 0) ar))))) ar))))
abbrev aZ:Stmt:=kI 16
theorem gX:FnScope ["sets"] ["sets"] (ag aZ):=⟨rfl,rfl,rfl,by decide+kernel,rfl,by decide+kernel,by decide+kernel⟩
theorem gY (D:Def K mg "least_or_no_rule" aZ ["sets"]) (B:Bn mg) (D_least_sets:Own P w K mg base 3 "least_sets" ["family"] (dF K aR)):Own P w K mg base 4 "least_or_no_rule" ["sets"] (dF K aA):=by
  delta aA
  refine fQ (g:=bC) D gX rfl rfl (by decide) fun f cdv A outer s H E hr=>?_
  delta bC
  exact (aq (zd rfl
  (aq (bg (aE D_least_sets (hr.mono (by decide)) (by rfl) (ai (ab 0) ar))))))
abbrev cN:Stmt:=kI 17
theorem kR:FnScope ["thing"] ["thing"] (ag cN):=⟨rfl,rfl,rfl,by decide+kernel,rfl,by decide+kernel,by decide+kernel⟩
theorem kT (D:Def K mg "check_rule" cN ["thing"]) (B:Bn mg) (D_least_or_no_rule:Own P w K mg base 4 "least_or_no_rule" ["sets"] (dF K aA)):Own P w K mg base 5 "check_rule" ["thing"] (dF K bv):=by
  delta bv
  refine fQ (g:=dv) D kR rfl rfl (by decide) fun f cdv A outer s H E hr=>?_
  delta dv
  exact (aj (dH (r8 (jW (fN (gl (ii .list (by rfl) (by exact B.isinstance) (ab 0) (by rfl) (by exact B.list) PyProof.Rows.boot_list))) (mE (jz hr.units (fO (by rfl) (by exact B.len) (ai (ab 0) ar)) ao))))
  (aq eS)
  bN)
  (aj (dH (jA hr.units (aE D_least_or_no_rule (hr.mono (by decide)) (by rfl) (ai (ab 0) ar)) (ab 0))
  (aq eS)
  bN)
  (aq (dH (jz hr.units (lq (ab 0) ao) hZ)
  (aq eS)
  bN))))
abbrev fJ:Stmt:=kI 18
theorem sZ:FnScope ["rule","nails"] ["rule","nails"] (ag fJ):=⟨rfl,rfl,rfl,by decide+kernel,rfl,by decide+kernel,by decide+kernel⟩
theorem s_ (D:Def K mg "breaks" fJ ["rule","nails"]) (B:Bn mg) (D_bits_of:Own P w K mg base 1 "bits_of" ["nails"] (dF K bh)) (D_set_of:Own P w K mg base 2 "set_of" ["nails"] (dF K cK)) (D_has_part_among:Own P w K mg base 1 "has_part_among" ["bits","parts"] (dF K au)):Own P w K mg base 3 "breaks" ["rule","nails"] (dF K de):=by
  delta de
  refine fQ (g:=gv) D sZ rfl rfl (by decide) fun f cdv A outer s H E hr=>?_
  delta gv
  exact (aq (bg (aE D_has_part_among (hr.mono (by decide)) (by rfl) (ai (aE D_bits_of (hr.mono (by decide)) (by rfl) (ai (aE D_set_of (hr.mono (by decide)) (by rfl) (ai (ab 1) ar)) ar)) (ai (fv (N:=["chosen"]) (js:=[none]) g_ (by rfl) (eR (ab 0)) (fun _ _ _ _=>(by delta d8;exact (bO 0 (show (["chosen"]:List Str).Nodup by decide+kernel)))) (fun _ _ _ _=>(by delta d9;exact (aE D_bits_of (hr.mono (by decide)) (by rfl) (ai (ab 0) ar))))) ar)))))
abbrev df:Stmt:=kI 20
theorem mZ:FnScope ["rule"] ["rule"] (ag df):=⟨rfl,rfl,rfl,by decide+kernel,rfl,by decide+kernel,by decide+kernel⟩
theorem m4 (D:Def K mg "rule_text" df ["rule"]) (B:Bn mg):Own P w K mg base 1 "rule_text" ["rule"] (dF K bQ):=by
  delta bQ
  refine fQ (g:=d_) D mZ rfl rfl (by decide) fun f cdv A outer s H E hr=>?_
  delta d_
  exact (aq (bg (gK (ab 0))))
abbrev dg:Stmt:=kI 21
theorem sc_read_rule:FnScope ["text","words"] ["text"] (ag dg):=⟨rfl,rfl,rfl,by decide+kernel,rfl,by decide+kernel,by decide+kernel⟩
theorem m6 (D:Def K mg "read_rule" dg ["text"]) (B:Bn mg) (D_least_or_no_rule:Own P w K mg base 4 "least_or_no_rule" ["sets"] (dF K aA)):Own P w K mg base 5 "read_rule" ["text"] (dF K aG):=by
  delta aG
  refine fQ (g:=ee) D sc_read_rule rfl rfl (by decide) fun f cdv A outer s H E hr=>?_
  delta ee
  exact (aj (dH (fN (gl (ii .str (by rfl) (by exact B.isinstance) (ab 0) (by rfl) (by exact B.str) PyProof.Rows.boot_str)))
  (aq eS)
  bN)
  (aj (aO 1 sc_read_rule.nd (vh 0 hZ))
  (aj (dH (xB hZ (ab 1))
  (aq eS)
  bN)
  (aq (bg (aE D_least_or_no_rule (hr.mono (by decide)) (by rfl) (ai (ab 1) ar)))))))
abbrev fK:Stmt:=kI 23
theorem td:FnScope ["_law_script","_law_k"] ["_law_script","_law_k"] (ag fK):=⟨rfl,rfl,rfl,by decide+kernel,rfl,by decide+kernel,by decide+kernel⟩
theorem ti (D:Def K mg "_law_at" fK ["_law_script","_law_k"]) (B:Bn mg):Own P w K mg base 1 "_law_at" ["_law_script","_law_k"] (dF K av):=by
  delta av
  refine fQ (g:=iS) D td rfl rfl (by decide) fun f cdv A outer s H E hr=>?_
  delta iS
  exact (aj (dH (Aw .lt (ab 1) (fO (by rfl) (by exact B.len) (ai (ab 0) ar)))
  (aq (bg (lq (ab 0) (ab 1))))
  bN)
  (aq (bg ao)))
abbrev dU:Stmt:=kI 24
theorem sc_law_stir:FnScope ["_law_cell","_law_k","_law_value"] ["_law_cell","_law_k"] (ag dU):=⟨rfl,rfl,rfl,by decide+kernel,rfl,by decide+kernel,by decide+kernel⟩
theorem oI (D:Def K mg "_law_stir" dU ["_law_cell","_law_k"]) (B:Bn mg):Own P w K mg base 1 "_law_stir" ["_law_cell","_law_k"] (dF K ce):=by
  delta ce
  refine fQ (g:=fU) D sc_law_stir rfl rfl (by decide) fun f cdv A outer s H E hr=>?_
  delta fU
  exact (aj (aO 2 sc_law_stir.nd (cu (bB (bB (bB (cu (ab 0) ao) (gk ao (ab 1))) (gk (ab 1) (ab 1))) ao) ao))
  (aj (aO 2 sc_law_stir.nd (cu (gk (ab 2) (ab 2)) ao))
  (aq (bg (eK (cu (bB (gk (ab 2) ao) (gk ao (ab 1))) ao) ao)))))
abbrev dh:Stmt:=kI 25
theorem sc_law_nails:FnScope ["_law_cell","_law_many","_law_letters","_law_step"] ["_law_cell","_law_many"] (ag dh):=⟨rfl,rfl,rfl,by decide+kernel,rfl,by decide+kernel,by decide+kernel⟩
theorem m7 (D:Def K mg "_law_nails" dh ["_law_cell","_law_many"]) (B:Bn mg):Own P w K mg base 1 "_law_nails" ["_law_cell","_law_many"] (dF K bp):=by
  delta bp
  refine fQ (g:=e_) D sc_law_nails rfl rfl (by decide) fun f cdv A outer s H E hr=>?_
  refine pI 1 [1,3,5,7,9,11,15,17,19,21,23,25] rfl rfl fun es hes=>?_
  delta e_
  exact (aj (aO 2 sc_law_nails.nd hZ)
  (aj (aO 3 sc_law_nails.nd (lq (ig (qO hes)) (cu (eK (ab 0) ao) ao)))
  (aq (bg (fv (N:=["_law_k","_law_letters","_law_cell","_law_step"]) (js:=[none,some 2,some 0,some 3]) fA (by rfl) (i7 (by rfl) (by exact B.range) (ai (ab 1) ar)) (fun _ _ _ _=>(by delta cH;exact (bO 0 (show (["_law_k","_law_letters","_law_cell","_law_step"]:List Str).Nodup by decide+kernel)))) (fun _ _ _ _=>(by delta bZ;exact (lq (ab 1) (cu (bB (ab 2) (gk (ab 0) (ab 3))) ao)))))))))
abbrev cX:Stmt:=kI 26
abbrev eP:Stmt:=kI 27
theorem qf:FnScope ["_law_mask","_law_some"] ["_law_mask","_law_some"] (ag eP):=⟨rfl,rfl,rfl,by decide+kernel,rfl,by decide+kernel,by decide+kernel⟩
theorem qg (D:Def K mg "_law_set" eP ["_law_mask","_law_some"]) (B:Bn mg):Own P w K mg base 1 "_law_set" ["_law_mask","_law_some"] (dF K bV):=by
  delta bV
  refine fQ (g:=gQ) D qf rfl rfl (by decide) fun f cdv A outer s H E hr=>?_
  delta gQ
  exact (aq (bg (gK (uE (N:=["_law_k","_law_some","_law_mask"]) (js:=[none,some 1,some 0]) fA (by rfl) (i7 (by rfl) (by exact B.range) (ai (fO (by rfl) (by exact B.len) (ai (ab 1) ar)) ar)) (fun _ _ _ _=>(by delta cL;exact (bO 0 (show (["_law_k","_law_some","_law_mask"]:List Str).Nodup by decide+kernel)))) (fun _ _ _ _=>(by delta cn;exact (jz hr.units (mJ (yR (ab 2) (ab 0)) ao) ao))) (fun _ _ _ _=>(by delta cm;exact (lq (ab 1) (ab 0))))))))
abbrev di:Stmt:=kI 28
theorem sc_law_least:FnScope ["_law_masks_here","_law_found","_law_one","_law_smaller"] ["_law_masks_here"] (ag di):=⟨rfl,rfl,rfl,by decide+kernel,rfl,by decide+kernel,by decide+kernel⟩
theorem m8 (D:Def K mg "_law_least" di ["_law_masks_here"]) (B:Bn mg):Own P w K mg base 1 "_law_least" ["_law_masks_here"] (dF K bR):=by
  delta bR
  refine fQ (g:=ef) D sc_law_least rfl rfl (by decide) fun f cdv A outer s H E hr=>?_
  delta ef
  exact (aj (aO 1 sc_law_least.nd (ig ie))
  (aj (ij PassesOwn.never (by rfl) (eR (ab 0)) (by delta bE;exact (bO 2 sc_law_least.nd))
  (by delta bd;exact (aj (uF 3 sc_law_least.nd (N:=["_law_other","_law_one"]) (js:=[none,some 2]) fA (by rfl) (eR (ab 0)) (fun _ _ _ _=>(by delta b7;exact (bO 0 (show (["_law_other","_law_one"]:List Str).Nodup by decide+kernel)))) (fun _ _ _ _=>(by delta bD;exact (r8 (uq (jz hr.units (mJ (ab 0) (ab 1)) (ab 0)) (qL (jA hr.units (ab 0) (ab 1))))))) (fun _ _ _ _=>(by delta b8;exact (ab 0))))
  (aq (dH (r8 (uq (jz hr.units (ab 3) (ig ie)) (qL (yT (ab 2) (ab 1)))))
  (aq (fP (dO 1 (ab 2))))
  bN)))))
  (aq (bg (ab 1)))))
abbrev dm:Stmt:=kI 29
theorem m9:FnScope ["_law_masks_here","_law_some"] ["_law_masks_here","_law_some"] (ag dm):=⟨rfl,rfl,rfl,by decide+kernel,rfl,by decide+kernel,by decide+kernel⟩
theorem m_ (D:Def K mg "_law_texts" dm ["_law_masks_here","_law_some"]) (B:Bn mg) (D_law_set:Own P w K mg base 1 "_law_set" ["_law_mask","_law_some"] (dF K bV)) (D_law_by_size:Def K mg "_law_by_size" cX ["_law_one"]):Own P w K mg base 2 "_law_texts" ["_law_masks_here","_law_some"] (dF K bS):=by
  delta bS
  refine fQ (g:=fb) D m9 rfl rfl (by decide) fun f cdv A outer s H E hr=>?_
  delta fb
  exact (aq (bg (u_ D_law_by_size hr (by rfl) (by exact B.sorted) (by exact B.len) (by rfl) (fv (N:=["_law_mask","_law_some"]) (js:=[none,some 1]) fA (by rfl) (eR (ab 0)) (fun _ _ _ _=>(by delta b_;exact (bO 0 (show (["_law_mask","_law_some"]:List Str).Nodup by decide+kernel)))) (fun _ _ _ _=>(by delta cb;exact (aE D_law_set (hr.mono (by decide)) (by rfl) (ai (ab 0) (ai (ab 1) ar)))))))))
abbrev dq:Stmt:=kI 30
theorem sc_law_masks:FnScope ["_law_script","_law_first","_law_many","_law_most","_law_masks_here","_law_cell","_law_rest","_law_k","_law_mask"] ["_law_script","_law_first","_law_many","_law_most"] (ag dq):=⟨rfl,rfl,rfl,by decide+kernel,rfl,by decide+kernel,by decide+kernel⟩
theorem nh (D:Def K mg "_law_masks" dq ["_law_script","_law_first","_law_many","_law_most"]) (B:Bn mg) (D_law_at:Own P w K mg base 1 "_law_at" ["_law_script","_law_k"] (dF K av)) (D_law_stir:Own P w K mg base 1 "_law_stir" ["_law_cell","_law_k"] (dF K ce)):Own P w K mg base 2 "_law_masks" ["_law_script","_law_first","_law_many","_law_most"] (dF K cq):=by
  delta cq
  refine fQ (g:=eu) D sc_law_masks rfl rfl (by decide) fun f cdv A outer s H E hr=>?_
  delta eu
  exact (aj (aO 4 sc_law_masks.nd (ig ie))
  (aj (aO 5 sc_law_masks.nd (aE D_law_at (hr.mono (by decide)) (by rfl) (ai (ab 0) (ai (ab 1) ar))))
  (aj (aO 6 sc_law_masks.nd (eK (ab 5) (gk ao (ab 3))))
  (aj (ij PassesOwn.never (by rfl) (i7 (by rfl) (by exact B.range) (ai (bB ao (cu (eK (ab 5) ao) (ab 3))) ar)) (by delta cc;exact (bO 7 sc_law_masks.nd))
  (by delta bF;exact (aj (dH (fN (Ay .lt .lt (yB (ug ao ao)) (ab 5) (ug ao ao)))
  (aj (aO 8 sc_law_masks.nd (bB ao (cu (ab 6) (pE (pM ao (ab 2)) ao))))
  (aq (aO 6 sc_law_masks.nd (eK (ab 6) (pE (pM ao (ab 2)) ao)))))
  (aq (aO 8 sc_law_masks.nd (bB ao (cu (aE D_law_stir (hr.mono (by decide)) (by rfl) (ai (bB (aE D_law_at (hr.mono (by decide)) (by rfl) (ai (ab 0) (ai (bB (bB (ab 1) ao) (cu (ab 7) ao)) ar))) (ab 7)) (ai (ab 7) ar))) (pE (pM ao (ab 2)) ao))))))
  (aq (fP (dO 4 (ab 8)))))))
  (aq (bg (ab 4)))))))
abbrev cO:Stmt:=kI 31
theorem sc_law_turned:FnScope ["_law_one","_law_cell","_law_cut"] ["_law_one","_law_cell"] (ag cO):=⟨rfl,rfl,rfl,by decide+kernel,rfl,by decide+kernel,by decide+kernel⟩
theorem kU (D:Def K mg "_law_turned" cO ["_law_one","_law_cell"]) (B:Bn mg):Own P w K mg base 1 "_law_turned" ["_law_one","_law_cell"] (dF K a_):=by
  delta a_
  refine fQ (g:=dw) D sc_law_turned rfl rfl (by decide) fun f cdv A outer s H E hr=>?_
  delta dw
  exact (aj (aO 2 sc_law_turned.nd (cu (ab 1) (bB (fO (by rfl) (by exact B.len) (ai (ab 0) ar)) ao)))
  (aq (bg (bB (bB (jb (ab 0) (gI (ab 2)) gH) (jb (ab 0) gH (gI (ab 2)))) (jb (ab 0) gH (gI (cu (eK (ab 1) ao) (bB (fO (by rfl) (by exact B.len) (ai (ab 0) ar)) ao))))))))
abbrev iV:Stmt:=kI 32
theorem sc_law:FnScope ["_law_script","_law_many","_law_some","_law_masks_here","_law_rule","_law_handed","_law_text","_law_found","_law_words","_law_k","_law_mask","_law_cut","_law_out","_law_due"] ["_law_script"] (ag iV):=⟨rfl,rfl,rfl,by decide+kernel,rfl,by decide+kernel,by decide+kernel⟩
theorem ze {f0:Addr} {fd:FuncData} (D:Fun K "law" "law" iV f0 fd) (B:Bn mg) (D_law_at:Own P w K mg base 1 "_law_at" ["_law_script","_law_k"] (dF K av)) (D_law_nails:Own P w K mg base 1 "_law_nails" ["_law_cell","_law_many"] (dF K bp)) (D_law_masks:Own P w K mg base 2 "_law_masks" ["_law_script","_law_first","_law_many","_law_most"] (dF K cq)) (D_law_least:Own P w K mg base 1 "_law_least" ["_law_masks_here"] (dF K bR)) (D_law_texts:Own P w K mg base 2 "_law_texts" ["_law_masks_here","_law_some"] (dF K bS)) (D_rule_text:Own P w K mg base 1 "rule_text" ["rule"] (dF K bQ)) (D_read_rule:Own P w K mg base 5 "read_rule" ["text"] (dF K aG)) (D_law_set:Own P w K mg base 1 "_law_set" ["_law_mask","_law_some"] (dF K bV)) (D_law_turned:Own P w K mg base 1 "_law_turned" ["_law_one","_law_cell"] (dF K a_)) (D_least_sets:Own P w K mg base 3 "least_sets" ["family"] (dF K aR)) (D_check_rule:Own P w K mg base 5 "check_rule" ["thing"] (dF K bv)) (D_breaks:Own P w K mg base 3 "breaks" ["rule","nails"] (dF K de)):FnOk P w K mg base rW 6 f0 fd ["_law_script"] (dF K iv):=by
  delta iv
  refine BY (g:=oG) D sc_law rfl rfl (by decide) fun cdv A outer s H E hr=>?_
  delta oG
  exact (aj (aO 1 sc_law.nd (bB ao (cu (aE D_law_at (hr.mono (by decide)) (by rfl) (ai (ab 0) (ai ao ar))) ao)))
  (aj (dH (jz hr.units (cu (eK (aE D_law_at (hr.mono (by decide)) (by rfl) (ai (ab 0) (ai ao ar))) ao) ao) ao)
  (aq (aO 1 sc_law.nd (bB ao (cu (eK (aE D_law_at (hr.mono (by decide)) (by rfl) (ai (ab 0) (ai ao ar))) ao) ao))))
  bN)
  (aj (aO 2 sc_law.nd (sE (by rfl) (by exact B.sorted) (aE D_law_nails (hr.mono (by decide)) (by rfl) (ai (aE D_law_at (hr.mono (by decide)) (by rfl) (ai (ab 0) (ai ao ar))) (ai (ab 1) ar)))))
  (aj (aO 3 sc_law.nd (aE D_law_masks (hr.mono (by decide)) (by rfl) (ai (ab 0) (ai ao (ai (fO (by rfl) (by exact B.len) (ai (ab 2) ar)) (ai ao ar))))))
  (aj (aO 4 sc_law.nd (aE D_law_texts (hr.mono (by decide)) (by rfl) (ai (aE D_law_least (hr.mono (by decide)) (by rfl) (ai (ab 3) ar)) (ai (ab 2) ar))))
  (aj (aO 5 sc_law.nd (wv (by rfl) (by exact B.list) (ab 4)))
  (aj (aO 6 sc_law.nd (aE D_rule_text (hr.mono (by decide)) (by rfl) (ai (ab 5) ar)))
  (aj (dH (r8 (jW (fN (gl (ii .str (by rfl) (by exact B.isinstance) (ab 6) (by rfl) (by exact B.str) PyProof.Rows.boot_str))) (jW (jA hr.units (ab 6) (gK (ab 4))) (mE (jA hr.units (ab 5) (ab 4))))))
  (aq (bg nV))
  bN)
  (aj (aO 7 sc_law.nd (aE D_read_rule (hr.mono (by decide)) (by rfl) (ai (ab 6) ar)))
  (aj (dH (r8 (jW (fN (gl (ii .list (by rfl) (by exact B.isinstance) (ab 7) (by rfl) (by exact B.list) PyProof.Rows.boot_list))) (jW (jA hr.units (ab 7) (ab 4)) (mE (fN (gl (uP (by rfl) (by rfl) (by exact B.all) (ai (sj (N:=["_law_one"]) (js:=[none]) g_ (by rfl) (wy (ab 7)) (fun _ _ _ _=>(by delta gw;exact (bO 0 (show (["_law_one"]:List Str).Nodup by decide+kernel)))) (fun _ _ _ _=>(by delta eW;exact (ii .str (by rfl) (by exact B.isinstance) (ab 0) (by rfl) (by exact B.str) PyProof.Rows.boot_str)))) ar))))))))
  (aq (bg nV))
  bN)
  (aj (fP (dO 7 hZ))
  (aj (aO 8 sc_law.nd (ig ie))
  (aj (ij PassesOwn.never (by rfl) (wA (by rfl) (by exact B.enumerate) (ab 3)) (by delta fF;exact (yJ (by rfl) (n4 (bO 9 sc_law.nd) (n4 (bO 10 sc_law.nd) wx))))
  (by delta fH;exact (aj (fP (dO 8 (aE D_law_turned (hr.mono (by decide)) (by rfl) (ai (aE D_law_set (hr.mono (by decide)) (by rfl) (ai (ab 10) (ai (ab 2) ar))) (ai (aE D_law_at (hr.mono (by decide)) (by rfl) (ai (ab 0) (ai (bB ao (ab 9)) ar))) ar)))))
  (aq (dH (jz hr.units (cu (aE D_law_at (hr.mono (by decide)) (by rfl) (ai (ab 0) (ai (bB ao (ab 9)) ar))) ao) ao)
  (aq (fP (dO 8 (aE D_law_turned (hr.mono (by decide)) (by rfl) (ai (bB (aE D_law_set (hr.mono (by decide)) (by rfl) (ai (ab 10) (ai (ab 2) ar))) (lq (ab 2) (cu (ab 9) (fO (by rfl) (by exact B.len) (ai (ab 2) ar))))) (ai (eK (aE D_law_at (hr.mono (by decide)) (by rfl) (ai (ab 0) (ai (bB ao (ab 9)) ar))) ao) ar))))))
  bN)))))
  (aj (aO 11 sc_law.nd (cu (aE D_law_at (hr.mono (by decide)) (by rfl) (ai (ab 0) (ai ao ar))) (fO (by rfl) (by exact B.len) (ai (ab 8) ar))))
  (aj (aO 8 sc_law.nd (bB (jb (ab 8) (gI (ab 11)) gH) (jb (ab 8) gH (gI (ab 11)))))
  (aj (dH (r8 (jW (jA hr.units (aE D_read_rule (hr.mono (by decide)) (by rfl) (ai (gK (ab 8)) ar)) (ab 4)) (jW (jA hr.units (aE D_read_rule (hr.mono (by decide)) (by rfl) (ai (ab 6) ar)) (ab 4)) (mE (jA hr.units (aE D_least_sets (hr.mono (by decide)) (by rfl) (ai (ab 8) ar)) (ab 4))))))
  (aq (bg nV))
  bN)
  (aj (aO 12 sc_law.nd (gK (jb (ab 2) (gI ao) gH)))
  (aj (aO 13 sc_law.nd (yV (by rfl) (by rfl) (by exact B.any) (ai (fv (N:=["_law_one","_law_out"]) (js:=[none,some 12]) fA (by rfl) (eR (ab 4)) (fun _ _ _ _=>(by delta eX;exact (bO 0 (show (["_law_one","_law_out"]:List Str).Nodup by decide+kernel)))) (fun _ _ _ _=>(by delta eB;exact (uP (by rfl) (by rfl) (by exact B.all) (ai (fv (N:=["_law_nail","_law_out"]) (js:=[none,some 1]) fA (by rfl) (eR (ab 0)) (fun _ _ _ _=>(by delta iT;exact (bO 0 (show (["_law_nail","_law_out"]:List Str).Nodup by decide+kernel)))) (fun _ _ _ _=>(by delta gy;exact (Az (ab 0) (ab 1))))) ar))))) ar)))
  (aq (bg (pF (yE (aE D_check_rule (hr.mono (by decide)) (by rfl) (ai (ab 4) ar)) yz) (uo (xx hr.units (aE D_breaks (hr.mono (by decide)) (by rfl) (ai (ab 4) (ai (ab 12) ar))) (ab 13))))))))))))))))))))))))
end
end Nhk45
namespace Nhk45
open PySem L2 Nh PL
theorem aC {f g:dE} {E E1:List Sl} (h:f E=some (E1, .nx)):aT f g E=g E1:=by
  unfold aT
  rw [h]
  rfl
theorem fL {c:iG} {a b:dE} {E E1:List Sl} {r:Option (List Sl×Fl)} (h:c E=some (false,E1)) (k:b E1=r):cy c a b E=r:=by
  unfold cy
  rw [h,←k]
  rfl
theorem iw {c:iG} {a b:dE} {E E1:List Sl} {r:Option (List Sl×Fl)} (h:c E=some (true,E1)) (k:a E1=r):cy c a b E=r:=by
  unfold cy
  rw [h,←k]
  rfl
theorem fV {tg:gf} {elt:aS} {d r:PyData} {ds rs:List PyData} {E E1:List Sl} (t:tg d E=some E1) (el:elt E1=some (.sh r,E1)) (h:cC tg bG elt ds E1=some rs):cC tg bG elt (d::ds) E=some (r::rs):=by
  rw [cC,t,Option.bind_some]
  simp only [bG,Option.bind_some,el,frz,h,Option.map_some,if_true]
theorem wQ (cell k:Int) (a:∀i:Int,e8 i k=true) (b:∀i j:Int,e8 (i % 2147483629) j=true) (c:∀i j:Int,e8 (i % 2147483587) j=true):∃z:Int,ce [.int cell, .int k]=some (.sh (.int z)):=by
  have d1:jV 13=true:=by decide
  simp only [ce,fq,List.length_cons,List.length_nil,Nat.zero_add,Nat.reduceAdd,i8,fU,aT,aK,af,aa,cg,List.map_cons,List.map_nil,Nat.reduceSub,List.replicate,List.cons_append,List.nil_append,List.getElem?_cons_zero,Sl.isBr,Bool.false_and,Bool.false_eq_true,pC,cJ,eY,look,Sl.val,mC,Option.bind_some,if_false,Int.reduceLT,decide_true,if_true,Option.map_some,gU,gT,iF,Bool.not_false,Bool.true_or,Bool.and_true,bj,List.getElem?_cons_succ,a,PL.settle,frz,frzAll,Nat.reduceLT,List.set_cons_succ,List.set_cons_zero,bi,c_,b,c,d1,cU,cF,cD]
  exact ⟨_,rfl⟩
theorem oJ (cell k:Int) (h1: -100000≤k) (h2:k≤100000):∃z:Int,ce [.int cell, .int k]=some (.sh (.int z)):=by
  refine wQ cell k (fun i=>mP (by omega) (by omega)) (fun i j=>?_) (fun i j=>?_)
  · have m0:=Int.emod_nonneg i (show (2147483629:Int)≠0 by decide)
    have m1:=Int.emod_lt_of_pos i (show (0:Int) < 2147483629 by decide)
    exact mQ (by omega) (by omega)
  · have m0:=Int.emod_nonneg i (show (2147483587:Int)≠0 by decide)
    have m1:=Int.emod_lt_of_pos i (show (0:Int) < 2147483587 by decide)
    exact mQ (by omega) (by omega)
def aI (a:Nat):PyData:= .str ⟨#[a]⟩
theorem kr:∀w:List Nat,be (w.map aI)=true
  | []=>rfl
  | a::w=>by simp [be,cD,kr w,aI]
theorem vi (cell step k:Int) (m:e8 k step=true):bZ [.sh (.int k), .sh (.str "abcdefghijklmnopqrstuvwxyz"), .sh (.int cell), .sh (.int step)]=some (.sh (aI (97+((cell+k*step) % 26).toNat)),[.sh (.int k), .sh (.str "abcdefghijklmnopqrstuvwxyz"), .sh (.int cell), .sh (.int step)]):=by
  simp only [bZ,af,aa,List.getElem?_cons_succ,List.getElem?_cons_zero,Sl.isBr,Bool.false_and,Bool.false_eq_true,gU,look,Sl.val,gT,iF,if_false,bj,pC,cJ,eY,mC,Option.bind_some,nD,Bool.not_false,Bool.true_or,Bool.and_true,m,if_true,Int.reduceLT,decide_true,Option.map_some,yW,By,aI]
theorem tj (cell many step i:Int) (n:Nat) (ws:List PyData) (dd:jV 26=true) (hi:cell / 26 % 12=i) (hs:atI [PyData.int 1, .int 3, .int 5, .int 7, .int 9, .int 11, .int 15, .int 17, .int 19, .int 21, .int 23, .int 25] i=some (.int step)) (o1: -1000000≤many) (o2:many≤1000000) (hn:many.toNat=n) (e:cC cH bG bZ (iJ 0 n) [.no, .sh (.str "abcdefghijklmnopqrstuvwxyz"), .sh (.int cell), .sh (.int step)]=some ws) (fl:be ws=true) (ll:ws.length≤1000000):bp [.int cell, .int many]=some (.ow ws):=by
  simp only [bp,fq,List.length_cons,List.length_nil,Nat.zero_add,Nat.reduceAdd,i8,e_,aT,aK,pC,cg,List.map_cons,List.map_nil,Nat.reduceSub,List.replicate,List.cons_append,List.nil_append,PL.settle,frz,frzAll,Option.bind_some,Nat.reduceLT,List.set_cons_succ,List.set_cons_zero,if_true,af,eQ,uG,Nat.reduceLeDiff,Sl.isBr,Bool.false_and,Bool.false_eq_true,aa,c_,eY,look,Sl.val,mC,if_false,cJ,nD,gT,iF,bi,bt,eF,ad,ak,Option.map_some,i9,uB,List.getElem?_cons_zero,dd,Int.reduceLT,decide_true,hi,hs,List.getElem?_cons_succ,cr,o1,o2,and_self,hn,e,fl,ll,Bool.and_true,cU,cF]
theorem vj:∀i,i < 12→∃v:Int,[PyData.int 1, .int 3, .int 5, .int 7, .int 9, .int 11, .int 15, .int 17, .int 19, .int 21, .int 23, .int 25][i]? =some (.int v)∧0≤v∧v≤100∧∀d:Nat,1≤d→d < 26→((d:Int)*v) % 26≠0
  | 0,_=>⟨1,rfl,by decide,by decide,by omega⟩
  | 1,_=>⟨3,rfl,by decide,by decide,by omega⟩
  | 2,_=>⟨5,rfl,by decide,by decide,by omega⟩
  | 3,_=>⟨7,rfl,by decide,by decide,by omega⟩
  | 4,_=>⟨9,rfl,by decide,by decide,by omega⟩
  | 5,_=>⟨11,rfl,by decide,by decide,by omega⟩
  | 6,_=>⟨15,rfl,by decide,by decide,by omega⟩
  | 7,_=>⟨17,rfl,by decide,by decide,by omega⟩
  | 8,_=>⟨19,rfl,by decide,by decide,by omega⟩
  | 9,_=>⟨21,rfl,by decide,by decide,by omega⟩
  | 10,_=>⟨23,rfl,by decide,by decide,by omega⟩
  | 11,_=>⟨25,rfl,by decide,by decide,by omega⟩
def ix (cell step:Int) (k:Nat):Nat:=97+((cell+(k:Int)*step) % 26).toNat
theorem qh {cell step:Int} (hs:∀d:Nat,1≤d→d < 26→((d:Int)*step) % 26≠0) {j k:Nat} (h:j < k) (hk:k < 26):ix cell step j≠ix cell step k:=by
  intro e
  unfold ix at e
  have m0:=Int.emod_nonneg (cell+(k:Int)*step) (show (26:Int)≠0 by decide)
  have n0:=Int.emod_nonneg (cell+(j:Int)*step) (show (26:Int)≠0 by decide)
  have e2:(cell+(k:Int)*step) % 26=(cell+(j:Int)*step) % 26:=by omega
  have e3:=Int.emod_eq_emod_iff_emod_sub_eq_zero.mp e2
  apply hs (k - j) (by omega) (by omega)
  rw [←e3]
  congr 1
  rw [show ((k - j:Nat):Int)=(k:Int) - j by omega,Int.sub_mul]
  omega
theorem lT (cell step:Int) (h1:0≤step) (h2:step≤100):∀(n lo:Nat) (x:Sl),cC cH bG bZ (iJ lo n) [x, .sh (.str "abcdefghijklmnopqrstuvwxyz"), .sh (.int cell), .sh (.int step)]=some (((List.range' lo n).map (ix cell step)).map aI)
  | 0,lo,x=>rfl
  | n+1,lo,x=>by
    have e:=lT cell step h1 h2 n (lo+1) (.sh (.int lo))
    have s:=vi cell step lo (mP (by omega) (by omega))
    have t:cH (.int lo) [x, .sh (.str "abcdefghijklmnopqrstuvwxyz"), .sh (.int cell), .sh (.int step)]=some [.sh (.int lo), .sh (.str "abcdefghijklmnopqrstuvwxyz"), .sh (.int cell), .sh (.int step)]:=rfl
    rw [show ((lo+1:Nat):Int)=(lo:Int)+1 by omega] at e
    rw [i_,List.range'_succ,List.map_cons,List.map_cons]
    exact fV t s e
def az (a:Nat):Prop:=97≤a∧a < 123
theorem ju {a:Nat} (h:az a):a∈List.range' 97 26:=List.mem_range'_1.mpr ⟨h.1,h.2⟩
theorem tm (cell step:Int) (k:Nat):az (ix cell step k):=by
  unfold ix az
  have m0:=Int.emod_nonneg (cell+(k:Int)*step) (show (26:Int)≠0 by decide)
  have m1:=Int.emod_lt_of_pos (cell+(k:Int)*step) (show (0:Int) < 26 by decide)
  generalize (cell+(k:Int)*step) % 26=z at m0 m1
  omega
theorem aD {c:List PyData→Option Sl} {g:o8} {E E1:List Sl} {ss:List Sl} {ds:List PyData} {r:Sl} (h:g E=some (ss,E1)) (hl:cr E1 ss=some ds) (hc:c ds=some r):am c g E=some (r,E1):=by
  unfold am
  rw [h,Option.bind_some]
  show (cr E1 ss).bind _=_
  rw [hl,Option.bind_some,hc]
  rfl
theorem oK {x:Int} {f:aS} {E:List Sl} {y:Int} {g:aS} (hf:g E=some (.sh (.int x),E)) (h:f E=some (.sh (.int y),E)) (ok:e8 x y=true):af gU false g f E=some (.sh (.int (x*y)),E):=by
  simp only [af,gU,hf,h,Option.bind_some,look,Sl.val,ok,Bool.false_and,Bool.false_eq_true,if_false,if_true]
theorem cI {x:Int} {f:aS} {E:List Sl} {y:Int} {g:aS} (hf:g E=some (.sh (.int x),E)) (h:f E=some (.sh (.int y),E)):af bj false g f E=some (.sh (.int (x+y)),E):=by
  simp only [af,bj,hf,h,Option.bind_some,look,Sl.val,Bool.false_and,Bool.false_eq_true,if_false]
theorem c0 {f:aS} {E E1:List Sl} {d:PyData} {i:Nat} (h:f E=some (.sh d,E1)) (hi:i < E1.length):aK i f E=some (E1.set i (.sh d), .nx):=by
  unfold aK
  rw [h]
  simp only [Option.bind_some,PL.settle,hi,if_true]
theorem zf {x y:Int} {f g:aS} {E:List Sl} (hg:g E=some (.sh (.int x),E)) (hf:f E=some (.sh (.int y),E)):af jM false g f E=some (.sh (.bool (!decide (x=y))),E):=by
  simp only [af,jM,eY,hg,hf,Option.bind_some,look,Sl.val,Bool.false_and,Bool.false_eq_true,if_false,jN,Option.map_some]
theorem lV {a b:iG} {E E1:List Sl} {r:Option (Bool×List Sl)} (h:a E=some (false,E1)) (k:b E1=r):gd a b E=r:=by
  unfold gd
  rw [h,Option.bind_some]
  exact k
theorem gR (ns:List Int) (k:Nat):av [.list (ns.map .int), .int k]=some (.sh (.int (ns.getD k 0))):=by
  simp only [av,fq,List.length_cons,List.length_nil,Nat.zero_add,Nat.reduceAdd,i8,iS,aT,cy,cP,af,aa,cg,List.map_cons,List.map_nil,Nat.sub_self,List.replicate,List.cons_append,List.nil_append,List.getElem?_cons_succ,List.getElem?_cons_zero,Sl.isBr,Bool.false_and,Bool.false_eq_true,bI,ad,ak,Option.map_some,if_false,cS,eY,look,Sl.val,fR,Cm.i,Cm.s,Option.bind_some,cr,bi,nD,gT,iF,ba,pC,cU,cF,if_true]
  by_cases h:k < ns.length
  · simp [h,fw,cD]
  · simp [h,List.getElem?_eq_none (Nat.le_of_not_lt h),cD]
theorem re (w:List Nat) (a:Nat):(Builtin.Str.occurrences ⟨w.toArray⟩ ⟨#[a]⟩ 0 (⟨w.toArray⟩:Str).length 1).isEmpty= !decide (a∈w):=by
  have h:=PySem.StrLaws.found_one ⟨w.toArray⟩ a
  rw [List.toList_toArray] at h
  rw [←h,Bool.not_not]
def dW (a:Nat):Str:=⟨#[a]⟩
theorem vk {a b:Nat} (h:dW a=dW b):a=b:=by
  simp [dW] at h;exact h
theorem wR {a b:Nat} (h:a≤b):nE (dW a) (dW b)=true:=by
  have:[a]≤[b]:=by
    rcases Nat.lt_or_ge a b with k | k
    · exact List.le_of_lt (List.Lex.rel k)
    · rw [Nat.le_antisymm h k];exact List.le_refl _
  exact decide_eq_true this
theorem wS (ks:List Str) (x y:Str):y∈vF ks x↔y∈ks∨y=x:=by
  unfold vF
  split
  · rename_i h
    exact ⟨.inl,fun z=>z.elim id fun e=>e▸h⟩
  · simp
theorem tu {ks:List Str} (h:ks.Nodup) (x:Str):(vF ks x).Nodup:=by
  unfold vF
  split
  · exact h
  · rename_i k
    rw [List.nodup_append]
    refine ⟨h,by simp,fun a ha b hb=>?_⟩
    rw [List.mem_singleton.mp hb]
    exact fun e=>k (e▸ha)
theorem ni:∀(ss ks:List Str),ks.Nodup→(ss.foldl vF ks).Nodup∧∀y,y∈ss.foldl vF ks↔y∈ks∨y∈ss
  | [],ks,h=>⟨h,fun y=>by simp⟩
  | s::ss,ks,h=>by
    obtain ⟨a,b⟩:=ni ss (vF ks s) (tu h s)
    refine ⟨a,fun y=>?_⟩
    rw [List.foldl_cons,b y,wS,List.mem_cons,or_assoc]
theorem tw (ss:List Str):(gV ss).Nodup:=(ni ss [] List.nodup_nil).1
theorem wT (ss:List Str) (y:Str):y∈gV ss↔y∈ss:=by
  rw [gV,(ni ss [] List.nodup_nil).2 y];simp
def cf (w:List Nat):List Nat:=(List.range' 97 26).filter fun a=>decide (a∈w)
theorem inOrd_mem {w:List Nat} {a:Nat}:a∈cf w↔a∈List.range' 97 26∧a∈w:=by simp [cf]
theorem fW {α:Type} [DecidableEq α]:∀{l m:List α},l.Nodup→m.Nodup→(∀a,a∈l↔a∈m)→l.Perm m
  | [],m,_,_,h=>by
    have:m=[]:=by
      cases m with
      | nil=>rfl
      | cons b m=>exact absurd ((h b).mpr (by simp)) (by simp)
    rw [this]
  | a::l,m,hl,hm,h=>by
    have ha:a∈m:=(h a).mp (by simp)
    have hl':=List.nodup_cons.mp hl
    have p:=List.perm_cons_erase ha
    refine ((fW hl'.2 (hm.erase a) fun b=>?_).cons a).trans p.symm
    rw [List.Nodup.mem_erase_iff hm,←h b,List.mem_cons]
    exact ⟨fun k=>⟨fun e=>hl'.1 (e▸k), .inr k⟩,fun k=>k.2.resolve_left k.1⟩
theorem iy {w:List Nat} (h:w.Nodup):(w.map dW).Nodup:=by
  rw [List.Nodup,List.pairwise_map]
  exact h.imp fun k e=>k (vk e)
theorem gz (w:List Nat):(cf w).Nodup:=List.Nodup.sublist List.filter_sublist (List.nodup_range' ..)
theorem iW (w:List Nat):((cf w).map dW).Pairwise fun a b=>nE a b=true:=by
  rw [List.pairwise_map]
  have h:(List.range' 97 26).Pairwise (· < ·):=List.pairwise_lt_range'
  exact (h.sublist List.filter_sublist).imp fun k=>wR (Nat.le_of_lt k)
theorem oM {w:List Nat} (hw:∀a∈w,a∈List.range' 97 26):gb (gV (w.map dW))=(cf w).map dW:=by
  refine (List.Perm.eq_of_pairwise (fun _ _ _ _ h k=>j8 h k) (iW w) (List.pairwise_mergeSort gL jc _) ?_).symm
  refine List.Perm.trans ?_ (List.mergeSort_perm _ nE).symm
  refine fW (iy (gz w)) (tw _) fun y=>?_
  rw [wT,List.mem_map,List.mem_map]
  constructor
  · rintro ⟨a,ha,rfl⟩
    exact ⟨a,(inOrd_mem.mp ha).2,rfl⟩
  · rintro ⟨a,ha,rfl⟩
    exact ⟨a,inOrd_mem.mpr ⟨hw a ha,ha⟩,rfl⟩
theorem wU {w:List Nat} (hw:∀a∈w,a∈List.range' 97 26):(gV (w.map dW)).length≤26:=by
  rw [←jd,oM hw,List.length_map]
  refine Nat.le_trans (List.length_filter_le _ _) (by simp)
theorem wV {a:Nat} (h:az a):decide ([a] < (Str.ofString "a").cps.toList)=false:=by
  have e:(Str.ofString "a").cps.toList=[97]:=by decide+kernel
  rw [e]
  refine decide_eq_false fun k=>?_
  have:a < 97:=by
    cases k with
    | rel k=>exact k
    | cons k=>cases k
  exact absurd this (Nat.not_lt.mpr h.1)
theorem wW {a:Nat} (h:az a):decide ((Str.ofString "z").cps.toList < [a])=false:=by
  have e:(Str.ofString "z").cps.toList=[122]:=by decide+kernel
  rw [e]
  refine decide_eq_false fun k=>?_
  have:122 < a:=by
    cases k with
    | rel k=>exact k
    | cons k=>cases k
  exact absurd this (Nat.not_lt.mpr (Nat.le_of_lt_succ h.2))
theorem qi {a:Nat} (h:az a):dR [.str ⟨#[a]⟩]=some (.sh (.bool true)):=by
  have l:(⟨#[a]⟩:Str).length=1:=rfl
  have t:(#[a]:Array Nat).toList=[a]:=rfl
  have lo:=wV h
  have hi:=wW h
  simp only [dR,fq,List.length_cons,List.length_nil,Nat.zero_add,i8,gO,bi,lj,h8,aa,cg,List.map_cons,List.map_nil,Nat.sub_self,List.replicate,List.cons_append,List.nil_append,List.getElem?_cons_zero,look,Sl.val,fi,Ty.is,uu,Option.map_some,Option.bind_some,af,bI,ad,Sl.isBr,Bool.false_and,Bool.false_eq_true,ak,if_false,cS,pC,i6,eY,eD,Bool.or_false,fR,Cm.i,Cm.s,cr,l,Nat.reduceLeDiff,Int.cast_ofNat_Int,if_true,jN,decide_true,hi,Bool.not_false,lo,cU,cF,cD]
theorem lX (x0:Sl):∀(w:List Nat) (a:Sl),(∀y∈w,az y)→∃a',cR d0 d7 (w.map aI) [x0,a]=some ([x0,a'], .nx)
  | [],a,_=>⟨a,rfl⟩
  | y::w,a,h=>by
    have n:=qi (h y (List.mem_cons_self ..))
    have e:(d0 (aI y) [x0,a]).bind d7=some ([x0, .sh (aI y)], .nx):=by
      simp only [d0,bX,List.length_cons,List.length_nil,Nat.zero_add,Nat.reduceAdd,Nat.reduceLT,aI,List.set_cons_succ,List.set_cons_zero,if_true,d7,Option.bind_some,cy,bq,dN,am,ad,aa,List.getElem?_cons_succ,List.getElem?_cons_zero,Sl.isBr,Bool.false_and,Bool.false_eq_true,ak,Option.map_some,if_false,cr,look,Sl.val,n,iI,Bool.not_true,ba]
    obtain ⟨a',ih⟩:=lX x0 w (.sh (aI y)) fun z hz=>h z (List.mem_cons_of_mem _ hz)
    refine ⟨a',?_⟩
    rw [List.map_cons,cR,e]
    exact ih
theorem rf (w:List Nat):gm ⟨w.toArray⟩=w.map aI:=by simp [gm,aI]
theorem AH (w:List Nat):iM ⟨w.toArray⟩=w.map dW:=by simp [iM,dW]
theorem oN:∀(w:List Nat),gZ (w.map aI)=some (w.map dW)
  | []=>rfl
  | a::w=>by simp only [List.map_cons,aI,gZ];rw [oN w];rfl
theorem qj (w:List Nat):eG ((w.map dW).map PyData.str)=some (w.map dW):=by
  induction w with
  | nil=>rfl
  | cons a w ih=>simp only [List.map_cons,eG,ih,Option.map_some]
theorem gA:∀(w:List Nat),eG (w.map aI)=some (w.map dW)
  | []=>rfl
  | a::w=>by simp only [List.map_cons,aI,eG];rw [gA w];rfl
theorem nj (w:List Nat):((w.map dW).map (·.length)).sum+(w.map dW).length*(Str.ofString "").length=w.length:=by
  have:(Str.ofString "").length=0:=rfl
  rw [this,Nat.mul_zero,Nat.add_zero]
  induction w with
  | nil=>rfl
  | cons a w ih=>simp only [List.map_cons,List.sum_cons,ih,List.length_cons];show 1+_=_;omega
theorem ku:∀(w:List Nat),Txt.join "" (w.map dW)=⟨w.toArray⟩:=by
  intro w
  show Builtin.Str.glued "" _=_
  rw [StrLaws.glued_eq_join]
  induction w with
  | nil=>rfl
  | cons a w ih=>
    cases w with
    | nil=>rfl
    | cons b w=>
      have e:Str.join "" ((a::b::w).map dW)=(⟨#[a]⟩:Str)++""++Str.join "" ((b::w).map dW):=rfl
      rw [e,ih]
      show (⟨(#[a]++(Str.ofString "").cps)++(b::w).toArray⟩:Str)=_
      rw [show (Str.ofString "").cps=#[] by decide+kernel]
      simp
theorem tz (w:List Nat):(cf w).length≤1000000:=Nat.le_trans (List.length_filter_le _ _) (by simp)
theorem lY {w:List Nat} (h:∀y∈w,az y) (hl:w.length≤3900):cK [.str ⟨w.toArray⟩]=some (.sh (.str ⟨(cf w).toArray⟩)):=by
  obtain ⟨a,e⟩:=lX (.sh (.str ⟨w.toArray⟩)) w .no h
  have d:=oM fun y hy=>ju (h y hy)
  have d2:(w.map dW).length < 4000∧(gV (w.map dW)).length < 64:=⟨by rw [List.length_map];omega,Nat.lt_of_le_of_lt (wU fun y hy=>ju (h y hy)) (by decide)⟩
  have l:=nj (cf w)
  have l2:=tz w
  simp only [cK,fq,List.length_cons,List.length_nil,Nat.zero_add,i8,iR,aT,cy,bq,dN,h8,aa,cg,List.map_cons,List.map_nil,Nat.reduceSub,List.replicate,List.cons_append,List.nil_append,List.getElem?_cons_zero,look,Sl.val,fi,Ty.is,uu,Option.map_some,Option.bind_some,iI,Bool.not_true,ba,Bool.false_eq_true,if_false,fu,cV,frz,bi,dI,kb,lE,rf,e,AH,d2,and_self,d,if_true,qj,l,l2,ku,cU,cF,cD]
theorem tB:(Str.ofString "abcdefghijklmnopqrstuvwxyz")=(⟨(List.range' 97 26).toArray⟩:Str):=by decide+kernel
theorem zg (w:List Nat) (a:Nat):xA (.str ⟨#[a]⟩) (.str ⟨w.toArray⟩)=some (decide (a∈w)):=by
  show some (!(Builtin.Str.occurrences ⟨w.toArray⟩ ⟨#[a]⟩ 0 (⟨w.toArray⟩:Str).length 1).isEmpty)=_
  rw [re,Bool.not_not]
theorem AI {E:List Sl} {f g:aS} {d1 d2:PyData} {b:Bool} (hf:f E=some (.sh d1,E)) (hg:g E=some (.sh d2,E)) (hd:xA d1 d2=some b):cP (af (o9 false) false f g) E=some (b,E):=by
  simp only [cP,af,o9,eY,hf,hg,hd,Option.bind_some,look,Sl.val,Option.map_some,Bool.false_and,Bool.false_eq_true,if_false]
theorem wX (w:List Nat) (n:Nat) (c:Nat) (hc:c=97+n) (p:Int) (hp:p=2 ^ n) (a:Sl):(dr (.str ⟨#[c]⟩) [.sh (.str ⟨w.toArray⟩), .sh (.int (NH.ck w n)), .sh (.int p),a]).bind du=some ([.sh (.str ⟨w.toArray⟩), .sh (.int (NH.ck w (n+1))), .sh (.int (p*2)), .sh (.str ⟨#[c]⟩)], .nx):=by
  have i1:=zg w c
  have ok:e8 p 2=true:=mP (by decide) (by decide)
  have b:(NH.ck w (n+1):Int)=if c∈w then (NH.ck w n:Int)+p else (NH.ck w n:Int):=by
    rw [NH.ck,hc,hp]
    split
    · push_cast;rfl
    · simp
  generalize (NH.ck w (n+1):Int)=B1 at b ⊢
  generalize (NH.ck w n:Int)=B0 at b ⊢
  have tg:dr (.str ⟨#[c]⟩) [.sh (.str ⟨w.toArray⟩), .sh (.int B0), .sh (.int p),a]=some [.sh (.str ⟨w.toArray⟩), .sh (.int B0), .sh (.int p), .sh (.str ⟨#[c]⟩)]:=rfl
  have t1:cP (af (o9 false) false (aa 3) (aa 0)) [.sh (.str ⟨w.toArray⟩), .sh (.int B0), .sh (.int p), .sh (.str ⟨#[c]⟩)]=some (decide (c∈w),[.sh (.str ⟨w.toArray⟩), .sh (.int B0), .sh (.int p), .sh (.str ⟨#[c]⟩)]):=AI rfl rfl i1
  have s2:∀x:Int,aK 2 (af gU false (aa 2) (pC (.int 2))) [.sh (.str ⟨w.toArray⟩), .sh (.int x), .sh (.int p), .sh (.str ⟨#[c]⟩)]=some ([.sh (.str ⟨w.toArray⟩), .sh (.int x), .sh (.int (p*2)), .sh (.str ⟨#[c]⟩)], .nx):=fun x=>c0 (oK (g:=aa 2) (f:=pC (.int 2)) rfl rfl ok) (show 2 < 4 by decide)
  rw [tg,Option.bind_some,du]
  by_cases h:c∈w
  · rw [if_pos h] at b
    rw [decide_eq_true h] at t1
    have s1:aK 1 (af bj false (aa 1) (aa 2)) [.sh (.str ⟨w.toArray⟩), .sh (.int B0), .sh (.int p), .sh (.str ⟨#[c]⟩)]=some ([.sh (.str ⟨w.toArray⟩), .sh (.int B1), .sh (.int p), .sh (.str ⟨#[c]⟩)], .nx):=by
      rw [b]
      exact c0 (cI (g:=aa 1) (f:=aa 2) rfl rfl) (show 1 < 4 by decide)
    rw [aC (iw t1 s1)]
    exact s2 B1
  · rw [if_neg h] at b
    rw [decide_eq_false h] at t1
    rw [aC (fL (b:=ba) t1 rfl),b]
    exact s2 B0
theorem rh (w:List Nat):∀(k n:Nat) (a:Sl),n+k=26→∃a' b',cR dr du ((List.range' (97+n) k).map fun c=> .str ⟨#[c]⟩) [.sh (.str ⟨w.toArray⟩), .sh (.int (NH.ck w n)), .sh (.int (2 ^ n)),a]=some ([.sh (.str ⟨w.toArray⟩), .sh (.int (NH.bH w)),b',a'], .nx)
  | 0,n,a,h=>⟨a, .sh (.int (2 ^ n)),by rw [show n=26 by omega];rfl⟩
  | k+1,n,a,h=>by
    have s:=wX w n (97+n) rfl (2 ^ n) rfl a
    rw [(Int.pow_succ 2 n).symm] at s
    obtain ⟨a',b',e⟩:=rh w k (n+1) (.sh (.str ⟨#[97+n]⟩)) (by omega)
    refine ⟨a',b',?_⟩
    rw [List.range'_succ,List.map_cons,cR,s]
    exact e
theorem iz (w:List Nat):bh [.str ⟨w.toArray⟩]=some (.sh (.int (NH.bH w))):=by
  obtain ⟨a,b,e⟩:=rh w 26 0 .no rfl
  have z0:((NH.ck w 0:Nat):Int)=0:=rfl
  have z1:(2:Int) ^ 0=1:=rfl
  rw [z0,z1,Nat.add_zero] at e
  have sg:gm (⟨(List.range' 97 26).toArray⟩:Str)=(List.range' 97 26).map fun c=> .str ⟨#[c]⟩:=by simp [gm]
  simp only [bh,fq,List.length_cons,List.length_nil,Nat.zero_add,i8,gP,aT,aK,pC,cg,List.map_cons,List.map_nil,Nat.reduceSub,List.replicate,List.cons_append,List.nil_append,PL.settle,frz,frzAll,Option.bind_some,Nat.reduceAdd,Nat.reduceLT,List.set_cons_succ,List.set_cons_zero,if_true,fu,cV,tB,sg,bi,aa,e,List.getElem?_cons_succ,List.getElem?_cons_zero,cU,cF,cD]
theorem qk (a b:Nat):Builtin.bitAnd (a:Int) (b:Int)=((a &&& b:Nat):Int):=by
  simp [Builtin.bitAnd]
theorem ql {E:List Sl} {f g:aS} {x y:Nat} (hf:f E=some (.sh (.int x),E)) (hg:g E=some (.sh (.int y),E)):af pL false f g E=some (.sh (.int ((x &&& y:Nat):Int)),E):=by
  simp only [af,pL,eY,mC,hf,hg,Option.bind_some,look,Sl.val,Option.map_some,Bool.false_and,Bool.false_eq_true,if_false,if_true,qk]
theorem oO {E:List Sl} {f g:aS} {x y:Int} (hf:f E=some (.sh (.int x),E)) (hg:g E=some (.sh (.int y),E)):cP (af i6 false f g) E=some (decide (x=y),E):=by
  simp only [cP,af,i6,eY,hf,hg,Option.bind_some,look,Sl.val,Option.map_some,Bool.false_and,Bool.false_eq_true,if_false,jN]
def ah (n:Nat):PyData:= .int n
theorem rj (x1:Sl) (b:Nat):∀(ps:List Nat) (a:Sl),∃E,cR aX aP (ps.map ah) [.sh (.int b),x1,a]=some (E,if ps.any (fun p=>decide (p &&& b=p)) then .rt (.sh (.bool true)) else .nx)
  | [],a=>⟨_,rfl⟩
  | p::ps,a=>by
    have t1:cP (af i6 false (af pL false (aa 2) (aa 0)) (aa 2)) [.sh (.int b),x1, .sh (.int p)]=some (decide (((p &&& b:Nat):Int)=(p:Int)),[.sh (.int b),x1, .sh (.int p)]):=oO (ql (f:=aa 2) (g:=aa 0) (x:=p) (y:=b) rfl rfl) rfl
    have tg:aX (ah p) [.sh (.int b),x1,a]=some [.sh (.int b),x1, .sh (.int p)]:=rfl
    by_cases h:p &&& b=p
    · rw [decide_eq_true (by rw [h])] at t1
      refine ⟨[.sh (.int b),x1, .sh (.int p)],?_⟩
      have st:(aX (ah p) [.sh (.int b),x1,a]).bind aP=some ([.sh (.int b),x1, .sh (.int p)], .rt (.sh (.bool true))):=by
        rw [tg,Option.bind_some,aP]
        exact iw t1 rfl
      rw [List.map_cons,cR,st,List.any_cons,decide_eq_true h]
      rfl
    · rw [decide_eq_false (by omega)] at t1
      obtain ⟨E,ih⟩:=rj x1 b ps (.sh (.int p))
      refine ⟨E,?_⟩
      have st:(aX (ah p) [.sh (.int b),x1,a]).bind aP=some ([.sh (.int b),x1, .sh (.int p)], .nx):=by
        rw [tg,Option.bind_some,aP]
        exact fL t1 rfl
      rw [List.map_cons,cR,st,List.any_cons,decide_eq_false h,Bool.false_or]
      exact ih
theorem rk (b:Nat) (ps:List Nat):au [.int b, .list (ps.map ah)]=some (.sh (.bool (ps.any fun p=>decide (p &&& b=p)))):=by
  obtain ⟨E,e⟩:=rj (.sh (.list (ps.map ah))) b ps .no
  cases h:ps.any (fun p=>decide (p &&& b=p)) with
  | true=>
    rw [h] at e
    simp only [if_true] at e
    simp only [au,fq,List.length_cons,List.length_nil,Nat.zero_add,Nat.reduceAdd,i8,bY,aT,fu,cV,aa,cg,List.map_cons,List.map_nil,Nat.reduceSub,List.replicate,List.cons_append,List.nil_append,List.getElem?_cons_succ,List.getElem?_cons_zero,frz,Option.bind_some,e,bi,pC,cU,cF,cD,if_true]
  | false=>
    rw [h] at e
    simp only [Bool.false_eq_true,if_false] at e
    simp only [au,fq,List.length_cons,List.length_nil,Nat.zero_add,Nat.reduceAdd,i8,bY,aT,fu,cV,aa,cg,List.map_cons,List.map_nil,Nat.reduceSub,List.replicate,List.cons_append,List.nil_append,List.getElem?_cons_succ,List.getElem?_cons_zero,frz,Option.bind_some,e,bi,pC,cU,cF,cD,if_true]
def ae (w:List Nat):PyData:= .str ⟨w.toArray⟩
theorem dC (l:List (List Nat)):be (l.map ae)=true:=by
  induction l with
  | nil=>rfl
  | cons a l ih=>show (cD (ae a)&&be (l.map ae))=true;rw [ih];rfl
theorem zh (u v:List Nat):(⟨u.toArray⟩:Str)++(⟨v.toArray⟩:Str)=⟨(u++v).toArray⟩:=by
  show (⟨u.toArray++v.toArray⟩:Str)=_
  simp
theorem gB (w:List Nat):(⟨w.toArray⟩:Str).length=w.length:=by show w.toArray.size=_;simp
open NhFam in
theorem rn (w:List Nat):NhSG.fE ⟨w.toArray⟩=key w:=by
  show (((⟨w.toArray⟩:Str).length:Int),w.toArray.toList)=((w.length:Int),w)
  rw [gB]
theorem kw:∀F:List (List Nat),gZ (F.map ae)=some (F.map fun w=>(⟨w.toArray⟩:Str))
  | []=>rfl
  | w::F=>by
    show (gZ (F.map ae)).map ((⟨w.toArray⟩:Str):: ·)=_
    rw [kw F]
    rfl
theorem oP (F:List (List Nat)):NhSG.gq (F.map fun w=>(⟨w.toArray⟩:Str))=(NhFam.dJ F).map fun w=>(⟨w.toArray⟩:Str):=by
  refine (NhSG.lQ ((List.mergeSort_perm F _).map _) ?_).symm
  rw [List.pairwise_map]
  exact (NhFam.jm F).imp fun {a b} h=>by
    unfold NhSG.nH
    rw [rn,rn]
    have:NhSG.eL (NhFam.key b) (NhFam.key a)=false:=by simpa [NhFam.gW] using h
    rw [this];rfl
theorem rq (F:List (List Nat)):(F.map fun w=>(⟨w.toArray⟩:Str)).map PyData.str=F.map ae:=by rw [List.map_map];rfl
def Fit (F:List (List Nat)):Prop:=F.length < 1100∧∀w∈F,NH.pY w∧w.length≤1000
theorem Fit.chk {F:List (List Nat)} (h:Fit F):(decide ((F.map fun w=>(⟨w.toArray⟩:Str)).length < 65536)&&(F.map fun w=>(⟨w.toArray⟩:Str)).all fun z=>decide (z.length≤1000))=true:=by
  simp only [Bool.and_eq_true,decide_eq_true_eq,List.all_eq_true,List.length_map]
  refine ⟨Nat.lt_trans h.1 (by decide),fun z hz=>?_⟩
  obtain ⟨w,hw,rfl⟩:=List.mem_map.mp hz
  rw [gB]
  exact (h.2 w hw).2
theorem kW {F:List (List Nat)} (h:Fit F):aM [.list (F.map ae)]=some (.ow ((NhFam.dJ F).map ae)):=by
  have a:gr (aa 0) [.sh (.list (F.map ae))]=some (.ow ((NhFam.dJ F).map ae),[.sh (.list (F.map ae))]):=by
    unfold gr
    simp only [aa,List.getElem?_cons_zero,Option.bind_some,look,Sl.val,kw,h.chk,if_true,oP,rq]
  have fl:=dC (NhFam.dJ F)
  simp only [aM,cY,fq,i8,cg,bi,a,Option.bind_some,Option.map_some,cU,cF,fl,if_true,List.length_cons,List.length_nil,Nat.sub_self,List.replicate,List.map_cons,List.map_nil,List.append_nil,Nat.zero_add,Nat.reduceAdd]
def eI (w:List Nat):PyData:=ah (NH.bH w)
theorem tD (l:List (List Nat)):be (l.map eI)=true:=by
  induction l with
  | nil=>rfl
  | cons a l ih=>show (cD (eI a)&&be (l.map eI))=true;rw [ih];rfl
theorem oQ (K:List (List Nat)):K.map eI=(K.map NH.bH).map ah:=by rw [List.map_map];rfl
theorem oR {K:List (List Nat)} (h:∀k∈K,NH.pY k) (w:List Nat):(K.map NH.bH).any (fun p=>decide (p &&& NH.bH w=p))=K.any (fun k=>decide (NhFam.le k w)):=by
  induction K with
  | nil=>rfl
  | cons k K ih=>
    rw [List.map_cons,List.any_cons,List.any_cons,ih fun k hk=>h k (List.mem_cons_of_mem _ hk)]
    congr 1
    exact decide_eq_decide.mpr (NH.sO (h k (List.mem_cons_self ..)))
theorem kz (x0:Sl):∀(S K:List (List Nat)) (a b:Sl),(∀w∈S,NH.pY w)→(∀w∈K,NH.pY w)→K.length+S.length≤2000→∃y a' b',cR bU bu (S.map ae) [x0, .ow (K.map ae), .ow (K.map eI),a,b]=some ([x0, .ow ((NhFam.gu K S).map ae),y,a',b'], .nx)
  | [],K,a,b,_,_,_=>⟨_,a,b,rfl⟩
  | w::S,K,a,b,hS,hK,hl=>by
    have tg:bU (ae w) [x0, .ow (K.map ae), .ow (K.map eI),a,b]=some [x0, .ow (K.map ae), .ow (K.map eI), .sh (ae w),b]:=rfl
    have c1:am bh (ad false (aa 3) ak) [x0, .ow (K.map ae), .ow (K.map eI), .sh (ae w),b]=some (.sh (.int (NH.bH w)),[x0, .ow (K.map ae), .ow (K.map eI), .sh (ae w),b]):=aD (ss:=[.sh (ae w)]) rfl rfl (iz w)
    have s1:aK 4 (am bh (ad false (aa 3) ak)) [x0, .ow (K.map ae), .ow (K.map eI), .sh (ae w),b]=some ([x0, .ow (K.map ae), .ow (K.map eI), .sh (ae w), .sh (.int (NH.bH w))], .nx):=c0 c1 (show 4 < 5 by decide)
    have pp:=rk (NH.bH w) (K.map NH.bH)
    rw [←oQ,oR hK w] at pp
    have c2:dN (am au (ad false (aa 4) (ad false (aa 2) ak))) [x0, .ow (K.map ae), .ow (K.map eI), .sh (ae w), .sh (.int (NH.bH w))]=some (K.any (fun k=>decide (NhFam.le k w)),[x0, .ow (K.map ae), .ow (K.map eI), .sh (ae w), .sh (.int (NH.bH w))]):=by
      have c3:am au (ad false (aa 4) (ad false (aa 2) ak)) [x0, .ow (K.map ae), .ow (K.map eI), .sh (ae w), .sh (.int (NH.bH w))]=some (.sh (.bool (K.any (fun k=>decide (NhFam.le k w)))),[x0, .ow (K.map ae), .ow (K.map eI), .sh (ae w), .sh (.int (NH.bH w))]):=aD (ss:=[.sh (.int (NH.bH w)), .al 2]) rfl rfl pp
      simp only [dN,c3,Option.bind_some,look,Sl.val,iI,Option.map_some]
    by_cases h:K.any (fun k=>decide (NhFam.le k w))=true
    · rw [h] at c2
      have st:(bU (ae w) [x0, .ow (K.map ae), .ow (K.map eI),a,b]).bind bu=some ([x0, .ow (K.map ae), .ow (K.map eI), .sh (ae w), .sh (.int (NH.bH w))], .nx):=by
        rw [tg,Option.bind_some,bu,aC s1]
        refine fL ?_ rfl
        simp only [bq,c2,Option.map_some,Bool.not_true]
      obtain ⟨y,a',b',e⟩:=kz x0 S K (.sh (ae w)) (.sh (.int (NH.bH w))) (fun v hv=>hS v (List.mem_cons_of_mem _ hv)) hK (by simp at hl;omega)
      refine ⟨y,a',b',?_⟩
      rw [List.map_cons,cR,st,NhFam.gu,if_pos h]
      exact e
    · have h':K.any (fun k=>decide (NhFam.le k w))=false:=by simpa using h
      rw [h'] at c2
      have b1:K.length < 1000000:=by simp at hl;omega
      have st:(bU (ae w) [x0, .ow (K.map ae), .ow (K.map eI),a,b]).bind bu=some ([x0, .ow ((K++[w]).map ae), .ow ((K++[w]).map eI), .sh (ae w), .sh (.int (NH.bH w))], .nx):=by
        rw [tg,Option.bind_some,bu,aC s1]
        have n2:bq (dN (am au (ad false (aa 4) (ad false (aa 2) ak)))) [x0, .ow (K.map ae), .ow (K.map eI), .sh (ae w), .sh (.int (NH.bH w))]=some (true,[x0, .ow (K.map ae), .ow (K.map eI), .sh (ae w), .sh (.int (NH.bH w))]):=by
          simp only [bq,c2,Option.map_some,Bool.not_false]
        refine iw n2 ?_
        have a1:dG (bn 2 (aa 4)) [x0, .ow (K.map ae), .ow (K.map eI), .sh (ae w), .sh (.int (NH.bH w))]=some ([x0, .ow (K.map ae), .ow ((K++[w]).map eI), .sh (ae w), .sh (.int (NH.bH w))], .nx):=by
          simp only [dG,bn,List.getElem?_cons_succ,List.getElem?_cons_zero,aa,frz,Option.bind_some,List.length_map,b1,List.set_cons_succ,List.set_cons_zero,if_true,Option.map_some,List.map_append,List.map_cons,List.map_nil]
          rfl
        rw [aC a1]
        simp only [dG,bn,List.map_append,List.map_cons,List.map_nil,List.getElem?_cons_succ,List.getElem?_cons_zero,aa,frz,Option.bind_some,List.length_map,b1,List.set_cons_succ,List.set_cons_zero,if_true,Option.map_some]
      obtain ⟨y,a',b',e⟩:=kz x0 S (K++[w]) (.sh (ae w)) (.sh (.int (NH.bH w))) (fun v hv=>hS v (List.mem_cons_of_mem _ hv)) (fun v hv=>by
        rcases List.mem_append.mp hv with q | q
        · exact hK v q
        · rw [List.mem_singleton.mp q];exact hS w (List.mem_cons_self ..)) (by simp at hl ⊢;omega)
      refine ⟨y,a',b',?_⟩
      rw [List.map_cons,cR,st,NhFam.gu,if_neg h]
      exact e
theorem oT {F:List (List Nat)} (h:Fit F):cG [.list (F.map ae)]=some (.ow ((NhFam.cW F).map ae)):=by
  obtain ⟨y,a,b,e⟩:=kz (.sh (.list (F.map ae))) (NhFam.dJ F) [] .no .no (fun w hw=>(h.2 w (NhFam.sortT_mem.mp hw)).1) (fun w hw=>by cases hw) (by
    have:(NhFam.dJ F).length=F.length:=(List.mergeSort_perm F _).length_eq
    have:=h.1
    simp;omega)
  have it:cV (am aM (ad false (aa 0) ak)) [.sh (.list (F.map ae)), .ow [], .ow [], .no, .no]=some ((NhFam.dJ F).map ae,[.sh (.list (F.map ae)), .ow [], .ow [], .no, .no]):=by
    have c:am aM (ad false (aa 0) ak) [.sh (.list (F.map ae)), .ow [], .ow [], .no, .no]=some (.ow ((NhFam.dJ F).map ae),[.sh (.list (F.map ae)), .ow [], .ow [], .no, .no]):=aD (ss:=[.sh (.list (F.map ae))]) rfl rfl (kW h)
    unfold cV
    rw [c]
    rfl
  have fo:fu (cV (am aM (ad false (aa 0) ak))) bU bu [.sh (.list (F.map ae)), .ow [], .ow [], .no, .no]=some ([.sh (.list (F.map ae)), .ow ((NhFam.cW F).map ae),y,a,b], .nx):=by
    unfold fu
    rw [it,Option.bind_some]
    exact e
  have g:cG [.list (F.map ae)]=(eV [.sh (.list (F.map ae)), .no, .no, .no, .no]).bind fun a=>match a.2 with | .rt r=>cU r | .nx=>some (.sh .none) | _=>none:=rfl
  have s1:aK 1 (eQ fg) [.sh (.list (F.map ae)), .no, .no, .no, .no]=some ([.sh (.list (F.map ae)), .ow [], .no, .no, .no], .nx):=by simp only [aK,eQ,fg,Option.bind_some,List.length_nil,Nat.reduceLeDiff,if_true,PL.settle,frz,frzAll,List.length_cons,Nat.zero_add,Nat.reduceAdd,Nat.reduceLT,List.set_cons_succ,List.set_cons_zero]
  have s2:aK 2 (eQ fg) [.sh (.list (F.map ae)), .ow [], .no, .no, .no]=some ([.sh (.list (F.map ae)), .ow [], .ow [], .no, .no], .nx):=by simp only [aK,eQ,fg,Option.bind_some,List.length_nil,Nat.reduceLeDiff,if_true,PL.settle,frz,frzAll,List.length_cons,Nat.zero_add,Nat.reduceAdd,Nat.reduceLT,List.set_cons_succ,List.set_cons_zero]
  have fl:=dC (NhFam.cW F)
  rw [g,eV,aC s1,aC s2,aC fo]
  simp only [bi,aa,List.getElem?_cons_succ,List.getElem?_cons_zero,Option.bind_some,List.set_cons_succ,List.set_cons_zero,Option.map_some,cU,cF,fl,if_true]
def iA (w:List Nat):Str:=⟨w.toArray⟩
theorem jv (w:List Nat):NhFam.Srt (cf w):=List.Pairwise.sublist List.filter_sublist (List.pairwise_lt_range' ..)
theorem oU {w:List Nat} (h:NhFam.Srt w) (a:∀y∈w,az y):cf w=w:=
  (jv w).ext h (fun x hx=>(inOrd_mem.mp hx).2) fun x hx=>inOrd_mem.mpr ⟨ju (a x hx),hx⟩
theorem jw:∀F:List (List Nat),eG (F.map ae)=some (F.map iA)
  | []=>rfl
  | w::F=>by
    show (eG (F.map ae)).map (iA w:: ·)=_
    rw [jw F]
    rfl
theorem fc {js:List (Option Nat)} {it:jx} {tg:gf} {c:iG} {el:aS} {E E1:List Sl} {ds rs:List PyData} (hi:it E=some (ds,E1)) (hl:cC tg c el ds (i9 js E1)=some rs) (fl:be rs=true) (ll:rs.length≤1000000):bt js it tg c el E=some (.ow rs,E1):=by
  simp only [bt,hi,Option.bind_some,hl,fl,ll,if_true,and_self,Option.map_some,decide_true,Bool.and_self,Bool.true_and,Bool.and_true]
theorem kA (l:List Nat):be (l.map ah)=true:=by
  induction l with
  | nil=>rfl
  | cons a l ih=>show (cD (ah a)&&be (l.map ah))=true;rw [ih];rfl
theorem xG {tg:gf} {cond:iG} {elt:aS} {d r:PyData} {ds rs:List PyData} {E E1:List Sl} {b:Bool} (t:tg d E=some E1) (c:cond E1=some (b,E1)) (el:elt E1=some (.sh r,E1)) (h:cC tg cond elt ds E1=some rs):cC tg cond elt (d::ds) E=some (if b then r::rs else rs):=by
  cases b with
  | true=>simp only [cC,t,c,el,h,Option.bind_some,Option.map_some,if_true,frz]
  | false=>simp only [cC,t,c,h,Option.bind_some,Bool.false_eq_true,if_false]
theorem fX {f:aS} {E E1:List Sl} {ds:List PyData} {i:Nat} (h:f E=some (.ow ds,E1)) (hi:i < E1.length):aK i f E=some (E1.set i (.ow ds), .nx):=by
  simp only [aK,h,Option.bind_some,PL.settle,Sl.isAl,Bool.false_eq_true,if_false,hi,if_true,Option.map_some]
theorem wY {f g:aS} {E:List Sl} {s1 s2:Sl} (hf:f E=some (s1,E)) (hg:g E=some (s2,E)):ad false f (ad false g ak) E=some ([s1,s2],E):=by
  simp only [ad,ak,hf,hg,Option.bind_some,Option.map_some,Bool.false_and,Bool.false_eq_true,if_false]
theorem eJ {E:List Sl} {f g:aS} {x y:Int} (hf:f E=some (.sh (.int x),E)) (hg:g E=some (.sh (.int y),E)) (h:0 < y):af cJ false f g E=some (.sh (.int (x % y)),E):=by
  simp only [af,hf,hg,Option.bind_some,Bool.false_and,Bool.false_eq_true,if_false,cJ,eY,mC,look,Sl.val,h,decide_true,if_true,Option.map_some]
theorem fY {E:List Sl} {f g:aS} {x y:Int} (hf:f E=some (.sh (.int x),E)) (hg:g E=some (.sh (.int y),E)) (h:jV y=true):af c_ false f g E=some (.sh (.int (x / y)),E):=by
  simp only [af,hf,hg,Option.bind_some,Bool.false_and,Bool.false_eq_true,if_false,c_,eY,mC,look,Sl.val,h,if_true,Option.map_some]
theorem zi {E:List Sl} {f g:aS} {x y:Int} (hf:f E=some (.sh (.int x),E)) (hg:g E=some (.sh (.int y),E)):af pD false f g E=some (.sh (.int (x - y)),E):=by
  simp only [af,hf,hg,Option.bind_some,Bool.false_and,Bool.false_eq_true,if_false,pD,eY,mC,look,Sl.val,if_true,Option.map_some]
theorem AJ {f:aS} {E:List Sl} {s1:Sl} (hf:f E=some (s1,E)):ad false f ak E=some ([s1],E):=by
  simp only [ad,ak,hf,Option.bind_some,Option.map_some,Bool.false_and,Bool.false_eq_true,if_false]
structure Uni (U:List Nat):Prop where
  srt:NhFam.Srt U
  lt:∀a∈U,az a
  len:U.length≤26
theorem Uni.ltrs {U w:List Nat} (h:Uni U) (s:NhFam.Sub U w):NH.pY w:=fun a ha=>by
  have:=h.lt a (s.2 a ha)
  exact ⟨this.1,this.2⟩
theorem Uni.azw {U w:List Nat} (h:Uni U) (s:NhFam.Sub U w):∀a∈w,az a:=fun a ha=>h.lt a (s.2 a ha)
theorem Uni.short {U w:List Nat} (h:Uni U) (s:NhFam.Sub U w):w.length≤26:=Nat.le_trans (NhFam.dQ s.1 h.srt s.2).length_le h.len
theorem Uni.small {U V:List Nat} (u:Uni U) (hV:NhFam.Sub U V):Uni V:=⟨hV.1,u.azw hV,u.short hV⟩
structure Wrt (U:List Nat) (W:List (List Nat)):Prop where
  sub:∀t∈W,NhFam.le t U
  tl:∀t∈W,t.length≤100
  len:W.length≤190
def dD (W:List (List Nat)):List (List Nat):=W.map cf
theorem wZ {U t:List Nat} (u:Uni U) (h:NhFam.le t U):NhFam.Sub U (cf t):=⟨jv t,fun x hx=>h x (inOrd_mem.mp hx).2⟩
theorem Wrt.sets {U:List Nat} {W:List (List Nat)} (u:Uni U) (h:Wrt U W):∀v∈dD W,NhFam.Sub U v:=fun v hv=>by
  obtain ⟨t,ht,rfl⟩:=List.mem_map.mp hv
  exact wZ u (h.sub t ht)
theorem zj {U:List Nat} {F:List (List Nat)} (u:Uni U) (h:∀v∈F,NhFam.Sub U v) (hl:F.length < 1100):Fit F:=⟨hl,fun w hw=>⟨u.ltrs (h w hw),by have:=u.short (h w hw);omega⟩⟩
theorem g6 {U:List Nat} (u:Uni U):∀(W:List (List Nat)) (x:Sl),(∀t∈W,NhFam.le t U)→(∀t∈W,t.length≤100)→cC bJ bG bK (W.map ae) [x]=some ((dD W).map ae)
  | [],x,_,_=>rfl
  | v::W,x,h,hl=>by
    have t:bJ (ae v) [x]=some [.sh (ae v)]:=rfl
    have so:=lY (w:=v) (fun y hy=>u.lt y (h v (List.mem_cons_self ..) y hy)) (by have:=hl v (List.mem_cons_self ..);omega)
    have e:bK [.sh (ae v)]=some (.sh (ae (cf v)),[.sh (ae v)]):=aD (ss:=[.sh (ae v)]) rfl rfl so
    exact fV t e (g6 u W _ (fun v hv=>h v (List.mem_cons_of_mem _ hv)) fun v hv=>hl v (List.mem_cons_of_mem _ hv))
theorem g7 {U:List Nat} {W:List (List Nat)} (u:Uni U) (h:Wrt U W):aR [.list (W.map ae)]=some (.ow ((NhFam.cW (dD W)).map ae)):=by
  have ls:(dD W).length=W.length:=by unfold dD;rw [List.length_map]
  have hl:=h.len
  have c:bt [none] (cV (aa 0)) bJ bG bK [.sh (.list (W.map ae))]=some (.ow ((dD W).map ae),[.sh (.list (W.map ae))]):=fc rfl (g6 u W _ h.sub h.tl) (dC _) (by rw [List.length_map];omega)
  have b:am cG (ad false (bt [none] (cV (aa 0)) bJ bG bK) ak) [.sh (.list (W.map ae))]=some (.ow ((NhFam.cW (dD W)).map ae),[.sh (.list (W.map ae))]):=aD (ss:=[.ow ((dD W).map ae)]) (by simp only [ad,ak,c,Option.bind_some,Option.map_some,Bool.false_and,Bool.false_eq_true,if_false]) rfl (oT (zj u (h.sets u) (by omega)))
  have fl:=dC (NhFam.cW (dD W))
  simp only [aR,eM,fq,i8,cg,bi,b,Option.bind_some,Option.map_some,cU,cF,fl,if_true,List.length_cons,List.length_nil,Nat.sub_self,List.replicate,List.map_cons,List.map_nil,List.append_nil,Nat.zero_add,Nat.reduceAdd]
theorem zk {w:List Nat} (h:∀a∈w,az a):(ae w).canLay0=true:=by
  have:∀a∈w,a < 1114112:=fun a ha=>by have:=h a ha;unfold az at this;omega
  simp only [ae,PyData.canLay0,PyData.strOk]
  simpa using this
theorem vm:∀{L:List (List Nat)},(∀w∈L,∀a∈w,az a)→PyData.canLayAll0 (L.map ae)=true∧PyData.depthAll (L.map ae)=0
  | [],_=>by simp [PyData.canLayAll0,PyData.depthAll]
  | w::L,h=>by
    obtain ⟨x,y⟩:=vm (L:=L) fun v hv=>h v (List.mem_cons_of_mem _ hv)
    have h1:=zk (h w (List.mem_cons_self ..))
    have h2:(ae w).depth=0:=by simp [ae,PyData.depth]
    simp only [List.map_cons,PyData.canLayAll0,PyData.depthAll,h1,h2,x,y,Bool.and_self,true_and]
    rfl
theorem tE {L:List (List Nat)} (h:∀w∈L,∀a∈w,az a):SeqAt.shaped (.list (L.map ae))=true:=by
  obtain ⟨x,y⟩:=vm h
  unfold SeqAt.shaped
  simp only [PyData.canLay0,PyData.depth,x,y,Bool.true_and]
  decide
theorem vn:∀L:List (List Nat),PyData.eqvAll (L.map ae) (L.map ae)=true
  | []=>by simp [PyData.eqvAll]
  | w::L=>by
    simp only [List.map_cons,PyData.eqvAll,vn L,Bool.and_true]
    simp [ae,PyData.eqv]
theorem zl {L:List (List Nat)} (h:∀w∈L,∀a∈w,az a):rZ (.list (L.map ae)) (.list (L.map ae))=some true:=by
  have e:rZ (.list (L.map ae)) (.list (L.map ae))=(if SeqAt.shaped (.list (L.map ae))&&SeqAt.shaped (.list (L.map ae)) then some (PyData.eqv (.list (L.map ae)) (.list (L.map ae))) else none):=rfl
  rw [e,tE h]
  simp only [PyData.eqv,vn,Bool.and_self,if_true]
theorem zn (cell:Int) (many:Nat) (hm:many≤26):∃w:List Nat,bp [.int cell, .int many]=some (.ow (w.map aI))∧w.length=many∧(∀a∈w,az a)∧w.Nodup:=by
  have m0:=Int.emod_nonneg (cell / 26) (show (12:Int)≠0 by decide)
  have m1:=Int.emod_lt_of_pos (cell / 26) (show (0:Int) < 12 by decide)
  obtain ⟨i,hi⟩:∃i:Nat,cell / 26 % 12=i:=⟨(cell / 26 % 12).toNat,by omega⟩
  obtain ⟨v,ev,v0,v1,v2⟩:=vj i (by omega)
  have e:=lT cell v v0 v1 many 0 .no
  simp only [Int.natCast_zero] at e
  refine ⟨(List.range' 0 many).map (ix cell v),tj cell many v i many _ (by decide) hi (by rw [fw,ev]) (by omega) (by omega) (by simp) e (kr _) (by simp;omega),by simp,fun a ha=>?_,?_⟩
  · obtain ⟨k,_,rfl⟩:=List.mem_map.mp ha
    exact tm cell v k
  · rw [List.Nodup,List.pairwise_map]
    refine List.Pairwise.imp_of_mem ?_ (List.pairwise_lt_range' (s:=0) (n:=many))
    intro a b ha hb hab
    exact qh v2 hab (by have:=List.mem_range'_1.mp hb;omega)
theorem tF {w:List Nat} (n:w.Nodup) (a:∀y∈w,az y):gb (w.map dW)=(cf w).map dW:=by
  refine (List.Perm.eq_of_pairwise (fun _ _ _ _ h k=>j8 h k) (iW w) (List.pairwise_mergeSort gL jc _) ?_).symm
  refine List.Perm.trans ?_ (List.mergeSort_perm _ _).symm
  refine fW (iy (gz w)) (iy n) fun y=>?_
  constructor
  · intro h
    obtain ⟨a,ha,rfl⟩:=List.mem_map.mp h
    exact List.mem_map.mpr ⟨a,(inOrd_mem.mp ha).2,rfl⟩
  · intro h
    obtain ⟨b,hb,rfl⟩:=List.mem_map.mp h
    exact List.mem_map.mpr ⟨b,inOrd_mem.mpr ⟨ju (a b hb),hb⟩,rfl⟩
theorem oV {w:List Nat} (n:w.Nodup) (a:∀y∈w,az y):(cf w).length=w.length:=
  (fW (gz w) n fun y=>⟨fun h=>(inOrd_mem.mp h).2,fun h=>inOrd_mem.mpr ⟨ju (a y h),h⟩⟩).length_eq
def zF (U:List Nat) (m lo:Nat):List Nat→List Nat
  | []=>[]
  | x::r=>if (m >>> lo) % 2=1 then x::zF U m (lo+1) r else zF U m (lo+1) r
theorem oW (U:List Nat) (m:Nat):∀(r:List Nat) (lo:Nat),zF U m lo r=NhFam.aV r (m >>> lo)
  | [],_=>rfl
  | x::r,lo=>by
    rw [zF,NhFam.aV,oW U m r (lo+1),Nat.shiftRight_succ]
theorem zo {E:List Sl} {f g:aS} {x y:Nat} (hf:f E=some (.sh (.int x),E)) (hg:g E=some (.sh (.int y),E)):af uM false f g E=some (.sh (.int ((x >>> y:Nat):Int)),E):=by
  have e:(x:Int) / 2 ^ y=((x >>> y:Nat):Int):=by
    rw [Nat.shiftRight_eq_div_pow]
    push_cast
    rfl
  have h0:(0:Int)≤(y:Int):=Int.natCast_nonneg _
  simp only [af,hf,hg,Option.bind_some,Bool.false_and,Bool.false_eq_true,if_false,uM,eY,mC,look,Sl.val,h0,decide_true,if_true,Option.map_some,Int.toNat_natCast,e]
theorem zp {E:List Sl} {f:aS} {z:Int} {c:Nat} (hf:f E=some (.sh (.int z),E)) (h1:z=(c:Int)) (h2:c≤1000):eF (ad false f ak) E=some (iJ 0 c,E):=by
  have o1:(-1000000:Int)≤z:=by omega
  have o2:z≤1000000:=by omega
  have t:z.toNat=c:=by omega
  simp only [eF,ad,ak,hf,Option.bind_some,Option.map_some,Bool.false_and,Bool.false_eq_true,if_false,cr,look,Sl.val,o1,o2,and_self,if_true,decide_true,t]
theorem tH {E:List Sl} {f:aS} {w:List Nat} (hf:f E=some (.ow (w.map aI),E)) (hl:w.length < 64) (n:w.Nodup) (a:∀y∈w,az y):iL f E=some (.ow ((cf w).map aI),E):=by
  have l:(w.map dW).length < 64:=by rw [List.length_map];exact hl
  have m:((cf w).map dW).map PyData.str=(cf w).map aI:=by rw [List.map_map];rfl
  simp only [iL,hf,Option.bind_some,look,Sl.val,oN,l,if_true,tF n a,m]
theorem lZ {L:List (List Nat)} {E:List Sl} {f g:aS} {s1 s2:Sl} (hf:f E=some (s1,E)) (hg:g E=some (s2,E)) (l1:look E s1=some (.list (L.map ae))) (l2:look E s2=some (.list (L.map ae))) (h:∀w∈L,∀a∈w,az a):cP (af jM false f g) E=some (false,E):=by
  have d:=zl h
  simp only [cP,af,hf,hg,Option.bind_some,Bool.false_and,Bool.false_eq_true,if_false,jM,eY,l1,l2,d,Option.map_some,Bool.not_true]
theorem l_:∀(F:List (List Nat)) (x:Sl),cC d8 bG d9 (F.map ae) [x]=some (F.map eI)
  | [],x=>rfl
  | v::F,x=>by
    have t:d8 (ae v) [x]=some [.sh (ae v)]:=rfl
    have e:d9 [.sh (ae v)]=some (.sh (.int (NH.bH v)),[.sh (ae v)]):=aD (ss:=[.sh (ae v)]) rfl rfl (iz v)
    exact fV t e (l_ F _)
theorem tI {F:List (List Nat)} (hK:∀k∈F,NH.pY k) (hl:F.length≤3000) {t:List Nat} (ht:∀a∈t,az a) (htl:t.length≤1000):de [.list (F.map ae),ae t]=some (.sh (.bool (NhFam.BP F (cf t)))):=by
  have c1:am cK (ad false (aa 1) ak) [.sh (.list (F.map ae)), .sh (ae t)]=some (.sh (ae (cf t)),[.sh (.list (F.map ae)), .sh (ae t)]):=aD (ss:=[.sh (ae t)]) rfl rfl (lY ht (by omega))
  have c2:=aD (c:=bh) (AJ c1) rfl (iz (cf t))
  have p:bt [none] (cV (aa 0)) d8 bG d9 [.sh (.list (F.map ae)), .sh (ae t)]=some (.ow (F.map eI),[.sh (.list (F.map ae)), .sh (ae t)]):=fc rfl (l_ F _) (tD _) (by rw [List.length_map];omega)
  have pm:=rk (NH.bH (cf t)) (F.map NH.bH)
  rw [←oQ,oR hK (cf t)] at pm
  have c3:=aD (c:=au) (wY c2 p) rfl pm
  have g:de [.list (F.map ae),ae t]=(gv [.sh (.list (F.map ae)), .sh (ae t)]).bind fun a=>match a.2 with | .rt r=>cU r | .nx=>some (.sh .none) | _=>none:=rfl
  rw [g,gv]
  simp only [bi,c3,Option.map_some,Option.bind_some]
  rfl
theorem vo (U:List Nat) (m lo x:Nat) (h:U[lo]? =some x):cm [.sh (.int lo), .sh (.list (U.map aI)), .sh (.int m)]=some (.sh (aI x),[.sh (.int lo), .sh (.list (U.map aI)), .sh (.int m)]):=by
  have a:atI (U.map aI) (lo:Int)=some (aI x):=by rw [fw,List.getElem?_map,h];rfl
  simp only [cm,af,aa,List.getElem?_cons_succ,List.getElem?_cons_zero,Sl.isBr,Bool.false_and,Bool.false_eq_true,nD,look,Sl.val,gT,iF,if_false,Option.bind_some,a,aI,Option.map_some]
theorem vp (U:List Nat) (m lo:Nat) (y:Sl):cn [.sh (.int lo),y, .sh (.int m)]=some (decide ((m >>> lo) % 2=1),[.sh (.int lo),y, .sh (.int m)]):=by
  have a:=zo (E:=[.sh (.int lo),y, .sh (.int m)]) (f:=aa 2) (g:=aa 0) (x:=m) (y:=lo) rfl rfl
  have b:=ql (f:=af uM false (aa 2) (aa 0)) (g:=pC (.int 1)) (x:=m >>> lo) (y:=1) a rfl
  have e:=oO b (show pC (.int 1) [.sh (.int lo),y, .sh (.int m)]=some (.sh (.int 1),[.sh (.int lo),y, .sh (.int m)]) from rfl)
  unfold cn
  rw [e,Nat.and_one_is_mod]
  congr 2
  exact decide_eq_decide.mpr (by omega)
theorem vq (U:List Nat) (m:Nat):∀(r:List Nat) (lo:Nat) (x:Sl),(∀i,r[i]? =U[lo+i]?)→cC cL cn cm (iJ lo r.length) [x, .sh (.list (U.map aI)), .sh (.int m)]=some ((zF U m lo r).map aI)
  | [],lo,x,_=>rfl
  | y::r,lo,x,h=>by
    have h0:U[lo]? =some y:=by have:=h 0;simpa using this.symm
    have ih:=vq U m r (lo+1) (.sh (.int lo)) (fun i=>by have:=h (i+1);rw [List.getElem?_cons_succ] at this;rw [this];congr 1;omega)
    have t:cL (.int lo) [x, .sh (.list (U.map aI)), .sh (.int m)]=some [.sh (.int lo), .sh (.list (U.map aI)), .sh (.int m)]:=rfl
    rw [show ((lo+1:Nat):Int)=(lo:Int)+1 by omega] at ih
    rw [List.length_cons,i_,xG t (vp U m lo _) (vo U m lo y h0) ih,zF]
    by_cases q:(m >>> lo) % 2=1
    · simp only [q,decide_true,if_true,List.map_cons]
    · simp only [q,decide_false,Bool.false_eq_true,if_false]
theorem kB (U:List Nat) (m:Nat) (hl:U.length≤1000):bV [.int m, .list (U.map aI)]=some (.sh (ae (NhFam.aV U m))):=by
  have e:=vq U m U 0 .no (fun i=>by rw [Nat.zero_add])
  rw [oW,Nat.shiftRight_zero] at e
  have o1:(-1000000:Int)≤(U.length:Int):=by omega
  have o2:(U.length:Int)≤1000000:=by omega
  have lb:U.length≤1000000:=by omega
  have it:eF (ad false (bI cS (ad false (aa 1) ak)) ak) [.sh (.int m), .sh (.list (U.map aI))]=some (iJ 0 U.length,[.sh (.int m), .sh (.list (U.map aI))]):=by
    simp only [eF,ad,bI,aa,List.getElem?_cons_succ,List.getElem?_cons_zero,Sl.isBr,Bool.false_and,Bool.false_eq_true,ak,Option.map_some,if_false,Option.bind_some,cS,cr,look,Sl.val,List.length_map,o1,o2,and_self,Int.toNat_natCast,if_true]
  have ll:(NhFam.aV U m).length≤1000000:=Nat.le_trans (NhFam.dZ U m).length_le lb
  have p:bt [none,some 1,some 0] (eF (ad false (bI cS (ad false (aa 1) ak)) ak)) cL cn cm [.sh (.int m), .sh (.list (U.map aI))]=some (.ow ((NhFam.aV U m).map aI),[.sh (.int m), .sh (.list (U.map aI))]):=fc it e (kr _) (by rw [List.length_map];exact ll)
  have l:=nj (NhFam.aV U m)
  have j:=ku (NhFam.aV U m)
  have a:dI "" (bt [none,some 1,some 0] (eF (ad false (bI cS (ad false (aa 1) ak)) ak)) cL cn cm) [.sh (.int m), .sh (.list (U.map aI))]=some (.sh (.str ⟨(NhFam.aV U m).toArray⟩),[.sh (.int m), .sh (.list (U.map aI))]):=by
    simp only [dI,h8,lE,p,Option.bind_some,look,Sl.val,gA,l,ll,if_true,Option.map_some,j]
  have fx:cD (PyData.str ⟨(NhFam.aV U m).toArray⟩)=true:=rfl
  simp only [bV,gQ,fq,i8,cg,bi,a,Option.bind_some,Option.map_some,cU,cF,fx,if_true,List.length_cons,List.length_nil,Nat.sub_self,List.replicate,List.map_cons,List.map_nil,List.append_nil,Nat.zero_add,Nat.reduceAdd,ae]
theorem oX {U:List Nat} (hl:U.length≤1000):∀(D:List Nat) (x:Sl),cC b_ bG cb (D.map ah) [x, .sh (.list (U.map aI))]=some ((D.map (NhFam.aV U)).map ae)
  | [],x=>rfl
  | m::D,x=>by
    have t:b_ (ah m) [x, .sh (.list (U.map aI))]=some [.sh (.int m), .sh (.list (U.map aI))]:=rfl
    have e:cb [.sh (.int m), .sh (.list (U.map aI))]=some (.sh (ae (NhFam.aV U m)),[.sh (.int m), .sh (.list (U.map aI))]):=aD (ss:=[.sh (.int m), .sh (.list (U.map aI))]) rfl rfl (kB U m hl)
    exact fV t e (oX hl D _)
theorem nn {U:List Nat} (u:Uni U) (D:List Nat) (hD:D.length < 60):bS [.list (D.map ah), .list (U.map aI)]=some (.ow ((NhFam.dJ (D.map (NhFam.aV U))).map ae)):=by
  have hl:U.length≤1000:=by have:=u.len;omega
  have p:bt [none,some 1] (cV (aa 0)) b_ bG cb [.sh (.list (D.map ah)), .sh (.list (U.map aI))]=some (.ow ((D.map (NhFam.aV U)).map ae),[.sh (.list (D.map ah)), .sh (.list (U.map aI))]):=fc rfl (oX hl D _) (dC _) (by simp;omega)
  have fit:Fit (D.map (NhFam.aV U)):=⟨by rw [List.length_map];omega,fun w hw=>by
    obtain ⟨m,_,rfl⟩:=List.mem_map.mp hw
    have s:=NhFam.kn u.srt m
    exact ⟨u.ltrs s,by have:=u.short s;omega⟩⟩
  have a:gr (bt [none,some 1] (cV (aa 0)) b_ bG cb) [.sh (.list (D.map ah)), .sh (.list (U.map aI))]=some (.ow ((NhFam.dJ (D.map (NhFam.aV U))).map ae),[.sh (.list (D.map ah)), .sh (.list (U.map aI))]):=by
    unfold gr
    simp only [p,Option.bind_some,look,Sl.val,kw,fit.chk,if_true,oP,rq]
  have fl:=dC (NhFam.dJ (D.map (NhFam.aV U)))
  simp only [bS,fb,fq,i8,cg,bi,a,Option.bind_some,Option.map_some,cU,cF,fl,if_true,List.length_cons,List.length_nil,Nat.sub_self,List.replicate,List.map_cons,List.map_nil,List.append_nil,Nat.zero_add,Nat.reduceAdd]
theorem oY:∀l:List Nat,il (l.map ah)=some (l.map fun n:Nat=>(n:Int))
  | []=>rfl
  | a::l=>by
    show (il (l.map ah)).map ((a:Int):: ·)=_
    rw [oY l]
    rfl
theorem nq (l:List Nat) (m:Nat):(l.map fun n:Nat=>(n:Int)).contains (m:Int)=decide (m∈l):=by
  rw [Bool.eq_iff_iff]
  simp only [List.contains_eq_mem,decide_eq_true_eq,List.mem_map]
  constructor
  · rintro ⟨a,ha,e⟩
    have:a=m:=by omega
    rw [←this]
    exact ha
  · intro h
    exact ⟨m,h,rfl⟩
theorem zq {E:List Sl} {m:Nat} {K:List Nat} {i:Nat} (f:aS) (hf:f E=some (.sh (.int m),E)) (hi:E[i]? =some (.ow (K.map ah))):cP (af (o9 true) false f (aa i)) E=some (!decide (m∈K),E):=by
  have d:xA (.int m) (.list (K.map ah))=some (decide (m∈K)):=by
    show (il (K.map ah)).map _=_
    rw [oY,Option.map_some,nq]
  have e:look E (.al i)=some (.list (K.map ah)):=by simp only [look,hi,Option.bind_some,Sl.val]
  have e0:look E (.sh (.int m))=some (.int m):=rfl
  simp only [cP,af,o9,eY,hf,aa,hi,Option.bind_some,e,e0,d,Option.map_some,Bool.false_and,Bool.false_eq_true,if_false,if_true]
theorem rz:∀l:List Nat,PyData.canLayAll0 (l.map ah)=true∧PyData.depthAll (l.map ah)=0
  | []=>by simp [PyData.canLayAll0,PyData.depthAll]
  | a::l=>by
    obtain ⟨x,y⟩:=rz l
    have h1:(ah a).canLay0=true:=by simp [ah,PyData.canLay0]
    have h2:(ah a).depth=0:=by simp [ah,PyData.depth]
    simp only [List.map_cons,PyData.canLayAll0,PyData.depthAll,h1,h2,x,y,Bool.and_self,true_and]
    rfl
theorem kC (l:List Nat):SeqAt.shaped (.list (l.map ah))=true:=by
  obtain ⟨x,y⟩:=rz l
  unfold SeqAt.shaped
  simp only [PyData.canLay0,PyData.depth,x,y,Bool.true_and]
  decide
theorem oZ (l:List Nat):rZ (.list (l.map ah)) (.list [])=some (decide (l=[])):=by
  have e:rZ (.list (l.map ah)) (.list [])=(if SeqAt.shaped (.list (l.map ah))&&SeqAt.shaped (.list []) then some (PyData.eqv (.list (l.map ah)) (.list [])) else none):=rfl
  rw [e,kC,show SeqAt.shaped (.list [])=true from kC []]
  cases l with
  | nil=>rfl
  | cons a l=>simp [PyData.eqv,PyData.eqvAll]
def aN (M:List Nat) (m:Nat):List Nat:=M.filter fun k=>decide (k &&& m=k)&& !decide (k=m)
theorem qm (k m:Nat):bD [.sh (.int k), .sh (.int m)]=some (decide (k &&& m=k)&& !decide (k=m),[.sh (.int k), .sh (.int m)]):=by
  have b:=ql (E:=[.sh (.int k), .sh (.int m)]) (f:=aa 0) (g:=aa 1) (x:=k) (y:=m) rfl rfl
  have e:=oO b (show aa 0 [.sh (.int k), .sh (.int m)]=some (.sh (.int k),[.sh (.int k), .sh (.int m)]) from rfl)
  have n:cP (af jM false (aa 0) (aa 1)) [.sh (.int k), .sh (.int m)]=some (!decide (k=m),[.sh (.int k), .sh (.int m)]):=by
    have:=zf (E:=[.sh (.int k), .sh (.int m)]) (g:=aa 0) (f:=aa 1) (x:=k) (y:=m) rfl rfl
    simp only [cP,this,Option.bind_some]
    congr 2
    exact congrArg not (decide_eq_decide.mpr (by omega))
  unfold bD
  have e':decide (((k &&& m:Nat):Int)=(k:Int))=decide (k &&& m=k):=decide_eq_decide.mpr (by omega)
  rw [e'] at e
  cases h:decide (k &&& m=k) with
  | true=>rw [h] at e;simp only [jB,e,Option.bind_some,if_true,n,Bool.true_and]
  | false=>rw [h] at e;simp only [jB,e,Option.bind_some,Bool.false_eq_true,if_false,Bool.false_and]
theorem kD (m:Nat):∀(M:List Nat) (x:Sl),cC b7 bD b8 (M.map ah) [x, .sh (.int m)]=some ((aN M m).map ah)
  | [],x=>rfl
  | k::M,x=>by
    have t:b7 (ah k) [x, .sh (.int m)]=some [.sh (.int k), .sh (.int m)]:=rfl
    have el:b8 [.sh (.int k), .sh (.int m)]=some (.sh (ah k),[.sh (.int k), .sh (.int m)]):=rfl
    rw [List.map_cons,xG t (qm k m) el (kD m M _)]
    have e:aN (k::M) m=if decide (k &&& m=k)&& !decide (k=m) then k::aN M m else aN M m:=by
      unfold aN
      rw [List.filter_cons]
    rw [e]
    cases decide (k &&& m=k)&& !decide (k=m) <;> rfl
def nt (M K:List Nat):List Nat→List Nat
  | []=>K
  | m::r=>if aN M m=[]∧m∉K then nt M (K++[m]) r else nt M K r
theorem gC (M:List Nat):∀(r K:List Nat),K.Nodup→(nt M K r).Nodup∧∀m,m∈nt M K r↔m∈K∨(m∈r∧aN M m=[])
  | [],K,h=>⟨h,fun m=>by simp [nt]⟩
  | x::r,K,h=>by
    by_cases c:aN M x=[]∧x∉K
    · rw [nt,if_pos c]
      obtain ⟨a,b⟩:=gC M r (K++[x]) (by
        refine List.nodup_append.mpr ⟨h,by simp,fun p hp q hq e=>?_⟩
        rw [List.mem_singleton.mp hq] at e
        subst e
        exact c.2 hp)
      refine ⟨a,fun m=>(b m).trans ?_⟩
      constructor
      · rintro (q | q)
        · rcases List.mem_append.mp q with z | z
          · exact .inl z
          · rw [List.mem_singleton.mp z];exact .inr ⟨by simp,c.1⟩
        · exact .inr ⟨List.mem_cons_of_mem _ q.1,q.2⟩
      · rintro (q | ⟨q,s⟩)
        · exact .inl (by simp [q])
        · rcases List.mem_cons.mp q with z | z
          · exact .inl (by simp [z])
          · exact .inr ⟨z,s⟩
    · rw [nt,if_neg c]
      obtain ⟨a,b⟩:=gC M r K h
      refine ⟨a,fun m=>(b m).trans ?_⟩
      constructor
      · rintro (q | q)
        · exact .inl q
        · exact .inr ⟨List.mem_cons_of_mem _ q.1,q.2⟩
      · rintro (q | ⟨q,s⟩)
        · exact .inl q
        · rcases List.mem_cons.mp q with z | z
          · subst z
            exact .inl (Classical.byContradiction fun n=>c ⟨s,n⟩)
          · exact .inr ⟨z,s⟩
theorem tJ (M:List Nat):NhFam.LeastM M (nt M [] M):=by
  obtain ⟨a,b⟩:=gC M M [] List.nodup_nil
  refine ⟨a,fun m=>(b m).trans ?_⟩
  have:aN M m=[]↔∀k∈M,k &&& m=k→k=m:=by
    unfold aN
    rw [List.filter_eq_nil_iff]
    constructor
    · intro h k hk e
      have:=h k hk
      simpa [e] using this
    · intro h k hk
      simp only [Bool.and_eq_true,decide_eq_true_eq,Bool.not_eq_true',decide_eq_false_iff_not,not_and,Classical.not_not]
      exact h k hk
  rw [this]
  simp
theorem fZ (M:List Nat) (hM:M.length≤1000):∀(r K:List Nat) (a b:Sl),K.length+r.length≤1000→∃a' b',cR bE bd (r.map ah) [.sh (.list (M.map ah)), .ow (K.map ah),a,b]=some ([.sh (.list (M.map ah)), .ow ((nt M K r).map ah),a',b'], .nx)
  | [],K,a,b,_=>⟨a,b,rfl⟩
  | m::r,K,a,b,hl=>by
    have tg:bE (ah m) [.sh (.list (M.map ah)), .ow (K.map ah),a,b]=some [.sh (.list (M.map ah)), .ow (K.map ah), .sh (.int m),b]:=rfl
    have sl:(aN M m).length≤1000000:=Nat.le_trans (List.length_filter_le _ _) (by omega)
    have p1:bt [none,some 2] (cV (aa 0)) b7 bD b8 [.sh (.list (M.map ah)), .ow (K.map ah), .sh (.int m),b]=some (.ow ((aN M m).map ah),[.sh (.list (M.map ah)), .ow (K.map ah), .sh (.int m),b]):=fc rfl (kD m M _) (kA _) (by rw [List.length_map];exact sl)
    have s1:aK 3 (bt [none,some 2] (cV (aa 0)) b7 bD b8) [.sh (.list (M.map ah)), .ow (K.map ah), .sh (.int m),b]=some ([.sh (.list (M.map ah)), .ow (K.map ah), .sh (.int m), .ow ((aN M m).map ah)], .nx):=fX p1 (show 3 < 4 by decide)
    have dn:=oZ (aN M m)
    have e1:cP (af i6 false (aa 3) (eQ fg)) [.sh (.list (M.map ah)), .ow (K.map ah), .sh (.int m), .ow ((aN M m).map ah)]=some (decide (aN M m=[]),[.sh (.list (M.map ah)), .ow (K.map ah), .sh (.int m), .ow ((aN M m).map ah)]):=by
      simp only [cP,af,aa,List.getElem?_cons_succ,List.getElem?_cons_zero,Sl.isBr,Bool.false_and,Bool.false_eq_true,eQ,fg,Option.bind_some,List.length_nil,Nat.reduceLeDiff,if_true,i6,eY,look,Sl.val,if_false,dn,Option.map_some]
    have e2:=zq (E:=[.sh (.list (M.map ah)), .ow (K.map ah), .sh (.int m), .ow ((aN M m).map ah)]) (m:=m) (K:=K) (i:=1) (aa 2) rfl rfl
    have lb:K.length < 1000000:=by simp at hl;omega
    have cond:jB (cP (af i6 false (aa 3) (eQ fg))) (cP (af (o9 true) false (aa 2) (aa 1))) [.sh (.list (M.map ah)), .ow (K.map ah), .sh (.int m), .ow ((aN M m).map ah)]=some (decide (aN M m=[]∧m∉K),[.sh (.list (M.map ah)), .ow (K.map ah), .sh (.int m), .ow ((aN M m).map ah)]):=by
      by_cases h:aN M m=[]
      · rw [decide_eq_true h] at e1
        simp only [jB,e1,Option.bind_some,if_true,e2]
        congr 2
        rw [←decide_not]
        exact decide_eq_decide.mpr (by simp [h])
      · rw [decide_eq_false h] at e1
        simp only [jB,e1,Option.bind_some,Bool.false_eq_true,if_false]
        congr 2
        exact (decide_eq_false (fun z=>h z.1)).symm
    by_cases h:aN M m=[]∧m∉K
    · rw [decide_eq_true h] at cond
      have st:(bE (ah m) [.sh (.list (M.map ah)), .ow (K.map ah),a,b]).bind bd=some ([.sh (.list (M.map ah)), .ow ((K++[m]).map ah), .sh (.int m), .ow ((aN M m).map ah)], .nx):=by
        rw [tg,Option.bind_some,bd,aC s1]
        refine iw cond ?_
        simp only [dG,bn,List.getElem?_cons_succ,List.getElem?_cons_zero,aa,frz,Option.bind_some,List.length_map,lb,List.set_cons_succ,List.set_cons_zero,if_true,Option.map_some,List.map_append,List.map_cons,List.map_nil]
        rfl
      obtain ⟨a',b',e⟩:=fZ M hM r (K++[m]) (.sh (.int m)) (.ow ((aN M m).map ah)) (by simp at hl ⊢;omega)
      refine ⟨a',b',?_⟩
      rw [List.map_cons,cR,st,nt,if_pos h]
      exact e
    · rw [decide_eq_false h] at cond
      have st:(bE (ah m) [.sh (.list (M.map ah)), .ow (K.map ah),a,b]).bind bd=some ([.sh (.list (M.map ah)), .ow (K.map ah), .sh (.int m), .ow ((aN M m).map ah)], .nx):=by
        rw [tg,Option.bind_some,bd,aC s1]
        exact fL cond rfl
      obtain ⟨a',b',e⟩:=fZ M hM r K (.sh (.int m)) (.ow ((aN M m).map ah)) (by simp at hl ⊢;omega)
      refine ⟨a',b',?_⟩
      rw [List.map_cons,cR,st,nt,if_neg h]
      exact e
theorem nu (M:List Nat) (hM:M.length≤1000):bR [.list (M.map ah)]=some (.ow ((nt M [] M).map ah)):=by
  obtain ⟨a,b,e⟩:=fZ M hM M [] .no .no (by simpa using hM)
  have s1:aK 1 (eQ fg) [.sh (.list (M.map ah)), .no, .no, .no]=some ([.sh (.list (M.map ah)), .ow [], .no, .no], .nx):=by simp only [aK,eQ,fg,Option.bind_some,List.length_nil,Nat.reduceLeDiff,if_true,PL.settle,frz,frzAll,List.length_cons,Nat.zero_add,Nat.reduceAdd,Nat.reduceLT,List.set_cons_succ,List.set_cons_zero]
  have fo:fu (cV (aa 0)) bE bd [.sh (.list (M.map ah)), .ow [], .no, .no]=some ([.sh (.list (M.map ah)), .ow ((nt M [] M).map ah),a,b], .nx):=by
    unfold fu
    exact e
  have g:bR [.list (M.map ah)]=(ef [.sh (.list (M.map ah)), .no, .no, .no]).bind fun a=>match a.2 with | .rt r=>cU r | .nx=>some (.sh .none) | _=>none:=rfl
  have fl:=kA (nt M [] M)
  rw [g,ef,aC s1,aC fo]
  simp only [bi,aa,List.getElem?_cons_succ,List.getElem?_cons_zero,Option.bind_some,List.set_cons_succ,List.set_cons_zero,Option.map_some,cU,cF,fl,if_true]
theorem zr {E:List Sl} {f g:aS} {y:Nat} (hf:f E=some (.sh (.int 1),E)) (hg:g E=some (.sh (.int y),E)) (h:y≤1000):af pK false f g E=some (.sh (.int ((2 ^ y:Nat):Int)),E):=by
  have c:(0:Int)≤(y:Int)∧(y:Int)≤1000000∧ -(2 ^ 64) < (1:Int)∧(1:Int) < 2 ^ 64:=⟨by omega,by omega,by decide,by decide⟩
  have e:(1:Int)*2 ^ y=((2 ^ y:Nat):Int):=by push_cast;omega
  simp only [af,hf,hg,Option.bind_some,Bool.false_and,Bool.false_eq_true,if_false,pK,eY,mC,look,Sl.val,c,and_self,decide_true,if_true,Option.map_some,Int.toNat_natCast,e]
theorem tK {E:List Sl} {c:Int} {i:Nat} (h:E[i]? =some (.sh (.int c))):∃b,bq (cP (eD (fR .lt) (fR .lt) false false (h8 rY (af nW false (pC (.int 10)) (pC (.int 18)))) (aa i) (af nW false (pC (.int 10)) (pC (.int 18))))) E=some (b,E):=by
  have v:aa i E=some (.sh (.int c),E):=by simp only [aa,h]
  have p:af nW false (pC (.int 10)) (pC (.int 18)) E=some (.sh (.int 1000000000000000000),E):=by
    simp only [af,pC,Option.bind_some,Bool.false_and,Bool.false_eq_true,if_false,nW,eY,mC,look,Sl.val,Option.map_some]
    rfl
  have n:h8 rY (af nW false (pC (.int 10)) (pC (.int 18))) E=some (.sh (.int (-1000000000000000000)),E):=by
    simp only [h8,p,Option.bind_some,look,Sl.val,rY,Option.map_some]
  by_cases h1:(-1000000000000000000:Int) < c
  · by_cases h2:c < 1000000000000000000
    · exact ⟨false,by simp only [bq,cP,eD,n,v,p,Option.bind_some,look,Sl.val,fR,Cm.i,h1,h2,decide_true,if_true,Option.map_some,Bool.not_true,Bool.or_self,Sl.isBr,Bool.false_and,Bool.false_eq_true,if_false]⟩
    · exact ⟨true,by simp only [bq,cP,eD,n,v,p,Option.bind_some,look,Sl.val,fR,Cm.i,h1,h2,decide_true,decide_false,if_true,Option.map_some,Bool.not_false,Bool.or_self,Sl.isBr,Bool.false_and,Bool.false_eq_true,if_false]⟩
  · exact ⟨true,by simp only [bq,cP,eD,n,v,p,Option.bind_some,look,Sl.val,fR,Cm.i,h1,decide_false,if_true,Option.map_some,Bool.not_false,Bool.or_self,Sl.isBr,Bool.false_and,Bool.false_eq_true,if_false]⟩
theorem vt {E:List Sl} {n:Nat} {i:Nat} (h:E[i]? =some (.sh (.int n))) (hn:1≤n) (hn2:n≤100):af pD false (af pK false (pC (.int 1)) (aa i)) (pC (.int 1)) E=some (.sh (.int ((2 ^ n - 1:Nat):Int)),E):=by
  have v:aa i E=some (.sh (.int n),E):=by simp only [aa,h]
  have a:=zi (zr (E:=E) (f:=pC (.int 1)) (g:=aa i) (y:=n) rfl v (by omega)) (show pC (.int 1) E=some (.sh (.int 1),E) from rfl)
  rw [a]
  have p:1≤2 ^ n:=Nat.one_le_two_pow
  congr 4
  omega
def zt (n m:Nat):Prop:=1≤m∧m < 2 ^ n
theorem rA {n:Nat} (hn:1≤n) (z:Int):∃m:Nat,1+z % ((2 ^ n - 1:Nat):Int)=(m:Int)∧zt n m:=by
  have p:2≤2 ^ n:=by
    have:2 ^ 1≤2 ^ n:=Nat.pow_le_pow_right (by decide) hn
    simpa using this
  have h0:=Int.emod_nonneg z (show ((2 ^ n - 1:Nat):Int)≠0 by omega)
  have h1:=Int.emod_lt_of_pos z (show (0:Int) < ((2 ^ n - 1:Nat):Int) by omega)
  exact ⟨(1+z % ((2 ^ n - 1:Nat):Int)).toNat,by omega,by omega,by omega⟩
theorem vv {n:Nat} (hn:1≤n):(0:Int) < ((2 ^ n - 1:Nat):Int):=by
  have p:2≤2 ^ n:=by
    have:2 ^ 1≤2 ^ n:=Nat.pow_le_pow_right (by decide) hn
    simpa using this
  omega
theorem BB {n:Nat} (hn:1≤n) (hn2:n≤100):jV ((2 ^ n - 1:Nat):Int)=true:=by
  refine uW (vv hn) ?_
  have p:2 ^ n≤2 ^ 100:=Nat.pow_le_pow_right (by decide) hn2
  have q:(2 ^ 100:Nat) < 2 ^ 200:=by decide
  have r:((2 ^ 200:Nat):Int)=2 ^ 200:=Int.natCast_pow 2 200
  rw [←r]
  omega
theorem rB {E:List Sl} {K:List Nat} {m:Nat} {i j:Nat} (hi:E[i]? =some (.ow (K.map ah))) (hj:E[j]? =some (.sh (.int m))) (hl:K.length < 1000000):dG (bn i (aa j)) E=some (E.set i (.ow ((K++[m]).map ah)), .nx):=by
  have e:(K++[m]).map ah=K.map ah++[PyData.int m]:=by rw [List.map_append];rfl
  have f:cD (PyData.int (m:Int))=true:=rfl
  rw [e]
  simp only [dG,bn,aa,hj,Option.bind_some,hi,frz,look,Sl.val,List.length_map,hl,if_true,Option.map_some,f,and_self,decide_true,Bool.and_self,Bool.true_and]
theorem vw (ns:List Int) (first n:Nat) (hf:first≤100) (hn:1≤n) (hn2:n≤100) (cell aW:Int) (x3 a b:Sl) (K:List Nat) (k:Nat) (hk:k≤1000) (hK:K.length≤1000):
    ∃(m:Nat) (r:Int),zt n m∧(cc (.int k) [.sh (.list (ns.map .int)), .sh (.int first), .sh (.int n),x3, .ow (K.map ah), .sh (.int cell), .sh (.int aW),a,b]).bind bF=
      some ([.sh (.list (ns.map .int)), .sh (.int first), .sh (.int n),x3, .ow ((K++[m]).map ah), .sh (.int cell), .sh (.int r), .sh (.int k), .sh (.int m)], .nx):=by
  have tg:cc (.int k) [.sh (.list (ns.map .int)), .sh (.int first), .sh (.int n),x3, .ow (K.map ah), .sh (.int cell), .sh (.int aW),a,b]=some [.sh (.list (ns.map .int)), .sh (.int first), .sh (.int n),x3, .ow (K.map ah), .sh (.int cell), .sh (.int aW), .sh (.int k),b]:=rfl
  obtain ⟨bb,cond⟩:=tK (E:=[.sh (.list (ns.map .int)), .sh (.int first), .sh (.int n),x3, .ow (K.map ah), .sh (.int cell), .sh (.int aW), .sh (.int k),b]) (i:=5) (c:=cell) rfl
  cases bb with
  | true=>
    obtain ⟨m,em,lm⟩:=rA hn aW
    refine ⟨m,aW / ((2 ^ n - 1:Nat):Int),lm,?_⟩
    have w1:=vt (E:=[.sh (.list (ns.map .int)), .sh (.int first), .sh (.int n),x3, .ow (K.map ah), .sh (.int cell), .sh (.int aW), .sh (.int k),b]) (i:=2) rfl hn hn2
    have v1:=cI (E:=[.sh (.list (ns.map .int)), .sh (.int first), .sh (.int n),x3, .ow (K.map ah), .sh (.int cell), .sh (.int aW), .sh (.int k),b]) (g:=pC (.int 1)) (x:=1) rfl (eJ (f:=aa 6) (x:=aW) rfl w1 (vv hn))
    rw [em] at v1
    have s1:=c0 (i:=8) v1 (show 8 < 9 by decide)
    have w2:=vt (E:=[.sh (.list (ns.map .int)), .sh (.int first), .sh (.int n),x3, .ow (K.map ah), .sh (.int cell), .sh (.int aW), .sh (.int k), .sh (.int m)]) (i:=2) rfl hn hn2
    have v2:=fY (E:=[.sh (.list (ns.map .int)), .sh (.int first), .sh (.int n),x3, .ow (K.map ah), .sh (.int cell), .sh (.int aW), .sh (.int k), .sh (.int m)]) (f:=aa 6) (x:=aW) rfl w2 (BB hn hn2)
    have s2:=c0 (i:=6) v2 (show 6 < 9 by decide)
    have ap:=rB (E:=[.sh (.list (ns.map .int)), .sh (.int first), .sh (.int n),x3, .ow (K.map ah), .sh (.int cell), .sh (.int (aW / ((2 ^ n - 1:Nat):Int))), .sh (.int k), .sh (.int m)]) (K:=K) (m:=m) (i:=4) (j:=8) rfl rfl (by omega)
    rw [tg,Option.bind_some,bF,aC (iw cond ((aC s1).trans s2))]
    exact ap
  | false=>
    have md:=eJ (E:=[.sh (.list (ns.map .int)), .sh (.int first), .sh (.int n),x3, .ow (K.map ah), .sh (.int cell), .sh (.int aW), .sh (.int k),b]) (f:=aa 7) (g:=pC (.int 4)) (x:=k) (y:=4) rfl rfl (by decide)
    have a1:=cI (E:=[.sh (.list (ns.map .int)), .sh (.int first), .sh (.int n),x3, .ow (K.map ah), .sh (.int cell), .sh (.int aW), .sh (.int k),b]) (g:=aa 1) (f:=pC (.int 1)) (x:=first) (y:=1) rfl rfl
    have a2:=cI a1 md
    have ei:(first:Int)+1+(k:Int) % 4=((first+1+k % 4:Nat):Int):=by omega
    rw [ei] at a2
    have lat:=gR ns (first+1+k % 4)
    have c1:=aD (c:=av) (g:=ad false (aa 0) (ad false (af bj false (af bj false (aa 1) (pC (.int 1))) (af cJ false (aa 7) (pC (.int 4)))) ak)) (E:=[.sh (.list (ns.map .int)), .sh (.int first), .sh (.int n),x3, .ow (K.map ah), .sh (.int cell), .sh (.int aW), .sh (.int k),b]) (ss:=[.sh (.list (ns.map .int)), .sh (.int ((first+1+k % 4:Nat):Int))]) (wY rfl a2) rfl lat
    have a3:=cI c1 (show aa 7 [.sh (.list (ns.map .int)), .sh (.int first), .sh (.int n),x3, .ow (K.map ah), .sh (.int cell), .sh (.int aW), .sh (.int k),b]=some (.sh (.int k),[.sh (.list (ns.map .int)), .sh (.int first), .sh (.int n),x3, .ow (K.map ah), .sh (.int cell), .sh (.int aW), .sh (.int k),b]) from rfl)
    obtain ⟨z,ez⟩:=oJ (ns.getD (first+1+k % 4) 0+(k:Int)) (k:Int) (by omega) (by omega)
    have c2:=aD (c:=ce) (g:=ad false (af bj false (am av (ad false (aa 0) (ad false (af bj false (af bj false (aa 1) (pC (.int 1))) (af cJ false (aa 7) (pC (.int 4)))) ak))) (aa 7)) (ad false (aa 7) ak)) (E:=[.sh (.list (ns.map .int)), .sh (.int first), .sh (.int n),x3, .ow (K.map ah), .sh (.int cell), .sh (.int aW), .sh (.int k),b]) (ss:=[.sh (.int (ns.getD (first+1+k % 4) 0+(k:Int))), .sh (.int k)]) (wY a3 rfl) rfl ez
    obtain ⟨m,em,lm⟩:=rA hn z
    refine ⟨m,aW,lm,?_⟩
    have w1:=vt (E:=[.sh (.list (ns.map .int)), .sh (.int first), .sh (.int n),x3, .ow (K.map ah), .sh (.int cell), .sh (.int aW), .sh (.int k),b]) (i:=2) rfl hn hn2
    have v1:=cI (E:=[.sh (.list (ns.map .int)), .sh (.int first), .sh (.int n),x3, .ow (K.map ah), .sh (.int cell), .sh (.int aW), .sh (.int k),b]) (g:=pC (.int 1)) (x:=1) rfl (eJ c2 w1 (vv hn))
    rw [em] at v1
    have s1:=c0 (i:=8) v1 (show 8 < 9 by decide)
    have ap:=rB (E:=[.sh (.list (ns.map .int)), .sh (.int first), .sh (.int n),x3, .ow (K.map ah), .sh (.int cell), .sh (.int aW), .sh (.int k), .sh (.int m)]) (K:=K) (m:=m) (i:=4) (j:=8) rfl rfl (by omega)
    rw [tg,Option.bind_some,bF,aC (fL cond s1)]
    exact ap
theorem o5 (ns:List Int) (first n:Nat) (hf:first≤100) (hn:1≤n) (hn2:n≤100) (cell:Int) (x3:Sl):∀(c lo:Nat) (aW:Int) (a b:Sl) (K:List Nat),lo+c≤1000→K.length+c≤1000→(∀m∈K,zt n m)→
    ∃(M:List Nat) (r:Int) (a' b':Sl),M.length=K.length+c∧(∀m∈M,zt n m)∧cR cc bF (iJ lo c) [.sh (.list (ns.map .int)), .sh (.int first), .sh (.int n),x3, .ow (K.map ah), .sh (.int cell), .sh (.int aW),a,b]=
      some ([.sh (.list (ns.map .int)), .sh (.int first), .sh (.int n),x3, .ow (M.map ah), .sh (.int cell), .sh (.int r),a',b'], .nx)
  | 0,lo,aW,a,b,K,_,_,hK=>⟨K,aW,a,b,by simp,hK,rfl⟩
  | c+1,lo,aW,a,b,K,h1,h2,hK=>by
    obtain ⟨m,r,lm,st⟩:=vw ns first n hf hn hn2 cell aW x3 a b K lo (by omega) (by omega)
    obtain ⟨M,r',a',b',l,hM,e⟩:=o5 ns first n hf hn hn2 cell x3 c (lo+1) r (.sh (.int lo)) (.sh (.int m)) (K++[m]) (by omega) (by simp;omega) (fun q hq=>by
      rcases List.mem_append.mp hq with z | z
      · exact hK q z
      · rw [List.mem_singleton.mp z];exact lm)
    refine ⟨M,r',a',b',by rw [l];simp;omega,hM,?_⟩
    rw [show ((lo+1:Nat):Int)=(lo:Int)+1 by omega] at e
    rw [i_,cR,st]
    exact e
theorem nv (ns:List Int) (first n:Nat) (hf:first≤100) (hn:1≤n) (hn2:n≤100):∃M:List Nat,(1≤M.length∧M.length≤9)∧(∀m∈M,zt n m)∧cq [.list (ns.map .int), .int first, .int n, .int 9]=some (.ow (M.map ah)):=by
  have h0:=Int.emod_nonneg (ns.getD first 0 / 2) (show (9:Int)≠0 by decide)
  have h1:=Int.emod_lt_of_pos (ns.getD first 0 / 2) (show (0:Int) < 9 by decide)
  generalize ec:ns.getD first 0=cell at h0 h1
  obtain ⟨c,hc⟩:∃c:Nat,1+cell / 2 % 9=(c:Int):=⟨(1+cell / 2 % 9).toNat,by omega⟩
  obtain ⟨M,r,a,b,l,hM,e⟩:=o5 ns first n hf hn hn2 cell (.sh (.int 9)) c 0 (cell / 18) .no .no [] (by omega) (by simp;omega) (fun m hm=>by cases hm)
  refine ⟨M,by rw [l];simp only [List.length_nil];omega,hM,?_⟩
  have lat:=gR ns first
  rw [ec] at lat
  have s1:aK 4 (eQ fg) [.sh (.list (ns.map .int)), .sh (.int first), .sh (.int n), .sh (.int 9), .no, .no, .no, .no, .no]=some ([.sh (.list (ns.map .int)), .sh (.int first), .sh (.int n), .sh (.int 9), .ow [], .no, .no, .no, .no], .nx):=by simp only [aK,eQ,fg,Option.bind_some,List.length_nil,Nat.reduceLeDiff,if_true,PL.settle,frz,frzAll,List.length_cons,Nat.zero_add,Nat.reduceAdd,Nat.reduceLT,List.set_cons_succ,List.set_cons_zero]
  have c2:=aD (c:=av) (g:=ad false (aa 0) (ad false (aa 1) ak)) (E:=[.sh (.list (ns.map .int)), .sh (.int first), .sh (.int n), .sh (.int 9), .ow [], .no, .no, .no, .no]) (ss:=[.sh (.list (ns.map .int)), .sh (.int first)]) rfl rfl lat
  have s2:=c0 (i:=5) c2 (show 5 < 9 by decide)
  have mu:=oK (E:=[.sh (.list (ns.map .int)), .sh (.int first), .sh (.int n), .sh (.int 9), .ow [], .sh (.int cell), .no, .no, .no]) (g:=pC (.int 2)) (f:=aa 3) (x:=2) (y:=9) rfl rfl (mQ (by decide) (by decide))
  have d3:=fY (E:=[.sh (.list (ns.map .int)), .sh (.int first), .sh (.int n), .sh (.int 9), .ow [], .sh (.int cell), .no, .no, .no]) (f:=aa 5) (x:=cell) rfl mu (by decide)
  have s3:=c0 (i:=6) d3 (show 6 < 9 by decide)
  have e16:(2:Int)*9=18:=rfl
  rw [e16] at s3
  have v1:=fY (E:=[.sh (.list (ns.map .int)), .sh (.int first), .sh (.int n), .sh (.int 9), .ow [], .sh (.int cell), .sh (.int (cell / 18)), .no, .no]) (f:=aa 5) (g:=pC (.int 2)) (x:=cell) (y:=2) rfl rfl (by decide)
  have v2:=eJ v1 (show aa 3 [.sh (.list (ns.map .int)), .sh (.int first), .sh (.int n), .sh (.int 9), .ow [], .sh (.int cell), .sh (.int (cell / 18)), .no, .no]=some (.sh (.int 9),[.sh (.list (ns.map .int)), .sh (.int first), .sh (.int n), .sh (.int 9), .ow [], .sh (.int cell), .sh (.int (cell / 18)), .no, .no]) from rfl) (by decide)
  have v3:=cI (g:=pC (.int 1)) (x:=1) (E:=[.sh (.list (ns.map .int)), .sh (.int first), .sh (.int n), .sh (.int 9), .ow [], .sh (.int cell), .sh (.int (cell / 18)), .no, .no]) rfl v2
  have it:=zp (c:=c) v3 hc (by omega)
  have fo:fu (eF (ad false (af bj false (pC (.int 1)) (af cJ false (af c_ false (aa 5) (pC (.int 2))) (aa 3))) ak)) cc bF [.sh (.list (ns.map .int)), .sh (.int first), .sh (.int n), .sh (.int 9), .ow [], .sh (.int cell), .sh (.int (cell / 18)), .no, .no]=some ([.sh (.list (ns.map .int)), .sh (.int first), .sh (.int n), .sh (.int 9), .ow (M.map ah), .sh (.int cell), .sh (.int r),a,b], .nx):=by
    unfold fu
    rw [it,Option.bind_some]
    exact e
  have g:cq [.list (ns.map .int), .int first, .int n, .int 9]=(eu [.sh (.list (ns.map .int)), .sh (.int first), .sh (.int n), .sh (.int 9), .no, .no, .no, .no, .no]).bind fun a=>match a.2 with | .rt r=>cU r | .nx=>some (.sh .none) | _=>none:=rfl
  have fl:=kA M
  rw [g,eu,aC s1,aC s2]
  have s3':aK 6 (af c_ false (aa 5) (af gU false (pC (.int 2)) (aa 3))) ([.sh (.list (ns.map .int)), .sh (.int first), .sh (.int n), .sh (.int 9), .ow [], .no, .no, .no, .no].set 5 (.sh (.int cell)))=some ([.sh (.list (ns.map .int)), .sh (.int first), .sh (.int n), .sh (.int 9), .ow [], .sh (.int cell), .sh (.int (cell / 18)), .no, .no], .nx):=s3
  rw [aC s3',aC fo]
  simp only [bi,aa,List.getElem?_cons_succ,List.getElem?_cons_zero,Option.bind_some,List.set_cons_succ,List.set_cons_zero,Option.map_some,cU,cF,fl,if_true]
def jn:List (List Nat)→List Nat
  | []=>[]
  | [w]=>w
  | w::v::r=>w++32::jn (v::r)
theorem w5:(Str.ofString " ")=⟨#[32]⟩:=by decide+kernel
theorem rC:∀F:List (List Nat),Str.join " " (F.map iA)=iA (jn F):=by
  intro F
  induction F with
  | nil=>rfl
  | cons a F ih=>
    cases F with
    | nil=>simp [Str.join,iA,jn]
    | cons b F=>
      have e:Str.join " " ((a::b::F).map iA)=(iA a)++" "++Str.join " " ((b::F).map iA):=rfl
      rw [e,ih,w5]
      show (⟨(a.toArray++#[32])++(jn (b::F)).toArray⟩:Str)=⟨(a++32::jn (b::F)).toArray⟩
      simp
theorem vx:∀(w v A B:List Nat),32∉w→32∉v→w++32::A=v++32::B→w=v∧A=B
  | [],[],A,B,_,_,h=>⟨rfl,by simpa using h⟩
  | [],b::v,A,B,_,hv,h=>by
    simp at h
    exact absurd (by rw [h.1];exact List.mem_cons_self ..) hv
  | a::w,[],A,B,hw,_,h=>by
    simp at h
    exact absurd (by rw [h.1];exact List.mem_cons_self ..) hw
  | a::w,b::v,A,B,hw,hv,h=>by
    simp only [List.cons_append,List.cons.injEq] at h
    obtain ⟨p,q⟩:=vx w v A B (fun z=>hw (List.mem_cons_of_mem _ z)) (fun z=>hv (List.mem_cons_of_mem _ z)) h.2
    exact ⟨by rw [h.1,p],q⟩
theorem vy:∀(F G:List (List Nat)),F≠[]→G≠[]→(∀w∈F,32∉w)→(∀w∈G,32∉w)→jn F=jn G→F=G
  | [],_,h,_,_,_,_=>absurd rfl h
  | _::_,[],_,h,_,_,_=>absurd rfl h
  | [w],[v],_,_,_,_,e=>by rw [show w=v from e]
  | [w],v::v2::r,_,_,h,_,e=>by
    have e':w=v++32::jn (v2::r):=e
    exact absurd (by rw [e'];simp) (h w (by simp))
  | w::w2::r,[v],_,_,_,h,e=>by
    have e':w++32::jn (w2::r)=v:=e
    exact absurd (by rw [←e'];simp) (h v (by simp))
  | w::w2::r,v::v2::r',_,_,h,k,e=>by
    obtain ⟨p,q⟩:=vx w v _ _ (h w (by simp)) (k v (by simp)) e
    rw [p,vy (w2::r) (v2::r') (by simp) (by simp) (fun u hu=>h u (List.mem_cons_of_mem _ hu)) (fun u hu=>k u (List.mem_cons_of_mem _ hu)) q]
theorem qo (x y:Str):Txt.split x y≠[]:=by
  unfold Txt.split
  split
  · simp
  · split
    · simp
    · intro z
      have:=length_partsBetween x (Builtin.Str.occurrences x y 0 x.length (x.length+1)) y.length
      rw [z] at this
      simp at this
theorem vz {F:List (List Nat)} (n:F≠[]) (h:∀w∈F,32∉w):Txt.split (iA (jn F)) " "=F.map iA:=by
  have a:=StrLaws.join_split (iA (jn F)) " "
  have b:=StrLaws.split_free (iA (jn F)) 32
  have c:=qo (iA (jn F)) " "
  rw [←w5] at b
  generalize Txt.split (iA (jn F)) " "=P at a b c
  have e:P=(P.map fun p=>p.cps.toList).map iA:=by
    rw [List.map_map]
    exact (List.map_id'' (fun p=>by cases p;simp [iA]) P).symm
  generalize hG:(P.map fun p=>p.cps.toList)=G at e
  rw [e] at a ⊢
  rw [rC] at a
  have fG:∀w∈G,32∉w:=fun w hw=>by
    rw [←hG] at hw
    obtain ⟨p,hp,rfl⟩:=List.mem_map.mp hw
    exact b p hp
  have nG:G≠[]:=fun z=>c (by rw [e,z];rfl)
  have e2:jn G=jn F:=by
    have:=congrArg (fun s:Str=>s.cps.toList) a
    simpa [iA] using this
  rw [vy G F nG n fG h e2]
theorem zu (F:List (List Nat)):((F.map iA).map (·.length)).sum+(F.map iA).length*(Str.ofString " ").length=F.flatten.length+F.length:=by
  have:(Str.ofString " ").length=1:=by rw [w5];rfl
  rw [this,Nat.mul_one,List.length_map]
  congr 1
  induction F with
  | nil=>rfl
  | cons a F ih=>
    simp only [List.map_cons,List.sum_cons,ih,List.flatten_cons,List.length_append]
    rw [show (iA a).length=a.length from gB a]
theorem vA:∀F:List (List Nat),(jn F).length≤F.flatten.length+F.length
  | []=>by simp [jn]
  | [w]=>by simp [jn]
  | w::v::r=>by
    have:=vA (v::r)
    simp only [jn,List.length_append,List.length_cons,List.flatten_cons] at this ⊢
    omega
theorem kE {E:List Sl} {f:aS} {s:Sl} {F:List (List Nat)} (hf:f E=some (s,E)) (hs:look E s=some (.list (F.map ae))) (hl:F.flatten.length+F.length≤1000000):dI " " f E=some (.sh (ae (jn F)),E):=by
  have so:=jw F
  have l:=zu F
  have j:Txt.join " " (F.map iA)=iA (jn F):=by
    show Builtin.Str.glued " " _=_
    rw [StrLaws.glued_eq_join,rC]
  simp only [dI,h8,lE,hf,Option.bind_some,hs,so,l,hl,if_true,Option.map_some,j,ae,iA]
theorem iX {W:List (List Nat)} (h:∀t∈W,t.length≤100):W.flatten.length≤W.length*100:=by
  induction W with
  | nil=>simp
  | cons w W ih=>
    have:=ih fun t ht=>h t (List.mem_cons_of_mem _ ht)
    have:=h w (List.mem_cons_self ..)
    simp only [List.flatten_cons,List.length_append,List.length_cons]
    omega
theorem nw {W:List (List Nat)} (h:∀t∈W,t.length≤100) (hl:W.length≤190):bQ [.list (W.map ae)]=some (.sh (ae (jn W))):=by
  have fl:=iX h
  have j:=kE (E:=[.sh (.list (W.map ae))]) (f:=aa 0) (s:= .sh (.list (W.map ae))) (F:=W) rfl rfl (by omega)
  have g:bQ [.list (W.map ae)]=(d_ [.sh (.list (W.map ae))]).bind fun a=>match a.2 with | .rt r=>cU r | .nx=>some (.sh .none) | _=>none:=rfl
  rw [g,d_]
  simp only [bi,j,Option.map_some,Option.bind_some,cU]
  rfl
theorem kF {U:List Nat} {W:List (List Nat)} (u:Uni U) (h:Wrt U W):aA [.list (W.map ae)]=some (.ow ((NhFam.cW (dD W)).map ae)):=by
  have c:am aR (ad false (aa 0) ak) [.sh (.list (W.map ae))]=some (.ow ((NhFam.cW (dD W)).map ae),[.sh (.list (W.map ae))]):=aD (ss:=[.sh (.list (W.map ae))]) rfl rfl (g7 u h)
  have g:aA [.list (W.map ae)]=(bC [.sh (.list (W.map ae))]).bind fun a=>match a.2 with | .rt r=>cU r | .nx=>some (.sh .none) | _=>none:=rfl
  have fl:=dC (NhFam.cW (dD W))
  rw [g,bC]
  simp only [bi,c,Option.map_some,Option.bind_some,cU,cF,fl,if_true]
theorem w6 (F:List (List Nat)):(F.map iA).map PyData.str=F.map ae:=by rw [List.map_map];rfl
theorem iY {U:List Nat} {W:List (List Nat)} (u:Uni U) (h:Wrt U W) (n:W≠[]) (ne:∀w∈W,w≠[]):aG [ae (jn W)]=some (.ow ((NhFam.cW (dD W)).map ae)):=by
  have fl0:=iX h.tl
  have hl:=h.len
  have jl:=vA W
  have free:∀w∈W,32∉w:=fun w hw z=>by
    have:=(u.lt 32 (h.sub w hw 32 z)).1
    omega
  have sp:=vz n free
  have s1:cy (bq (dN (h8 (fi .str) (aa 0)))) eH ba [.sh (ae (jn W)), .no]=some ([.sh (ae (jn W)), .no], .nx):=by
    unfold ae
    simp only [cy,bq,dN,h8,aa,List.getElem?_cons_zero,look,Sl.val,fi,Ty.is,uu,Option.map_some,Option.bind_some,iI,Bool.not_true,ba,Bool.false_eq_true,if_false]
  have y1:((Str.ofString " ").length == 0)=false:=by rw [w5];rfl
  have xl:(iA (jn W)).length≤100000:=by rw [show (iA (jn W)).length=(jn W).length from gB _];omega
  have p2:kq 0 (pC (.str " ")) [.sh (ae (jn W)), .no]=some (.ow (W.map ae),[.sh (ae (jn W)), .no]):=by
    show (if ((Str.ofString " ").length == 0)=false∧(iA (jn W)).length≤100000 then some (Sl.ow ((Txt.split (iA (jn W)) " ").map PyData.str),[Sl.sh (ae (jn W)),Sl.no]) else none)=_
    rw [if_pos ⟨y1,xl⟩,sp,w6]
  have s2:aK 1 (kq 0 (pC (.str " "))) [.sh (ae (jn W)), .no]=some ([.sh (ae (jn W)), .ow (W.map ae)], .nx):=fX p2 (show 1 < 2 by decide)
  have nin:(W.map iA).contains (Str.ofString "")=false:=by
    rw [Bool.eq_false_iff]
    intro z
    have z':=List.contains_iff_mem.mp z
    obtain ⟨w,hw,e⟩:=List.mem_map.mp z'
    refine ne w hw ?_
    have:=congrArg (fun s:Str=>s.cps.toList) e
    have e0:(Str.ofString "").cps.toList=[]:=by decide+kernel
    simpa [iA,e0] using this
  have so:=jw W
  have s3:cy (cP (af (o9 false) false (pC (.str "")) (aa 1))) eH ba [.sh (ae (jn W)), .ow (W.map ae)]=some ([.sh (ae (jn W)), .ow (W.map ae)], .nx):=by
    refine fL ?_ rfl
    simp only [cP,af,pC,aa,o9,eY,List.getElem?_cons_zero,List.getElem?_cons_succ,Option.bind_some,Option.map_some,look,Sl.val,xA,so,nin,Bool.false_and,Bool.false_eq_true,if_false]
  have c4:am aA (ad false (aa 1) ak) [.sh (ae (jn W)), .ow (W.map ae)]=some (.ow ((NhFam.cW (dD W)).map ae),[.sh (ae (jn W)), .ow (W.map ae)]):=aD (ss:=[.al 1]) rfl rfl (kF u h)
  have g:aG [ae (jn W)]=(ee [.sh (ae (jn W)), .no]).bind fun a=>match a.2 with | .rt r=>cU r | .nx=>some (.sh .none) | _=>none:=rfl
  have fl:=dC (NhFam.cW (dD W))
  rw [g,ee,aC s1,aC s2,aC s3]
  simp only [bi,c4,Option.map_some,Option.bind_some,cU,cF,fl,if_true]
theorem vB {u v:List Nat}:((⟨u.toArray⟩:Str)=⟨v.toArray⟩)↔u=v:=by
  constructor
  · intro h
    have:=congrArg (fun x:Str=>x.cps.toList) h
    simpa using this
  · intro h;rw [h]
theorem kG (x:Str) (l u:Option Int):Txt.slice x l u=PySem.StrLaws.sliceText x l u:=rfl
theorem qp (w:List Nat) (i:Nat) (h:i≤w.length):Txt.slice (⟨w.toArray⟩:Str) (some (i:Int)) none=⟨(w.drop i).toArray⟩:=by
  have e:(⟨w.toArray⟩:Str).cps.toList=w:=by simp
  rw [kG,PySem.StrLaws.sliceText_from ⟨by omega,by rw [e];omega⟩,e]
  rw [show ((w.length:Int) - (i:Int)).toNat=w.length - i by omega,Int.toNat_natCast,List.take_of_length_le (by simp)]
theorem kH (w:List Nat) (i:Nat) (h:i≤w.length):Txt.slice (⟨w.toArray⟩:Str) none (some (i:Int))=⟨(w.take i).toArray⟩:=by
  have e:(⟨w.toArray⟩:Str).cps.toList=w:=by simp
  rw [kG,PySem.StrLaws.sliceText_to ⟨by omega,by rw [e];omega⟩,e]
  simp
theorem ny {E:List Sl} {f:aS} {lo hi:xz} {w:List Nat} {a b:Option Int} (hf:f E=some (.sh (ae w),E)) (hl:lo E=some (a,E)) (hh:hi E=some (b,E)) (l:w.length≤1000000):fj false f lo hi E=some (.sh (.str (Txt.slice ⟨w.toArray⟩ a b)),E):=by
  have ln:=gB w
  have e:look E (.sh (ae w))=some (.str ⟨w.toArray⟩):=rfl
  simp only [fj,hf,hl,hh,Option.bind_some,Bool.false_and,Bool.false_eq_true,if_false,e,ln,l,if_true]
theorem nz {E:List Sl} {f g:aS} {u v:List Nat} (hf:f E=some (.sh (ae u),E)) (hg:g E=some (.sh (ae v),E)) (l:u.length+v.length≤1000000):af bj false f g E=some (.sh (ae (u++v)),E):=by
  have l1:=gB u
  have l2:=gB v
  have ap:=zh u v
  simp only [af,hf,hg,Option.bind_some,Bool.false_and,Bool.false_eq_true,if_false,bj,look,Sl.val,ae,l1,l2,l,if_true,ap]
def wrt (w:List Nat) (cell:Int):List Nat:=w.drop (cell % ((w.length+1:Nat):Int)).toNat++w.take (cell % ((w.length+1:Nat):Int)).toNat++w.take (cell / 8 % ((w.length+1:Nat):Int)).toNat
theorem wrt_mem {w:List Nat} {cell:Int} {a:Nat}:a∈wrt w cell↔a∈w:=by
  unfold wrt
  constructor
  · intro h
    rcases List.mem_append.mp h with h | h
    · rcases List.mem_append.mp h with h | h
      · exact List.mem_of_mem_drop h
      · exact List.mem_of_mem_take h
    · exact List.mem_of_mem_take h
  · intro h
    have:a∈w.take (cell % ((w.length+1:Nat):Int)).toNat++w.drop (cell % ((w.length+1:Nat):Int)).toNat:=by rw [List.take_append_drop];exact h
    rcases List.mem_append.mp this with h | h
    · exact List.mem_append.mpr (.inl (List.mem_append.mpr (.inr h)))
    · exact List.mem_append.mpr (.inl (List.mem_append.mpr (.inl h)))
theorem rD (w:List Nat) (cell:Int):(wrt w cell).length≤3*w.length:=by
  unfold wrt
  simp only [List.length_append,List.length_drop,List.length_take]
  omega
theorem g8 (w:List Nat) (cell:Int) (hl:w.length≤1000):a_ [ae w, .int cell]=some (.sh (ae (wrt w cell))):=by
  have ln:=gB w
  have lb:w.length≤1000000:=by omega
  have m0:=Int.emod_nonneg cell (show ((w.length+1:Nat):Int)≠0 by omega)
  have m1:=Int.emod_lt_of_pos cell (show (0:Int) < ((w.length+1:Nat):Int) by omega)
  have m2:=Int.emod_nonneg (cell / 8) (show ((w.length+1:Nat):Int)≠0 by omega)
  have m3:=Int.emod_lt_of_pos (cell / 8) (show (0:Int) < ((w.length+1:Nat):Int) by omega)
  unfold wrt
  generalize hc:cell % ((w.length+1:Nat):Int)=c at m0 m1
  generalize hd:cell / 8 % ((w.length+1:Nat):Int)=d at m2 m3
  obtain ⟨i,rfl⟩:∃i:Nat,c=(i:Int):=⟨c.toNat,by omega⟩
  obtain ⟨k,rfl⟩:∃k:Nat,d=(k:Int):=⟨d.toNat,by omega⟩
  have le:∀{E:List Sl},E[0]? =some (.sh (ae w))→af bj false (bI cS (ad false (aa 0) ak)) (pC (.int 1)) E=some (.sh (.int ((w.length+1:Nat):Int)),E):=fun {E} h=>by
    have v:aa 0 E=some (.sh (ae w),E):=by simp only [aa,h]
    have ca:bI cS (ad false (aa 0) ak) E=some (.sh (.int (w.length:Int)),E):=by
      have lk:look E (.sh (ae w))=some (.str ⟨w.toArray⟩):=rfl
      simp only [bI,AJ v,Option.bind_some,cr,lk,cS,ln,lb,if_true,Option.map_some]
    have q:=cI ca (show pC (.int 1) E=some (.sh (.int 1),E) from rfl)
    rw [q]
    rfl
  have v1:=eJ (E:=[.sh (ae w), .sh (.int cell), .no]) (f:=aa 1) (x:=cell) rfl (le rfl) (by omega)
  rw [hc] at v1
  have s1:=c0 (i:=2) v1 (show 2 < 3 by decide)
  have v2:=eJ (fY (E:=[.sh (ae w), .sh (.int cell), .sh (.int i)]) (f:=aa 1) (g:=pC (.int 8)) (x:=cell) (y:=8) rfl rfl (by decide)) (le rfl) (by omega)
  rw [hd] at v2
  have oS:∀{f:aS} {z:Int} {E:List Sl},f E=some (.sh (.int z),E)→cE f E=some (some z,E):=fun {f z E} h=>by simp only [cE,h,Option.bind_some,look,Sl.val]
  have a1:=ny (E:=[.sh (ae w), .sh (.int cell), .sh (.int i)]) (f:=aa 0) (lo:=cE (aa 2)) (hi:=cQ) (w:=w) rfl (oS (f:=aa 2) (z:=(i:Int)) rfl) rfl lb
  have a2:=ny (E:=[.sh (ae w), .sh (.int cell), .sh (.int i)]) (f:=aa 0) (lo:=cQ) (hi:=cE (aa 2)) (w:=w) rfl rfl (oS (f:=aa 2) (z:=(i:Int)) rfl) lb
  have a3:=ny (E:=[.sh (ae w), .sh (.int cell), .sh (.int i)]) (f:=aa 0) (lo:=cQ) (w:=w) rfl rfl (oS v2) lb
  rw [qp w i (by omega)] at a1
  rw [kH w i (by omega)] at a2
  rw [kH w k (by omega)] at a3
  have b1:=nz a1 a2 (by simp;omega)
  have b2:=nz b1 a3 (by simp;omega)
  have g:a_ [ae w, .int cell]=(dw [.sh (ae w), .sh (.int cell), .no]).bind fun a=>match a.2 with | .rt r=>cU r | .nx=>some (.sh .none) | _=>none:=rfl
  rw [g,dw,aC s1]
  have b2':af bj false (af bj false (fj false (aa 0) (cE (aa 2)) cQ) (fj false (aa 0) cQ (cE (aa 2)))) (fj false (aa 0) cQ (cE (af cJ false (af c_ false (aa 1) (pC (.int 8))) (af bj false (bI cS (ad false (aa 0) ak)) (pC (.int 1)))))) ([.sh (ae w), .sh (.int cell), .no].set 2 (.sh (.int (i:Int))))=some (.sh (ae (w.drop i++w.take i++w.take k)),[.sh (ae w), .sh (.int cell), .sh (.int i)]):=b2
  have fx:cD (ae (w.drop i++w.take i++w.take k))=true:=rfl
  simp only [bi,b2',Option.map_some,Option.bind_some,cU,cF,fx,if_true,Int.toNat_natCast]
theorem rE {E:List Sl} {K:List (List Nat)} {w:List Nat} {i:Nat} {f:aS} (hf:f E=some (.sh (ae w),E)) (hi:E[i]? =some (.ow (K.map ae))) (hl:K.length < 1000000):dG (bn i f) E=some (E.set i (.ow ((K++[w]).map ae)), .nx):=by
  have e:(K++[w]).map ae=K.map ae++[ae w]:=by rw [List.map_append];rfl
  rw [e]
  simp only [dG,bn,hf,Option.bind_some,hi,frz,List.length_map,hl,if_true,Option.map_some]
theorem AK:(Str.ofString "")=⟨([]:List Nat).toArray⟩:=by decide+kernel
theorem xH (u v:List Nat):rZ (.str ⟨u.toArray⟩) (.str ⟨v.toArray⟩)=some (decide (u=v)):=by
  rw [wE]
  congr 1
  exact decide_eq_decide.mpr vB
theorem w_ (u:List Nat):rZ (.str ⟨u.toArray⟩) (.str "")=some (decide (u=[])):=by
  rw [AK]
  exact xH u []
theorem qr {U:List Nat} {L:List (List Nat)} {f:List Nat→Prop} (t:NhFam.Told U L f) (m:NhFam.zb U f):NhFam.cW L=L:=(NhFam.jE t.sub).uniq t fun w hw=>t.up_iff m hw
theorem tL {U:List Nat} {L:List (List Nat)} (u:Uni U) (h:∀w∈L,NhFam.Sub U w):dD L=L:=by
  unfold dD
  induction L with
  | nil=>rfl
  | cons w L ih=>
    rw [List.map_cons,ih fun v hv=>h v (List.mem_cons_of_mem _ hv),oU (h w (List.mem_cons_self ..)).1 (u.azw (h w (List.mem_cons_self ..)))]
theorem zv {E:List Sl} {f:aS} {u:List Nat} (hf:f E=some (.sh (ae u),E)):cP (af i6 false f (pC (.str ""))) E=some (decide (u=[]),E):=by
  have q:=w_ u
  unfold ae at hf
  simp only [cP,af,hf,Sl.isBr,Bool.false_and,Bool.false_eq_true,pC,i6,eY,look,Sl.val,Option.bind_some,if_false,q,Option.map_some]
structure Wds (U:List Nat) (m:Nat) (O:List (List Nat)):Prop where
  big:∀t∈O,NhFam.le t U∧t.length≤90∧NhFam.le (NhFam.aV U m) t
  one:∃t∈O,∀x,x∈t↔x∈NhFam.aV U m
  len:O.length≤2
theorem qu (ns:List Int) (c:Int) (j k:Nat) (hc:c=j) (E:List Sl) (h0:E[0]? =some (.sh (.list (ns.map .int)))) (h9:E[9]? =some (.sh (.int (k:Int)))):am av (ad false (aa 0) (ad false (af bj false (pC (.int c)) (aa 9)) ak)) E=some (.sh (.int (ns.getD (j+k) 0)),E):=by
  have v0:aa 0 E=some (.sh (.list (ns.map .int)),E):=by simp only [aa,h0,Option.bind_some]
  have v9:aa 9 E=some (.sh (.int (k:Int)),E):=by simp only [aa,h9,Option.bind_some]
  have a:=cI (g:=pC (.int c)) (x:=c) (E:=E) rfl v9
  rw [hc,show (j:Int)+(k:Int)=((j+k:Nat):Int) by omega] at a
  subst hc
  exact aD (ss:=[.sh (.list (ns.map .int)), .sh (.int ((j+k:Nat):Int))]) (wY v0 a) rfl (gR ns (j+k))
theorem zw {E:List Sl} {f g:aS} {j:Nat} {W:List Nat} {n a:Nat} (hf:f E=some (.al j,E)) (hj:E[j]? =some (.ow (W.map aI))) (hg:g E=some (.sh (.int (n:Int)),E)) (hn:W[n]? =some a):af nD false f g E=some (.sh (aI a),E):=by
  have q:atI (W.map aI) (n:Int)=some (aI a):=by rw [fw,List.getElem?_map,hn];rfl
  have fl:cD (aI a)=true:=rfl
  simp only [af,hf,Sl.isBr,Bool.false_and,Bool.false_eq_true,nD,look,Sl.val,gT,iF,if_false,Option.bind_some,hg,hj,Option.any_some,q,Option.map_some]
theorem rF {E:List Sl} {f:aS} {j:Nat} {W:List Nat} (hf:f E=some (.al j,E)) (hj:E[j]? =some (.ow (W.map aI))) (hl:W.length≤1000000):bI cS (ad false f ak) E=some (.sh (.int (W.length:Int)),E):=by
  simp only [bI,ad,hf,Sl.isBr,Bool.false_and,Bool.false_eq_true,ak,Option.map_some,if_false,Option.bind_some,cS,cr,look,hj,Sl.val,List.length_map]
theorem vC (ns:List Int) {U:List Nat} (hU:U.length≤26) (h1:1≤U.length) (x1 x3 x4 x5 x6 x7 a9 a10 x11 x12 x13:Sl) (k m:Nat) (K:List (List Nat)) (hK:K.length≤1000):∃O,Wds U m O∧(fF (.tuple [.int (k:Int),ah m]) [.sh (.list (ns.map .int)),x1, .ow (U.map aI),x3,x4,x5,x6,x7, .ow (K.map ae),a9,a10,x11,x12,x13]).bind fH=some ([.sh (.list (ns.map .int)),x1, .ow (U.map aI),x3,x4,x5,x6,x7, .ow ((K++O).map ae), .sh (.int (k:Int)), .sh (.int (m:Int)),x11,x12,x13], .nx):=by
  have tg:fF (.tuple [.int (k:Int),ah m]) [.sh (.list (ns.map .int)),x1, .ow (U.map aI),x3,x4,x5,x6,x7, .ow (K.map ae),a9,a10,x11,x12,x13]=some [.sh (.list (ns.map .int)),x1, .ow (U.map aI),x3,x4,x5,x6,x7, .ow (K.map ae), .sh (.int (k:Int)), .sh (.int (m:Int)),x11,x12,x13]:=rfl
  have lm:=(NhFam.dZ U m).length_le
  have sm:NhFam.le (NhFam.aV U m) U:=fun x hx=>(NhFam.dZ U m).subset hx
  have c1:∀Z:List (List Nat),am bV (ad false (aa 10) (ad false (aa 2) ak)) [.sh (.list (ns.map .int)),x1, .ow (U.map aI),x3,x4,x5,x6,x7, .ow (Z.map ae), .sh (.int (k:Int)), .sh (.int (m:Int)),x11,x12,x13]=some (.sh (ae (NhFam.aV U m)),[.sh (.list (ns.map .int)),x1, .ow (U.map aI),x3,x4,x5,x6,x7, .ow (Z.map ae), .sh (.int (k:Int)), .sh (.int (m:Int)),x11,x12,x13]):=fun Z=>aD (ss:=[.sh (.int (m:Int)), .al 2]) rfl rfl (kB U m (by omega))
  have c2:=qu ns 8 8 k rfl [.sh (.list (ns.map .int)),x1, .ow (U.map aI),x3,x4,x5,x6,x7, .ow (K.map ae), .sh (.int (k:Int)), .sh (.int (m:Int)),x11,x12,x13] rfl rfl
  have c3:=aD (c:=a_) (wY (c1 K) c2) rfl (g8 (NhFam.aV U m) (ns.getD (8+k) 0) (by omega))
  have ap:=rE (K:=K) (i:=8) c3 rfl (by omega)
  simp only [List.set_cons_succ,List.set_cons_zero] at ap
  have wl:=rD (NhFam.aV U m) (ns.getD (8+k) 0)
  have g1:NhFam.le (wrt (NhFam.aV U m) (ns.getD (8+k) 0)) U∧(wrt (NhFam.aV U m) (ns.getD (8+k) 0)).length≤90∧NhFam.le (NhFam.aV U m) (wrt (NhFam.aV U m) (ns.getD (8+k) 0)):=⟨fun x hx=>sm x (wrt_mem.mp hx),by omega,fun x hx=>wrt_mem.mpr hx⟩
  generalize hT:wrt (NhFam.aV U m) (ns.getD (8+k) 0)=t1 at ap g1
  have e1:∀x,x∈t1↔x∈NhFam.aV U m:=fun x=>by rw [←hT];exact wrt_mem
  have c4:=qu ns 8 8 k rfl [.sh (.list (ns.map .int)),x1, .ow (U.map aI),x3,x4,x5,x6,x7, .ow ((K++[t1]).map ae), .sh (.int (k:Int)), .sh (.int (m:Int)),x11,x12,x13] rfl rfl
  have q4:=oO (eJ c4 (g:=pC (.int 3)) (y:=3) rfl (by decide)) (g:=pC (.int 0)) (y:=0) rfl
  rw [tg,Option.bind_some,fH,aC ap]
  by_cases h:ns.getD (8+k) 0 % 3=0
  · rw [decide_eq_true h] at q4
    have l5:=rF (E:=[.sh (.list (ns.map .int)),x1, .ow (U.map aI),x3,x4,x5,x6,x7, .ow ((K++[t1]).map ae), .sh (.int (k:Int)), .sh (.int (m:Int)),x11,x12,x13]) (f:=aa 2) (j:=2) (W:=U) rfl rfl (by omega)
    have m5:=eJ (f:=aa 9) (x:=(k:Int)) rfl l5 (by omega)
    rw [show (k:Int) % (U.length:Int)=((k % U.length:Nat):Int) by omega] at m5
    have lt:=Nat.mod_lt k (show 0 < U.length by omega)
    obtain ⟨a,ha⟩:∃a,U[k % U.length]? =some a:=⟨_,List.getElem?_eq_getElem lt⟩
    have i5:af nD false (aa 2) (af cJ false (aa 9) (bI cS (ad false (aa 2) ak))) [.sh (.list (ns.map .int)),x1, .ow (U.map aI),x3,x4,x5,x6,x7, .ow ((K++[t1]).map ae), .sh (.int (k:Int)), .sh (.int (m:Int)),x11,x12,x13]=some (.sh (ae [a]),[.sh (.list (ns.map .int)),x1, .ow (U.map aI),x3,x4,x5,x6,x7, .ow ((K++[t1]).map ae), .sh (.int (k:Int)), .sh (.int (m:Int)),x11,x12,x13]):=zw (j:=2) (W:=U) rfl rfl m5 ha
    have d5:=nz (c1 (K++[t1])) i5 (by simp only [List.length_cons,List.length_nil];omega)
    have c6:=qu ns 9 9 k rfl [.sh (.list (ns.map .int)),x1, .ow (U.map aI),x3,x4,x5,x6,x7, .ow ((K++[t1]).map ae), .sh (.int (k:Int)), .sh (.int (m:Int)),x11,x12,x13] rfl rfl
    have f6:=fY c6 (g:=pC (.int 3)) (y:=3) rfl (by decide)
    have c7:=aD (c:=a_) (wY d5 f6) rfl (g8 (NhFam.aV U m++[a]) (ns.getD (9+k) 0 / 3) (by simp only [List.length_append,List.length_cons,List.length_nil];omega))
    have ap2:=rE (K:=K++[t1]) (i:=8) c7 rfl (by simp only [List.length_append,List.length_cons,List.length_nil];omega)
    simp only [List.set_cons_succ,List.set_cons_zero] at ap2
    have wl2:=rD (NhFam.aV U m++[a]) (ns.getD (9+k) 0 / 3)
    simp only [List.length_append,List.length_cons,List.length_nil] at wl2
    have aU:a∈U:=List.mem_of_getElem? ha
    refine ⟨[t1,wrt (NhFam.aV U m++[a]) (ns.getD (9+k) 0 / 3)],⟨fun t ht=>?_,⟨t1,by simp,e1⟩,by simp⟩,?_⟩
    · rcases List.mem_cons.mp ht with q | q
      · rw [q];exact g1
      · rw [List.mem_singleton.mp q]
        refine ⟨fun x hx=>?_,by omega,fun x hx=>wrt_mem.mpr (List.mem_append.mpr (.inl hx))⟩
        rcases List.mem_append.mp (wrt_mem.mp hx) with z | z
        · exact sm x z
        · rw [List.mem_singleton.mp z];exact aU
    · rw [show K++[t1,wrt (NhFam.aV U m++[a]) (ns.getD (9+k) 0 / 3)]=(K++[t1])++[wrt (NhFam.aV U m++[a]) (ns.getD (9+k) 0 / 3)] by simp]
      exact iw q4 ap2
  · rw [decide_eq_false h] at q4
    exact ⟨[t1],⟨fun t ht=>by rw [List.mem_singleton.mp ht];exact g1,⟨t1,by simp,e1⟩,by simp⟩,fL q4 rfl⟩
structure Wrd (U:List Nat) (M:List Nat) (O:List (List Nat)):Prop where
  big:∀t∈O,NhFam.le t U∧t.length≤90∧∃m∈M,NhFam.le (NhFam.aV U m) t
  one:∀m∈M,∃t∈O,∀x,x∈t↔x∈NhFam.aV U m
  len:O.length≤2*M.length
theorem o6 (ns:List Int) {U:List Nat} (hU:U.length≤26) (h1:1≤U.length) (x1 x3 x4 x5 x6 x7 x11 x12 x13:Sl):∀(M:List Nat) (k:Nat) (K:List (List Nat)) (a9 a10:Sl),K.length+2*M.length≤1000→∃O a9' a10',Wrd U M O∧cR fF fH (ga k (M.map ah)) [.sh (.list (ns.map .int)),x1, .ow (U.map aI),x3,x4,x5,x6,x7, .ow (K.map ae),a9,a10,x11,x12,x13]=some ([.sh (.list (ns.map .int)),x1, .ow (U.map aI),x3,x4,x5,x6,x7, .ow ((K++O).map ae),a9',a10',x11,x12,x13], .nx)
  | [],k,K,a9,a10,_=>⟨[],a9,a10,⟨(fun _ h=>by cases h),(fun _ h=>by cases h),by simp⟩,by rw [List.append_nil];rfl⟩
  | m::M,k,K,a9,a10,hl=>by
    simp only [List.length_cons] at hl
    obtain ⟨O,w,st⟩:=vC ns hU h1 x1 x3 x4 x5 x6 x7 a9 a10 x11 x12 x13 k m K (by omega)
    have wl:=w.len
    obtain ⟨O2,b9,b10,w2,e⟩:=o6 ns hU h1 x1 x3 x4 x5 x6 x7 x11 x12 x13 M (k+1) (K++O) (.sh (.int (k:Int))) (.sh (.int (m:Int))) (by rw [List.length_append];omega)
    refine ⟨O++O2,b9,b10,⟨fun t ht=>?_,fun n hn=>?_,by have:=w2.len;rw [List.length_append,List.length_cons];omega⟩,?_⟩
    · rcases List.mem_append.mp ht with q | q
      · have:=w.big t q;exact ⟨this.1,this.2.1,m,List.mem_cons_self ..,this.2.2⟩
      · obtain ⟨a,b,n,hn,c⟩:=w2.big t q;exact ⟨a,b,n,List.mem_cons_of_mem _ hn,c⟩
    · rcases List.mem_cons.mp hn with q | q
      · obtain ⟨t,ht,hx⟩:=w.one;exact ⟨t,List.mem_append.mpr (.inl ht),by rw [q];exact hx⟩
      · obtain ⟨t,ht,hx⟩:=w2.one n q;exact ⟨t,List.mem_append.mpr (.inr ht),hx⟩
    · rw [List.map_cons,ga,cR,st,←List.append_assoc]
      exact e
theorem tM (L M:List (List Nat)) (hn:L.Nodup) (hm:∀w∈L,w∈M):L.length≤M.length:=by
  induction L generalizing M with
  | nil=>simp
  | cons a L ih=>
    have hn':=List.nodup_cons.mp hn
    have:=ih (M.erase a) hn'.2 fun w hw=>(List.mem_erase_of_ne (a:=w) (b:=a) (fun e=>hn'.1 (by rw [←e];exact hw))).mpr (hm w (List.mem_cons_of_mem _ hw))
    rw [List.length_erase_of_mem (hm a (List.mem_cons_self ..))] at this
    have pos:0 < M.length:=List.length_pos_of_mem (hm a (List.mem_cons_self ..))
    simp only [List.length_cons]
    omega
theorem ma:∀U:List Nat,NhFam.aV U 0=[]
  | []=>rfl
  | a::U=>by simp [NhFam.aV,ma U]
theorem rG {U:List Nat} (nd:U.Nodup) {m:Nat} (h:zt U.length m):NhFam.aV U m≠[]:=fun z=>by
  have:=NhFam.ko nd h.2 (show 0 < 2 ^ U.length from Nat.pos_of_ne_zero (by have:=h.2;omega)) (z.trans (ma U).symm)
  have:=h.1
  omega
structure Rl (U M:List Nat) (L:List (List Nat)):Prop where
  u:Uni U
  u1:1≤U.length
  m:∀k∈M,zt U.length k
  m1:1≤M.length∧M.length≤9
  t:NhFam.Told U L (NhFam.up (M.map (NhFam.aV U)))
section
variable {U M:List Nat} {L:List (List Nat)}
theorem Rl.all (r:Rl U M L):∀v∈M.map (NhFam.aV U),NhFam.Sub U v∧v≠[]:=fun v hv=>by
  obtain ⟨k,hk,rfl⟩:=List.mem_map.mp hv
  exact ⟨NhFam.kn r.u.srt k,rG r.u.srt.nodup (r.m k hk)⟩
theorem Rl.mem (r:Rl U M L):∀v∈L,v∈M.map (NhFam.aV U):=fun v hv=>((NhFam.p_ fun v hv=>(r.all v hv).1).mp ((r.t.mem v).mp hv)).1
theorem Rl.ne (r:Rl U M L):∀v∈L,v≠[]:=fun v hv=>(r.all v (r.mem v hv)).2
theorem Rl.nil (r:Rl U M L):L≠[]:=fun z=>by
  obtain ⟨k,hk⟩:=List.exists_mem_of_ne_nil M (fun z=>by have:=r.m1.1;rw [z] at this;simp at this)
  have hs:=(r.all _ (List.mem_map.mpr ⟨k,hk,rfl⟩)).1
  obtain ⟨v,hv,_⟩:=(r.t.up_iff (NhFam.q_ U _) hs).mpr ⟨_,List.mem_map.mpr ⟨k,hk,rfl⟩,NhFam.le.refl _⟩
  rw [z] at hv
  cases hv
theorem Rl.len (r:Rl U M L):L.length≤9:=by
  have:=tM L (M.map (NhFam.aV U)) (NhFam.jk r.t.srt) r.mem
  rw [List.length_map] at this
  have:=r.m1.2
  omega
theorem Rl.wrt (r:Rl U M L):Wrt U L:=⟨fun v hv=>(r.t.sub v hv).2,fun v hv=>by have:=r.u.short (r.t.sub v hv);omega,by have:=r.len;omega⟩
theorem Rl.least (r:Rl U M L):NhFam.cW (dD L)=L:=by
  rw [tL r.u r.t.sub]
  exact qr r.t (NhFam.q_ U _)
theorem Rl.azL (r:Rl U M L):∀w∈L,∀a∈w,az a:=fun w hw=>r.u.azw (r.t.sub w hw)
theorem Rl.read (r:Rl U M L):aG [ae (jn L)]=some (.ow (L.map ae)):=by
  have:=iY r.u r.wrt r.nil r.ne
  rwa [r.least] at this
theorem Rl.words (r:Rl U M L) {W O:List (List Nat)} (w:Wrd U M O) (h:∀t,t∈W↔t∈O) (hl:W.length≤190):Wrt U W∧W≠[]∧(∀t∈W,t≠[])∧NhFam.cW (dD W)=L:=by
  have wr:Wrt U W:=⟨fun t ht=>(w.big t ((h t).mp ht)).1,fun t ht=>by have:=(w.big t ((h t).mp ht)).2.1;omega,hl⟩
  refine ⟨wr,fun z=>?_,fun t ht z=>?_,?_⟩
  · obtain ⟨k,hk⟩:=List.exists_mem_of_ne_nil M (fun z=>by have:=r.m1.1;rw [z] at this;simp at this)
    obtain ⟨t,ht,_⟩:=w.one k hk
    have:=(h t).mpr ht
    rw [z] at this
    cases this
  · obtain ⟨_,_,m,hm,l⟩:=w.big t ((h t).mp ht)
    have n:=rG r.u.srt.nodup (r.m m hm)
    obtain ⟨x,hx⟩:=List.exists_mem_of_ne_nil _ n
    have:=l x hx
    rw [z] at this
    cases this
  · refine (NhFam.jE (wr.sets r.u)).uniq r.t fun v hv=>⟨?_,?_⟩
    · rintro ⟨s,hs,l⟩
      obtain ⟨t,ht,rfl⟩:=List.mem_map.mp hs
      obtain ⟨tU,_,m,hm,lm⟩:=w.big t ((h t).mp ht)
      exact ⟨_,List.mem_map.mpr ⟨m,hm,rfl⟩,fun x hx=>l x (inOrd_mem.mpr ⟨ju (r.u.lt x (tU x (lm x hx))),lm x hx⟩)⟩
    · rintro ⟨s,hs,l⟩
      obtain ⟨m,hm,rfl⟩:=List.mem_map.mp hs
      obtain ⟨t,ht,hx⟩:=w.one m hm
      exact ⟨_,List.mem_map.mpr ⟨t,(h t).mpr ht,rfl⟩,fun x hx'=>l x ((hx x).mp (inOrd_mem.mp hx').2)⟩
theorem Rl.check (r:Rl U M L):bv [.list (L.map ae)]=some (.sh .none):=by
  obtain ⟨w,L',e⟩:∃w L',L=w::L':=by
    have:=r.nil
    cases L with
    | nil=>exact absurd rfl this
    | cons w L'=>exact ⟨w,L',rfl⟩
  have hw:w≠[]:=r.ne w (by rw [e];exact List.mem_cons_self ..)
  have ll:=r.len
  have n0:¬((L.length:Int)=0):=by rw [e];simp;omega
  have lb:L.length≤1000000:=by omega
  have g:bv [.list (L.map ae)]=(dv [.sh (.list (L.map ae))]).bind fun a=>match a.2 with | .rt r=>cU r | .nx=>some (.sh .none) | _=>none:=rfl
  have s1:cy (gd (bq (dN (h8 (fi .list) (aa 0)))) (cP (af i6 false (bI cS (ad false (aa 0) ak)) (pC (.int 0))))) eH ba [.sh (.list (L.map ae))]=some ([.sh (.list (L.map ae))], .nx):=by
    simp only [cy,gd,bq,dN,h8,aa,List.getElem?_cons_zero,look,Sl.val,fi,Ty.is,uu,Option.map_some,Option.bind_some,iI,Bool.not_true,cP,af,bI,ad,Sl.isBr,Bool.false_and,Bool.false_eq_true,ak,if_false,cS,pC,i6,eY,cr,List.length_map,jN,n0,decide_false,ba]
  have nr:=kF r.u r.wrt
  rw [r.least] at nr
  have c:am aA (ad false (aa 0) ak) [.sh (.list (L.map ae))]=some (.ow (L.map ae),[.sh (.list (L.map ae))]):=aD (ss:=[.sh (.list (L.map ae))]) rfl rfl nr
  have s2:cy (cP (af jM false (am aA (ad false (aa 0) ak)) (aa 0))) eH ba [.sh (.list (L.map ae))]=some ([.sh (.list (L.map ae))], .nx):=fL (lZ (L:=L) c rfl rfl rfl r.azL) rfl
  have s3:cy (cP (af i6 false (af nD false (aa 0) (pC (.int 0))) (pC (.str "")))) eH ba [.sh (.list (L.map ae))]=some ([.sh (.list (L.map ae))], .nx):=by
    have i:af nD false (aa 0) (pC (.int 0)) [.sh (.list (L.map ae))]=some (.sh (ae w),[.sh (.list (L.map ae))]):=by
      rw [e,List.map_cons]
      unfold ae
      simp only [af,aa,List.getElem?_cons_zero,Sl.isBr,Bool.false_and,Bool.false_eq_true,pC,nD,look,Sl.val,gT,iF,Option.bind_some,if_false,Au,Option.map_some]
    have k:=zv i
    rw [decide_eq_false hw] at k
    exact fL k rfl
  rw [g,dv,aC s1,aC s2,s3]
  rfl
end
theorem nC (ns:List Int) (k:Nat) (E:List Sl) (hE:E[0]? =some (.sh (.list (ns.map .int)))):am av (ad false (aa 0) (ad false (pC (.int (k:Int))) ak)) E=some (.sh (.int (ns.getD k 0)),E):=by
  have v0:aa 0 E=some (.sh (.list (ns.map .int)),E):=by simp only [aa,hE,Option.bind_some]
  exact aD (ss:=[.sh (.list (ns.map .int)), .sh (.int (k:Int))]) (wY v0 rfl) rfl (gR ns k)
theorem xa {E:List Sl} {f:aS} {j:Nat} {L:List (List Nat)} (hf:f E=some (.al j,E)) (hj:E[j]? =some (.ow (L.map ae))):j0 f E=some (.ow (L.map ae),E):=by
  have fl:=dC L
  have lk:PL.look E (.al j)=some (.list (L.map ae)):=by simp only [PL.look,hj];rfl
  simp only [j0,hf,Option.bind_some,lk,fl,Bool.or_true,if_true]
theorem xb (ns:List Int):∃n:Nat,1≤n∧n≤26∧∀r:dE,aT (aK 1 (af bj false (pC (.int 1)) (af cJ false (am av (ad false (aa 0) (ad false (pC (.int 1)) ak))) (pC (.int 6))))) (aT (cy (cP (af i6 false (af cJ false (af c_ false (am av (ad false (aa 0) (ad false (pC (.int 1)) ak))) (pC (.int 6))) (pC (.int 8))) (pC (.int 3)))) (aK 1 (af bj false (pC (.int 11)) (af cJ false (af c_ false (am av (ad false (aa 0) (ad false (pC (.int 1)) ak))) (pC (.int 48))) (pC (.int 16))))) ba) r) [.sh (.list (ns.map .int)), .no, .no, .no, .no, .no, .no, .no, .no, .no, .no, .no, .no, .no]=r [.sh (.list (ns.map .int)), .sh (.int (n:Int)), .no, .no, .no, .no, .no, .no, .no, .no, .no, .no, .no, .no]:=by
  obtain ⟨z,hz⟩:∃z,ns.getD 1 0=z:=⟨_,rfl⟩
  have at1:∀E:List Sl,E[0]? =some (.sh (.list (ns.map .int)))→am av (ad false (aa 0) (ad false (pC (.int 1)) ak)) E=some (.sh (.int z),E):=fun E h=>by
    rw [←hz]
    exact nC ns 1 E h
  have s0:=c0 (i:=1) (cI (g:=pC (.int 1)) (x:=1) rfl (eJ (at1 [.sh (.list (ns.map .int)), .no, .no, .no, .no, .no, .no, .no, .no, .no, .no, .no, .no, .no] rfl) (g:=pC (.int 6)) (y:=6) rfl (by decide))) (show 1 < 14 by decide)
  simp only [List.set_cons_succ,List.set_cons_zero] at s0
  have z0:=Int.emod_nonneg z (show (6:Int)≠0 by decide)
  have z1:=Int.emod_lt_of_pos z (show (0:Int) < 6 by decide)
  have y0:=Int.emod_nonneg (z / 48) (show (16:Int)≠0 by decide)
  have y1:=Int.emod_lt_of_pos (z / 48) (show (0:Int) < 16 by decide)
  have q:=oO (eJ (fY (at1 [.sh (.list (ns.map .int)), .sh (.int (1+z % 6)), .no, .no, .no, .no, .no, .no, .no, .no, .no, .no, .no, .no] rfl) (g:=pC (.int 6)) (y:=6) rfl (by decide)) (g:=pC (.int 8)) (y:=8) rfl (by decide)) (g:=pC (.int 3)) (y:=3) rfl
  by_cases h:z / 6 % 8=3
  · rw [decide_eq_true h] at q
    have s1:=c0 (i:=1) (cI (g:=pC (.int 11)) (x:=11) rfl (eJ (fY (at1 [.sh (.list (ns.map .int)), .sh (.int (1+z % 6)), .no, .no, .no, .no, .no, .no, .no, .no, .no, .no, .no, .no] rfl) (g:=pC (.int 48)) (y:=48) rfl (by decide)) (g:=pC (.int 16)) (y:=16) rfl (by decide))) (show 1 < 14 by decide)
    simp only [List.set_cons_succ,List.set_cons_zero] at s1
    have i1:=iw (b:=ba) q s1
    obtain ⟨n,hn⟩:∃n:Nat,11+z / 48 % 16=(n:Int):=⟨(11+z / 48 % 16).toNat,by omega⟩
    rw [hn] at i1
    exact ⟨n,by omega,by omega,fun r=>by rw [aC s0,aC i1]⟩
  · rw [decide_eq_false h] at q
    obtain ⟨n,hn⟩:∃n:Nat,1+z % 6=(n:Int):=⟨(1+z % 6).toNat,by omega⟩
    have i1:=fL (a:=aK 1 (af bj false (pC (.int 11)) (af cJ false (af c_ false (am av (ad false (aa 0) (ad false (pC (.int 1)) ak))) (pC (.int 48))) (pC (.int 16))))) (b:=ba) q (r:=some (_, .nx)) rfl
    rw [hn] at s0 i1
    exact ⟨n,by omega,by omega,fun r=>by rw [aC s0,aC i1]⟩
theorem zz {E:List Sl} {f g:aS} {u:List Nat} (hf:f E=some (.sh (ae u),E)) (hg:g E=some (.sh (ae u),E)):cP (af jM false f g) E=some (false,E):=by
  have q:=xH u u
  unfold ae at hf hg
  simp only [cP,af,hf,Sl.isBr,Bool.false_and,Bool.false_eq_true,jM,eY,look,Sl.val,if_false,Option.bind_some,hg,q,decide_true,Option.map_some,Bool.not_true]
theorem vD:∀(F:List (List Nat)) (x:Sl),cC gw bG eW (F.map ae) [x]=some (F.map fun _=>PyData.bool true)
  | [],x=>rfl
  | w::F,x=>by
    have e:eW [.sh (ae w)]=some (.sh (.bool true),[.sh (ae w)]):=by
      unfold ae
      simp only [eW,h8,aa,List.getElem?_cons_zero,look,Sl.val,fi,Ty.is,uu,Option.map_some,Option.bind_some]
    exact fV (E1:=[.sh (ae w)]) rfl e (vD F _)
theorem fe {α:Type} (f:α→Bool):∀l:List α,e9 (l.map fun a=>PyData.bool (f a))=some (l.map f)
  | []=>rfl
  | a::l=>by
    show (e9 (l.map fun a=>PyData.bool (f a))).map (f a:: ·)=_
    rw [fe f l]
    rfl
theorem gS {α:Type} (f:α→Bool):∀l:List α,be (l.map fun a=>PyData.bool (f a))=true
  | []=>rfl
  | a::l=>by show (cD (.bool (f a))&&_)=true;rw [gS f l];rfl
theorem BC (w:List Nat) (a:Nat):gy [.sh (.str ⟨#[a]⟩), .sh (ae w)]=some (.sh (.bool (decide (a∈w))),[.sh (.str ⟨#[a]⟩), .sh (ae w)]):=by
  have o:=re w a
  simp only [gy,af,aa,ae,List.getElem?_cons_zero,Sl.isBr,Bool.false_and,Bool.false_eq_true,o9,eY,look,Sl.val,if_false,xA,Option.bind_some,List.getElem?_cons_succ,o,Bool.not_not,Option.map_some]
theorem xI (w:List Nat):∀(v:List Nat) (x:Sl),cC iT bG gy (v.map aI) [x, .sh (ae w)]=some (v.map fun a=>PyData.bool (decide (a∈w)))
  | [],x=>rfl
  | a::v,x=>by
    have t:iT (aI a) [x, .sh (ae w)]=some [.sh (aI a), .sh (ae w)]:=rfl
    exact fV t (BC w a) (xI w v _)
theorem BD (w v:List Nat) (hv:v.length≤1000):eB [.sh (ae v), .sh (ae w)]=some (.sh (.bool (decide (NhFam.le v w))),[.sh (ae v), .sh (ae w)]):=by
  have it:cV (aa 0) [.sh (ae v), .sh (ae w)]=some (v.map aI,[.sh (ae v), .sh (ae w)]):=by
    simp only [cV,aa,ae,List.getElem?_cons_zero,frz,Option.bind_some,rf]
  have k:=fc (js:=[none,some 1]) it (xI w v .no) (gS _ v) (by rw [List.length_map];omega)
  have bo:=fe (fun a=>decide (a∈w)) v
  have al:(v.map fun a=>decide (a∈w)).all id=decide (NhFam.le v w):=by
    rw [List.all_map]
    exact Bool.eq_iff_iff.mpr (by rw [decide_eq_true_iff];simp [NhFam.le])
  unfold eB
  simp only [bI,AJ k,Option.bind_some,Option.map_some,cr,PL.look,Sl.val,pO,bo,al]
theorem xJ (w:List Nat):∀(F:List (List Nat)) (x:Sl),(∀v∈F,v.length≤1000)→cC eX bG eB (F.map ae) [x, .sh (ae w)]=some (F.map fun v=>PyData.bool (decide (NhFam.le v w)))
  | [],x,_=>rfl
  | v::F,x,h=>by
    have t:eX (ae v) [x, .sh (ae w)]=some [.sh (ae v), .sh (ae w)]:=rfl
    exact fV t (BD w v (h v (List.mem_cons_self ..))) (xJ w F _ fun u hu=>h u (List.mem_cons_of_mem _ hu))
theorem xc {E:List Sl} {f g:aS} {j c:Nat} {O:List (List Nat)} (hf:f E=some (.al j,E)) (hj:E[j]? =some (.ow (O.map ae))) (hg:g E=some (.sh (.int (c:Int)),E)):fj false f (cE g) cQ E=some (.ow ((O.drop c).map ae),E)∧fj false f cQ (cE g) E=some (.ow ((O.take c).map ae),E):=by
  have d:=lB O (k:=(c:Int)) (by omega)
  have t:=sk O (k:=(c:Int)) (by omega)
  rw [Int.toNat_natCast] at d t
  exact ⟨by simp only [fj,hf,Sl.isBr,Bool.false_and,Bool.false_eq_true,cE,look,Sl.val,cQ,gT,iF,Option.bind_some,if_false,hg,hj,Option.any_some,Bool.not_false,j4,d,Bool.true_or,if_true],by simp only [fj,hf,Sl.isBr,Bool.false_and,Bool.false_eq_true,cQ,cE,look,Sl.val,gT,iF,Option.bind_some,if_false,hg,hj,Option.any_some,Bool.not_false,j4,t,Bool.true_or,if_true]⟩
theorem xg {E:List Sl} {f g:aS} {A B:List (List Nat)} (hf:f E=some (.ow (A.map ae),E)) (hg:g E=some (.ow (B.map ae),E)) (hl:A.length+B.length≤1000000):af bj false f g E=some (.ow ((A++B).map ae),E):=by
  simp only [af,hf,Sl.isBr,Bool.false_and,Bool.false_eq_true,bj,look,Sl.val,gT,iF,if_false,Option.bind_some,hg,Bool.not_false,Bool.true_or,Bool.and_true,List.length_map,hl,decide_true,if_true,List.map_append]
theorem xh {E:List Sl} {f:aS} {j:Nat} {O:List (List Nat)} (hf:f E=some (.al j,E)) (hj:E[j]? =some (.ow (O.map ae))) (hl:O.length≤1000000):bI cS (ad false f ak) E=some (.sh (.int (O.length:Int)),E):=by
  simp only [bI,ad,hf,Sl.isBr,Bool.false_and,Bool.false_eq_true,ak,Option.map_some,if_false,Option.bind_some,cS,cr,look,hj,Sl.val,List.length_map]
theorem zA {E:List Sl} {f:aS} {j:Nat} {W:List Nat} (hf:f E=some (.al j,E)) (hj:E[j]? =some (.ow (W.map aI))):fj false f (cE (pC (.int 1))) cQ E=some (.ow ((W.drop 1).map aI),E):=by
  have c:=lB W (k:=1) (by decide)
  rw [show (1:Int).toNat=1 from rfl] at c
  simp only [fj,hf,Sl.isBr,Bool.false_and,Bool.false_eq_true,cE,pC,look,Sl.val,Option.bind_some,cQ,gT,iF,if_false,hj,Option.any_some,Bool.not_false,j4,c,Bool.true_or,if_true]
theorem AL {E:List Sl} {f:aS} {w:List Nat} (hf:f E=some (.ow (w.map aI),E)) (hl:w.length≤1000000):dI "" f E=some (.sh (ae w),E):=by
  have so:=gA w
  have l:=nj w
  simp only [dI,h8,lE,hf,Option.bind_some,PL.look,Sl.val,so,l,hl,if_true,Option.map_some,ku,ae]
theorem zB (ns:List Int) (hl:ns.length≤63):iv [.list (ns.map .int)]=some (.sh (.bool true)):=by
  obtain ⟨n,n1,n26,st⟩:=xb ns
  have a2:=nC ns 0 [.sh (.list (ns.map .int)), .sh (.int (n:Int)), .no, .no, .no, .no, .no, .no, .no, .no, .no, .no, .no, .no] rfl
  obtain ⟨w,ew,lw,aw,nd⟩:=zn (ns.getD 0 0) n n26
  have c2:am bp (ad false (am av (ad false (aa 0) (ad false (pC (.int 0)) ak))) (ad false (aa 1) ak)) [.sh (.list (ns.map .int)), .sh (.int (n:Int)), .no, .no, .no, .no, .no, .no, .no, .no, .no, .no, .no, .no]=some (.ow (w.map aI),[.sh (.list (ns.map .int)), .sh (.int (n:Int)), .no, .no, .no, .no, .no, .no, .no, .no, .no, .no, .no, .no]):=aD (ss:=[.sh (.int (ns.getD 0 0)), .sh (.int (n:Int))]) (wY a2 rfl) rfl ew
  have p2:=tH c2 (by omega) nd aw
  have cnt:=oV nd aw
  have u:Uni (cf w):=⟨jv w,fun a ha=>aw a (inOrd_mem.mp ha).2,by omega⟩
  have uln:(cf w).length=n:=by omega
  generalize cf w=U at p2 u uln
  have s2:aK 2 (iL (am bp (ad false (am av (ad false (aa 0) (ad false (pC (.int 0)) ak))) (ad false (aa 1) ak)))) [.sh (.list (ns.map .int)), .sh (.int (n:Int)), .no, .no, .no, .no, .no, .no, .no, .no, .no, .no, .no, .no]=some ([.sh (.list (ns.map .int)), .sh (.int (n:Int)), .ow (U.map aI), .no, .no, .no, .no, .no, .no, .no, .no, .no, .no, .no], .nx):=fX (i:=2) p2 (show 2 < 14 by decide)
  obtain ⟨M,m1,hM,em⟩:=nv ns 2 n (by decide) n1 (by omega)
  have l3:=rF (E:=[.sh (.list (ns.map .int)), .sh (.int (n:Int)), .ow (U.map aI), .no, .no, .no, .no, .no, .no, .no, .no, .no, .no, .no]) (f:=aa 2) (j:=2) (W:=U) rfl rfl (by omega)
  rw [uln] at l3
  have a3:ad false (aa 0) (ad false (pC (.int 2)) (ad false (bI cS (ad false (aa 2) ak)) (ad false (pC (.int 9)) ak))) [.sh (.list (ns.map .int)), .sh (.int (n:Int)), .ow (U.map aI), .no, .no, .no, .no, .no, .no, .no, .no, .no, .no, .no]=some ([.sh (.list (ns.map .int)), .sh (.int 2), .sh (.int (n:Int)), .sh (.int 9)],[.sh (.list (ns.map .int)), .sh (.int (n:Int)), .ow (U.map aI), .no, .no, .no, .no, .no, .no, .no, .no, .no, .no, .no]):=by
    generalize bI cS (ad false (aa 2) ak)=f at l3
    simp only [ad,ak,l3,aa,pC,List.getElem?_cons_zero,Option.bind_some,Option.map_some,Bool.false_and,Bool.false_eq_true,if_false]
  have s3:aK 3 (am cq (ad false (aa 0) (ad false (pC (.int 2)) (ad false (bI cS (ad false (aa 2) ak)) (ad false (pC (.int 9)) ak))))) [.sh (.list (ns.map .int)), .sh (.int (n:Int)), .ow (U.map aI), .no, .no, .no, .no, .no, .no, .no, .no, .no, .no, .no]=some ([.sh (.list (ns.map .int)), .sh (.int (n:Int)), .ow (U.map aI), .ow (M.map ah), .no, .no, .no, .no, .no, .no, .no, .no, .no, .no], .nx):=fX (i:=3) (aD a3 rfl em) (show 3 < 14 by decide)
  have dl:(nt M [] M).length≤M.length:=(gC M M [] List.nodup_nil).1.length_le_of_subset fun m hm=>by
    rcases ((gC M M [] List.nodup_nil).2 m).mp hm with q | q
    · cases q
    · exact q.1
  have c4:am bR (ad false (aa 3) ak) [.sh (.list (ns.map .int)), .sh (.int (n:Int)), .ow (U.map aI), .ow (M.map ah), .no, .no, .no, .no, .no, .no, .no, .no, .no, .no]=some (.ow ((nt M [] M).map ah),[.sh (.list (ns.map .int)), .sh (.int (n:Int)), .ow (U.map aI), .ow (M.map ah), .no, .no, .no, .no, .no, .no, .no, .no, .no, .no]):=aD (ss:=[.al 3]) rfl rfl (nu M (by omega))
  have told:=NhFam.qa u.srt (tJ M) (fun m hm=>by rw [uln];exact (hM m hm).2)
  have et:=nn u (nt M [] M) (by omega)
  generalize NhFam.dJ ((nt M [] M).map (NhFam.aV U))=L at told et
  have s4:aK 4 (am bS (ad false (am bR (ad false (aa 3) ak)) (ad false (aa 2) ak))) [.sh (.list (ns.map .int)), .sh (.int (n:Int)), .ow (U.map aI), .ow (M.map ah), .no, .no, .no, .no, .no, .no, .no, .no, .no, .no]=some ([.sh (.list (ns.map .int)), .sh (.int (n:Int)), .ow (U.map aI), .ow (M.map ah), .ow (L.map ae), .no, .no, .no, .no, .no, .no, .no, .no, .no], .nx):=by
    have c:=aD (c:=bS) (ss:=[.ow ((nt M [] M).map ah), .al 2]) (wY c4 (show aa 2 [.sh (.list (ns.map .int)), .sh (.int (n:Int)), .ow (U.map aI), .ow (M.map ah), .no, .no, .no, .no, .no, .no, .no, .no, .no, .no]=some (.al 2,[.sh (.list (ns.map .int)), .sh (.int (n:Int)), .ow (U.map aI), .ow (M.map ah), .no, .no, .no, .no, .no, .no, .no, .no, .no, .no]) from rfl)) rfl et
    exact fX (i:=4) c (show 4 < 14 by decide)
  have r:Rl U M L:=⟨u,by omega,fun m hm=>by rw [uln];exact hM m hm,m1,told⟩
  have ll:=r.len
  have s5:aK 5 (j0 (aa 4)) [.sh (.list (ns.map .int)), .sh (.int (n:Int)), .ow (U.map aI), .ow (M.map ah), .ow (L.map ae), .no, .no, .no, .no, .no, .no, .no, .no, .no]=some ([.sh (.list (ns.map .int)), .sh (.int (n:Int)), .ow (U.map aI), .ow (M.map ah), .ow (L.map ae), .ow (L.map ae), .no, .no, .no, .no, .no, .no, .no, .no], .nx):=fX (i:=5) (xa (j:=4) rfl rfl) (show 5 < 14 by decide)
  have c6:am bQ (ad false (aa 5) ak) [.sh (.list (ns.map .int)), .sh (.int (n:Int)), .ow (U.map aI), .ow (M.map ah), .ow (L.map ae), .ow (L.map ae), .no, .no, .no, .no, .no, .no, .no, .no]=some (.sh (ae (jn L)),[.sh (.list (ns.map .int)), .sh (.int (n:Int)), .ow (U.map aI), .ow (M.map ah), .ow (L.map ae), .ow (L.map ae), .no, .no, .no, .no, .no, .no, .no, .no]):=aD (ss:=[.al 5]) rfl rfl (nw r.wrt.tl r.wrt.len)
  have s6:aK 6 (am bQ (ad false (aa 5) ak)) [.sh (.list (ns.map .int)), .sh (.int (n:Int)), .ow (U.map aI), .ow (M.map ah), .ow (L.map ae), .ow (L.map ae), .no, .no, .no, .no, .no, .no, .no, .no]=some ([.sh (.list (ns.map .int)), .sh (.int (n:Int)), .ow (U.map aI), .ow (M.map ah), .ow (L.map ae), .ow (L.map ae), .sh (ae (jn L)), .no, .no, .no, .no, .no, .no, .no], .nx):=c0 (i:=6) c6 (show 6 < 14 by decide)
  have fl4:=iX r.wrt.tl
  have j7:=kE (E:=[.sh (.list (ns.map .int)), .sh (.int (n:Int)), .ow (U.map aI), .ow (M.map ah), .ow (L.map ae), .ow (L.map ae), .sh (ae (jn L)), .no, .no, .no, .no, .no, .no, .no]) (f:=aa 4) (s:= .al 4) (F:=L) rfl rfl (by omega)
  have s7:(cy (gd (bq (dN (h8 (fi .str) (aa 6)))) (gd (cP (af jM false (aa 6) (dI " " (aa 4)))) (cP (af jM false (aa 5) (aa 4))))) (bi (pC (.bool false))) ba) [.sh (.list (ns.map .int)), .sh (.int (n:Int)), .ow (U.map aI), .ow (M.map ah), .ow (L.map ae), .ow (L.map ae), .sh (ae (jn L)), .no, .no, .no, .no, .no, .no, .no]=some ([.sh (.list (ns.map .int)), .sh (.int (n:Int)), .ow (U.map aI), .ow (M.map ah), .ow (L.map ae), .ow (L.map ae), .sh (ae (jn L)), .no, .no, .no, .no, .no, .no, .no], .nx):=by
    have o1:bq (dN (h8 (fi .str) (aa 6))) [.sh (.list (ns.map .int)), .sh (.int (n:Int)), .ow (U.map aI), .ow (M.map ah), .ow (L.map ae), .ow (L.map ae), .sh (ae (jn L)), .no, .no, .no, .no, .no, .no, .no]=some (false,[.sh (.list (ns.map .int)), .sh (.int (n:Int)), .ow (U.map aI), .ow (M.map ah), .ow (L.map ae), .ow (L.map ae), .sh (ae (jn L)), .no, .no, .no, .no, .no, .no, .no]):=by
      unfold ae
      simp only [bq,dN,h8,aa,List.getElem?_cons_succ,List.getElem?_cons_zero,look,Sl.val,fi,Ty.is,uu,Option.map_some,Option.bind_some,iI,Bool.not_true]
    have o2:=zz (E:=[.sh (.list (ns.map .int)), .sh (.int (n:Int)), .ow (U.map aI), .ow (M.map ah), .ow (L.map ae), .ow (L.map ae), .sh (ae (jn L)), .no, .no, .no, .no, .no, .no, .no]) (f:=aa 6) (u:=jn L) rfl j7
    have o3:=lZ (L:=L) (E:=[.sh (.list (ns.map .int)), .sh (.int (n:Int)), .ow (U.map aI), .ow (M.map ah), .ow (L.map ae), .ow (L.map ae), .sh (ae (jn L)), .no, .no, .no, .no, .no, .no, .no]) (f:=aa 5) (g:=aa 4) (s1:= .al 5) (s2:= .al 4) rfl rfl rfl rfl r.azL
    exact fL (lV o1 (lV o2 o3)) rfl
  have c8:am aG (ad false (aa 6) ak) [.sh (.list (ns.map .int)), .sh (.int (n:Int)), .ow (U.map aI), .ow (M.map ah), .ow (L.map ae), .ow (L.map ae), .sh (ae (jn L)), .no, .no, .no, .no, .no, .no, .no]=some (.ow (L.map ae),[.sh (.list (ns.map .int)), .sh (.int (n:Int)), .ow (U.map aI), .ow (M.map ah), .ow (L.map ae), .ow (L.map ae), .sh (ae (jn L)), .no, .no, .no, .no, .no, .no, .no]):=aD (ss:=[.sh (ae (jn L))]) rfl rfl r.read
  have s8:aK 7 (am aG (ad false (aa 6) ak)) [.sh (.list (ns.map .int)), .sh (.int (n:Int)), .ow (U.map aI), .ow (M.map ah), .ow (L.map ae), .ow (L.map ae), .sh (ae (jn L)), .no, .no, .no, .no, .no, .no, .no]=some ([.sh (.list (ns.map .int)), .sh (.int (n:Int)), .ow (U.map aI), .ow (M.map ah), .ow (L.map ae), .ow (L.map ae), .sh (ae (jn L)), .ow (L.map ae), .no, .no, .no, .no, .no, .no], .nx):=fX (i:=7) c8 (show 7 < 14 by decide)
  have s9:(cy (gd (bq (dN (h8 (fi .list) (aa 7)))) (gd (cP (af jM false (aa 7) (aa 4))) (bq (dN (bI pO (ad false (bt [none] (n6 (aa 7)) gw bG eW) ak)))))) (bi (pC (.bool false))) ba) [.sh (.list (ns.map .int)), .sh (.int (n:Int)), .ow (U.map aI), .ow (M.map ah), .ow (L.map ae), .ow (L.map ae), .sh (ae (jn L)), .ow (L.map ae), .no, .no, .no, .no, .no, .no]=some ([.sh (.list (ns.map .int)), .sh (.int (n:Int)), .ow (U.map aI), .ow (M.map ah), .ow (L.map ae), .ow (L.map ae), .sh (ae (jn L)), .ow (L.map ae), .no, .no, .no, .no, .no, .no], .nx):=by
    have o1:bq (dN (h8 (fi .list) (aa 7))) [.sh (.list (ns.map .int)), .sh (.int (n:Int)), .ow (U.map aI), .ow (M.map ah), .ow (L.map ae), .ow (L.map ae), .sh (ae (jn L)), .ow (L.map ae), .no, .no, .no, .no, .no, .no]=some (false,[.sh (.list (ns.map .int)), .sh (.int (n:Int)), .ow (U.map aI), .ow (M.map ah), .ow (L.map ae), .ow (L.map ae), .sh (ae (jn L)), .ow (L.map ae), .no, .no, .no, .no, .no, .no]):=by simp only [bq,dN,h8,aa,List.getElem?_cons_succ,List.getElem?_cons_zero,look,Sl.val,fi,Ty.is,uu,Option.map_some,Option.bind_some,iI,Bool.not_true]
    have o2:=lZ (L:=L) (E:=[.sh (.list (ns.map .int)), .sh (.int (n:Int)), .ow (U.map aI), .ow (M.map ah), .ow (L.map ae), .ow (L.map ae), .sh (ae (jn L)), .ow (L.map ae), .no, .no, .no, .no, .no, .no]) (f:=aa 7) (g:=aa 4) (s1:= .al 7) (s2:= .al 4) rfl rfl rfl rfl r.azL
    have k:=fc (js:=[none]) (it:=n6 (aa 7)) (E:=[.sh (.list (ns.map .int)), .sh (.int (n:Int)), .ow (U.map aI), .ow (M.map ah), .ow (L.map ae), .ow (L.map ae), .sh (ae (jn L)), .ow (L.map ae), .no, .no, .no, .no, .no, .no]) rfl (vD L .no) (gS (fun _=>true) L) (by rw [List.length_map];omega)
    have bo:=fe (fun _:List Nat=>true) L
    have al:(L.map fun _=>true).all id=true:=by simp
    have o3:bq (dN (bI pO (ad false (bt [none] (n6 (aa 7)) gw bG eW) ak))) [.sh (.list (ns.map .int)), .sh (.int (n:Int)), .ow (U.map aI), .ow (M.map ah), .ow (L.map ae), .ow (L.map ae), .sh (ae (jn L)), .ow (L.map ae), .no, .no, .no, .no, .no, .no]=some (false,[.sh (.list (ns.map .int)), .sh (.int (n:Int)), .ow (U.map aI), .ow (M.map ah), .ow (L.map ae), .ow (L.map ae), .sh (ae (jn L)), .ow (L.map ae), .no, .no, .no, .no, .no, .no]):=by
      simp only [bq,dN,bI,AJ k,Option.bind_some,Option.map_some,cr,PL.look,Sl.val,pO,bo,al,iI,Bool.not_true]
    exact fL (lV o1 (lV o2 o3)) rfl
  have lb:L.length < 1000000:=by omega
  have s10:dG (bn 7 (pC (.str ""))) [.sh (.list (ns.map .int)), .sh (.int (n:Int)), .ow (U.map aI), .ow (M.map ah), .ow (L.map ae), .ow (L.map ae), .sh (ae (jn L)), .ow (L.map ae), .no, .no, .no, .no, .no, .no]=some ([.sh (.list (ns.map .int)), .sh (.int (n:Int)), .ow (U.map aI), .ow (M.map ah), .ow (L.map ae), .ow (L.map ae), .sh (ae (jn L)), .ow (L.map ae++[.str ""]), .no, .no, .no, .no, .no, .no], .nx):=by
    simp only [dG,bn,List.getElem?_cons_succ,List.getElem?_cons_zero,pC,frz,Option.bind_some,List.length_map,lb,List.set_cons_succ,List.set_cons_zero,if_true,Option.map_some]
  have s11:aK 8 (eQ fg) [.sh (.list (ns.map .int)), .sh (.int (n:Int)), .ow (U.map aI), .ow (M.map ah), .ow (L.map ae), .ow (L.map ae), .sh (ae (jn L)), .ow (L.map ae++[.str ""]), .no, .no, .no, .no, .no, .no]=some ([.sh (.list (ns.map .int)), .sh (.int (n:Int)), .ow (U.map aI), .ow (M.map ah), .ow (L.map ae), .ow (L.map ae), .sh (ae (jn L)), .ow (L.map ae++[.str ""]), .ow ([].map ae), .no, .no, .no, .no, .no], .nx):=by
    have z:eQ fg [.sh (.list (ns.map .int)), .sh (.int (n:Int)), .ow (U.map aI), .ow (M.map ah), .ow (L.map ae), .ow (L.map ae), .sh (ae (jn L)), .ow (L.map ae++[.str ""]), .no, .no, .no, .no, .no, .no]=some (.ow ([].map ae),[.sh (.list (ns.map .int)), .sh (.int (n:Int)), .ow (U.map aI), .ow (M.map ah), .ow (L.map ae), .ow (L.map ae), .sh (ae (jn L)), .ow (L.map ae++[.str ""]), .no, .no, .no, .no, .no, .no]):=by simp only [eQ,fg,Option.bind_some,List.length_nil,Nat.reduceLeDiff,if_true,List.map_nil]
    exact fX (i:=8) z (show 8 < 14 by decide)
  obtain ⟨O,a9,a10,wr,e12⟩:=o6 ns (U:=U) (by omega) (by omega) (.sh (.int (n:Int))) (.sh (.list (M.map ah))) (.ow (L.map ae)) (.ow (L.map ae)) (.sh (ae (jn L))) (.ow (L.map ae++[.str ""])) .no .no .no M 0 [] .no .no (by simp only [List.length_nil];omega)
  rw [List.nil_append] at e12
  have s12:fu (mI (aa 3)) fF fH [.sh (.list (ns.map .int)), .sh (.int (n:Int)), .ow (U.map aI), .ow (M.map ah), .ow (L.map ae), .ow (L.map ae), .sh (ae (jn L)), .ow (L.map ae++[.str ""]), .ow ([].map ae), .no, .no, .no, .no, .no]=some ([.sh (.list (ns.map .int)), .sh (.int (n:Int)), .ow (U.map aI), .sh (.list (M.map ah)), .ow (L.map ae), .ow (L.map ae), .sh (ae (jn L)), .ow (L.map ae++[.str ""]), .ow (O.map ae),a9,a10, .no, .no, .no], .nx):=by
    have it:mI (aa 3) [.sh (.list (ns.map .int)), .sh (.int (n:Int)), .ow (U.map aI), .ow (M.map ah), .ow (L.map ae), .ow (L.map ae), .sh (ae (jn L)), .ow (L.map ae++[.str ""]), .ow ([].map ae), .no, .no, .no, .no, .no]=some (ga 0 (M.map ah),[.sh (.list (ns.map .int)), .sh (.int (n:Int)), .ow (U.map aI), .sh (.list (M.map ah)), .ow (L.map ae), .ow (L.map ae), .sh (ae (jn L)), .ow (L.map ae++[.str ""]), .ow ([].map ae), .no, .no, .no, .no, .no]):=rfl
    unfold fu
    rw [it,Option.bind_some]
    exact e12
  have ol:=wr.len
  have o1:1≤O.length:=by
    obtain ⟨k,hk⟩:=List.exists_mem_of_ne_nil M (fun z=>by have:=m1.1;rw [z] at this;simp at this)
    obtain ⟨t,ht,_⟩:=wr.one k hk
    exact List.length_pos_of_mem ht
  have l13:=xh (E:=[.sh (.list (ns.map .int)), .sh (.int (n:Int)), .ow (U.map aI), .sh (.list (M.map ah)), .ow (L.map ae), .ow (L.map ae), .sh (ae (jn L)), .ow (L.map ae++[.str ""]), .ow (O.map ae),a9,a10, .no, .no, .no]) (f:=aa 8) (j:=8) (O:=O) rfl rfl (by omega)
  have m13:=eJ (nC ns 7 [.sh (.list (ns.map .int)), .sh (.int (n:Int)), .ow (U.map aI), .sh (.list (M.map ah)), .ow (L.map ae), .ow (L.map ae), .sh (ae (jn L)), .ow (L.map ae++[.str ""]), .ow (O.map ae),a9,a10, .no, .no, .no] rfl) l13 (by omega)
  have v0:=Int.emod_nonneg (ns.getD 7 0) (show (O.length:Int)≠0 by omega)
  obtain ⟨c,hc⟩:∃c:Nat,ns.getD 7 0 % (O.length:Int)=(c:Int):=⟨(ns.getD 7 0 % (O.length:Int)).toNat,by omega⟩
  rw [hc] at m13
  have s13:aK 11 (af cJ false (am av (ad false (aa 0) (ad false (pC (.int 7)) ak))) (bI cS (ad false (aa 8) ak))) [.sh (.list (ns.map .int)), .sh (.int (n:Int)), .ow (U.map aI), .sh (.list (M.map ah)), .ow (L.map ae), .ow (L.map ae), .sh (ae (jn L)), .ow (L.map ae++[.str ""]), .ow (O.map ae),a9,a10, .no, .no, .no]=some ([.sh (.list (ns.map .int)), .sh (.int (n:Int)), .ow (U.map aI), .sh (.list (M.map ah)), .ow (L.map ae), .ow (L.map ae), .sh (ae (jn L)), .ow (L.map ae++[.str ""]), .ow (O.map ae),a9,a10, .sh (.int (c:Int)), .no, .no], .nx):=c0 (i:=11) m13 (show 11 < 14 by decide)
  have cw:=xc (E:=[.sh (.list (ns.map .int)), .sh (.int (n:Int)), .ow (U.map aI), .sh (.list (M.map ah)), .ow (L.map ae), .ow (L.map ae), .sh (ae (jn L)), .ow (L.map ae++[.str ""]), .ow (O.map ae),a9,a10, .sh (.int (c:Int)), .no, .no]) (f:=aa 8) (g:=aa 11) (j:=8) (c:=c) (O:=O) rfl rfl rfl
  have s14:aK 8 (af bj false (fj false (aa 8) (cE (aa 11)) cQ) (fj false (aa 8) cQ (cE (aa 11)))) [.sh (.list (ns.map .int)), .sh (.int (n:Int)), .ow (U.map aI), .sh (.list (M.map ah)), .ow (L.map ae), .ow (L.map ae), .sh (ae (jn L)), .ow (L.map ae++[.str ""]), .ow (O.map ae),a9,a10, .sh (.int (c:Int)), .no, .no]=some ([.sh (.list (ns.map .int)), .sh (.int (n:Int)), .ow (U.map aI), .sh (.list (M.map ah)), .ow (L.map ae), .ow (L.map ae), .sh (ae (jn L)), .ow (L.map ae++[.str ""]), .ow ((O.drop c++O.take c).map ae),a9,a10, .sh (.int (c:Int)), .no, .no], .nx):=fX (i:=8) (xg cw.1 cw.2 (by rw [List.length_drop,List.length_take];omega)) (show 8 < 14 by decide)
  have hW:∀t,t∈O.drop c++O.take c↔t∈O:=fun t=>by
    rw [List.mem_append,Or.comm,←List.mem_append,List.take_append_drop]
  have lW:(O.drop c++O.take c).length≤190:=by
    rw [List.length_append,List.length_drop,List.length_take]
    omega
  obtain ⟨ww,wn,we,wl⟩:=r.words wr hW lW
  generalize O.drop c++O.take c=W at s14 ww wn we wl lW
  have flW:=iX ww.tl
  have j15:=kE (E:=[.sh (.list (ns.map .int)), .sh (.int (n:Int)), .ow (U.map aI), .sh (.list (M.map ah)), .ow (L.map ae), .ow (L.map ae), .sh (ae (jn L)), .ow (L.map ae++[.str ""]), .ow (W.map ae),a9,a10, .sh (.int (c:Int)), .no, .no]) (f:=aa 8) (s:= .al 8) (F:=W) rfl rfl (by omega)
  have rd:=iY r.u ww wn we
  rw [wl] at rd
  have ls:=g7 r.u ww
  rw [wl] at ls
  have s15:(cy (gd (cP (af jM false (am aG (ad false (dI " " (aa 8)) ak)) (aa 4))) (gd (cP (af jM false (am aG (ad false (aa 6) ak)) (aa 4))) (cP (af jM false (am aR (ad false (aa 8) ak)) (aa 4))))) (bi (pC (.bool false))) ba) [.sh (.list (ns.map .int)), .sh (.int (n:Int)), .ow (U.map aI), .sh (.list (M.map ah)), .ow (L.map ae), .ow (L.map ae), .sh (ae (jn L)), .ow (L.map ae++[.str ""]), .ow (W.map ae),a9,a10, .sh (.int (c:Int)), .no, .no]=some ([.sh (.list (ns.map .int)), .sh (.int (n:Int)), .ow (U.map aI), .sh (.list (M.map ah)), .ow (L.map ae), .ow (L.map ae), .sh (ae (jn L)), .ow (L.map ae++[.str ""]), .ow (W.map ae),a9,a10, .sh (.int (c:Int)), .no, .no], .nx):=by
    have c1:am aG (ad false (dI " " (aa 8)) ak) [.sh (.list (ns.map .int)), .sh (.int (n:Int)), .ow (U.map aI), .sh (.list (M.map ah)), .ow (L.map ae), .ow (L.map ae), .sh (ae (jn L)), .ow (L.map ae++[.str ""]), .ow (W.map ae),a9,a10, .sh (.int (c:Int)), .no, .no]=some (.ow (L.map ae),[.sh (.list (ns.map .int)), .sh (.int (n:Int)), .ow (U.map aI), .sh (.list (M.map ah)), .ow (L.map ae), .ow (L.map ae), .sh (ae (jn L)), .ow (L.map ae++[.str ""]), .ow (W.map ae),a9,a10, .sh (.int (c:Int)), .no, .no]):=aD (ss:=[.sh (ae (jn W))]) (AJ j15) rfl rd
    have c2:am aG (ad false (aa 6) ak) [.sh (.list (ns.map .int)), .sh (.int (n:Int)), .ow (U.map aI), .sh (.list (M.map ah)), .ow (L.map ae), .ow (L.map ae), .sh (ae (jn L)), .ow (L.map ae++[.str ""]), .ow (W.map ae),a9,a10, .sh (.int (c:Int)), .no, .no]=some (.ow (L.map ae),[.sh (.list (ns.map .int)), .sh (.int (n:Int)), .ow (U.map aI), .sh (.list (M.map ah)), .ow (L.map ae), .ow (L.map ae), .sh (ae (jn L)), .ow (L.map ae++[.str ""]), .ow (W.map ae),a9,a10, .sh (.int (c:Int)), .no, .no]):=aD (ss:=[.sh (ae (jn L))]) rfl rfl r.read
    have c3:am aR (ad false (aa 8) ak) [.sh (.list (ns.map .int)), .sh (.int (n:Int)), .ow (U.map aI), .sh (.list (M.map ah)), .ow (L.map ae), .ow (L.map ae), .sh (ae (jn L)), .ow (L.map ae++[.str ""]), .ow (W.map ae),a9,a10, .sh (.int (c:Int)), .no, .no]=some (.ow (L.map ae),[.sh (.list (ns.map .int)), .sh (.int (n:Int)), .ow (U.map aI), .sh (.list (M.map ah)), .ow (L.map ae), .ow (L.map ae), .sh (ae (jn L)), .ow (L.map ae++[.str ""]), .ow (W.map ae),a9,a10, .sh (.int (c:Int)), .no, .no]):=aD (ss:=[.al 8]) rfl rfl ls
    have o1:=lZ (L:=L) (g:=aa 4) (s2:= .al 4) c1 rfl rfl rfl r.azL
    have o2:=lZ (L:=L) (g:=aa 4) (s2:= .al 4) c2 rfl rfl rfl r.azL
    have o3:=lZ (L:=L) (g:=aa 4) (s2:= .al 4) c3 rfl rfl rfl r.azL
    exact fL (lV o1 (lV o2 o3)) rfl
  have d16:=zA (E:=[.sh (.list (ns.map .int)), .sh (.int (n:Int)), .ow (U.map aI), .sh (.list (M.map ah)), .ow (L.map ae), .ow (L.map ae), .sh (ae (jn L)), .ow (L.map ae++[.str ""]), .ow (W.map ae),a9,a10, .sh (.int (c:Int)), .no, .no]) (f:=aa 2) (j:=2) (W:=U) rfl rfl
  have lU:(U.drop 1).length≤26:=by rw [List.length_drop];omega
  have s16:aK 12 (dI "" (fj false (aa 2) (cE (pC (.int 1))) cQ)) [.sh (.list (ns.map .int)), .sh (.int (n:Int)), .ow (U.map aI), .sh (.list (M.map ah)), .ow (L.map ae), .ow (L.map ae), .sh (ae (jn L)), .ow (L.map ae++[.str ""]), .ow (W.map ae),a9,a10, .sh (.int (c:Int)), .no, .no]=some ([.sh (.list (ns.map .int)), .sh (.int (n:Int)), .ow (U.map aI), .sh (.list (M.map ah)), .ow (L.map ae), .ow (L.map ae), .sh (ae (jn L)), .ow (L.map ae++[.str ""]), .ow (W.map ae),a9,a10, .sh (.int (c:Int)), .sh (ae (U.drop 1)), .no], .nx):=c0 (i:=12) (AL d16 (by omega)) (show 12 < 14 by decide)
  generalize hb:L.any (fun k=>decide (NhFam.le k (U.drop 1)))=b
  have s17:aK 13 (bI uO (ad false (bt [none,some 12] (cV (aa 4)) eX bG eB) ak)) [.sh (.list (ns.map .int)), .sh (.int (n:Int)), .ow (U.map aI), .sh (.list (M.map ah)), .ow (L.map ae), .ow (L.map ae), .sh (ae (jn L)), .ow (L.map ae++[.str ""]), .ow (W.map ae),a9,a10, .sh (.int (c:Int)), .sh (ae (U.drop 1)), .no]=some ([.sh (.list (ns.map .int)), .sh (.int (n:Int)), .ow (U.map aI), .sh (.list (M.map ah)), .sh (.list (L.map ae)), .ow (L.map ae), .sh (ae (jn L)), .ow (L.map ae++[.str ""]), .ow (W.map ae),a9,a10, .sh (.int (c:Int)), .sh (ae (U.drop 1)), .sh (.bool b)], .nx):=by
    have it:cV (aa 4) [.sh (.list (ns.map .int)), .sh (.int (n:Int)), .ow (U.map aI), .sh (.list (M.map ah)), .ow (L.map ae), .ow (L.map ae), .sh (ae (jn L)), .ow (L.map ae++[.str ""]), .ow (W.map ae),a9,a10, .sh (.int (c:Int)), .sh (ae (U.drop 1)), .no]=some (L.map ae,[.sh (.list (ns.map .int)), .sh (.int (n:Int)), .ow (U.map aI), .sh (.list (M.map ah)), .sh (.list (L.map ae)), .ow (L.map ae), .sh (ae (jn L)), .ow (L.map ae++[.str ""]), .ow (W.map ae),a9,a10, .sh (.int (c:Int)), .sh (ae (U.drop 1)), .no]):=rfl
    have k:=fc (js:=[none,some 12]) it (xJ (U.drop 1) L .no (fun v hv=>by have:=r.u.short (r.t.sub v hv);omega)) (gS _ L) (by rw [List.length_map];omega)
    have bo:=fe (fun v=>decide (NhFam.le v (U.drop 1))) L
    have an:(L.map fun v=>decide (NhFam.le v (U.drop 1))).any id=b:=by rw [List.any_map,←hb];rfl
    have q:(bI uO (ad false (bt [none,some 12] (cV (aa 4)) eX bG eB) ak)) [.sh (.list (ns.map .int)), .sh (.int (n:Int)), .ow (U.map aI), .sh (.list (M.map ah)), .ow (L.map ae), .ow (L.map ae), .sh (ae (jn L)), .ow (L.map ae++[.str ""]), .ow (W.map ae),a9,a10, .sh (.int (c:Int)), .sh (ae (U.drop 1)), .no]=some (.sh (.bool b),[.sh (.list (ns.map .int)), .sh (.int (n:Int)), .ow (U.map aI), .sh (.list (M.map ah)), .sh (.list (L.map ae)), .ow (L.map ae), .sh (ae (jn L)), .ow (L.map ae++[.str ""]), .ow (W.map ae),a9,a10, .sh (.int (c:Int)), .sh (ae (U.drop 1)), .no]):=by
      have k1:ad false (bt [none,some 12] (cV (aa 4)) eX bG eB) ak [.sh (.list (ns.map .int)), .sh (.int (n:Int)), .ow (U.map aI), .sh (.list (M.map ah)), .ow (L.map ae), .ow (L.map ae), .sh (ae (jn L)), .ow (L.map ae++[.str ""]), .ow (W.map ae),a9,a10, .sh (.int (c:Int)), .sh (ae (U.drop 1)), .no]=some ([.ow (L.map fun v=>PyData.bool (decide (NhFam.le v (U.drop 1))))],[.sh (.list (ns.map .int)), .sh (.int (n:Int)), .ow (U.map aI), .sh (.list (M.map ah)), .sh (.list (L.map ae)), .ow (L.map ae), .sh (ae (jn L)), .ow (L.map ae++[.str ""]), .ow (W.map ae),a9,a10, .sh (.int (c:Int)), .sh (ae (U.drop 1)), .no]):=by
        simp only [ad,ak,k,Option.bind_some,Option.map_some,Bool.false_and,Bool.false_eq_true,if_false]
      simp only [bI,k1,Option.bind_some,Option.map_some,cr,PL.look,Sl.val,uO,bo,an]
    exact c0 (i:=13) q (show 13 < 14 by decide)
  have sD:NhFam.Sub U (U.drop 1):=⟨List.Pairwise.sublist (List.drop_sublist 1 U) u.srt,fun x hx=>List.mem_of_mem_drop hx⟩
  have azD:=r.u.azw sD
  have br:=tI (F:=L) (fun k hk=>r.u.ltrs (r.t.sub k hk)) (by omega) (t:=U.drop 1) azD (by omega)
  rw [oU sD.1 azD,show NhFam.BP L (U.drop 1)=b from hb] at br
  have c18:am bv (ad false (aa 4) ak) [.sh (.list (ns.map .int)), .sh (.int (n:Int)), .ow (U.map aI), .sh (.list (M.map ah)), .sh (.list (L.map ae)), .ow (L.map ae), .sh (ae (jn L)), .ow (L.map ae++[.str ""]), .ow (W.map ae),a9,a10, .sh (.int (c:Int)), .sh (ae (U.drop 1)), .sh (.bool b)]=some (.sh .none,[.sh (.list (ns.map .int)), .sh (.int (n:Int)), .ow (U.map aI), .sh (.list (M.map ah)), .sh (.list (L.map ae)), .ow (L.map ae), .sh (ae (jn L)), .ow (L.map ae++[.str ""]), .ow (W.map ae),a9,a10, .sh (.int (c:Int)), .sh (ae (U.drop 1)), .sh (.bool b)]):=aD (ss:=[.sh (.list (L.map ae))]) rfl rfl r.check
  have d18:am de (ad false (aa 4) (ad false (aa 12) ak)) [.sh (.list (ns.map .int)), .sh (.int (n:Int)), .ow (U.map aI), .sh (.list (M.map ah)), .sh (.list (L.map ae)), .ow (L.map ae), .sh (ae (jn L)), .ow (L.map ae++[.str ""]), .ow (W.map ae),a9,a10, .sh (.int (c:Int)), .sh (ae (U.drop 1)), .sh (.bool b)]=some (.sh (.bool b),[.sh (.list (ns.map .int)), .sh (.int (n:Int)), .ow (U.map aI), .sh (.list (M.map ah)), .sh (.list (L.map ae)), .ow (L.map ae), .sh (ae (jn L)), .ow (L.map ae++[.str ""]), .ow (W.map ae),a9,a10, .sh (.int (c:Int)), .sh (ae (U.drop 1)), .sh (.bool b)]):=aD (ss:=[.sh (.list (L.map ae)), .sh (ae (U.drop 1))]) rfl rfl br
  have g:iv [.list (ns.map .int)]=(oG [.sh (.list (ns.map .int)), .no, .no, .no, .no, .no, .no, .no, .no, .no, .no, .no, .no, .no]).bind fun a=>match a.2 with | .rt r=>cU r | .nx=>some (.sh .none) | _=>none:=rfl
  have qb:rZ (.bool b) (.bool b)=some true:=by cases b <;> rfl
  rw [g,oG,st,aC s2,aC s3,aC s4,aC s5,aC s6,aC s7,aC s8,aC s9,aC s10,aC s11,aC s12,aC s13,aC s14,aC s15,aC s16,aC s17]
  generalize am bv (ad false (aa 4) ak)=f1 at c18 ⊢
  generalize am de (ad false (aa 4) (ad false (aa 12) ak))=f2 at d18 ⊢
  simp only [bi,lj,af,c18,Sl.isBr,Bool.false_and,Bool.false_eq_true,pC,eY,look,Sl.val,ul,Bool.not_false,Option.bind_some,Option.map_some,if_false,aa,i6,d18,List.getElem?_cons_succ,List.getElem?_cons_zero,qb,cU,cF,cD,if_true]
end Nhk45
namespace Nhk45
open PySem L2 Nh PL
theorem jK {fd:FuncData} {xs:List Str} (h:∀a0,bindArgs fd ⟨[a0],[]⟩=pure (xs.zip [a0])):∀us:List Value,us.length=1→bindArgs fd ⟨us,[]⟩=pure (xs.zip us)
  | [a0],_=>h a0
theorem o7 {fd:FuncData} {xs:List Str} (h:∀a0 a1,bindArgs fd ⟨[a0,a1],[]⟩=pure (xs.zip [a0,a1])):∀us:List Value,us.length=2→bindArgs fd ⟨us,[]⟩=pure (xs.zip us)
  | [a0,a1],_=>h a0 a1
theorem BE {fd:FuncData} {xs:List Str} (h:∀a0 a1 a2 a3,bindArgs fd ⟨[a0,a1,a2,a3],[]⟩=pure (xs.zip [a0,a1,a2,a3])):∀us:List Value,us.length=4→bindArgs fd ⟨us,[]⟩=pure (xs.zip us)
  | [a0,a1,a2,a3],_=>h a0 a1 a2 a3
theorem zC {l:PySem.W.OpenLaw} {w:World} {K:PySem.W.Frag} {h:Heap} {mg:Str→Option Value} {fa f1 f2 f3 f4 f5 f6 f7 f8 f9 f10 f11 f12 f13 f14 f15 f16 f17 f18 f19 f20 f21 f22:Addr} (X:K.In h) (G:h.Ns mainGlobals mg) (hfa:mg "law"=some (.ref fa))
    {od1 od2 od3 od4 od5 od6 od7 od8 od9 od10 od11 od12 od13 od14 od15 od16 od17 od18 od19 od20 od21 od22 an1 an2 an3 an4 an5 an6 an7 an8 an9 an10 an11 an12 an13 an14 an15 an16 an17 an18 an19 an20 an21 an22:Option Addr} {sl1 sl2 sl3 sl4 sl5 sl6 sl7 sl8 sl9 sl10 sl11 sl12 sl13 sl14 sl15 sl16 sl17 sl18 sl19 sl20 sl21 sl22:Array (Option Value)} {oc1 kV1 dc1 pm1 cd1 ct1 oc2 kV2 dc2 pm2 cd2 ct2 oc3 kV3 dc3 pm3 cd3 ct3 oc4 kV4 dc4 pm4 ct4 oc5 kV5 dc5 pm5 cd5 ct5 oc6 kV6 dc6 pm6 cd6 ct6 oc7 kV7 dc7 pm7 cd7 ct7 oc8 kV8 dc8 pm8 cd8 ct8 oc9 kV9 dc9 pm9 cd9 ct9 oc10 kV10 dc10 pm10 cd10 ct10 oc11 kV11 dc11 pm11 cd11 ct11 oc12 kV12 dc12 pm12 cd12 ct12 oc13 kV13 dc13 pm13 cd13 ct13 oc14 kV14 dc14 pm14 cd14 ct14 oc15 kV15 dc15 pm15 cd15 ct15 oc16 kV16 dc16 pm16 cd16 ct16 oc17 kV17 dc17 pm17 cd17 ct17 oc18 kV18 dc18 pm18 cd18 ct18 oc19 kV19 dc19 pm19 cd19 ct19 oc20 kV20 dc20 pm20 cd20 ct20 oc21 kV21 dc21 pm21 cd21 ct21 oc22 kV22 dc22 pm22 cd22 ct22:Value}
    (a1:PySem.W.nsIn K mainGlobals "is_nail"=some (some (.ref f1))) (l1:K.lookup f1=some ⟨oc1,od1, .func (PySem.W.fnOf "is_nail" "is_nail" (aF eN) (aB eN) (ag eN) .none kV1 dc1 pm1 an1 cd1 ct1),sl1⟩) (c1:PySem.W.codeIn K cd1 "is_nail"=true) (k1:PySem.W.keepIn K (.ref f1)=true)
    (a2:PySem.W.nsIn K mainGlobals "set_of"=some (some (.ref f2))) (l2:K.lookup f2=some ⟨oc2,od2, .func (PySem.W.fnOf "set_of" "set_of" (aF fI) (aB fI) (ag fI) .none kV2 dc2 pm2 an2 cd2 ct2),sl2⟩) (c2:PySem.W.codeIn K cd2 "set_of"=true) (k2:PySem.W.keepIn K (.ref f2)=true)
    (a3:PySem.W.nsIn K mainGlobals "bits_of"=some (some (.ref f3))) (l3:K.lookup f3=some ⟨oc3,od3, .func (PySem.W.fnOf "bits_of" "bits_of" (aF eO) (aB eO) (ag eO) .none kV3 dc3 pm3 an3 cd3 ct3),sl3⟩) (c3:PySem.W.codeIn K cd3 "bits_of"=true) (k3:PySem.W.keepIn K (.ref f3)=true)
    {cT PT:Addr} {vsT:Array Value} {ocT:Value} {odT:Option Addr} {slT:Array (Option Value)} (a4:PySem.W.nsIn K mainGlobals "in_told_order"=some (some (.ref f4))) (l4:K.lookup f4=some ⟨oc4,od4, .func (PySem.W.fnOf "in_told_order" "in_told_order" (aF bL) (aB bL) (ag bL) .none kV4 dc4 pm4 an4 (.ref cT) ct4),sl4⟩) (c4:PySem.W.codeIn K (.ref cT) "in_told_order"=true) (k4:PySem.W.keepIn K (.ref f4)=true)
    (t1:K.lookup cT=some ⟨ocT,odT, .fields vsT,slT⟩) (t2:(vsT[11]? :Option Value)=some (.ref PT)) (t3:PySem.W.codeHdIn K cT PT=true)
    (a5:PySem.W.nsIn K mainGlobals "has_part_among"=some (some (.ref f5))) (l5:K.lookup f5=some ⟨oc5,od5, .func (PySem.W.fnOf "has_part_among" "has_part_among" (aF bw) (aB bw) (ag bw) .none kV5 dc5 pm5 an5 cd5 ct5),sl5⟩) (c5:PySem.W.codeIn K cd5 "has_part_among"=true) (k5:PySem.W.keepIn K (.ref f5)=true)
    (a6:PySem.W.nsIn K mainGlobals "least_of"=some (some (.ref f6))) (l6:K.lookup f6=some ⟨oc6,od6, .func (PySem.W.fnOf "least_of" "least_of" (aF dS) (aB dS) (ag dS) .none kV6 dc6 pm6 an6 cd6 ct6),sl6⟩) (c6:PySem.W.codeIn K cd6 "least_of"=true) (k6:PySem.W.keepIn K (.ref f6)=true)
    (a7:PySem.W.nsIn K mainGlobals "least_sets"=some (some (.ref f7))) (l7:K.lookup f7=some ⟨oc7,od7, .func (PySem.W.fnOf "least_sets" "least_sets" (aF cM) (aB cM) (ag cM) .none kV7 dc7 pm7 an7 cd7 ct7),sl7⟩) (c7:PySem.W.codeIn K cd7 "least_sets"=true) (k7:PySem.W.keepIn K (.ref f7)=true)
    (a8:PySem.W.nsIn K mainGlobals "least_or_no_rule"=some (some (.ref f8))) (l8:K.lookup f8=some ⟨oc8,od8, .func (PySem.W.fnOf "least_or_no_rule" "least_or_no_rule" (aF aZ) (aB aZ) (ag aZ) .none kV8 dc8 pm8 an8 cd8 ct8),sl8⟩) (c8:PySem.W.codeIn K cd8 "least_or_no_rule"=true) (k8:PySem.W.keepIn K (.ref f8)=true)
    (a9:PySem.W.nsIn K mainGlobals "check_rule"=some (some (.ref f9))) (l9:K.lookup f9=some ⟨oc9,od9, .func (PySem.W.fnOf "check_rule" "check_rule" (aF cN) (aB cN) (ag cN) .none kV9 dc9 pm9 an9 cd9 ct9),sl9⟩) (c9:PySem.W.codeIn K cd9 "check_rule"=true) (k9:PySem.W.keepIn K (.ref f9)=true)
    (a10:PySem.W.nsIn K mainGlobals "breaks"=some (some (.ref f10))) (l10:K.lookup f10=some ⟨oc10,od10, .func (PySem.W.fnOf "breaks" "breaks" (aF fJ) (aB fJ) (ag fJ) .none kV10 dc10 pm10 an10 cd10 ct10),sl10⟩) (c10:PySem.W.codeIn K cd10 "breaks"=true) (k10:PySem.W.keepIn K (.ref f10)=true)
    (a11:PySem.W.nsIn K mainGlobals "rule_text"=some (some (.ref f11))) (l11:K.lookup f11=some ⟨oc11,od11, .func (PySem.W.fnOf "rule_text" "rule_text" (aF df) (aB df) (ag df) .none kV11 dc11 pm11 an11 cd11 ct11),sl11⟩) (c11:PySem.W.codeIn K cd11 "rule_text"=true) (k11:PySem.W.keepIn K (.ref f11)=true)
    (a12:PySem.W.nsIn K mainGlobals "read_rule"=some (some (.ref f12))) (l12:K.lookup f12=some ⟨oc12,od12, .func (PySem.W.fnOf "read_rule" "read_rule" (aF dg) (aB dg) (ag dg) .none kV12 dc12 pm12 an12 cd12 ct12),sl12⟩) (c12:PySem.W.codeIn K cd12 "read_rule"=true) (k12:PySem.W.keepIn K (.ref f12)=true)
    (a13:PySem.W.nsIn K mainGlobals "_law_at"=some (some (.ref f13))) (l13:K.lookup f13=some ⟨oc13,od13, .func (PySem.W.fnOf "_law_at" "_law_at" (aF fK) (aB fK) (ag fK) .none kV13 dc13 pm13 an13 cd13 ct13),sl13⟩) (c13:PySem.W.codeIn K cd13 "_law_at"=true) (k13:PySem.W.keepIn K (.ref f13)=true)
    (a14:PySem.W.nsIn K mainGlobals "_law_stir"=some (some (.ref f14))) (l14:K.lookup f14=some ⟨oc14,od14, .func (PySem.W.fnOf "_law_stir" "_law_stir" (aF dU) (aB dU) (ag dU) .none kV14 dc14 pm14 an14 cd14 ct14),sl14⟩) (c14:PySem.W.codeIn K cd14 "_law_stir"=true) (k14:PySem.W.keepIn K (.ref f14)=true)
    (a15:PySem.W.nsIn K mainGlobals "_law_nails"=some (some (.ref f15))) (l15:K.lookup f15=some ⟨oc15,od15, .func (PySem.W.fnOf "_law_nails" "_law_nails" (aF dh) (aB dh) (ag dh) .none kV15 dc15 pm15 an15 cd15 ct15),sl15⟩) (c15:PySem.W.codeIn K cd15 "_law_nails"=true) (k15:PySem.W.keepIn K (.ref f15)=true)
    (a16:PySem.W.nsIn K mainGlobals "_law_by_size"=some (some (.ref f16))) (l16:K.lookup f16=some ⟨oc16,od16, .func (PySem.W.fnOf "_law_by_size" "_law_by_size" (aF cX) (aB cX) (ag cX) .none kV16 dc16 pm16 an16 cd16 ct16),sl16⟩) (c16:PySem.W.codeIn K cd16 "_law_by_size"=true) (k16:PySem.W.keepIn K (.ref f16)=true)
    (a17:PySem.W.nsIn K mainGlobals "_law_set"=some (some (.ref f17))) (l17:K.lookup f17=some ⟨oc17,od17, .func (PySem.W.fnOf "_law_set" "_law_set" (aF eP) (aB eP) (ag eP) .none kV17 dc17 pm17 an17 cd17 ct17),sl17⟩) (c17:PySem.W.codeIn K cd17 "_law_set"=true) (k17:PySem.W.keepIn K (.ref f17)=true)
    (a18:PySem.W.nsIn K mainGlobals "_law_least"=some (some (.ref f18))) (l18:K.lookup f18=some ⟨oc18,od18, .func (PySem.W.fnOf "_law_least" "_law_least" (aF di) (aB di) (ag di) .none kV18 dc18 pm18 an18 cd18 ct18),sl18⟩) (c18:PySem.W.codeIn K cd18 "_law_least"=true) (k18:PySem.W.keepIn K (.ref f18)=true)
    (a19:PySem.W.nsIn K mainGlobals "_law_texts"=some (some (.ref f19))) (l19:K.lookup f19=some ⟨oc19,od19, .func (PySem.W.fnOf "_law_texts" "_law_texts" (aF dm) (aB dm) (ag dm) .none kV19 dc19 pm19 an19 cd19 ct19),sl19⟩) (c19:PySem.W.codeIn K cd19 "_law_texts"=true) (k19:PySem.W.keepIn K (.ref f19)=true)
    (a20:PySem.W.nsIn K mainGlobals "_law_masks"=some (some (.ref f20))) (l20:K.lookup f20=some ⟨oc20,od20, .func (PySem.W.fnOf "_law_masks" "_law_masks" (aF dq) (aB dq) (ag dq) .none kV20 dc20 pm20 an20 cd20 ct20),sl20⟩) (c20:PySem.W.codeIn K cd20 "_law_masks"=true) (k20:PySem.W.keepIn K (.ref f20)=true)
    (a21:PySem.W.nsIn K mainGlobals "_law_turned"=some (some (.ref f21))) (l21:K.lookup f21=some ⟨oc21,od21, .func (PySem.W.fnOf "_law_turned" "_law_turned" (aF cO) (aB cO) (ag cO) .none kV21 dc21 pm21 an21 cd21 ct21),sl21⟩) (c21:PySem.W.codeIn K cd21 "_law_turned"=true) (k21:PySem.W.keepIn K (.ref f21)=true)
    (a22:PySem.W.nsIn K mainGlobals "law"=some (some (.ref f22))) (l22:K.lookup f22=some ⟨oc22,od22, .func (PySem.W.fnOf "law" "law" (aF iV) (aB iV) (ag iV) .none kV22 dc22 pm22 an22 cd22 ct22),sl22⟩) (c22:PySem.W.codeIn K cd22 "law"=true) (k22:PySem.W.keepIn K (.ref f22)=true)
    {t_LETTERS:Tok} (g_LETTERS:PySem.W.nsIn K mainGlobals "LETTERS"=some (some (.str "abcdefghijklmnopqrstuvwxyz" t_LETTERS)))
    (z1:PySem.W.nsIn K mainGlobals "len"=some none)
    (z2:PySem.W.nsIn K mainGlobals "range"=some none)
    (z3:PySem.W.nsIn K mainGlobals "abs"=some none)
    (z4:PySem.W.nsIn K mainGlobals "min"=some none)
    (z5:PySem.W.nsIn K mainGlobals "max"=some none)
    (z6:PySem.W.nsIn K mainGlobals "reversed"=some none)
    (z7:PySem.W.nsIn K mainGlobals "enumerate"=some none)
    (z8:PySem.W.nsIn K mainGlobals "isinstance"=some none)
    (z9:PySem.W.nsIn K mainGlobals "list"=some none)
    (z10:PySem.W.nsIn K mainGlobals "tuple"=some none)
    (z11:PySem.W.nsIn K mainGlobals "str"=some none)
    (z12:PySem.W.nsIn K mainGlobals "int"=some none)
    (z13:PySem.W.nsIn K mainGlobals "bool"=some none)
    (z14:PySem.W.nsIn K mainGlobals "sorted"=some none)
    (z15:PySem.W.nsIn K mainGlobals "zip"=some none)
    (z16:PySem.W.nsIn K mainGlobals "sum"=some none)
    (z17:PySem.W.nsIn K mainGlobals "any"=some none)
    (z18:PySem.W.nsIn K mainGlobals "all"=some none)
    (z19:PySem.W.nsIn K mainGlobals "set"=some none)
    (z20:PySem.W.nsIn K mainGlobals "dict"=some none):
    ∃fd:FuncData,(∀(s:Shared) (v:Value),BindsTo s fd ⟨[v],[]⟩ [("_law_script",v)])∧∀base:Heap,K.In base→base.Ns mainGlobals mg→FnOk l.prog w K mg base rW 6 fa fd ["_law_script"] (dF K iv):=by
  have e:=hfa.symm.trans (PySem.W.mg_of X G a22)
  cases e
  have F0:=pA (st:=iV) l22 c22 k22
  have B:Bn mg:=AB X G z1 z2 z3 z4 z5 z6 z7 z8 z9 z10 z11 z12 z13 z14 z15 z16 z17 z18 z19 z20
  have G_LETTERS:=PySem.W.mg_of X G g_LETTERS
  have e_is_nail:Def K mg "is_nail" eN ["thing"]:=bW X G a1 l1 c1 k1 fun _ _ _ _ _ _=>fun us hl=>jK (fun _=>rfl) us hl
  have e_set_of:Def K mg "set_of" fI ["nails"]:=bW X G a2 l2 c2 k2 fun _ _ _ _ _ _=>fun us hl=>jK (fun _=>rfl) us hl
  have e_bits_of:Def K mg "bits_of" eO ["nails"]:=bW X G a3 l3 c3 k3 fun _ _ _ _ _ _=>fun us hl=>jK (fun _=>rfl) us hl
  have e_in_told_order:DefT K mg "in_told_order" bL ["sets"] cT PT:=⟨⟨f4,_,_,_,_,_,_,_,_,l4,c4,k4,PySem.W.mg_of X G a4, .all (fun us hl=>jK (fun _=>rfl) us hl)⟩,t3,vb a4 l4 rfl t1 t2⟩
  have e_has_part_among:Def K mg "has_part_among" bw ["bits","parts"]:=bW X G a5 l5 c5 k5 fun _ _ _ _ _ _=>fun us hl=>o7 (fun _ _=>rfl) us hl
  have e_least_of:Def K mg "least_of" dS ["sets"]:=bW X G a6 l6 c6 k6 fun _ _ _ _ _ _=>fun us hl=>jK (fun _=>rfl) us hl
  have e_least_sets:Def K mg "least_sets" cM ["family"]:=bW X G a7 l7 c7 k7 fun _ _ _ _ _ _=>fun us hl=>jK (fun _=>rfl) us hl
  have e_least_or_no_rule:Def K mg "least_or_no_rule" aZ ["sets"]:=bW X G a8 l8 c8 k8 fun _ _ _ _ _ _=>fun us hl=>jK (fun _=>rfl) us hl
  have e_check_rule:Def K mg "check_rule" cN ["thing"]:=bW X G a9 l9 c9 k9 fun _ _ _ _ _ _=>fun us hl=>jK (fun _=>rfl) us hl
  have e_breaks:Def K mg "breaks" fJ ["rule","nails"]:=bW X G a10 l10 c10 k10 fun _ _ _ _ _ _=>fun us hl=>o7 (fun _ _=>rfl) us hl
  have e_rule_text:Def K mg "rule_text" df ["rule"]:=bW X G a11 l11 c11 k11 fun _ _ _ _ _ _=>fun us hl=>jK (fun _=>rfl) us hl
  have e_read_rule:Def K mg "read_rule" dg ["text"]:=bW X G a12 l12 c12 k12 fun _ _ _ _ _ _=>fun us hl=>jK (fun _=>rfl) us hl
  have e_law_at:Def K mg "_law_at" fK ["_law_script","_law_k"]:=bW X G a13 l13 c13 k13 fun _ _ _ _ _ _=>fun us hl=>o7 (fun _ _=>rfl) us hl
  have e_law_stir:Def K mg "_law_stir" dU ["_law_cell","_law_k"]:=bW X G a14 l14 c14 k14 fun _ _ _ _ _ _=>fun us hl=>o7 (fun _ _=>rfl) us hl
  have e_law_nails:Def K mg "_law_nails" dh ["_law_cell","_law_many"]:=bW X G a15 l15 c15 k15 fun _ _ _ _ _ _=>fun us hl=>o7 (fun _ _=>rfl) us hl
  have e_law_by_size:Def K mg "_law_by_size" cX ["_law_one"]:=bW X G a16 l16 c16 k16 fun _ _ _ _ _ _=>fun us hl=>jK (fun _=>rfl) us hl
  have e_law_set:Def K mg "_law_set" eP ["_law_mask","_law_some"]:=bW X G a17 l17 c17 k17 fun _ _ _ _ _ _=>fun us hl=>o7 (fun _ _=>rfl) us hl
  have e_law_least:Def K mg "_law_least" di ["_law_masks_here"]:=bW X G a18 l18 c18 k18 fun _ _ _ _ _ _=>fun us hl=>jK (fun _=>rfl) us hl
  have e_law_texts:Def K mg "_law_texts" dm ["_law_masks_here","_law_some"]:=bW X G a19 l19 c19 k19 fun _ _ _ _ _ _=>fun us hl=>o7 (fun _ _=>rfl) us hl
  have e_law_masks:Def K mg "_law_masks" dq ["_law_script","_law_first","_law_many","_law_most"]:=bW X G a20 l20 c20 k20 fun _ _ _ _ _ _=>fun us hl=>BE (fun _ _ _ _=>rfl) us hl
  have e_law_turned:Def K mg "_law_turned" cO ["_law_one","_law_cell"]:=bW X G a21 l21 c21 k21 fun _ _ _ _ _ _=>fun us hl=>o7 (fun _ _=>rfl) us hl
  refine ⟨PySem.W.fnOf "law" "law" (aF iV) (aB iV) (ag iV) .none kV22 dc22 pm22 an22 cd22 ct22,fun s v=> .of_eq rfl,fun base _ _=>?_⟩
  have D_is_nail:=qd (P:=l.prog) (w:=w) (base:=base) e_is_nail B
  have D_set_of:=sY (P:=l.prog) (w:=w) (base:=base) e_set_of B D_is_nail
  have D_bits_of:=qe (P:=l.prog) (w:=w) (base:=base) e_bits_of B G_LETTERS
  have D_in_told_order:=jt (P:=l.prog) (w:=w) (base:=base) e_in_told_order B
  have D_has_part_among:=iU (P:=l.prog) (w:=w) (base:=base) e_has_part_among B
  have D_least_of:=oH (P:=l.prog) (w:=w) (base:=base) e_least_of B D_in_told_order D_bits_of D_has_part_among
  have D_least_sets:=kQ (P:=l.prog) (w:=w) (base:=base) e_least_sets B D_set_of D_least_of
  have D_least_or_no_rule:=gY (P:=l.prog) (w:=w) (base:=base) e_least_or_no_rule B D_least_sets
  have D_check_rule:=kT (P:=l.prog) (w:=w) (base:=base) e_check_rule B D_least_or_no_rule
  have D_breaks:=s_ (P:=l.prog) (w:=w) (base:=base) e_breaks B D_bits_of D_set_of D_has_part_among
  have D_rule_text:=m4 (P:=l.prog) (w:=w) (base:=base) e_rule_text B
  have D_read_rule:=m6 (P:=l.prog) (w:=w) (base:=base) e_read_rule B D_least_or_no_rule
  have D_law_at:=ti (P:=l.prog) (w:=w) (base:=base) e_law_at B
  have D_law_stir:=oI (P:=l.prog) (w:=w) (base:=base) e_law_stir B
  have D_law_nails:=m7 (P:=l.prog) (w:=w) (base:=base) e_law_nails B
  have D_law_set:=qg (P:=l.prog) (w:=w) (base:=base) e_law_set B
  have D_law_least:=m8 (P:=l.prog) (w:=w) (base:=base) e_law_least B
  have D_law_texts:=m_ (P:=l.prog) (w:=w) (base:=base) e_law_texts B D_law_set e_law_by_size
  have D_law_masks:=nh (P:=l.prog) (w:=w) (base:=base) e_law_masks B D_law_at D_law_stir
  have D_law_turned:=kU (P:=l.prog) (w:=w) (base:=base) e_law_turned B
  exact ze F0 B D_law_at D_law_nails D_law_masks D_law_least D_law_texts D_rule_text D_read_rule D_law_set D_law_turned D_least_sets D_check_rule D_breaks
theorem BF {l:PySem.W.OpenLaw} {q:Program} {loose:List Str} {XP:(Str→Option Value)→Heap→Prop} {YP:World→Heap→Prop} {d:DefRec} {K:Params→PySem.W.Frag} (hn:l.most=some 63) (hdf:d.params.defaults=[])
    (hY:∀(w:World) (h:Heap),YP w h→(K w.params).In h∧qS (K w.params) h)
    (F:∀(w:World) (mg:Str→Option Value) (fa:Addr) (h:Heap),(K w.params).In h→h.Ns mainGlobals mg→mg d.name=some (.ref fa)→
      ∃fd:FuncData,(∀(s:Shared) (u:Value),BindsTo s fd ⟨[u],[]⟩ [("_law_script",u)])∧∀base:Heap,(K w.params).In base→base.Ns mainGlobals mg→FnOk l.prog w (K w.params) mg base rW 6 fa fd ["_law_script"] (dF (K w.params) iv)):
    PySem.W.WalkO q loose XP YP l.row.toRowW d [] (fun f vs=>PySem.call f vs):=
  L2.uX (n:=63) (k:=6) (x:="_law_script") (CX:=fun _=>rW) (sp:=fun w=>dF (K w.params) iv) hn (by decide) hdf ⟨rfl,by decide,by decide⟩ hY F (fun _ _ a ns hl hS=>yK (zB ns hl) hS) fun _ _ _ _ _ z=>z
end Nhk45
open PySem PySem.W PyProof.Rows
theorem PySem.W.Fast.te11647898021138940870 : True := trivial
set_option maxRecDepth 100000 in
set_option maxHeartbeats 0 in
theorem PySem.Challenge.cw_nailhang_k45_rules_written_and_read_holds : PySem.Challenge.rw_nailhang_k45_rules_written_and_read.Holds := by
  w_on;o_law;k_head;(case hw=>w_witness2)
  k_fill
  refine Nhk45.BF (l:=PySem.Challenge.rw_nailhang_k45_rules_written_and_read) rfl rfl (fun w h Y=>⟨PySem.W.km_in_of Y,by
    refine' PL.vc (PySem.W.km_in_of Y) ?y1 ?y2 ?y3 ?y4 ?y5 ?y6 ?y7 (PySem.W.km_tabs_of Y _ ?y8)
    (case y1=>k_is)
    (case y2=>k_is)
    (case y3=>exact rfl)
    (case y4=>k_is)
    (case y5=>exact rfl)
    (case y6=>kernel_rfl)
    (case y7=>kernel_rfl)
    (case y8=>k_mem)⟩) ?F
  case F=>
    intro w mg fa h KX G hmg
    refine' Nhk45.zC KX G hmg ?a1 ?l1 ?c1 ?k1 ?a2 ?l2 ?c2 ?k2 ?a3 ?l3 ?c3 ?k3 ?a4 ?l4 ?c4 ?k4 ?t1 ?t2 ?t3 ?a5 ?l5 ?c5 ?k5 ?a6 ?l6 ?c6 ?k6 ?a7 ?l7 ?c7 ?k7 ?a8 ?l8 ?c8 ?k8 ?a9 ?l9 ?c9 ?k9 ?a10 ?l10 ?c10 ?k10 ?a11 ?l11 ?c11 ?k11 ?a12 ?l12 ?c12 ?k12 ?a13 ?l13 ?c13 ?k13 ?a14 ?l14 ?c14 ?k14 ?a15 ?l15 ?c15 ?k15 ?a16 ?l16 ?c16 ?k16 ?a17 ?l17 ?c17 ?k17 ?a18 ?l18 ?c18 ?k18 ?a19 ?l19 ?c19 ?k19 ?a20 ?l20 ?c20 ?k20 ?a21 ?l21 ?c21 ?k21 ?a22 ?l22 ?c22 ?k22 ?g_LETTERS ?z1 ?z2 ?z3 ?z4 ?z5 ?z6 ?z7 ?z8 ?z9 ?z10 ?z11 ?z12 ?z13 ?z14 ?z15 ?z16 ?z17 ?z18 ?z19 ?z20
    (case a1=>k_is)
    (case l1=>k_is)
    (case c1=>k_is)
    (case k1=>k_is)
    (case a2=>k_is)
    (case l2=>k_is)
    (case c2=>k_is)
    (case k2=>k_is)
    (case a3=>k_is)
    (case l3=>k_is)
    (case c3=>k_is)
    (case k3=>k_is)
    (case a4=>k_is)
    (case l4=>k_is)
    (case c4=>k_is)
    (case k4=>k_is)
    (case t1=>k_is)
    (case t2=>exact rfl)
    (case t3=>kernel_rfl)
    (case a5=>k_is)
    (case l5=>k_is)
    (case c5=>k_is)
    (case k5=>k_is)
    (case a6=>k_is)
    (case l6=>k_is)
    (case c6=>k_is)
    (case k6=>k_is)
    (case a7=>k_is)
    (case l7=>k_is)
    (case c7=>k_is)
    (case k7=>k_is)
    (case a8=>k_is)
    (case l8=>k_is)
    (case c8=>k_is)
    (case k8=>k_is)
    (case a9=>k_is)
    (case l9=>k_is)
    (case c9=>k_is)
    (case k9=>k_is)
    (case a10=>k_is)
    (case l10=>k_is)
    (case c10=>k_is)
    (case k10=>k_is)
    (case a11=>k_is)
    (case l11=>k_is)
    (case c11=>k_is)
    (case k11=>k_is)
    (case a12=>k_is)
    (case l12=>k_is)
    (case c12=>k_is)
    (case k12=>k_is)
    (case a13=>k_is)
    (case l13=>k_is)
    (case c13=>k_is)
    (case k13=>k_is)
    (case a14=>k_is)
    (case l14=>k_is)
    (case c14=>k_is)
    (case k14=>k_is)
    (case a15=>k_is)
    (case l15=>k_is)
    (case c15=>k_is)
    (case k15=>k_is)
    (case a16=>k_is)
    (case l16=>k_is)
    (case c16=>k_is)
    (case k16=>k_is)
    (case a17=>k_is)
    (case l17=>k_is)
    (case c17=>k_is)
    (case k17=>k_is)
    (case a18=>k_is)
    (case l18=>k_is)
    (case c18=>k_is)
    (case k18=>k_is)
    (case a19=>k_is)
    (case l19=>k_is)
    (case c19=>k_is)
    (case k19=>k_is)
    (case a20=>k_is)
    (case l20=>k_is)
    (case c20=>k_is)
    (case k20=>k_is)
    (case a21=>k_is)
    (case l21=>k_is)
    (case c21=>k_is)
    (case k21=>k_is)
    (case a22=>k_is)
    (case l22=>k_is)
    (case c22=>k_is)
    (case k22=>k_is)
    (case g_LETTERS=>k_is)
    (case z1=>k_is)
    (case z2=>k_is)
    (case z3=>k_is)
    (case z4=>k_is)
    (case z5=>k_is)
    (case z6=>k_is)
    (case z7=>k_is)
    (case z8=>k_is)
    (case z9=>k_is)
    (case z10=>k_is)
    (case z11=>k_is)
    (case z12=>k_is)
    (case z13=>k_is)
    (case z14=>k_is)
    (case z15=>k_is)
    (case z16=>k_is)
    (case z17=>k_is)
    (case z18=>k_is)
    (case z19=>k_is)
    (case z20=>k_is)
