import PyProof.Rows.All
import KE.KLam
import KE.KNestM
import PyProof.OldK
import Wide.All
import OpenK.AllK
import Wide.FinOn
import Lean
import PyProof.EqAt
import PyProof.EqKinds
import PyProof.TupleCall
import KE.KRevIter
import PyProof.Rows.SeqMore
import PyProof.Rows.ListMulArg
import PyProof.ZipIter
import PyProof.Rows.ZipGen
import PyProof.EnumMake
import PyProof.StrWalks
import PyProof.SliceStr2
import PyProof.StrBlockH
import PyProof.FString5
import PyProof.Rows.StrJoin2
import PyProof.Rows.Range3
import KE.KDictLaws
import PyProof.ConsumeWalk
import PyProof.SumWalkG
import PyProof.Rows.SeqCalls
import PyProof.Rows.SeqGen
import PyProof.Rows.MinMaxN
import PyProof.Rows.CallKwBuiltin
import PyProof.Rows.SortStr
import PyProof.StrOps2
import PyProof.Rows.StrMul
import PyProof.IsRules
import PyProof.Rows.SetFrom
import PyProof.CollectStr
import KE.KTryMore
import PyProof.StrLawsNeg
import PyProof.StrLawsIn
import KE.RegKIsAll
import KE.RegKTryMore
import PySem.Challenge.RW_nailhang_k01_nails_and_cords
set_option Elab.async false
set_option linter.all false
set_option maxRecDepth 100000
set_option maxHeartbeats 4000000
local macro_rules | `(tactic| omega) => `(tactic| lia)
noncomputable section
namespace L2
open PySem PySem.Spec PyProof.Rows
abbrev bG:=Sum Int Str
def gf:bG→Value→Bool
  | .inl k,v=>Value.isInt k v
  | .inr x,v=>Value.isStrOf x v
def sT (w:World):bG→Int
  | .inl k=>hashInt k
  | .inr x=>hashStr w x
theorem bu:∀{k:bG} {v:Value},gf k v=true→(∃i t,k=Sum.inl i∧v=Value.int i t)∨(∃x t,k=Sum.inr x∧v=Value.str x t)
  | .inl i,v,h=>by
    obtain ⟨t,e⟩:=Value.isInt_shape (k:=i) (v:=v) h
    exact .inl ⟨i,t,rfl,e⟩
  | .inr x,v,h=>by
    obtain ⟨t,e⟩:=Value.isStrOf_shape (x:=x) (v:=v) h
    exact .inr ⟨x,t,rfl,e⟩
theorem jN (i:Int) (t:Tok):gf (.inl i) (.int i t)=true:=by simp [gf,Value.isInt]
theorem jO (x:Str) (t:Tok):gf (.inr x) (.str x t)=true:=by simp [gf,Value.isStrOf]
theorem oR (a b:Int):decide ((Sum.inl a:bG)=Sum.inl b)=(a == b):=by
  by_cases e:a=b
  · subst e;simp
  · have h:¬(Sum.inl a:bG)=Sum.inl b:=fun q=>e (Sum.inl.inj q)
    rw [decide_eq_false h]
    exact (beq_eq_false_iff_ne.mpr e).symm
theorem oS (a b:Str):decide ((Sum.inr a:bG)=Sum.inr b)=decide (a=b):=by
  by_cases e:a=b
  · subst e;simp
  · have h:¬(Sum.inr a:bG)=Sum.inr b:=fun q=>e (Sum.inr.inj q)
    rw [decide_eq_false h,decide_eq_false e]
theorem oU (a:Int) (b:Str):decide ((Sum.inl a:bG)=Sum.inr b)=false:=decide_eq_false (fun q=>nomatch q)
theorem oV (a:Str) (b:Int):decide ((Sum.inr a:bG)=Sum.inl b)=false:=decide_eq_false (fun q=>nomatch q)
def cg (prog:Program) (w:World):PySem.KeyKind prog w bG where
  is:=gf
  hash:=sT w
  inj:=fun v a b ha hb=>by
    rcases bu ha with ⟨i,t,rfl,rfl⟩ | ⟨x,t,rfl,rfl⟩
    · rcases bu hb with ⟨j,u,rfl,e⟩ | ⟨y,u,rfl,e⟩
      · injection e with e1 _;rw [e1]
      · exact nomatch e
    · rcases bu hb with ⟨j,u,rfl,e⟩ | ⟨y,u,rfl,e⟩
      · exact nomatch e
      · injection e with e1 _;rw [e1]
  byValue:=fun k v h=>by
    rcases bu h with ⟨i,t,rfl,rfl⟩ | ⟨x,t,rfl,rfl⟩ <;> rfl
  pyHash:=fun hv h=>by
    rcases bu hv with ⟨i,t,rfl,rfl⟩ | ⟨x,t,rfl,rfl⟩
    · exact wpAny_pyHash_int h
    · exact wpAny_pyHash_str h
  eqBool:=fun hu hv h=>by
    rcases bu hu with ⟨i,t,rfl,rfl⟩ | ⟨x,t,rfl,rfl⟩
    · rcases bu hv with ⟨j,u,rfl,rfl⟩ | ⟨y,u,rfl,rfl⟩
      · rw [oR] at h;exact wpAny_eqBool_int h
      · rw [oU] at h;exact SeqAt.EqAt.int_str i t y u _ _ _ _ h
    · rcases bu hv with ⟨j,u,rfl,rfl⟩ | ⟨y,u,rfl,rfl⟩
      · rw [oV] at h;exact SeqAt.EqAt.str_int x t j u _ _ _ _ h
      · rw [oS] at h;exact wpAny_eqBool_str h
  «strs»:=fun k x t v h=>by
    rcases bu h with ⟨i,u,rfl,e⟩ | ⟨y,u,rfl,e⟩
    · exact nomatch e
    · injection e with e1 _
      subst e1
      cases v <;> rfl
theorem hU (prog:Program) (w:World) (i:Int) (t:Tok):(cg prog w).is (.inl i) (.int i t)=true:=jN i t
theorem hV (prog:Program) (w:World) (x:Str) (t:Tok):(cg prog w).is (.inr x) (.str x t)=true:=jO x t
end L2
namespace L2
open PySem PySem.Spec PyProof.Rows
inductive V where
  | non | bl (b:Bool) | int (i:Int) | str (x:Str) | byt (b:Array UInt8) | flt (b:UInt64) | ref (a:Addr) | ty (n:String)
  deriving DecidableEq
def RelV:V→Value→Prop
  | .non,u=>u=Value.none
  | .bl b,u=>u=Value.bool b
  | .int i,u=>∃t,u=Value.int i t
  | .str x,u=>∃t,u=Value.str x t
  | .byt b,u=>∃t,u=Value.bytes b t
  | .flt b,u=>∃t,u=Value.float b t
  | .ref a,u=>u=Value.ref a
  | .ty n,u=>u=Value.type n
abbrev Vals:List V→List Value→Prop:=Paired RelV
theorem Vals.length {xs:List V} {us:List Value} (r:Vals xs us):xs.length=us.length:=Paired.length r
theorem Vals.get:∀{xs:List V} {us:List Value} {i:Nat} {x:V},Vals xs us→xs[i]? =some x→∃u,us[i]? =some u∧RelV x u
  | _,_,_,_, .nil,e=>by simp at e
  | _,_,0,_, .cons r _,e=>by simp at e;subst e;exact ⟨_,rfl,r⟩
  | _,_,i+1,x, .cons _ t,e=>by
    obtain ⟨u,h1,h2⟩:=Vals.get (i:=i) (x:=x) t (by simpa using e)
    exact ⟨u,by simpa using h1,h2⟩
theorem Vals.set {x:V} {u:Value} (r:RelV x u):∀{xs:List V} {us:List Value} (i:Nat),Vals xs us→Vals (xs.set i x) (us.set i u)
  | _,_,_, .nil=> .nil
  | _,_,0, .cons _ t=> .cons r t
  | _,_,i+1, .cons q t=> .cons q (Vals.set r i t)
theorem Vals.append:∀{xs ys:List V} {us ws:List Value},Vals xs us→Vals ys ws→Vals (xs++ys) (us++ws)
  | _,_,_,_, .nil,s=>s
  | _,_,_,_, .cons r t,s=> .cons r (Vals.append t s)
theorem Vals.take:∀{xs:List V} {us:List Value} (n:Nat),Vals xs us→Vals (xs.take n) (us.take n)
  | _,_,0,_=> .nil
  | _,_,_+1, .nil=> .nil
  | _,_,n+1, .cons r t=> .cons r (Vals.take n t)
theorem Vals.drop:∀{xs:List V} {us:List Value} (n:Nat),Vals xs us→Vals (xs.drop n) (us.drop n)
  | _,_,0,r=>r
  | _,_,_+1, .nil=> .nil
  | _,_,n+1, .cons _ t=>Vals.drop n t
def RelO:Option V→Option Value→Prop
  | some v,some u=>RelV v u
  | none,none=>True
  | _,_=>False
def KV {κ:Type}:List (κ×V)→List (κ×Value)→Prop:=Paired fun (p:κ×V) (q:κ×Value)=>p.1=q.1∧RelV p.2 q.2
def kV:bG→V
  | .inl i=> .int i
  | .inr x=> .str x
inductive HO where
  /-- a list -/
  | lst (xs:List V)
  /-- a tuple (never changes) -/
  | tup (xs:List V)
  /-- a dict whose keys are ints and texts;one whose keys are tuples of ints and texts (the empty one is both) -/
  | dK (kvs:List (bG×V)) | dT (kvs:List (List bG×V))
  /-- a set of ints:its members,its size -/
  | set (S:Int→Bool) (n:Nat)
  /-- an instance of the class at C,its dict at dx,its attributes -/
  | ins (C dx:Addr) (fs:List (Str×V))
  /-- the dict of the instance at x -/
  | own (x:Addr)
  /-- the dict of an exception -/
  | xd (fs:List (Str×V))
  /-- a bound method,f of x -/
  | met (f x:Addr)
  /-- a range object lo,lo+1, .. below hi -/
  | rng (lo hi:Int)
  /-- a thing that is known to the object (the script;a dict while a loop walks it):read,never written while it is so -/
  | frz (o:Obj) (u:HO)
  /-- a code object's table -/
  | tbl (q:Str)
  /-- any other thing,by what is true of its one object (a def of one's own:SetO a S n:=HO.ext fun h=> ..) -/
  | ext (φ:Heap→Prop)
abbrev Hp:=Addr→Option HO
def upd (H:Hp) (a:Addr) (o:HO):Hp:=fun b=>if b=a then some o else H b
theorem aY {H:Hp} {a:Addr} {o:HO}:upd H a o a=some o:=by unfold upd;rw [if_pos rfl]
theorem ax {H:Hp} {a b:Addr} {o:HO} (h:b≠a):upd H a o b=H b:=by unfold upd;rw [if_neg h]
theorem og {H:Hp} {a b:Addr} {o u:HO} (h:H a=some o) (h':H b=some u) (d:o≠u):a≠b:=by
  intro e;subst e;rw [h] at h';exact d (Option.some.inj h')
theorem bH {H:Hp} {a b:Addr} {o:HO} (h:H a=some o) (h':H b=none):a≠b:=by
  intro e;subst e;rw [h] at h';cases h'
section
variable (P:Program) (w:World)
def ObjOk (H:Hp) (h:Heap) (a:Addr):HO→Prop
  | .lst xs=>xs.length≤sizeLine∧∃(its:List Value) (n:Nat),Vals xs its∧h.get? a=some {cls:= .type "list",data:= .seq its.toArray n}
  | .tup xs=>xs.length≤sizeLine∧∃its:List Value,Vals xs its∧IsTup h a its.toArray
  | .dK kvs=>kvs.length≤sizeLine∧(a == sysModules)=false∧∃vs,KV kvs vs∧h.DictOf (cg P w) a vs
  | .dT kvs=>kvs.length≤sizeLine∧(a == sysModules)=false∧∃xs:List (List bG×Addr×Value),
      Paired (fun (p:List bG×V) (q:List bG×Addr×Value)=>p.1=q.1∧H q.2.1=some (.tup (p.1.map kV))∧RelV p.2 q.2.2) kvs xs∧
      ∃o es ep,h.get? a=some o∧o.ExactDict∧o.data= .dict es ep∧es.toList=xs.map (entryOfKey (tupleKind (cg P w)))∧(xs.map (·.1)).Nodup
  | .set S n=>h.SetOf (intKind P w) a S n
  | .ins C dx fs=>H dx=some (.own a)∧fs.length≤1000∧dx≠a∧h.get? a=some (PySem.W.instObj C dx)∧
      ∃mA,h.Ns1 dx mA∧(∀f,RelO (fs.lookup f) (mA f))∧PySem.Within mA (fs.map (·.1))
  | .own _=>∃o,h.get? a=some o
  | .xd fs=>∃mA,h.Ns1 a mA∧∀f,RelO (fs.lookup f) (mA f)
  | .rng lo hi=>∃t u v,h.get? a=some {cls:= .type "range",data:= .fields #[.int lo t, .int hi u, .int 1 v]}
  | .frz o u=>h.get? a=some o∧ObjOk H h a u
  | .tbl q=>∃ps:Array Value,h.get? a=some (PySem.W.tabObj ps)∧TriplesOk ps.toList∧∀pos cv,codeAmong pos ps.toList=some cv→∃c,cv=Value.ref c∧H c=some (.own a)∧h.CodeRec cv q
  | .met f x=>h.get? a=some (PySem.W.methodObj (.ref f) (.ref x))
  | .ext φ=>φ h∧(∃o,h.get? a=some o)∧∀h1 h2:Heap,φ h1→(∀o,h1.get? a=some o→h2.get? a=some o)→φ h2
def HOk (H:Hp) (h:Heap):Prop:=∀a o,H a=some o→ObjOk P w H h a o
end
section
variable {P:Program} {w:World} {H H':Hp} {h h':Heap} {a:Addr} {o:HO}
theorem ObjOk.lt (x:ObjOk P w H h a o):a < h.objs.size:=by
  cases o with
  | lst xs=>obtain ⟨_,_,_,_,e⟩:=x;exact Heap.lt_size e
  | tup xs=>obtain ⟨_,_,_,p⟩:=x;exact p.lt
  | dK kvs=>obtain ⟨_,_,_,_,o,_,_,e,_⟩:=x;exact Heap.lt_size e
  | dT kvs=>obtain ⟨_,_,_,_,o,_,_,e,_⟩:=x;exact Heap.lt_size e
  | set S n=>obtain ⟨o,_,_,_,e,_⟩:=x;exact Heap.lt_size e
  | ins C dx fs=>obtain ⟨_,_,_,e,_⟩:=x;exact Heap.lt_size e
  | own y=>obtain ⟨_,e⟩:=x;exact Heap.lt_size e
  | xd fs=>obtain ⟨_,⟨_,_,_,e,_⟩,_⟩:=x;exact Heap.lt_size e
  | rng lo hi=>obtain ⟨_,_,_,e⟩:=x;exact Heap.lt_size e
  | frz ob u=>obtain ⟨e,_⟩:=x;exact Heap.lt_size e
  | tbl q=>obtain ⟨_,e,_⟩:=x;exact Heap.lt_size e
  | met f y=>exact Heap.lt_size (show h.get? a=some _ from x)
  | ext φ=>obtain ⟨_,⟨_,e⟩,_⟩:=x;exact Heap.lt_size e
theorem Paired.mapP {α β:Type} {F G:α→β→Prop} {l₁:List α} {l₂:List β} (h:Paired F l₁ l₂) (f:∀a b,F a b→G a b):Paired G l₁ l₂:=by
  induction h with
  | nil=>exact .nil
  | cons r _ t=>exact .cons (f _ _ r) t
theorem ObjOk.stay (x:ObjOk P w H h a o) (k:∀b u,(b=a∨H b=some (.own a))→h.get? b=some u→h'.get? b=some u)
    (ho:∀b,H b=some (.own a)→H' b=some (.own a)) (ht:∀b xs,H b=some (.tup xs)→H' b=some (.tup xs)):ObjOk P w H' h' a o:=by
  induction o with
  | lst xs=>obtain ⟨z,its,n,r,e⟩:=x;exact ⟨z,its,n,r,k _ _ (.inl rfl) e⟩
  | tup xs=>obtain ⟨z,its,r,ob,e,c⟩:=x;exact ⟨z,its,r,ob,k _ _ (.inl rfl) e,c⟩
  | dK kvs=>obtain ⟨z,y,vs,r,ob,es,ep,e,c⟩:=x;exact ⟨z,y,vs,r,ob,es,ep,k _ _ (.inl rfl) e,c⟩
  | dT kvs=>
    obtain ⟨z,y,xs,r,ob,es,ep,e,c⟩:=x
    exact ⟨z,y,xs,Paired.mapP r fun p q z=>⟨z.1,ht _ _ z.2.1,z.2.2⟩,ob,es,ep,k _ _ (.inl rfl) e,c⟩
  | set S n=>obtain ⟨ob,es,ep,t,e,c⟩:=x;exact ⟨ob,es,ep,t,k _ _ (.inl rfl) e,c⟩
  | ins C dx fs=>
    obtain ⟨d,z,ne,e,mA,⟨od,es,ep,e2,c⟩,r⟩:=x
    exact ⟨ho _ d,z,ne,k _ _ (.inl rfl) e,mA,⟨od,es,ep,k _ _ (.inr d) e2,c⟩,r⟩
  | own y=>obtain ⟨ob,e⟩:=x;exact ⟨ob,k _ _ (.inl rfl) e⟩
  | xd fs=>obtain ⟨mA,⟨od,es,ep,e,c⟩,r⟩:=x;exact ⟨mA,⟨od,es,ep,k _ _ (.inl rfl) e,c⟩,r⟩
  | rng lo hi=>obtain ⟨t,u,v,e⟩:=x;exact ⟨t,u,v,k _ _ (.inl rfl) e⟩
  | frz ob u ih=>obtain ⟨e,q⟩:=x;exact ⟨k _ _ (.inl rfl) e,ih q⟩
  | tbl q=>
    obtain ⟨ps,e,t,r⟩:=x
    refine ⟨ps,k _ _ (.inl rfl) e,t,fun pos cv z=>?_⟩
    obtain ⟨c,ec,ho',c2,oc,vs,tq,hc,hoc,hd⟩:=r pos cv z
    subst ec
    cases hc
    exact ⟨c,rfl,ho _ ho',c,oc,vs,tq,rfl,k _ _ (.inr ho') hoc,hd⟩
  | met f y=>
    have e:h.get? a=some (PySem.W.methodObj (.ref f) (.ref y)):=x
    show h'.get? a=some (PySem.W.methodObj (.ref f) (.ref y))
    exact k a _ (.inl rfl) e
  | ext φ=>obtain ⟨p,⟨o,e⟩,st⟩:=x;exact ⟨st _ _ p fun o q=>k _ _ (.inl rfl) q,⟨o,k _ _ (.inl rfl) e⟩,st⟩
theorem HOk.lt (x:HOk P w H h) (e:H a=some o):a < h.objs.size:=(x a o e).lt
theorem HOk.fresh (x:HOk P w H h) (e:h.objs.size≤a):H a=none:=by
  cases q:H a with
  | none=>rfl
  | some u=>exact absurd (Nat.lt_of_lt_of_le (x.lt q) e) (Nat.lt_irrefl _)
theorem HOk.kept (x:HOk P w H h) (k:∀b u,h.get? b=some u→h'.get? b=some u):HOk P w H h':=fun a o e=>
  (x a o e).stay (fun b u _ q=>k b u q) (fun _ q=>q) fun _ _ q=>q
theorem HOk.laid (x:HOk P w H h) (k:∀b u,h.get? b=some u→h'.get? b=some u) (hp:h.objs.size≤a) (new:ObjOk P w (upd H a o) h' a o):HOk P w (upd H a o) h':=fun b u e=>by
  have hn:=x.fresh hp
  by_cases hb:b=a
  · subst hb;rw [aY] at e;cases e;exact new
  · rw [ax hb] at e
    exact (x b u e).stay (fun c v _ q=>k c v q) (fun c q=>by rw [ax (bH q hn)];exact q) fun c xs q=>by rw [ax (bH q hn)];exact q
end
def Rd (H:Hp) (a:Addr) (u:HO):Prop:=H a=some u∨∃o,H a=some (.frz o u)
theorem Rd.of {H:Hp} {a:Addr} {u:HO} (h:H a=some u):Rd H a u:= .inl h
theorem Rd.ok {P:Program} {w:World} {H:Hp} {h:Heap} {a:Addr} {u:HO} (r:Rd H a u) (x:HOk P w H h):ObjOk P w H h a u:=by
  rcases r with r | ⟨o,r⟩
  · exact x a u r
  · obtain ⟨_,q⟩:=x a _ r
    exact q
def qQ:Option HO→Prop
  | some (.lst _)=>True
  | some (.dK _)=>True
  | some (.dT _)=>True
  | some (.set _ _)=>True
  | some (.ins _ _ _)=>True
  | some (.ext _)=>True
  | _=>False
section
variable {P:Program} {w:World} {H:Hp} {h h':Heap} {x e:Addr} {o':HO}
theorem HOk.write (ok:HOk P w H h) (mu:qQ (H x)) (he:e=x∨H e=some (.own x)) (k:∀b u,b≠e→h.get? b=some u→h'.get? b=some u) (heo:∃u,h'.get? e=some u)
    (new:ObjOk P w (upd H x o') h' x o'):HOk P w (upd H x o') h':=fun b u q=>by
  have nown:∀c y,H c=some (.own y)→c≠x:=fun c y r z=>by subst z;rw [r] at mu;exact mu
  have ntup:∀c xs,H c=some (.tup xs)→c≠x:=fun c xs r z=>by subst z;rw [r] at mu;exact mu
  by_cases hb:b=x
  · subst hb;rw [aY] at q;cases q;exact new
  · rw [ax hb] at q
    by_cases hbe:b=e
    · have q':H b=some (.own x):=by
        rcases he with z | z
        · exact absurd (hbe.trans z) hb
        · rw [hbe];exact z
      rw [q] at q';cases q'
      obtain ⟨v,hv⟩:=heo
      exact ⟨v,by rw [hbe];exact hv⟩
    · refine (ok b u q).stay (fun c v hc r=>k c v ?_ r) (fun c r=>by rw [ax (nown c b r)];exact r) fun c xs r=>by rw [ax (ntup c xs r)];exact r
      rcases hc with rfl | hc
      · exact hbe
      · rintro rfl
        rcases he with z | z
        · exact nown c b hc z
        · rw [hc] at z;cases z;exact hb rfl
end
structure Un (fs ex:List Addr) (H H':Hp) (h h':Heap):Prop where
  keep:∀b o,h.get? b=some o→H b=none→b∉fs→b∉ex→h'.get? b=some o
  slot:∀b o,h.get? b=some o→H b=none→b∈fs→b∉ex→∃sl,h'.get? b=some {o with slots:=sl}
  free:∀b o,h.get? b=some o→H b=none→b∉ex→H' b=none
  there:∀b o,h.get? b=some o→b∉ex→∃o',h'.get? b=some o'
  tups:∀b xs,H b=some (.tup xs)→H' b=some (.tup xs)
  frzs:∀b o u,H b=some (.frz o u)→H' b=some (.frz o u)
  tbls:∀b ps,H b=some (.tbl ps)→H' b=some (.tbl ps)
section
variable {fs fs' ex ex':List Addr} {H H1 H2:Hp} {h h1 h2 h':Heap} {a x e:Addr} {o:HO}
theorem Un.any (u:Un fs ex H H1 h h1) {b:Addr} {ob:Obj} (q:h.get? b=some ob) (n:H b=none) (hx:b∉ex):∃sl,h1.get? b=some {ob with slots:=sl}:=by
  by_cases hb:b∈fs
  · exact u.slot b ob q n hb hx
  · exact ⟨ob.slots,u.keep b ob q n hb hx⟩
theorem Un.trans (a:Un fs ex H H1 h h1) (b:Un fs ex H1 H2 h1 h2):Un fs ex H H2 h h2 where
  keep:=fun c ob q n hc hx=>b.keep c ob (a.keep c ob q n hc hx) (a.free c ob q n hx) hc hx
  slot:=fun c ob q n hc hx=>by
    obtain ⟨sl,e1⟩:=a.slot c ob q n hc hx
    obtain ⟨sl',e2⟩:=b.slot c _ e1 (a.free c ob q n hx) hc hx
    exact ⟨sl',e2⟩
  free:=fun c ob q n hx=>by
    obtain ⟨o',e1⟩:=a.there c ob q hx
    exact b.free c o' e1 (a.free c ob q n hx) hx
  there:=fun c ob q hx=>by
    obtain ⟨o',e1⟩:=a.there c ob q hx
    exact b.there c o' e1 hx
  tups:=fun c xs q=>b.tups c xs (a.tups c xs q)
  frzs:=fun c ob xs q=>b.frzs c ob xs (a.frzs c ob xs q)
  tbls:=fun c ps q=>b.tbls c ps (a.tbls c ps q)
theorem Un.kept (k:∀b u,h.get? b=some u→h'.get? b=some u):Un fs ex H H h h':=
  ⟨fun b ob q _ _ _=>k b ob q,fun b ob q _ _ _=>⟨ob.slots,k b ob q⟩,fun _ _ _ n _=>n,fun b ob q _=>⟨ob,k b ob q⟩,fun _ _ q=>q,fun _ _ _ q=>q,fun _ _ q=>q⟩
theorem Un.refl:Un fs ex H H h h:=Un.kept fun _ _ q=>q
theorem Un.laid (k:∀b u,h.get? b=some u→h'.get? b=some u) (hp:h.objs.size≤a) (hn:H a=none):Un fs ex H (upd H a o) h h' where
  keep:=fun b u q _ _ _=>k b u q
  slot:=fun b u q _ _ _=>⟨u.slots,k b u q⟩
  free:=fun b u q n _=>by rw [ax (Nat.ne_of_lt (Nat.lt_of_lt_of_le (Heap.lt_size q) hp))];exact n
  there:=fun b u q _=>⟨u,k b u q⟩
  tups:=fun b xs q=>by rw [ax (bH q hn)];exact q
  frzs:=fun b u xs q=>by rw [ax (bH q hn)];exact q
  tbls:=fun b ps q=>by rw [ax (bH q hn)];exact q
theorem Un.write (mu:qQ (H x)) (he:e=x∨H e=some (.own x)) (k:∀b u,b≠e→h.get? b=some u→h'.get? b=some u) (heo:∃u,h'.get? e=some u):Un fs ex H (upd H x o) h h':=by
  have hx:∀b,H b=none→b≠x:=fun b n z=>by subst z;rw [n] at mu;exact mu
  have hb:∀b,H b=none→b≠e:=fun b n z=>by
    subst z
    rcases he with r | r
    · exact hx b n r
    · rw [n] at r;cases r
  have hm:∀b u,H b=some u→¬qQ (some u)→b≠x:=fun b u q nm z=>by subst z;rw [q] at mu;exact nm mu
  refine ⟨fun b u q n _ _=>k b u (hb b n) q,fun b u q n _ _=>⟨u.slots,k b u (hb b n) q⟩,fun b u q n _=>by rw [ax (hx b n)];exact n,fun b u q _=>?_,
    fun b xs q=>by rw [ax (hm b _ q fun z=>z)];exact q,fun b u xs q=>by rw [ax (hm b _ q fun z=>z)];exact q,fun b ps q=>by rw [ax (hm b _ q fun z=>z)];exact q⟩
  by_cases hbe:b=e
  · subst hbe;exact heo
  · exact ⟨u,k b u hbe q⟩
theorem Un.mono (u:Un fs ex H H1 h h1) (hs:∀b∈fs,b∈fs') (hx:∀b∈ex,b∈ex'):Un fs' ex' H H1 h h1:=
  ⟨fun b ob q n hb he=>u.keep b ob q n (fun z=>hb (hs b z)) fun z=>he (hx b z),fun _ _ q n _ he=>u.any q n fun z=>he (hx _ z),fun b ob q n he=>u.free b ob q n fun z=>he (hx b z),fun b ob q he=>u.there b ob q fun z=>he (hx b z),u.tups,u.frzs,u.tbls⟩
end
def sM (h:Heap) (H:Hp):List Addr:=(List.range h.objs.size).filter fun a=>(H a).isSome
def hW (h:Heap) (H:Hp):Heap:=PySem.W.hideAll h (sM h H)
theorem jP (h:Heap) (H:Hp):(hW h H).objs.size=h.objs.size:=PySem.W.hideAll_size _ _
theorem fi {h:Heap} {H:Hp} {b:Addr} {o:Obj} (e:h.get? b=some o) (n:H b=none):(hW h H).get? b=some o:=
  PySem.W.hideAll_get _ e fun hm=>by
    have q:(H b).isSome=true:=(List.mem_filter.mp hm).2
    rw [n] at q;simp at q
theorem my {h:Heap} {H:Hp} {b:Addr} {o:Obj} (e:(hW h H).get? b=some o):h.get? b=some o∧H b=none:=by
  have e':h.get? b=some o:=PySem.W.of_hideAll (sM h H) e
  refine ⟨e',?_⟩
  cases q:H b with
  | none=>rfl
  | some x=>
    have hm:b∈sM h H:=List.mem_filter.mpr ⟨List.mem_range.mpr (Heap.lt_size e'),by simp [q]⟩
    have z:(hW h H).get? b=none:=PySem.W.hideAll_none (sM h H) hm
    rw [z] at e;cases e
def mz (g h:Heap) (L:Addr):List (Addr×Obj):=(List.range h.objs.size).filterMap fun a=>if a=L∨(g.get? a).isSome=true then none else (h.get? a).map fun o=>(a,o)
def bO (g h:Heap) (L d:Addr):List (Addr×Obj):=(mz g h L).filter fun p=>decide (p.1≠d)
end L2
namespace L2
open PySem PySem.Spec PyProof.Rows
def qR (K:PySem.W.Frag):Option Addr:=match PySem.W.nsIn K mainGlobals "in_told_order" with
  | some (some (.ref f))=>match K.lookup f with
    | some ⟨_,_, .func fd,_⟩=>match fd.code with
      | .ref c=>match K.lookup c with
        | some ⟨_,_, .fields vs,_⟩=>match (vs[11]? :Option Value) with
          | some (.ref P)=>some P
          | _=>none
        | _=>none
      | _=>none
    | _=>none
  | _=>none
def fj (K:PySem.W.Frag) (b:Addr):Option Str:=if qR K=some b then some (Str.ofString "in_told_order.<locals>.<lambda>") else none
structure Mod (K:PySem.W.Frag) (mg:Str→Option Value) (base:Heap):Prop where
  kin:K.In base
  glob:base.Ns mainGlobals mg
  blt:∃mb,base.Ns builtinsNs mb∧∀x:Str,x≠"__name__"→mb x=bootBuiltins x
  nolimit:base.NoLimit
  bmain:∃bm ob,mg "__builtins__"=some (.ref bm)∧bm≠builtinsNs∧base.get? bm=some ob∧ob.cls= .type "module"∧ob.dict=some builtinsNs∧ob.data= .plain
structure Cx where
  prog:Program
  w:World
  K:PySem.W.Frag
  mg:Str→Option Value
  base:Heap
  A:Around
  N:List Str
  s₀:Shared
  H₀:Hp
  env:Env
  outer:List Env
  stack:List Env
  ex:List Addr
  fn:Str→Bool
  calm:Bool
  pn:List (Addr×Obj)
  xe:Value→Shared→Prop
def eG (l:List Env):List Addr:=l.filterMap (·.frame)
abbrev Cx.fs (X:Cx):List Addr:=eG X.outer
def jk (sc:Scope) (x:Str):Prop:=sc.names.lookup x=some .local∨sc.names.lookup x=some .cell∨sc.names.lookup x=some .free
def kH (sc:Scope) (x:Str):Prop:=sc.names.lookup x=some .local∨sc.names.lookup x=some .cell
def sU (env:Env) (h:Heap) (m:Str→Option Value) (x:Str) (u:Value):Prop:=
  (env.kindOf x=some .local∧m x=some u)∨((env.kindOf x=some .cell∨env.kindOf x=some .free)∧∃c,env.cells.lookup x=some c∧h.IsCell c (some u))
structure Cx.Ok (X:Cx):Prop where
  mod:Mod X.K X.mg X.base
  kind:X.env.scope.kind= .function
  glob:X.env.globals=mainGlobals
  blt:X.env.builtins=builtinsNs
  above:X.s₀.heap.objs.size≤X.env.locals
  inj:∀x y c,X.env.cells.lookup x=some c→X.env.cells.lookup y=some c→x=y
  has:∀x,(X.env.kindOf x=some .cell∨X.env.kindOf x=some .free)→∃c,X.env.cells.lookup x=some c
  cab:∀x c,X.fn x=true→X.env.cells.lookup x=some c→X.s₀.heap.objs.size≤c
  hd:X.calm=true→X.A.handled=none
  frames:X.A.frames=some X.stack
  stk:X.stack=X.outer∨(X.stack=X.env::X.outer∧X.env.frame=some X.env.locals)
  exf:∀b∈X.ex,b≠X.env.locals∧∀x c,X.env.cells.lookup x=some c→c≠b
  bs:∀b o,X.base.get? b=some o→X.s₀.heap.get? b=some o∧X.H₀ b=none
  bsz:X.base.objs.size≤X.s₀.heap.objs.size
  noex:∀b o,X.base.get? b=some o→b∉X.ex
  exfs:∀b∈X.ex,b∉X.fs
  funs:X.s₀.heap.FunFrames X.base X.outer
  frf:∀b∈X.fs,X.H₀ b=none
  tab:∀b q,fj X.K b=some q→X.H₀ b=some (.tbl q)
structure Inv (X:Cx) (pins:List (Addr×Obj)) (σ:List (Option V)) (H:Hp) (s:Shared):Prop where
  ok:X.Ok
  os:s.os=X.s₀.os
  bare:AllBare s.gens
  base:Un X.fs X.ex X.H₀ H X.s₀.heap s.heap
  loc:∃m,s.heap.Ns X.env.locals m∧∀(i:Nat) (x:Str) (v:V),X.N[i]? =some x→σ[i]? =some (some v)→jk X.env.scope x→∃u,RelV v u∧sU X.env s.heap m x u
  cell:∀x c,X.env.cells.lookup x=some c→∃v,s.heap.IsCell c v
  free:H X.env.locals=none
  freeC:∀x c,X.env.cells.lookup x=some c→H c=none
  pin:∀p∈X.pn++pins,s.heap.get? p.1=some p.2∧H p.1=none∧p.1≠X.env.locals∧p.1∉X.fs∧∀v,p.2.data≠ .cell v
  hok:HOk X.prog X.w H s.heap
  len:σ.length=X.N.length
section
variable {X:Cx} {pins:List (Addr×Obj)} {σ:List (Option V)} {H H':Hp} {s:Shared} {h':Heap}
theorem Cx.Ok.nofr (ok:X.Ok) {b:Addr} {o:Obj} (e:X.base.get? b=some o):b∉X.fs:=fun hb=>by
  have:=(ok.funs.mem hb).1
  rw [e] at this;cases this
theorem Inv.bs (I:Inv X pins σ H s):∀b o,X.base.get? b=some o→s.heap.get? b=some o∧H b=none:=fun b o e=>
  ⟨I.base.keep b o (I.ok.bs b o e).1 (I.ok.bs b o e).2 (I.ok.nofr e) (I.ok.noex b o e),I.base.free b o (I.ok.bs b o e).1 (I.ok.bs b o e).2 (I.ok.noex b o e)⟩
theorem Inv.bk (I:Inv X pins σ H s):∀b o,X.base.get? b=some o→s.heap.get? b=some o:=fun b o e=>(I.bs b o e).1
theorem Inv.mod (I:Inv X pins σ H s):Mod X.K X.mg X.base:=I.ok.mod
theorem Inv.tab (I:Inv X pins σ H s):∀b q,fj X.K b=some q→H b=some (.tbl q):=fun b q e=>I.base.tbls b q (I.ok.tab b q e)
theorem Inv.kIn (I:Inv X pins σ H s):X.K.In s.heap:=I.ok.mod.kin.keeps I.bk
theorem Inv.nolimit (I:Inv X pins σ H s):s.heap.NoLimit:=I.ok.mod.nolimit.keeps I.bk
theorem Inv.fr (I:Inv X pins σ H s):∃m,Fr X.base X.env.locals s.heap m:=
  let ⟨m,hn,_⟩:=I.loc
  ⟨m,hn,I.bk,Nat.le_trans I.ok.bsz I.ok.above⟩
theorem Inv.lt (I:Inv X pins σ H s):X.env.locals < s.heap.objs.size:=let ⟨_,hn,_⟩:=I.loc;hn.lt
theorem Inv.sz (I:Inv X pins σ H s):X.s₀.heap.objs.size≤s.heap.objs.size:=Nat.le_trans I.ok.above (Nat.le_of_lt I.lt)
theorem Inv.nofs (I:Inv X pins σ H s) {a:Addr} (h:s.heap.objs.size≤a):a∉X.fs:=fun hb=>by
  obtain ⟨_,o,ho,_⟩:=I.ok.funs.mem hb
  exact absurd (Nat.lt_of_lt_of_le (Heap.lt_size ho) (Nat.le_trans I.sz h)) (Nat.lt_irrefl _)
theorem Inv.cne (I:Inv X pins σ H s):∀x c,X.env.cells.lookup x=some c→c≠X.env.locals:=fun x c e z=>by
  obtain ⟨v,o,ho,hd⟩:=I.cell x c e
  obtain ⟨m,⟨o',es,ep,ho',hd',_⟩,_⟩:=I.loc
  rw [z,ho'] at ho;cases ho;rw [hd'] at hd;cases hd
theorem Inv.funs (I:Inv X pins σ H s):s.heap.FunFrames X.base X.outer:=by
  have all:∀(l:List Env),(∀b∈eG l,b∈X.fs)→X.s₀.heap.FunFrames X.base l→s.heap.FunFrames X.base l:=by
    intro l
    induction l with
    | nil=>intro _ _;trivial
    | cons env r ih=>
      intro hs hl
      obtain ⟨hk,⟨L,o,hf,hn,ho,hd⟩,hr⟩:=hl
      have hL:L∈X.fs:=hs L (by unfold eG;rw [List.filterMap_cons,hf];exact List.mem_cons_self)
      obtain ⟨sl,e⟩:=I.base.slot L o ho (I.ok.frf L hL) hL fun z=>I.ok.exfs L z hL
      exact ⟨hk,⟨L,_,hf,hn,e,hd⟩,ih (fun b hb=>hs b (by unfold eG;rw [List.filterMap_cons,hf];exact List.mem_cons_of_mem _ hb)) hr⟩
  exact all X.outer (fun _ hb=>hb) I.ok.funs
theorem Inv.stack (I:Inv X pins σ H s):s.heap.FunFrames X.base X.stack:=by
  rcases I.ok.stk with e | ⟨e,hf⟩
  · rw [e];exact I.funs
  · rw [e]
    obtain ⟨m,hn,_⟩:=I.loc
    refine .cons (by rw [I.ok.kind];decide) hf hn ?_ I.funs
    exact Heap.get?_none_of_le (Nat.le_trans I.ok.bsz I.ok.above)
theorem Inv.stkSub (I:Inv X pins σ H s):∀b∈eG X.stack,b∈X.env.locals::X.fs:=fun b hb=>by
  rcases I.ok.stk with e | ⟨e,hf⟩
  · rw [e] at hb;exact List.mem_cons_of_mem _ hb
  · rw [e] at hb
    unfold eG at hb
    rw [List.filterMap_cons,hf] at hb
    exact hb
theorem Inv.stkFree (I:Inv X pins σ H s):∀b∈eG X.stack,H b=none:=fun b hb=>by
  rcases List.mem_cons.mp (I.stkSub b hb) with e | hb
  · rw [e];exact I.free
  · obtain ⟨_,o,ho,_⟩:=I.ok.funs.mem hb
    exact I.base.free b o ho (I.ok.frf b hb) fun z=>I.ok.exfs b z hb
theorem Inv.step {g':Array GenState} {t':Nat} {d':Drawn} {ch:List Addr} (I:Inv X pins σ H s)
    (hch:∀b∈ch,(b∈X.ex∨X.s₀.heap.objs.size≤b)∧b≠X.env.locals∧(∀x c,X.env.cells.lookup x=some c→c≠b)∧∀p∈X.pn++pins,p.1≠b)
    (keep:∀b o,b≠X.env.locals→b∉X.fs→b∉ch→s.heap.get? b=some o→H b=none→h'.get? b=some o)
    (slot:∀b o,b≠X.env.locals→b∈X.fs→b∉ch→s.heap.get? b=some o→H b=none→∃sl,h'.get? b=some {o with slots:=sl}) (free:∀b o,b∉ch→s.heap.get? b=some o→H b=none→H' b=none)
    (there:∀b o,b∉ch→s.heap.get? b=some o→∃o',h'.get? b=some o')
    (tups:∀b xs,H b=some (.tup xs)→H' b=some (.tup xs)) (frzs:∀b o u,H b=some (.frz o u)→H' b=some (.frz o u)) (tbls:∀b ps,H b=some (.tbl ps)→H' b=some (.tbl ps))
    (ns:∀m,s.heap.Ns X.env.locals m→h'.Ns X.env.locals m) (hok:HOk X.prog X.w H' h') (hg:AllBare g'):
    Inv X pins σ H' {s with heap:=h',gens:=g',drawn:=d',toks:=t'}:=by
  have neL:∀b o,X.s₀.heap.get? b=some o→b≠X.env.locals:=fun b o e=>Nat.ne_of_lt (Nat.lt_of_lt_of_le (Heap.lt_size e) I.ok.above)
  have neC:∀b o,X.s₀.heap.get? b=some o→b∉X.ex→b∉ch:=fun b o e hx hb=>by
    rcases (hch b hb).1 with z | z
    · exact hx z
    · exact absurd (Nat.lt_of_lt_of_le (Heap.lt_size e) z) (Nat.lt_irrefl _)
  have cellK:∀x c,X.env.cells.lookup x=some c→∀v,s.heap.IsCell c v→h'.IsCell c v:=fun x c e v ⟨o,ho,hd⟩=>by
    have nch:c∉ch:=fun z=>(hch c z).2.2.1 x c e rfl
    by_cases hc:c∈X.fs
    · obtain ⟨sl,q⟩:=slot c o (I.cne x c e) hc nch ho (I.freeC x c e)
      exact ⟨_,q,hd⟩
    · exact ⟨o,keep c o (I.cne x c e) hc nch ho (I.freeC x c e),hd⟩
  refine ⟨I.ok,I.os,hg,⟨fun b o e n hb hx=>?_,fun b o e n hb hx=>?_,fun b o e n hx=>?_,fun b o e hx=>?_,fun b xs e=>tups b xs (I.base.tups b xs e),fun b o xs e=>frzs b o xs (I.base.frzs b o xs e),fun b ps e=>?_⟩,?_,fun x c e=>?_,?_,fun x c e=>?_,fun p hp=>?_,hok,I.len⟩
  · exact keep b o (neL b o e) hb (neC b o e hx) (I.base.keep b o e n hb hx) (I.base.free b o e n hx)
  · obtain ⟨sl,e1⟩:=I.base.slot b o e n hb hx
    obtain ⟨sl',e2⟩:=slot b _ (neL b o e) hb (neC b o e hx) e1 (I.base.free b o e n hx)
    exact ⟨sl',e2⟩
  · obtain ⟨o',e1⟩:=I.base.there b o e hx
    exact free b o' (neC b o e hx) e1 (I.base.free b o e n hx)
  · obtain ⟨o',e1⟩:=I.base.there b o e hx
    exact there b o' (neC b o e hx) e1
  · exact tbls b _ (I.base.tbls b ps e)
  · obtain ⟨m,hn,hl⟩:=I.loc
    refine ⟨m,ns m hn,fun i x v e1 e2 e3=>?_⟩
    obtain ⟨u,r,l⟩:=hl i x v e1 e2 e3
    refine ⟨u,r,?_⟩
    rcases l with l | ⟨k,c,e,z⟩
    · exact .inl l
    · exact .inr ⟨k,c,e,cellK x c e _ z⟩
  · obtain ⟨v,z⟩:=I.cell x c e
    exact ⟨v,cellK x c e v z⟩
  · obtain ⟨m,⟨o,_,_,ho,_⟩,_⟩:=I.loc
    exact free _ o (fun z=>(hch _ z).2.1 rfl) ho I.free
  · obtain ⟨v,o,ho,hd⟩:=I.cell x c e
    exact free c o (fun z=>(hch c z).2.2.1 x c e rfl) ho (I.freeC x c e)
  · obtain ⟨e,n,ne,nf,d⟩:=I.pin p hp
    have nch:p.1∉ch:=fun z=>(hch p.1 z).2.2.2 p hp rfl
    exact ⟨keep p.1 p.2 ne nf nch e n,free p.1 p.2 nch e n,ne,nf,d⟩
theorem Inv.un {t':Nat} (I:Inv X pins σ H s) (u:Un X.fs [] H H' s.heap h') (hok:HOk X.prog X.w H' h'):Inv X pins σ H' {s with heap:=h',toks:=t'}:=by
  obtain ⟨m,⟨o,es,ep,ho,r⟩,_⟩:=id I.loc
  obtain ⟨sl,hL⟩:=u.any ho I.free (by simp)
  exact I.step (g':=s.gens) (d':=s.drawn) (ch:=[]) (fun _ z=>nomatch z) (fun b o _ hb _ e n=>u.keep b o e n hb (by simp)) (fun b o _ hb _ e n=>u.slot b o e n hb (by simp)) (fun b o _ e n=>u.free b o e n (by simp)) (fun b o _ e=>u.there b o e (by simp)) u.tups u.frzs u.tbls (fun m' hm=>by
    obtain ⟨o',es',ep',ho',r'⟩:=hm
    rw [ho] at ho';cases ho'
    exact ⟨_,es',ep',hL,r'⟩) hok I.bare
theorem Inv.call {g':Array GenState} {t':Nat} {d':Drawn} {ch:List Addr} (I:Inv X pins σ H s) (u:Un (eG X.stack) ch H H' s.heap h') (hok:HOk X.prog X.w H' h') (hg:AllBare g')
    (hch:∀b∈ch,(b∈X.ex∨X.s₀.heap.objs.size≤b)∧b≠X.env.locals∧(∀x c,X.env.cells.lookup x=some c→c≠b)∧∀p∈X.pn++pins,p.1≠b):
    Inv X pins σ H' {s with heap:=h',gens:=g',drawn:=d',toks:=t'}:=by
  obtain ⟨m,⟨o,es,ep,ho,r⟩,_⟩:=id I.loc
  obtain ⟨sl,hL⟩:=u.any ho I.free fun z=>(hch _ z).2.1 rfl
  exact I.step (ch:=ch) hch (fun b o hL hb hc e n=>u.keep b o e n (fun z=>(List.mem_cons.mp (I.stkSub b z)).elim hL hb) hc) (fun b o _ _ hc e n=>u.any e n hc) (fun b o hc e n=>u.free b o e n hc) (fun b o hc e=>u.there b o e hc) u.tups u.frzs u.tbls (fun m' hm=>by
    obtain ⟨o',es',ep',ho',r'⟩:=hm
    rw [ho] at ho';cases ho'
    exact ⟨_,es',ep',hL,r'⟩) hok hg
theorem Inv.turned {t':Nat} {it:Addr} (I:Inv X pins σ H s) (k:∀b o,b≠it→s.heap.get? b=some o→h'.get? b=some o) (hn:H it=none) (hL:it≠X.env.locals)
    (h1:it∈X.ex∨X.s₀.heap.objs.size≤it) (h2:∀x c,X.env.cells.lookup x=some c→c≠it) (h3:∀p∈X.pn++pins,p.1≠it):Inv X pins σ H {s with heap:=h',toks:=t'}:=by
  have nit:∀b u,H b=some u→b≠it:=fun b u e z=>by rw [z,hn] at e;cases e
  refine I.step (g':=s.gens) (d':=s.drawn) (ch:=[it]) (fun b hb=>?_) (fun b o _ _ hc e _=>k b o (fun z=>hc (by simp [z])) e) (fun b o _ _ hc e _=>⟨o.slots,k b o (fun z=>hc (by simp [z])) e⟩) (fun _ _ _ _ n=>n)
    (fun b o hc e=>⟨o,k b o (fun z=>hc (by simp [z])) e⟩) (fun _ _ e=>e) (fun _ _ _ e=>e) (fun _ _ e=>e) (fun m hm=>?_) (fun b u e=>?_) I.bare
  · have e:b=it:=by simpa using hb
    subst e
    exact ⟨h1,hL,h2,h3⟩
  · obtain ⟨o,es,ep,ho,r⟩:=hm
    exact ⟨o,es,ep,k _ o (Ne.symm hL) ho,r⟩
  · refine (I.hok b u e).stay (fun c v hc q=>k c v ?_ q) (fun _ q=>q) fun _ _ q=>q
    rcases hc with z | z
    · rw [z];exact nit b u e
    · exact nit c _ z
theorem Inv.tok (I:Inv X pins σ H s) (t:Nat):Inv X pins σ H {s with toks:=t}:=I.un (h':=s.heap) (t':=t) Un.refl I.hok
theorem Inv.kept {t':Nat} (I:Inv X pins σ H s) (k:∀b u,s.heap.get? b=some u→h'.get? b=some u):Inv X pins σ H {s with heap:=h',toks:=t'}:=I.un (Un.kept k) (I.hok.kept k)
theorem Inv.laid {a:Addr} {o:HO} {t':Nat} (I:Inv X pins σ H s) (k:∀b u,s.heap.get? b=some u→h'.get? b=some u) (hp:s.heap.objs.size≤a) (new:ObjOk X.prog X.w (upd H a o) h' a o):
    Inv X pins σ (upd H a o) {s with heap:=h',toks:=t'}:=I.un (Un.laid k hp (I.hok.fresh hp)) (I.hok.laid k hp new)
theorem Inv.write {x e:Addr} {o:HO} {t':Nat} (I:Inv X pins σ H s) (mu:qQ (H x)) (he:e=x∨H e=some (.own x)) (k:∀b u,b≠e→s.heap.get? b=some u→h'.get? b=some u) (heo:∃u,h'.get? e=some u)
    (new:ObjOk X.prog X.w (upd H x o) h' x o):Inv X pins σ (upd H x o) {s with heap:=h',toks:=t'}:=I.un (Un.write mu he k heo) (I.hok.write mu he k heo new)
theorem Inv.pins_of {pins':List (Addr×Obj)} (I:Inv X pins σ H s) (h:∀p∈pins',s.heap.get? p.1=some p.2∧H p.1=none∧p.1≠X.env.locals∧p.1∉X.fs∧∀v,p.2.data≠ .cell v):Inv X pins' σ H s:=
  ⟨I.ok,I.os,I.bare,I.base,I.loc,I.cell,I.free,I.freeC,fun p hp=>(List.mem_append.mp hp).elim (fun z=>I.pin p (List.mem_append_left _ z)) (h p),I.hok,I.len⟩
theorem fm {N:List Str} (hN:N.Nodup) {i j:Nat} {x:Str} (a:N[i]? =some x) (b:N[j]? =some x):i=j:=by
  obtain ⟨h1,e1⟩:=List.getElem?_eq_some_iff.mp a
  obtain ⟨h2,e2⟩:=List.getElem?_eq_some_iff.mp b
  exact (List.getElem_inj hN).mp (e1.trans e2.symm)
theorem jQ {M:Model} {A:Around} {E:Value→Shared→Prop} {i:Nat} {x:Str} {v:V} {u:Value} {Q:Unit→Shared→Prop} (I:Inv X pins σ H s) (hN:X.N.Nodup) (hi:X.N[i]? =some x) (hx:kH X.env.scope x) (r:RelV v u)
    (h:∀s',Inv X pins (σ.set i (some v)) H s'→(∃a,Heap.SameBut a s.heap s'.heap∧(a=X.env.locals∨X.env.cells.lookup x=some a))→Q () s') (hf:X.fn x=true∨X.env.scope.names.lookup x=some .local:=by first | exact .inl rfl | exact .inr rfl | assumption):wpAny M A (storeName X.env x u) Q E s:=by
  obtain ⟨m,hn,hl⟩:=id I.loc
  have hcls:(X.env.scope.kind == .class||(X.env.scope.kind == .module&&X.env.locals != X.env.globals))=false:=by rw [I.ok.kind];rfl
  have hiσ:i < σ.length:=by rw [I.len];exact (List.getElem?_eq_some_iff.mp hi).1
  have cne:=I.cne
  have tracked:∀{a:Addr} {h':Heap},(∃o,s.heap.get? a=some o∧H a=none)→Heap.SameBut a s.heap h'→HOk X.prog X.w H h':=fun {a h'} ha hs b ob e=>by
    obtain ⟨_,_,hfree⟩:=ha
    refine (I.hok b ob e).stay (fun c w' hc q=>(hs.2 c ?_).trans q) (fun _ q=>q) fun _ _ q=>q
    rintro rfl
    rcases hc with rfl | hc
    · rw [hfree] at e;cases e
    · rw [hfree] at hc;cases hc
  rcases hx with hk | hk
  · refine wpAny_storeName_local hk hn (fun h' hn' hs=>?_) hcls
    obtain ⟨oL,_,_,hoL,_⟩:=id hn
    refine h _ ⟨I.ok,I.os,I.bare,⟨fun b o e n hb hx=>?_,fun b o e n hb hx=>?_,I.base.free,fun b o e hx=>?_,I.base.tups,I.base.frzs,I.base.tbls⟩,⟨_,hn',fun j y v' e1 e2 e3=>?_⟩,fun y c e=>?_,I.free,I.freeC,fun p hp=>?_,tracked ⟨oL,hoL,I.free⟩ hs,by simpa using I.len⟩ ⟨_,hs, .inl rfl⟩
    · exact (hs.2 b (Nat.ne_of_lt (Nat.lt_of_lt_of_le (Heap.lt_size e) I.ok.above))).trans (I.base.keep b o e n hb hx)
    · obtain ⟨sl,e1⟩:=I.base.slot b o e n hb hx
      exact ⟨sl,(hs.2 b (Nat.ne_of_lt (Nat.lt_of_lt_of_le (Heap.lt_size e) I.ok.above))).trans e1⟩
    · obtain ⟨o',e1⟩:=I.base.there b o e hx
      exact ⟨o',(hs.2 b (Nat.ne_of_lt (Nat.lt_of_lt_of_le (Heap.lt_size e) I.ok.above))).trans e1⟩
    · by_cases hj:j=i
      · subst hj
        rw [hi] at e1;cases e1
        rw [List.getElem?_set_self hiσ] at e2
        cases e2
        exact ⟨u,r, .inl ⟨hk,by simp⟩⟩
      · rw [List.getElem?_set_ne (Ne.symm hj)] at e2
        obtain ⟨u',r',q⟩:=hl j y v' e1 e2 e3
        refine ⟨u',r',?_⟩
        rcases q with ⟨k,e⟩ | ⟨k,c,e,z⟩
        · refine .inl ⟨k,?_⟩
          have:y≠x:=fun e=>hj (fm hN e1 (e▸hi))
          simp [this,e]
        · exact .inr ⟨k,c,e,z.sameBut hs (cne y c e)⟩
    · obtain ⟨w',z⟩:=I.cell y c e
      exact ⟨w',z.sameBut hs (cne y c e)⟩
    · obtain ⟨e,n,ne,nf,d⟩:=I.pin p hp
      exact ⟨(hs.2 p.1 ne).trans e,n,ne,nf,d⟩
  · have hfn:X.fn x=true:=by
      rcases hf with z | z
      · exact z
      · rw [z] at hk;cases hk
    obtain ⟨c,hc⟩:=I.ok.has x (.inl hk)
    obtain ⟨w',z⟩:=I.cell x c hc
    refine wpAny_storeName_cell I.ok.kind hk hc z (fun h' hc' hs=>?_)
    obtain ⟨oc,hoc,hocd⟩:=id z
    refine h {s with heap:=h'} ⟨I.ok,I.os,I.bare,⟨fun b o e n hb hx=>?_,fun b o e n hb hx=>?_,I.base.free,fun b o e hx=>?_,I.base.tups,I.base.frzs,I.base.tbls⟩,⟨m,hn.sameBut hs (Ne.symm (cne x c hc)),fun j y v' e1 e2 e3=>?_⟩,fun y c' e=>?_,I.free,I.freeC,fun p hp=>?_,tracked ⟨oc,hoc,I.freeC x c hc⟩ hs,by simpa using I.len⟩ ⟨c,hs, .inr hc⟩
    · exact (hs.2 b (Nat.ne_of_lt (Nat.lt_of_lt_of_le (Heap.lt_size e) (I.ok.cab x c hfn hc)))).trans (I.base.keep b o e n hb hx)
    · obtain ⟨sl,e1⟩:=I.base.slot b o e n hb hx
      exact ⟨sl,(hs.2 b (Nat.ne_of_lt (Nat.lt_of_lt_of_le (Heap.lt_size e) (I.ok.cab x c hfn hc)))).trans e1⟩
    · obtain ⟨o',e1⟩:=I.base.there b o e hx
      exact ⟨o',(hs.2 b (Nat.ne_of_lt (Nat.lt_of_lt_of_le (Heap.lt_size e) (I.ok.cab x c hfn hc)))).trans e1⟩
    · by_cases hj:j=i
      · subst hj
        rw [hi] at e1;cases e1
        rw [List.getElem?_set_self hiσ] at e2
        cases e2
        exact ⟨u,r, .inr ⟨.inl hk,c,hc,hc'⟩⟩
      · rw [List.getElem?_set_ne (Ne.symm hj)] at e2
        obtain ⟨u',r',q⟩:=hl j y v' e1 e2 e3
        refine ⟨u',r',?_⟩
        rcases q with q | ⟨k,c',e,z'⟩
        · exact .inl q
        · refine .inr ⟨k,c',e,z'.sameBut hs ?_⟩
          rintro rfl
          exact hj (fm hN e1 (I.ok.inj _ _ _ e hc▸hi))
    · by_cases hcc:c'=c
      · subst hcc;exact ⟨_,hc'⟩
      · obtain ⟨w2,z2⟩:=I.cell y c' e
        exact ⟨w2,z2.sameBut hs hcc⟩
    · obtain ⟨e,n,ne,nf,d⟩:=I.pin p hp
      refine ⟨(hs.2 p.1 ?_).trans e,n,ne,nf,d⟩
      intro q
      rw [q,hoc] at e
      have q':oc=p.2:=Option.some.inj e
      exact d w' (by rw [←q'];exact hocd)
theorem fo {M:Model} {A:Around} {E:Value→Shared→Prop} {i:Nat} {x:Str} {v:V} {u:Value} {Q:Unit→Shared→Prop} (I:Inv X pins σ H s) (hN:X.N.Nodup) (hi:X.N[i]? =some x) (hx:kH X.env.scope x) (r:RelV v u)
    (h:∀s',Inv X pins (σ.set i (some v)) H s'→Q () s') (hf:X.fn x=true∨X.env.scope.names.lookup x=some .local:=by first | exact .inl rfl | exact .inr rfl | assumption):wpAny M A (storeName X.env x u) Q E s:=
  jQ I hN hi hx r (fun s' I' _=>h s' I') hf
theorem Inv.call' {s':Shared} {ch:List Addr} (I:Inv X pins σ H s) (ho:s'.os=s.os) (u:Un (eG X.stack) ch H H' s.heap s'.heap) (hok:HOk X.prog X.w H' s'.heap) (hg:AllBare s'.gens)
    (hch:∀b∈ch,(b∈X.ex∨X.s₀.heap.objs.size≤b)∧b≠X.env.locals∧(∀x c,X.env.cells.lookup x=some c→c≠b)∧∀p∈X.pn++pins,p.1≠b):Inv X pins σ H' s':=by
  obtain ⟨h',g',d',t',o'⟩:=s'
  have e:o'=s.os:=ho
  subst e
  exact I.call (g':=g') (t':=t') (d':=d') u hok hg hch
end
abbrev XK:=Value→Option Addr→Hp→Prop
abbrev St:=List (Option V)
abbrev VK:=V→Hp→Prop
abbrev TE:=St→Hp→VK→Prop
abbrev TT:=St→Hp→(Bool→Hp→Prop)→Prop
abbrev TA:=St→Hp→(List V→Hp→Prop)→Prop
structure Ends where
  nx:St→Hp→Prop
  rt:VK
  bk:St→Hp→Prop:=fun _ _=>False
  ct:St→Hp→Prop:=fun _ _=>False
abbrev TS:=Ends→St→Hp→Prop
def EP (X:Cx) (pins:List (Addr×Obj)) (σ:St) (Q:VK) (u:Value) (s':Shared):Prop:=∃v H',Inv X pins σ H' s'∧RelV v u∧Q v H'
def TP (X:Cx) (pins:List (Addr×Obj)) (σ:St) (Q:Bool→Hp→Prop) (b:Bool) (s':Shared):Prop:=∃H',Inv X pins σ H' s'∧Q b H'
def AP (X:Cx) (pins:List (Addr×Obj)) (σ:St) (Q:List V→Hp→Prop) (us:List Value) (s':Shared):Prop:=∃vs H',Inv X pins σ H' s'∧Vals vs us∧Q vs H'
def SP (X:Cx) (pins:List (Addr×Obj)) (D:Ends) (f:Flow) (s':Shared):Prop:=
  match f with
  | .next=>∃σ' H',Inv X pins σ' H' s'∧D.nx σ' H'
  | .brk=>∃σ' H',Inv X pins σ' H' s'∧D.bk σ' H'
  | .cont=>∃σ' H',Inv X pins σ' H' s'∧D.ct σ' H'
  | .ret u=>∃v σ' H',Inv X pins σ' H' s'∧RelV v u∧D.rt v H'
def PE (X:Cx) (e:Expr) (t:TE):Prop:=
  ∀(pins:List (Addr×Obj)) (s:Shared) (σ:St) (H:Hp) (Q:VK),Inv X pins σ H s→t σ H Q→wpAny (model X.prog X.w) X.A (eval e X.env) (EP X pins σ Q) X.xe s
def PT (X:Cx) (e:Expr) (t:TT):Prop:=
  ∀(pins:List (Addr×Obj)) (s:Shared) (σ:St) (H:Hp) (Q:Bool→Hp→Prop),Inv X pins σ H s→t σ H Q→wpAny (model X.prog X.w) X.A (isTrue e X.env (eval e X.env)) (TP X pins σ Q) X.xe s
def PW (X:Cx) (e:Expr) (t:TT):Prop:=
  ∀(whole:Sem Value) (pins:List (Addr×Obj)) (s:Shared) (σ:St) (H:Hp) (Q:Bool→Hp→Prop),Inv X pins σ H s→t σ H Q→wpAny (model X.prog X.w) X.A (isTrue e X.env whole) (TP X pins σ Q) X.xe s
theorem PW.pt {X:Cx} {e:Expr} {t:TT} (h:PW X e t):PT X e t:=h _
def PA (X:Cx) (es:List Expr) (t:TA):Prop:=
  ∀(pos:Pos) (pins:List (Addr×Obj)) (s:Shared) (σ:St) (H:Hp) (Q:List V→Hp→Prop),Inv X pins σ H s→t σ H Q→wpAny (model X.prog X.w) X.A (spliced (backTo pos (starEach es X.env))) (AP X pins σ Q) X.xe s
def PS (X:Cx) (st:Stmt) (t:TS):Prop:=
  ∀(pins:List (Addr×Obj)) (s:Shared) (σ:St) (H:Hp) (D:Ends),Inv X pins σ H s→t D σ H→wpAny (model X.prog X.w) X.A (exec st X.env) (SP X pins D) X.xe s
def PSs (X:Cx) (st:List Stmt) (t:TS):Prop:=
  ∀(pins:List (Addr×Obj)) (s:Shared) (σ:St) (H:Hp) (D:Ends),Inv X pins σ H s→t D σ H→wpAny (model X.prog X.w) X.A (execs st X.env) (SP X pins D) X.xe s
theorem ce {α:Type} {t:Sem α} {Q Q':α→Shared→Prop} {M:Model} {A:Around} {E:Value→Shared→Prop} {s:Shared} (h:wpAny M A t Q E s) (hQ:∀a s,Q a s→Q' a s):wpAny M A t Q' E s:=wpAny_mono h hQ fun _ _ x=>x
end L2
namespace L2
open PySem PySem.Spec PyProof.Rows
section
variable {X:Cx}
def sV (i:Nat):TE:=fun σ H Q=>∃v,σ[i]? =some (some v)∧Q v H
def tC (v:V):TE:=fun _ H Q=>Q v H
theorem fq {i:Nat} {x:Str} {pos:Pos} (hN:X.N[i]? =some x) (hv:jk X.env.scope x) (hd:(x == ("__debug__":Str))=false:=by decide) (hcd:(x == ("__classdict__":Str))=false:=by decide):PE X (.Name x pos) (sV i):=by
  intro pins s σ H Q I h
  obtain ⟨v,e,h⟩:=h
  obtain ⟨m,hn,hl⟩:=I.loc
  obtain ⟨u,r,l⟩:=hl i x v hN e hv
  have fin:EP X pins σ Q u s:=⟨v,H,I,r,h⟩
  rcases l with ⟨hk,hm⟩ | ⟨hk,c,hc,hcell⟩
  · exact wpAny_Name (wpAny_loadName_local I.ok.kind hk hn hm fin) hd
  · rcases hk with hk | hk
    · exact wpAny_Name (wpAny_loadName_cell I.ok.kind hk hc hcell fin) hd
    · exact wpAny_Name (wpAny_loadName_free I.ok.kind hk hc hcell fin hcd) hd
theorem oW {i j pos}:PE X (.Constant (.int i) j pos) (tC (.int i)):=fun _ _ _ H _ I h=>wpAny_Constant_int ⟨.int i,H,I.tok _,⟨_,rfl⟩,h⟩
theorem kI {b j pos}:PE X (.Constant (.bool b) j pos) (tC (.bl b)):=fun _ _ _ H _ I h=>Constant_bool ⟨.bl b,H,I,rfl,h⟩
theorem oX {j pos}:PE X (.Constant .none j pos) (tC .non):=fun _ _ _ H _ I h=>Constant_none ⟨.non,H,I,rfl,h⟩
theorem kJ {x j pos}:PE X (.Constant (.str x) j pos) (tC (.str x)):=fun _ _ _ H _ I h=>Calls.Constant_str ⟨.str x,H,I.tok _,⟨_,rfl⟩,h⟩
def Gl (X:Cx) (x:Str):Prop:=X.env.kindOf x=some .globalImplicit
theorem dG {E:Value→Shared→Prop} {pins:List (Addr×Obj)} {s:Shared} {σ:St} {H:Hp} {x:Str} {u:Value} {pos:Pos} {Q:Value→Shared→Prop} (I:Inv X pins σ H s) (hg:Gl X x) (hm:X.mg x=some u) (h:Q u s)
    (hd:(x == ("__debug__":Str))=false:=by decide):wpAny (model X.prog X.w) X.A (eval (.Name x pos) X.env) Q E s:=
  Calls.Name_function_global I.ok.kind hg (Calls.loadGlobal_global (by rw [I.ok.glob];exact I.mod.glob.keeps I.bk) hm h) hd
theorem gA {E:Value→Shared→Prop} {pins:List (Addr×Obj)} {s:Shared} {σ:St} {H:Hp} {x:Str} {u:Value} {pos:Pos} {Q:Value→Shared→Prop} (I:Inv X pins σ H s) (hg:Gl X x) (hm:X.mg x=none) (hv:bootBuiltins x=some u) (h:Q u s)
    (hn:x≠"__name__":=by decide) (hd:(x == ("__debug__":Str))=false:=by decide):wpAny (model X.prog X.w) X.A (eval (.Name x pos) X.env) Q E s:=by
  obtain ⟨mb,h1,h2⟩:=I.mod.blt
  exact Calls.Name_function_global I.ok.kind hg (Calls.loadGlobal_builtin (by rw [I.ok.glob];exact I.mod.glob.keeps I.bk) hm (by rw [I.ok.blt];exact h1.keeps I.bk) ((h2 x hn).trans hv) h) hd
theorem mB {x:Str} {v:V} {u:Value} {pos:Pos} (hg:Gl X x) (hm:X.mg x=some u) (r:RelV v u) (hd:(x == ("__debug__":Str))=false:=by decide):PE X (.Name x pos) (tC v):=
  fun _ _ _ H _ I h=>dG I hg hm ⟨v,H,I,r,h⟩ hd
theorem jm {x:Str} {v:V} {u:Value} {pos:Pos} (hg:Gl X x) (hm:X.mg x=none) (hv:bootBuiltins x=some u) (r:RelV v u) (hn:x≠"__name__":=by decide) (hd:(x == ("__debug__":Str))=false:=by decide):PE X (.Name x pos) (tC v):=
  fun _ _ _ H _ I h=>gA I hg hm hv ⟨v,H,I,r,h⟩ hn hd
variable {a b:Expr} {ta tb:TE} {pos:Pos}
variable {tA tB':TT} {bO:List Expr}
def sW (t u:TT):TT:=fun σ H Q=>t σ H fun c H1=>if c=true then u σ H1 Q else Q false H1
def uo (t u:TT):TT:=fun σ H Q=>t σ H fun c H1=>if c=true then Q true H1 else u σ H1 Q
def sX (t:TT):TT:=fun σ H Q=>t σ H fun c H1=>Q (!c) H1
theorem mC (ha:PT X a tA):PW X (.BoolOp .And [a] pos) tA:=by
  intro wh pins s σ H Q I h
  refine isTrue_and (ce (ha pins s σ H Q I h) fun c s1 e=>?_)
  cases c with
  | true=>exact isTrue_and_nil e
  | false=>exact e
theorem oY (ha:PT X a tA):PW X (.BoolOp .Or [a] pos) tA:=by
  intro wh pins s σ H Q I h
  refine isTrue_or (ce (ha pins s σ H Q I h) fun c s1 e=>?_)
  cases c with
  | false=>exact isTrue_or_nil e
  | true=>exact e
theorem oZ (ha:PT X a tA) (hb:PW X (.BoolOp .And (b::bO) pos) tB'):PW X (.BoolOp .And (a::b::bO) pos) (sW tA tB'):=by
  intro wh pins s σ H Q I h
  refine isTrue_and (ce (ha pins s σ H _ I h) fun c s1 ⟨H1,I1,q1⟩=>?_)
  cases c with
  | true=>exact hb wh pins s1 σ H1 Q I1 q1
  | false=>exact ⟨H1,I1,q1⟩
theorem qT (ha:PT X a tA) (hb:PW X (.BoolOp .Or (b::bO) pos) tB'):PW X (.BoolOp .Or (a::b::bO) pos) (uo tA tB'):=by
  intro wh pins s σ H Q I h
  refine isTrue_or (ce (ha pins s σ H _ I h) fun c s1 ⟨H1,I1,q1⟩=>?_)
  cases c with
  | true=>exact ⟨H1,I1,q1⟩
  | false=>exact hb wh pins s1 σ H1 Q I1 q1
theorem o0 (ha:PT X a tA):PT X (.UnaryOp .Not a pos) (sX tA):=by
  intro pins s σ H Q I h
  exact isTrue_not (ha pins s σ H (fun c H1=>Q (!c) H1) I h)
def qU (ta tb:TE):TE:=fun σ H Q=>ta σ H fun x H1=>∃c,x= .bl c∧if c=true then tb σ H1 Q else Q (.bl false) H1
def qV (ta:TE):TE:=fun σ H Q=>ta σ H fun x H1=>∃c,x= .bl c∧Q (.bl (!c)) H1
theorem o3 {op} {t:TE} (h:PE X a t):PE X (.BoolOp op [a] pos) t:=fun pins s σ H Q I hw=>BoolOp_one (h pins s σ H Q I hw)
theorem o4 (ha:PE X a ta) (hb:PE X (.BoolOp .And (b::bO) pos) tb):PE X (.BoolOp .And (a::b::bO) pos) (qU ta tb):=by
  intro pins s σ H Q I h
  refine BoolOp_and (ce (ha pins s σ H _ I h) fun v s1 ⟨x,H1,I1,r1,q1⟩=>?_)
  obtain ⟨c,rfl,q1⟩:=q1
  cases r1
  refine wpAny_truthy_bool ?_
  cases c with
  | true=>exact hb pins s1 σ H1 Q I1 q1
  | false=>exact ⟨.bl false,H1,I1,rfl,q1⟩
theorem o5 (ha:PE X a ta):PE X (.UnaryOp .Not a pos) (qV ta):=by
  intro pins s σ H Q I h
  refine UnaryOp_ (ce (ha pins s σ H _ I h) fun v s1 ⟨x,H1,I1,r1,q1⟩=>?_)
  obtain ⟨c,rfl,q1⟩:=q1
  cases r1
  exact not_of (wpAny_truthy_bool ⟨.bl (!c),H1,I1,rfl,q1⟩)
end
end L2
namespace L2
open PySem PySem.Spec PyProof.Rows
def SqL (K:PySem.W.Frag) (H:Hp) (a:Addr) (xs:List V):Prop:=
  Rd H a (.lst xs)∨
    ∃(o:Obj) (its:Array Value) (n:Nat),K.lookup a=some o∧o.cls= .type "list"∧o.dict=none∧o.data= .seq its n∧its.size≤sizeLine∧Vals xs its.toList
def SqT (K:PySem.W.Frag) (H:Hp) (a:Addr) (xs:List V):Prop:=
  Rd H a (.tup xs)∨
    ∃(o:Obj) (its:Array Value) (n:Nat),K.lookup a=some o∧o.cls= .type "tuple"∧o.data= .seq its n∧its.size≤sizeLine∧Vals xs its.toList
def sY:Value→Option V
  | .none=>some .non
  | .bool b=>some (.bl b)
  | .int i _=>some (.int i)
  | .str x _=>some (.str x)
  | .bytes b _=>some (.byt b)
  | .float b _=>some (.flt b)
  | .ref a=>some (.ref a)
  | .type n=>some (.ty n)
  | _=>none
theorem RelV.abs {x:V} {u:Value} (r:RelV x u):sY u=some x:=by
  cases x with
  | non=>cases r;rfl
  | bl _=>cases r;rfl
  | int _=>obtain ⟨t,rfl⟩:=r;rfl
  | str _=>obtain ⟨t,rfl⟩:=r;rfl
  | byt _=>obtain ⟨t,rfl⟩:=r;rfl
  | flt _=>obtain ⟨t,rfl⟩:=r;rfl
  | ref _=>cases r;rfl
  | ty _=>cases r;rfl
theorem RelV.inj {x y:V} {u:Value} (r:RelV x u) (q:RelV y u):x=y:=Option.some.inj (r.abs.symm.trans q.abs)
theorem Vals.inj {xs ys:List V} {us:List Value} (h:Vals xs us) (k:Vals ys us):xs=ys:=by
  induction h generalizing ys with
  | nil=>cases k;rfl
  | cons r _ ih=>cases k with | cons r' t'=>rw [r.inj r',ih t']
section
variable {X:Cx} {pins:List (Addr×Obj)} {σ:St} {H:Hp} {s:Shared} {a:Addr} {xs ys:List V}
theorem SqL.of {K:PySem.W.Frag} (h:H a=some (.lst xs)):SqL K H a xs:= .inl (.inl h)
theorem SqT.of {K:PySem.W.Frag} (h:H a=some (.tup xs)):SqT K H a xs:= .inl (.inl h)
theorem Inv.list (I:Inv X pins σ H s) (h:SqL X.K H a xs):∃its:List Value,Vals xs its∧PlainL s.heap a its.toArray∧xs.length≤sizeLine:=by
  rcases h with h | ⟨o,its,n,hk,hc,hd,hs,hz,r⟩
  · obtain ⟨z,its,n,r,e⟩:=h.ok I.hok
    exact ⟨its,r,⟨_,n,e,rfl,rfl,rfl⟩,z⟩
  · refine ⟨its.toList,r,⟨o,n,I.kIn a o hk,hc,hd,by simpa using hs⟩,?_⟩
    have e:=r.length
    simp only [Array.length_toList] at e
    omega
theorem Inv.tuple (I:Inv X pins σ H s) (h:SqT X.K H a xs):∃its:List Value,Vals xs its∧IsTup s.heap a its.toArray∧xs.length≤sizeLine:=by
  rcases h with h | ⟨o,its,n,hk,hc,hs,hz,r⟩
  · obtain ⟨z,its,r,p⟩:=h.ok I.hok
    exact ⟨its,r,p,z⟩
  · refine ⟨its.toList,r,⟨o,I.kIn a o hk,hc,n,by simpa using hs⟩,?_⟩
    have e:=r.length
    simp only [Array.length_toList] at e
    omega
theorem Inv.list_inj (I:Inv X pins σ H s) (h:SqL X.K H a xs) (h':SqL X.K H a ys):xs=ys:=by
  obtain ⟨its,r,⟨o,n,e,_,_,d⟩,_⟩:=I.list h
  obtain ⟨its',r',⟨o',n',e',_,_,d'⟩,_⟩:=I.list h'
  rw [e] at e';cases e'
  rw [d] at d'
  injection d' with d1 _
  have:its=its':=by simpa using congrArg Array.toList d1
  subst this
  exact r.inj r'
theorem Inv.tuple_inj (I:Inv X pins σ H s) (h:SqT X.K H a xs) (h':SqT X.K H a ys):xs=ys:=by
  obtain ⟨its,r,⟨o,e,_,n,d⟩,_⟩:=I.tuple h
  obtain ⟨its',r',⟨o',e',_,n',d'⟩,_⟩:=I.tuple h'
  rw [e] at e';cases e'
  rw [d] at d'
  injection d' with d1 _
  have:its=its':=by simpa using congrArg Array.toList d1
  subst this
  exact r.inj r'
end
abbrev Cx.wish (X:Cx) (E:Value→Shared→Prop):Cx:={X with xe:=E}
abbrev Cx.nox (X:Cx):Cx:=X.wish fun _ _=>False
theorem Cx.Ok.wish {X:Cx} (ok:X.Ok) (E:Value→Shared→Prop):(X.wish E).Ok:=
  ⟨ok.mod,ok.kind,ok.glob,ok.blt,ok.above,ok.inj,ok.has,ok.cab,ok.hd,ok.frames,ok.stk,ok.exf,ok.bs,ok.bsz,ok.noex,ok.exfs,ok.funs,ok.frf,ok.tab⟩
theorem Cx.Ok.unwish {X:Cx} {E:Value→Shared→Prop} (ok:(X.wish E).Ok):X.Ok:=
  ⟨ok.mod,ok.kind,ok.glob,ok.blt,ok.above,ok.inj,ok.has,ok.cab,ok.hd,ok.frames,ok.stk,ok.exf,ok.bs,ok.bsz,ok.noex,ok.exfs,ok.funs,ok.frf,ok.tab⟩
section
variable {X:Cx} {pins:List (Addr×Obj)} {σ:St} {H:Hp} {s:Shared} {E:Value→Shared→Prop}
theorem Inv.wish (I:Inv X pins σ H s) (E:Value→Shared→Prop):Inv (X.wish E) pins σ H s:=⟨I.ok.wish E,I.os,I.bare,I.base,I.loc,I.cell,I.free,I.freeC,I.pin,I.hok,I.len⟩
theorem Inv.unwish (I:Inv (X.wish E) pins σ H s):Inv X pins σ H s:=⟨I.ok.unwish,I.os,I.bare,I.base,I.loc,I.cell,I.free,I.freeC,I.pin,I.hok,I.len⟩
theorem SP.unwish {D:Ends} {f:Flow} {s':Shared} (h:SP (X.wish E) pins D f s'):SP X pins D f s':=by
  cases f with
  | next=>obtain ⟨σ',H',I,q⟩:=h;exact ⟨σ',H',I.unwish,q⟩
  | brk=>obtain ⟨σ',H',I,q⟩:=h;exact ⟨σ',H',I.unwish,q⟩
  | cont=>obtain ⟨σ',H',I,q⟩:=h;exact ⟨σ',H',I.unwish,q⟩
  | ret u=>obtain ⟨v,σ',H',I,r,q⟩:=h;exact ⟨v,σ',H',I.unwish,r,q⟩
theorem PE.nox {e:Expr} {t:TE} (h:PE X.nox e t):PE X e t:=fun pins s σ H Q I hw=>
  wpAny_mono (h pins s σ H Q (I.wish _) hw) (fun _ _ ⟨v,H',I',r,q⟩=>⟨v,H',I'.unwish,r,q⟩) fun _ _ z=>False.elim z
theorem PT.nox {e:Expr} {t:TT} (h:PT X.nox e t):PT X e t:=fun pins s σ H Q I hw=>
  wpAny_mono (h pins s σ H Q (I.wish _) hw) (fun _ _ ⟨H',I',q⟩=>⟨H',I'.unwish,q⟩) fun _ _ z=>False.elim z
theorem PSs.nox {st:List Stmt} {t:TS} (h:PSs X.nox st t):PSs X st t:=fun pins s σ H D I hw=>
  wpAny_mono (h pins s σ H D (I.wish _) hw) (fun _ _ q=>q.unwish) fun _ _ z=>False.elim z
end
section
variable {X:Cx} {st:Stmt} {bO:List Stmt} {t u:TS} {e:Expr} {te:TE} {pos:Pos}
def qW:TS:=fun D σ H=>D.nx σ H
def sZ (t u:TS):TS:=fun D σ H=>t {D with nx:=u D} σ H
theorem mD:PSs X [] qW:=fun _ _ σ H _ I h=>wpAny_execs_nil ⟨σ,H,I,h⟩
theorem kK (h1:PS X st t) (h2:PSs X bO u):PSs X (st::bO) (sZ t u):=by
  intro pins s σ H D I h
  refine wpAny_execs_cons (ce (h1 pins s σ H {D with nx:=u D} I h) fun f s1 q=>?_)
  cases f with
  | next=>
    obtain ⟨σ',H',I',q⟩:=q
    exact h2 pins s1 σ' H' D I' q
  | ret v=>exact q
  | brk=>exact q
  | cont=>exact q
theorem mE (h1:PS X st t):PSs X [st] t:=by
  intro pins s σ H D I h
  refine wpAny_execs_cons (ce (h1 pins s σ H D I h) fun f s1 q=>?_)
  cases f with
  | next=>exact wpAny_execs_nil q
  | ret v=>exact q
  | brk=>exact q
  | cont=>exact q
theorem Inv.quiet {pins:List (Addr×Obj)} {σ:St} {H:Hp} {s:Shared} (I:Inv X pins σ H s):interactive X.env=false:=by simp [interactive,I.ok.kind]
def qX (te:TE):TS:=fun D σ H=>te σ H fun _ H1=>D.nx σ H1
theorem jn (he:PE X e te) (hs:swapsWith e none pos.line X.env=pure false:=by rfl):PS X (.Expr e pos) (qX te):=by
  intro pins s σ H D I h
  exact wpAny_Expr_any (ce (he pins s σ H _ I h) fun v s1 ⟨x,H1,I1,r1,q1⟩=>⟨σ,H1,I1,q1⟩) I.quiet hs
def s_ (te:TE):TS:=fun D σ H=>te σ H D.rt
theorem o6 (he:PE X e te):PS X (.Return (some e) pos) (s_ te):=by
  intro pins s σ H D I h
  exact wpAny_Return_some (ce (he pins s σ H _ I h) fun v s1 ⟨x,H1,I1,r1,q1⟩=>⟨x,σ,H1,I1,r1,q1⟩)
def td (c:TT) (t u:TS):TS:=fun D σ H=>c σ H fun b H1=>if b=true then t D σ H1 else u D σ H1
theorem qY {c:Expr} {a b:List Stmt} {tc:TT} (hc:PT X c tc) (ha:PSs X a t) (hb:PSs X b u):PS X (.If c a b pos) (td tc t u):=by
  intro pins s σ H D I h
  refine wpAny_If (ce (hc pins s σ H _ I h) fun d s1 ⟨H1,I1,q1⟩=>?_)
  cases d with
  | true=>exact ha pins s1 σ H1 D I1 q1
  | false=>exact hb pins s1 σ H1 D I1 q1
def o7:TS:=fun _ _ _=>False
theorem kL:PS X st o7:=fun _ _ _ _ _ _ h=>h.elim
end
abbrev TG:=V→St→Hp→(St→Hp→Prop)→Prop
def PG (X:Cx) (target:Expr) (t:TG):Prop:=
  ∀(pins:List (Addr×Obj)) (s:Shared) (σ:St) (H:Hp) (v:V) (u:Value) (Q:St→Hp→Prop),Inv X pins σ H s→RelV v u→t v σ H Q→
    wpAny (model X.prog X.w) X.A (assign target X.env u) (fun _ s'=>∃σ' H',Inv X pins σ' H' s'∧Q σ' H') X.xe s
section
variable {X:Cx} {pos:Pos}
def oh (i:Nat):TG:=fun v σ H Q=>Q (σ.set i (some v)) H
theorem mF {i:Nat} {x:Str} (hN:X.N.Nodup) (hi:X.N[i]? =some x) (hx:kH X.env.scope x) (hf:X.fn x=true∨X.env.scope.names.lookup x=some .local:=by first | exact .inl rfl | exact .inr rfl | assumption):PG X (.Name x pos) (oh i):=by
  intro pins s σ H v u Q I r h
  exact wpAny_assign_Name (fo I hN hi hx r (fun s' I'=>⟨_,H,I',h⟩) hf)
def ti (te:TE) (g:TG):TS:=fun D σ H=>te σ H fun x H1=>g x σ H1 D.nx
theorem o8 {i:Nat} {x:Str} {e:Expr} {te:TE} {pos':Pos} (hN:X.N.Nodup) (hi:X.N[i]? =some x) (hx:kH X.env.scope x) (he:PE X e te) (hs:swapsWith e (some (.Name x pos')) pos.line X.env=pure false:=by rfl) (hf:X.fn x=true∨X.env.scope.names.lookup x=some .local:=by first | exact .inl rfl | exact .inr rfl | assumption):
    PS X (.Assign [.Name x pos'] e pos) (ti te (oh i)):=by
  intro pins s σ H D I h
  refine wpAny_Assign_Name (ce (he pins s σ H _ I h) fun v s1 ⟨y,H1,I1,r1,q1⟩=>?_) hs
  exact fo I1 hN hi hx r1 (fun s2 I2=>⟨_,H1,I2,q1⟩) hf
end
structure It where
  go:Nat→Hp→Prop
  yld:Nat→Hp→V→Hp→Prop
  stop:Nat→Hp→Prop
def jR (X:Cx) (pins:List (Addr×Obj)) (H:Hp) (b:Addr):Prop:=
  H b=none∧b≠X.env.locals∧b∉X.fs∧(b∈X.ex∨X.s₀.heap.objs.size≤b)∧(∀x c,X.env.cells.lookup x=some c→c≠b)∧∀p∈X.pn++pins,p.1≠b
theorem Inv.fpOk {X:Cx} {pins:List (Addr×Obj)} {σ:St} {H H':Hp} {s:Shared} {b:Addr} (I:Inv X pins σ H s) (hb:s.heap.objs.size≤b) (hn:H' b=none):jR X pins H' b:=by
  refine ⟨hn,Nat.ne_of_gt (Nat.lt_of_lt_of_le I.lt hb),I.nofs hb, .inr (Nat.le_trans I.sz hb),fun x c e z=>?_,fun p hp z=>?_⟩
  · obtain ⟨v,q⟩:=I.cell x c e
    exact absurd (Nat.lt_of_lt_of_le q.lt (by rw [z];exact hb)) (Nat.lt_irrefl _)
  · exact absurd (Nat.lt_of_lt_of_le (Heap.lt_size (I.pin p hp).1) (by rw [z];exact hb)) (Nat.lt_irrefl _)
structure Turn (P:Program) (w:World) (K:PySem.W.Frag) (tg:Expr) (J:It) (fp:List Addr) (it:Addr) (tn:Nat→Heap→Prop):Prop where
  mem:it∈fp
  obj:∀i h,tn i h→∀b∈fp,∃o,h.get? b=some o∧∀v,o.data≠ .cell v
  keep:∀i h h',tn i h→(∀b∈fp,∀o,h.get? b=some o→h'.get? b=some o)→tn i h'
  item:∀(X:Cx),X.prog=P→X.w=w→X.K=K→X.calm=true→∀(i:Nat) (pins:List (Addr×Obj)) (s:Shared) (σ:St) (H:Hp) (E:Value→Shared→Prop),Inv X pins σ H s→(∀b∈fp,jR X pins H b)→tn i s.heap→J.go i H→
    wpAny (model P w) X.A (pyNext (.ref it)) (fun r s1=>∃u,r=some u∧
      wpAny (model P w) X.A (letOwnedTupleGo tg (.ref it) u) (fun _ s2=>∃x H',Inv X pins σ H' s2∧RelV x u∧J.yld i H x H'∧tn (i+1) s2.heap∧∀b∈fp,H' b=none) E s1) E s
  done:∀(X:Cx),X.prog=P→X.w=w→X.K=K→X.calm=true→∀(i:Nat) (pins:List (Addr×Obj)) (s:Shared) (σ:St) (H:Hp) (E:Value→Shared→Prop),Inv X pins σ H s→(∀b∈fp,jR X pins H b)→tn i s.heap→J.stop i H→
    wpAny (model P w) X.A (pyNext (.ref it)) (fun r s1=>r=none∧Inv X pins σ H s1) E s
  self:∀(A:Around) (i:Nat) (s:Shared) (Q:Value→Shared→Prop) (E:Value→Shared→Prop),tn i s.heap→Q (.ref it) s→wpAny (model P w) A (pyIter (.ref it)) Q E s
abbrev TI:=St→Hp→(It→Hp→Prop)→Prop
def t_ (X:Cx) (pins:List (Addr×Obj)) (σ:St) (tg:Expr) (R:It→Hp→Prop) (itv:Value) (s2:Shared):Prop:=
  ∃(it:Addr) (fp:List Addr) (tn:Nat→Heap→Prop) (J:It) (H':Hp),itv= .ref it∧Inv X pins σ H' s2∧Turn X.prog X.w X.K tg J fp it tn∧tn 0 s2.heap∧(∀b∈fp,jR X pins H' b)∧R J H'
def PI (X:Cx) (tg iter:Expr) (wi:TI):Prop:=
  ∀(pins:List (Addr×Obj)) (s:Shared) (σ:St) (H:Hp) (R:It→Hp→Prop),Inv X pins σ H s→wi σ H R→
    wpAny (model X.prog X.w) X.A (eval iter X.env) (fun v s1=>wpAny (model X.prog X.w) X.A (pyIter v) (t_ X pins σ tg R) X.xe s1) X.xe s
theorem jo {M:Model} {A:Around} {E:Value→Shared→Prop} {s:Shared} {tg:Expr} {it:Addr} {u:Value} {o:Obj} {n:String} {vs:Array Value} {Q:Unit→Shared→Prop} (ho:s.heap.get? it=some o) (hc:o.cls= .type n) (hd:o.data= .fields vs)
    (hn:["enumerate","zip","dict_itemiterator","dict_reverseitemiterator","odict_iterator","itertools.zip_longest","itertools.pairwise"].contains n=false) (hQ:Q () s):wpAny M A (letOwnedTupleGo tg (.ref it) u) Q E s:=by
  unfold letOwnedTupleGo
  cases tg <;> first
    | exact wpAny_pure hQ
    | (cases u <;> first
        | exact wpAny_pure hQ
        | (refine wpAny_bind (wpAny_load ho ?_)
           rw [hc,hd]
           show wpAny M A (if (["enumerate","zip","dict_itemiterator","dict_reverseitemiterator","odict_iterator","itertools.zip_longest","itertools.pairwise"].contains n&&vs[0]? == some (rawInt _))=true then _ else _) Q E s
           rw [if_neg (by intro h;rw [hn,Bool.false_and] at h;cases h)]
           exact wpAny_pure hQ))
def tj (K:PySem.W.Frag) (a:Addr):It:=
  ⟨fun i H=>∃xs x,SqL K H a xs∧xs[i]? =some x,fun i H x H'=>H'=H∧∀xs,SqL K H a xs→xs[i]? =some x,fun i H=>∃xs,SqL K H a xs∧xs.length≤i⟩
def tm (K:PySem.W.Frag) (a:Addr):It:=
  ⟨fun i H=>∃xs x,SqT K H a xs∧xs[i]? =some x,fun i H x H'=>H'=H∧∀xs,SqT K H a xs→xs[i]? =some x,fun i H=>∃xs,SqT K H a xs∧xs.length≤i⟩
def sN (lo:Int) (n:Nat):It:=⟨fun i _=>i < n,fun i H x H'=>H'=H∧x= .int (lo+i),fun i _=>n≤i⟩
theorem jS {P:Program} {w:World} {K:PySem.W.Frag} {tg:Expr} (a it:Addr):Turn P w K tg (tj K a) [it] it (fun i h=>h.IsListIter it a i) where
  mem:=by simp
  obj:=fun i h st b hb=>by
    have e:b=it:=by simpa using hb
    subst e
    obtain ⟨o,e,c,d⟩:=st
    exact ⟨o,e,fun v z=>by rw [d] at z;cases z⟩
  keep:=fun i h h' st k=>st.at fun o e=>k it (by simp) o e
  item:=by
    intro X hP hw hK hc i pins s σ H E I hf st hg
    subst hP hw hK
    obtain ⟨xs,x,hq,hx⟩:=hg
    obtain ⟨its,rv,p,hz⟩:=I.list hq
    obtain ⟨u,hu,ru⟩:=rv.get hx
    obtain ⟨f0,f1,f2,f3,f4,f5⟩:=hf it (by simp)
    refine wpAny_pyNext_list_item st p.isList (x:=u) (by simpa using hu) fun h' st' sb=>?_
    have I1:Inv X pins σ H {s with heap:=h'}:=I.turned (t':=s.toks) (fun b o hb e=>(sb.2 b hb).trans e) f0 f1 f3 f4 f5
    obtain ⟨o,e,c,d⟩:=id st'
    exact ⟨u,rfl,jo (s:={s with heap:=h'}) e c d (by decide) ⟨x,H,I1,ru,⟨rfl,fun ys hy=>by rw [I.list_inj hy hq];exact hx⟩,st',fun b hb=>(hf b hb).1⟩⟩
  done:=by
    intro X hP hw hK hc i pins s σ H E I hf st hg
    subst hP hw hK
    obtain ⟨xs,hq,hx⟩:=hg
    obtain ⟨its,rv,p,hz⟩:=I.list hq
    obtain ⟨f0,f1,f2,f3,f4,f5⟩:=hf it (by simp)
    have hl:=rv.length
    exact wpAny_pyNext_list_end (I.ok.hd hc) st p.isList (by simp;omega) fun h' eb=>⟨rfl,I.turned (t':=s.toks) (fun b o hb e=>eb b o hb e) f0 f1 f3 f4 f5⟩
  self:=fun _ _ _ _ _ st h=>wpAny_pyIter_listiter st h
theorem iR {P:Program} {w:World} {K:PySem.W.Frag} {tg:Expr} (a it:Addr):Turn P w K tg (tm K a) [it] it (fun i h=>h.IsTupleIter it a i) where
  mem:=by simp
  obj:=fun i h st b hb=>by
    have e:b=it:=by simpa using hb
    subst e
    obtain ⟨o,e,c,d⟩:=st
    exact ⟨o,e,fun v z=>by rw [d] at z;cases z⟩
  keep:=fun i h h' st k=>st.at fun o e=>k it (by simp) o e
  item:=by
    intro X hP hw hK hc i pins s σ H E I hf st hg
    subst hP hw hK
    obtain ⟨xs,x,hq,hx⟩:=hg
    obtain ⟨its,rv,p,hz⟩:=I.tuple hq
    obtain ⟨u,hu,ru⟩:=rv.get hx
    obtain ⟨f0,f1,f2,f3,f4,f5⟩:=hf it (by simp)
    refine wpAny_pyNext_tuple_item st (show s.heap.IsTuple a its.toArray from p) (x:=u) (by simpa using hu) fun h' st' sb=>?_
    have I1:Inv X pins σ H {s with heap:=h'}:=I.turned (t':=s.toks) (fun b o hb e=>(sb.2 b hb).trans e) f0 f1 f3 f4 f5
    obtain ⟨o,e,c,d⟩:=id st'
    exact ⟨u,rfl,jo (s:={s with heap:=h'}) e c d (by decide) ⟨x,H,I1,ru,⟨rfl,fun ys hy=>by rw [I.tuple_inj hy hq];exact hx⟩,st',fun b hb=>(hf b hb).1⟩⟩
  done:=by
    intro X hP hw hK hc i pins s σ H E I hf st hg
    subst hP hw hK
    obtain ⟨xs,hq,hx⟩:=hg
    obtain ⟨its,rv,p,hz⟩:=I.tuple hq
    obtain ⟨f0,f1,f2,f3,f4,f5⟩:=hf it (by simp)
    have hl:=rv.length
    exact wpAny_pyNext_tuple_end (I.ok.hd hc) st (show s.heap.IsTuple a its.toArray from p) (by simp;omega) fun h' eb=>⟨rfl,I.turned (t':=s.toks) (fun b o hb e=>eb b o hb e) f0 f1 f3 f4 f5⟩
  self:=fun _ _ _ _ _ st h=>wpAny_pyIter_tupleiter st h
theorem iS {P:Program} {w:World} {K:PySem.W.Frag} {tg:Expr} (it:Addr) (lo:Int) (n:Nat):Turn P w K tg (sN lo n) [it] it (fun i h=>IsRangeIter h it (lo+(i:Nat)*1) ((n:Int) - (i:Nat)) 1) where
  mem:=by simp
  obj:=fun i h st b hb=>by
    have e:b=it:=by simpa using hb
    subst e
    exact ⟨_,st,fun v z=>by
      have z':Data.fields _=Data.cell v:=z
      cases z'⟩
  keep:=fun i h h' st k=>k it (by simp) _ st
  item:=by
    intro X hP hw hK hc i pins s σ H E I hf st hg
    subst hP hw hK
    obtain ⟨f0,f1,f2,f3,f4,f5⟩:=hf it (by simp)
    have W:=Walks.range (prog:=X.prog) (w:=X.w) (I.ok.hd hc) it lo 1 n
    refine W.item i s _ _ hg st fun v h' tk hv st' kk=>?_
    obtain ⟨t,rfl⟩:=hv
    have I1:Inv X pins σ H {s with heap:=h',toks:=tk}:=I.turned (fun b o hb e=>kk b o (by simpa using hb) e) f0 f1 f3 f4 f5
    refine ⟨_,rfl,jo (s:={s with heap:=h',toks:=tk}) (n:="range_iterator") st' rfl rfl (by decide) ⟨.int (lo+i),H,I1,⟨t,?_⟩,⟨rfl,rfl⟩,st',fun b hb=>(hf b hb).1⟩⟩
    rw [Int.mul_one]
  done:=by
    intro X hP hw hK hc i pins s σ H E I hf st hg
    subst hP hw hK
    obtain ⟨f0,f1,f2,f3,f4,f5⟩:=hf it (by simp)
    exact wpAny_pyNext_range_end (I.ok.hd hc) st (by have:n≤i:=hg;omega) fun h' eb=>⟨rfl,I.turned (t':=s.toks) (fun b o hb e=>eb b o hb e) f0 f1 f3 f4 f5⟩
  self:=fun _ _ _ _ _ st h=>wpAny_pyIter_rangeiter st h
end L2
namespace L2
open PySem PySem.Spec PyProof.Rows
section
variable {X:Cx} {tg:Expr}
def qZ (K:PySem.W.Frag) (tl:TE):TI:=fun σ H R=>tl σ H fun x H1=>∃a,x= .ref a∧(∃xs,SqL K H1 a xs)∧R (tj K a) H1
def tt (K:PySem.W.Frag) (tl:TE):TI:=fun σ H R=>tl σ H fun x H1=>∃a,x= .ref a∧(∃xs,SqT K H1 a xs)∧R (tm K a) H1
theorem mG {l:Expr} {tl:TE} (hl:PE X l tl):PI X tg l (qZ X.K tl):=by
  intro pins s σ H R I h
  refine ce (hl pins s σ H _ I h) fun v s1 ⟨x,H1,I1,r1,q1⟩=>?_
  obtain ⟨a,e,⟨xs,hq⟩,q⟩:=q1
  subst e
  cases r1
  obtain ⟨its,rv,p,hz⟩:=I1.list hq
  refine wpAny_pyIter_list p.isList ?_
  refine ⟨s1.heap.objs.size,[s1.heap.objs.size],_,_,H1,rfl,I1.kept (t':=s1.toks) fun b o e=>Heap.get?_push_of_some _ e,jS a _,⟨_,Heap.get?_push_size _ rfl,rfl,rfl⟩,fun b hb=>?_,q⟩
  have e:b=s1.heap.objs.size:=by simpa using hb
  subst e
  exact I1.fpOk (Nat.le_refl _) (I1.hok.fresh (Nat.le_refl _))
theorem o9 {l:Expr} {tl:TE} (hl:PE X l tl):PI X tg l (tt X.K tl):=by
  intro pins s σ H R I h
  refine ce (hl pins s σ H _ I h) fun v s1 ⟨x,H1,I1,r1,q1⟩=>?_
  obtain ⟨a,e,⟨xs,hq⟩,q⟩:=q1
  subst e
  cases r1
  obtain ⟨its,rv,p,hz⟩:=I1.tuple hq
  refine wpAny_pyIter_tuple (show s1.heap.IsTuple a its.toArray from p) ?_
  refine ⟨s1.heap.objs.size,[s1.heap.objs.size],_,_,H1,rfl,I1.kept (t':=s1.toks) fun b o e=>Heap.get?_push_of_some _ e,iR a _,⟨_,Heap.get?_push_size _ rfl,rfl,rfl⟩,fun b hb=>?_,q⟩
  have e:b=s1.heap.objs.size:=by simpa using hb
  subst e
  exact I1.fpOk (Nat.le_refl _) (I1.hok.fresh (Nat.le_refl _))
theorem kM {pins:List (Addr×Obj)} {σ:St} {H:Hp} {s:Shared} {R:It→Hp→Prop} {E:Value→Shared→Prop} {lo hi:Int} {t u v:Tok} {tk:Nat} (I:Inv X pins σ H s) (h1: -(2 ^ 62)≤lo) (h2:lo < 2 ^ 62) (h3: -(2 ^ 62)≤hi) (h4:hi < 2 ^ 62)
    (q:R (sN lo (hi - lo).toNat) H):wpAny (model X.prog X.w) X.A (pyIter (.ref s.heap.objs.size)) (t_ X pins σ tg R) E {s with heap:=s.heap.push {cls:= .type "range",data:= .fields #[.int lo t, .int hi u, .int 1 v]},toks:=tk}:=by
  refine wpAny_pyIter_range (IsRange.new ..) (small_one h1 h2 h3 h4) ?_
  have I1:Inv X pins σ H {s with heap:=s.heap.push {cls:= .type "range",data:= .fields #[.int lo t, .int hi u, .int 1 v]},toks:=tk}:=I.kept fun b o e=>Heap.get?_push_of_some _ e
  refine ⟨(s.heap.push {cls:= .type "range",data:= .fields #[.int lo t, .int hi u, .int 1 v]}).objs.size,[(s.heap.push {cls:= .type "range",data:= .fields #[.int lo t, .int hi u, .int 1 v]}).objs.size],_,_,H,rfl,
    I1.kept (t':=tk) fun b o e=>Heap.get?_push_of_some _ e,iS _ lo (hi - lo).toNat,?_,fun b hb=>?_,q⟩
  · have e1:lo+((0:Nat):Int)*1=lo:=by simp
    have e2:(((hi - lo).toNat:Nat):Int) - ((0:Nat):Int)=Builtin.Range.rangeSize lo hi 1:=by rw [rangeSize_one];split <;> omega
    show IsRangeIter _ _ (lo+((0:Nat):Int)*1) ((((hi - lo).toNat:Nat):Int) - ((0:Nat):Int)) 1
    rw [e1,e2]
    exact Heap.get?_push_size _ rfl
  · have e:b=(s.heap.push {cls:= .type "range",data:= .fields #[.int lo t, .int hi u, .int 1 v]}).objs.size:=by simpa using hb
    subst e
    exact I1.fpOk (Nat.le_refl _) (I1.hok.fresh (Nat.le_refl _))
def q9 (ta:TA):TI:=fun σ H R=>ta σ H fun vs H1=>∃j:Int,vs=[.int j]∧ -(2 ^ 62)≤j∧j < 2 ^ 62∧R (sN 0 j.toNat) H1
theorem jT {a:Expr} {ta:TA} {p pos:Pos} (hg:Gl X "range") (hm:X.mg "range"=none) (ha:PA X [a] ta) (hs:starEach [a] X.env=[(false,eval a X.env)]:=by rfl):PI X tg (.Call (.Name "range" p) [a] [] pos) (q9 ta):=by
  intro pins s σ H R I h
  refine Call_ (gA I hg hm boot_range (PyProof.Rows.callWith_type1 (ce (ha pos pins s σ H _ I h) fun us s1 ⟨vs,H1,I1,r1,q1⟩=>?_) hs rfl))
  obtain ⟨j,e,q1,q2,q⟩:=q1
  subst e
  cases r1 with
  | cons r rr=>
    cases rr
    obtain ⟨t,rfl⟩:=r
    exact call_range_1 (kM I1 (by omega) (by omega) q1 q2 (by simpa using q))
def tw (wi:TI) (g:TG) (tb:TS):TS:=fun D σ H=>wi σ H fun J H1=>∃W:Nat→Nat→St→Hp→Prop,(∃m,W 0 m σ H1)∧∀i m σ H,W i m σ H→
  (J.stop i H∧D.nx σ H)∨(J.go i H∧∃N:St→Hp→Prop,(∀σ' H',N σ' H'→∃m',m' < m∧W (i+1) m' σ' H')∧∀x H',J.yld i H x H'→g x σ H' fun σ2 H2=>tb {D with nx:=N,ct:=N,bk:=D.nx} σ2 H2)
def gB (fp:List Addr) (h:Heap):List (Addr×Obj):=fp.filterMap fun b=>(h.get? b).map fun o=>(b,o)
theorem ft {fp:List Addr} {h:Heap} {b:Addr} {o:Obj} (hb:b∈fp) (e:h.get? b=some o):(b,o)∈gB fp h:=List.mem_filterMap.mpr ⟨b,hb,by rw [e];rfl⟩
theorem jU {fp:List Addr} {h:Heap} {p:Addr×Obj} (hp:p∈gB fp h):p.1∈fp∧h.get? p.1=some p.2:=by
  obtain ⟨b,hb,e⟩:=List.mem_filterMap.mp hp
  cases q:h.get? b with
  | none=>rw [q] at e;cases e
  | some o=>
    rw [q] at e
    have e':(b,o)=p:=Option.some.inj e
    subst e'
    exact ⟨hb,q⟩
theorem Inv.pinned {pins:List (Addr×Obj)} {σ:St} {H:Hp} {s:Shared} {fp:List Addr} (I:Inv X pins σ H s) (hf:∀b∈fp,jR X pins H b) (ho:∀b∈fp,∃o,s.heap.get? b=some o∧∀v,o.data≠ .cell v):Inv X (pins++gB fp s.heap) σ H s:=
  I.pins_of fun p hp=>(List.mem_append.mp hp).elim (fun z=>I.pin p (List.mem_append_right _ z)) fun z=>by
    obtain ⟨hb,e⟩:=jU z
    obtain ⟨f0,f1,f2,_⟩:=hf p.1 hb
    obtain ⟨o,e',d⟩:=ho p.1 hb
    rw [e] at e';cases e'
    exact ⟨e,f0,f1,f2,d⟩
theorem Inv.unpinned {pins pl:List (Addr×Obj)} {σ:St} {H:Hp} {s:Shared} (I:Inv X (pins++pl) σ H s):Inv X pins σ H s:=I.pins_of fun p hp=>I.pin p (List.mem_append_right _ (List.mem_append_left _ hp))
theorem kN {iter:Expr} {body:List Stmt} {wi:TI} {g:TG} {tb:TS} {pos:Pos} (hp:PassesOwn (model X.prog X.w) X.A X.env X.xe) (hc:X.calm=true) (hi:PI X tg iter wi) (hg:PG X tg g) (hb:PSs X body tb)
    (hs:∀x,foldedSetIterable iter X.env x=pure x:=by intro _;rfl):PS X (.For tg iter body [] pos) (tw wi g tb):=by
  intro pins s σ H D I h
  refine wpAny_For (ce (hi pins s σ H _ I h) fun v s1 h1=>ce h1 fun itv s2 h2=>?_) hs
  obtain ⟨it,fp,tn,J,H2,e,I2,T,st2,f2,W,⟨m0,w0⟩,turn⟩:=h2
  subst e
  -- what stays true of the iterator's objects through the loop
  have stat:∀{H':Hp},(∀b∈fp,H' b=none)→∀b∈fp,jR X pins H' b:=fun hn b hb=>⟨hn b hb,(f2 b hb).2⟩
  refine codeAny_forLoop_any (fun n s'=>∃i σ' H',Inv X pins σ' H' s'∧tn i s'.heap∧(∀b∈fp,H' b=none)∧W i n σ' H') ?_ m0 ⟨0,σ,H2,I2,st2,fun b hb=>(f2 b hb).1,w0⟩
  rintro n s3 ⟨i,σ3,H3,I3,st3,fr3,w3⟩
  rcases turn i n σ3 H3 w3 with ⟨stop,qn⟩ | ⟨go,N,hN,step⟩
  · refine wpAny_passesOwn hp (ce (T.done X rfl rfl rfl hc i pins s3 σ3 H3 X.xe I3 (stat fr3) st3 stop) fun r s4 ⟨hr,I4⟩=>?_)
    subst hr
    exact wpAny_execs_nil ⟨σ3,H3,I4,qn⟩
  · refine wpAny_passesOwn hp (ce (T.item X rfl rfl rfl hc i pins s3 σ3 H3 X.xe I3 (stat fr3) st3 go) fun r s4 ⟨u,hr,h4⟩=>?_)
    subst hr
    refine wpAny_passesOwn hp (ce h4 fun _ s5 ⟨x,H5,I5,r5,y5,st5,fr5⟩=>?_)
    have I5':=I5.pinned (stat fr5) (T.obj _ _ st5)
    refine wpAny_passesOwn hp (ce (hg _ s5 σ3 H5 x u _ I5' r5 (step x H5 y5)) fun _ s6 ⟨σ6,H6,I6,q6⟩=>?_)
    refine wpAny_passesOwn hp (ce (hb _ s6 σ6 H6 _ I6 q6) fun f s7 q7=>?_)
    have again:∀{σ7:St} {H7:Hp},Inv X (pins++gB fp s5.heap) σ7 H7 s7→N σ7 H7→∃m,m < n∧∃i σ' H',Inv X pins σ' H' s7∧tn i s7.heap∧(∀b∈fp,H' b=none)∧W i m σ' H':=fun {σ7 H7} I7 n7=>by
      obtain ⟨m',hm,w7⟩:=hN σ7 H7 n7
      refine ⟨m',hm,i+1,σ7,H7,I7.unpinned,T.keep _ _ _ st5 fun b hb o e=>(I7.pin (b,o) (List.mem_append_right _ (List.mem_append_right _ (ft hb e)))).1,fun b hb=>?_,w7⟩
      obtain ⟨o,e,d⟩:=T.obj _ _ st5 b hb
      exact (I7.pin (b,o) (List.mem_append_right _ (List.mem_append_right _ (ft hb e)))).2.1
    cases f with
    | next=>obtain ⟨σ7,H7,I7,n7⟩:=q7;exact again I7 n7
    | cont=>obtain ⟨σ7,H7,I7,n7⟩:=q7;exact again I7 n7
    | brk=>obtain ⟨σ7,H7,I7,q7⟩:=q7;exact ⟨σ7,H7,I7.unpinned,q7⟩
    | ret v=>obtain ⟨x7,σ7,H7,I7,r7,q7⟩:=q7;exact ⟨x7,σ7,H7,I7.unpinned,r7,q7⟩
end
end L2
namespace L2
open PySem PySem.Spec PyProof.Rows
abbrev R2:=V→V→Hp→VK→Prop
def OpR (X:Cx) (f:Value→Value→Sem Value) (r:R2):Prop:=
  ∀(pins:List (Addr×Obj)) (s:Shared) (σ:St) (H:Hp) (x y:V) (v u:Value) (Q:VK),Inv X pins σ H s→RelV x v→RelV y u→r x y H Q→
    wpAny (model X.prog X.w) X.A (f v u) (EP X pins σ Q) X.xe s
def tz (X:Cx) (f:Value→Sem Value) (r:V→Hp→VK→Prop):Prop:=
  ∀(pins:List (Addr×Obj)) (s:Shared) (σ:St) (H:Hp) (x:V) (v:Value) (Q:VK),Inv X pins σ H s→RelV x v→r x H Q→
    wpAny (model X.prog X.w) X.A (f v) (EP X pins σ Q) X.xe s
def CallR (X:Cx) (f:Value) (r:List V→Hp→VK→Prop):Prop:=
  ∀(pins:List (Addr×Obj)) (s:Shared) (σ:St) (H:Hp) (xs:List V) (us:List Value) (Q:VK),Inv X pins σ H s→Vals xs us→r xs H Q→
    wpAny (model X.prog X.w) X.A (call f us) (EP X pins σ Q) X.xe s
def tB (X:Cx) (r:V→Hp→(Bool→Hp→Prop)→Prop):Prop:=
  ∀(pins:List (Addr×Obj)) (s:Shared) (σ:St) (H:Hp) (x:V) (v:Value) (Q:Bool→Hp→Prop),Inv X pins σ H s→RelV x v→r x H Q→
    wpAny (model X.prog X.w) X.A (truthy v) (TP X pins σ Q) X.xe s
def q_ (r:R2) (ta tb:TE):TE:=fun σ H Q=>ta σ H fun x H1=>tb σ H1 fun y H2=>r x y H2 Q
def up (r:V→Hp→VK→Prop) (ta:TE):TE:=fun σ H Q=>ta σ H fun x H1=>r x H1 Q
def rI (C:Int→Int→Prop) (g:Int→Int→V):R2:=fun x y H Q=>∃i j,x= .int i∧y= .int j∧C i j∧Q (g i j) H
def oi (g:Int→Int→V):R2:=fun x y H Q=>∃i j,x= .int i∧y= .int j∧Q (g i j) H
def rU (g:Int→V):V→Hp→VK→Prop:=fun x H Q=>∃i,x= .int i∧Q (g i) H
section
variable {X:Cx} {a b c:Expr} {ta tb tc:TE} {pos:Pos}
theorem o_ (ha:PE X a ta) (hb:PE X b tb) {pins:List (Addr×Obj)} {s:Shared} {σ:St} {H:Hp} {R:V→V→Hp→Prop} (I:Inv X pins σ H s)
    (h:ta σ H fun x H1=>tb σ H1 fun y H2=>R x y H2) {Q:Value→Shared→Prop} {f:Value→Value→Sem Value}
    (hf:∀v u s2 x y H2,Inv X pins σ H2 s2→RelV x v→RelV y u→R x y H2→wpAny (model X.prog X.w) X.A (f v u) Q X.xe s2):
    wpAny (model X.prog X.w) X.A (eval a X.env) (fun v s₁=>wpAny (model X.prog X.w) X.A (eval b X.env) (fun u s₂=>wpAny (model X.prog X.w) X.A (f v u) Q X.xe s₂) X.xe s₁) X.xe s:=by
  refine ce (ha pins s σ H _ I h) fun v s1 ⟨x,H1,I1,r1,q1⟩=>?_
  refine ce (hb pins s1 σ H1 _ I1 q1) fun u s2 ⟨y,H2,I2,r2,q2⟩=>?_
  exact hf v u s2 x y H2 I2 r1 r2 q2
theorem re {op:Operator} {r:R2} (ho:OpR X (binaryOp op) r) (ha:PE X a ta) (hb:PE X b tb):PE X (.BinOp a op b pos) (q_ r ta tb):=by
  intro pins s σ H Q I h
  exact wpAny_BinOp (o_ ha hb I h fun v u s2 x y H2 I2 rx ry q=>ho pins s2 σ H2 x y v u Q I2 rx ry q)
theorem rf {op:UnaryOp} {r:V→Hp→VK→Prop} (ho:tz X (unaryOp op) r) (ha:PE X a ta):PE X (.UnaryOp op a pos) (up r ta):=by
  intro pins s σ H Q I h
  exact UnaryOp_ (ce (ha pins s σ H _ I h) fun v s1 ⟨x,H1,I1,r1,q1⟩=>ho pins s1 σ H1 x v Q I1 r1 q1)
theorem sO {f:Value→Value→Sem Value} {C:Int→Int→Prop} {g:Int→Int→Int}
    (rule:∀(i j:Int) (t u:Tok) (s:Shared) (Q:Value→Shared→Prop) (E:Value→Shared→Prop),C i j→Q (.int (g i j) s.toks) {s with toks:=s.toks+1}→wpAny (model X.prog X.w) X.A (f (.int i t) (.int j u)) Q E s):
    OpR X f (rI C fun i j=> .int (g i j)):=by
  intro pins s σ H x y v u Q I rx ry h
  obtain ⟨i,j,rfl,rfl,hc,q⟩:=h
  obtain ⟨t,rfl⟩:=rx
  obtain ⟨t',rfl⟩:=ry
  exact rule i j t t' s _ _ hc ⟨.int (g i j),H,I.tok _,⟨_,rfl⟩,q⟩
theorem rh {f:Value→Value→Sem Value} {g:Int→Int→Int}
    (rule:∀(i j:Int) (t u:Tok) (s:Shared) (Q:Value→Shared→Prop) (E:Value→Shared→Prop),Q (.int (g i j) s.toks) {s with toks:=s.toks+1}→wpAny (model X.prog X.w) X.A (f (.int i t) (.int j u)) Q E s):
    OpR X f (oi fun i j=> .int (g i j)):=by
  intro pins s σ H x y v u Q I rx ry h
  obtain ⟨i,j,rfl,rfl,q⟩:=h
  obtain ⟨t,rfl⟩:=rx
  obtain ⟨t',rfl⟩:=ry
  exact rule i j t t' s _ _ ⟨.int (g i j),H,I.tok _,⟨_,rfl⟩,q⟩
theorem mH {f:Value→Value→Sem Value} {g:Int→Int→Bool}
    (rule:∀(i j:Int) (t u:Tok) (s:Shared) (Q:Value→Shared→Prop) (E:Value→Shared→Prop),Q (.bool (g i j)) s→wpAny (model X.prog X.w) X.A (f (.int i t) (.int j u)) Q E s):
    OpR X f (oi fun i j=> .bl (g i j)):=by
  intro pins s σ H x y v u Q I rx ry h
  obtain ⟨i,j,rfl,rfl,q⟩:=h
  obtain ⟨t,rfl⟩:=rx
  obtain ⟨t',rfl⟩:=ry
  exact rule i j t t' s _ _ ⟨.bl (g i j),H,I,rfl,q⟩
def rj (i j:Int):Prop:=0≤j∧j≤1000000∧i.natAbs < 2 ^ 64
def CMul (i j:Int):Prop:=(-(2 ^ 64) < i∧i < 2 ^ 64)∨(-(2 ^ 64) < j∧j < 2 ^ 64)
theorem CMul.ok {i j:Int} (h:CMul i j):IntMulOk i j:=by
  rcases h with ⟨h1,h2⟩ | ⟨h1,h2⟩
  · exact .of_left (intBits_le_64 h1 h2)
  · exact .of_right (intBits_le_64 h1 h2)
theorem pb:OpR X (binaryOp .Add) (oi fun i j=> .int (i+j)):=rh fun _ _ _ _ _ _ _ q=>add_int q
theorem pc:OpR X (binaryOp .Sub) (oi fun i j=> .int (i - j)):=rh fun _ _ _ _ _ _ _ q=>sub_int q
theorem pd:OpR X (binaryOp .Mod) (rI (fun _ j=>0 < j) fun i j=> .int (i % j)):=sO fun i j _ _ _ _ _ hc q=>by
  have h1:(0:Int) < j:=hc
  exact mod_int' (by omega) (by rw [Int.fmod_eq_emod_of_nonneg i (by omega)];exact q)
theorem pf:OpR X (binaryOp .Pow) (rI rj fun i j=> .int (i ^ j.toNat)):=sO fun _ _ _ _ _ _ _ hc q=>pow_int_small hc.1 hc.2.1 hc.2.2 q
theorem uq {f:Value→Sem Value} {g:Int→Int}
    (rule:∀(i:Int) (t:Tok) (s:Shared) (Q:Value→Shared→Prop) (E:Value→Shared→Prop),Q (.int (g i) s.toks) {s with toks:=s.toks+1}→wpAny (model X.prog X.w) X.A (f (.int i t)) Q E s):
    tz X f (rU fun i=> .int (g i)):=by
  intro pins s σ H x v Q I rx h
  obtain ⟨i,rfl,q⟩:=h
  obtain ⟨t,rfl⟩:=rx
  exact rule i t s _ _ ⟨.int (g i),H,I.tok _,⟨_,rfl⟩,q⟩
theorem ph:tz X (unaryOp .USub) (rU fun i=> .int (-i)):=uq fun _ _ _ _ _ q=>neg_int q
end
def pi:V→V→Bool
  | .non, .non=>true | .non, .int _=>true | .int _, .non=>true | .non, .bl _=>true | .bl _, .non=>true | .non, .str _=>true | .str _, .non=>true
  | .int _, .int _=>true | .bl _, .bl _=>true | .str _, .str _=>true | .byt _, .byt _=>true
  | .int _, .str _=>true | .str _, .int _=>true | .bl _, .str _=>true | .str _, .bl _=>true
  | _,_=>false
def ua:R2:=fun x y H Q=>pi x y=true∧Q (.bl (decide (x=y))) H
def ub:R2:=fun x y H Q=>pi x y=true∧Q (.bl (!decide (x=y))) H
theorem jp {i j:Int}:decide (V.int i=V.int j)=(i == j):=by
  rw [Bool.eq_iff_iff]
  simp
theorem kO {i j:Bool}:decide (V.bl i=V.bl j)=(i == j):=by
  rw [Bool.eq_iff_iff]
  simp
theorem jq {i j:Str}:decide (V.str i=V.str j)=(i == j):=by
  rw [Bool.eq_iff_iff]
  simp
theorem jr {i j:Array UInt8}:decide (V.byt i=V.byt j)=(i.toList == j.toList):=by
  rw [Bool.eq_iff_iff]
  cases i
  cases j
  simp
section
variable {X:Cx} {a b c:Expr} {ta tb tc:TE} {pos:Pos}
theorem aH {pins:List (Addr×Obj)} {σ:St} {H:Hp} {s:Shared} {Q:VK} {k k':Bool} (I:Inv X pins σ H s) (q:Q (.bl k) H) (e:k=k'):EP X pins σ Q (.bool k') s:=by
  subst e
  exact ⟨.bl k,H,I,rfl,q⟩
theorem oj:OpR X (compareOp .Eq) ua:=by
  intro pins s σ H x y v u Q I rx ry h
  obtain ⟨hs,q⟩:=h
  cases x with
  | non=>
    cases rx
    cases y with
    | non=>cases ry;exact PySem.EqNone.eq_none_none (aH I q (by simp))
    | bl j=>cases ry;exact PySem.EqNone.eq_none_bool (aH I q (by simp))
    | int j=>obtain ⟨t',rfl⟩:=ry;exact PySem.EqNone.eq_none_int (aH I q (by simp))
    | str j=>obtain ⟨t',rfl⟩:=ry;exact PySem.EqNone.eq_none_str (aH I q (by simp))
    | _=>exact absurd (show false=true from hs) Bool.false_ne_true
  | bl i=>
    cases rx
    cases y with
    | non=>cases ry;exact PySem.EqNone.eq_bool_none (aH I q (by simp))
    | bl j=>cases ry;exact eq_bool (aH I q kO)
    | str j=>obtain ⟨t',rfl⟩:=ry;exact PySem.EqMixed.eq_bool_str (aH I q (by simp))
    | _=>exact absurd (show false=true from hs) Bool.false_ne_true
  | int i=>
    obtain ⟨t,rfl⟩:=rx
    cases y with
    | non=>cases ry;exact PySem.EqNone.eq_int_none (aH I q (by simp))
    | int j=>obtain ⟨t',rfl⟩:=ry;exact eq_int (aH I q jp)
    | str j=>obtain ⟨t',rfl⟩:=ry;exact PySem.EqMixed.eq_int_str (aH I q (by simp))
    | _=>exact absurd (show false=true from hs) Bool.false_ne_true
  | str i=>
    obtain ⟨t,rfl⟩:=rx
    cases y with
    | non=>cases ry;exact PySem.EqNone.eq_str_none (aH I q (by simp))
    | bl j=>cases ry;exact PySem.EqMixed.eq_str_bool (aH I q (by simp))
    | int j=>obtain ⟨t',rfl⟩:=ry;exact PySem.EqMixed.eq_str_int (aH I q (by simp))
    | str j=>obtain ⟨t',rfl⟩:=ry;exact eq_str (aH I q jq)
    | _=>exact absurd (show false=true from hs) Bool.false_ne_true
  | byt i=>
    obtain ⟨t,rfl⟩:=rx
    cases y with
    | byt j=>obtain ⟨t',rfl⟩:=ry;exact PySem.W.eq_bytes (aH I q jr)
    | _=>exact absurd (show false=true from hs) Bool.false_ne_true
  | _=>cases y <;> exact absurd (show false=true from hs) Bool.false_ne_true
theorem rl:OpR X (compareOp .NotEq) ub:=by
  intro pins s σ H x y v u Q I rx ry h
  obtain ⟨hs,q⟩:=h
  cases x with
  | non=>
    cases rx
    cases y with
    | non=>cases ry;exact PySem.EqNone.ne_none_none (aH I q (by simp))
    | bl j=>cases ry;exact PySem.EqNone.ne_none_bool (aH I q (by simp))
    | int j=>obtain ⟨t',rfl⟩:=ry;exact PySem.EqNone.ne_none_int (aH I q (by simp))
    | str j=>obtain ⟨t',rfl⟩:=ry;exact PySem.EqNone.ne_none_str (aH I q (by simp))
    | _=>exact absurd (show false=true from hs) Bool.false_ne_true
  | bl i=>
    cases rx
    cases y with
    | non=>cases ry;exact PySem.EqNone.ne_bool_none (aH I q (by simp))
    | bl j=>cases ry;exact ne_bool (aH I q (congrArg not kO))
    | str j=>obtain ⟨t',rfl⟩:=ry;exact PySem.EqMixed.ne_bool_str (aH I q (by simp))
    | _=>exact absurd (show false=true from hs) Bool.false_ne_true
  | int i=>
    obtain ⟨t,rfl⟩:=rx
    cases y with
    | non=>cases ry;exact PySem.EqNone.ne_int_none (aH I q (by simp))
    | int j=>obtain ⟨t',rfl⟩:=ry;exact ne_int (aH I q (congrArg not jp))
    | str j=>obtain ⟨t',rfl⟩:=ry;exact PySem.EqMixed.ne_int_str (aH I q (by simp))
    | _=>exact absurd (show false=true from hs) Bool.false_ne_true
  | str i=>
    obtain ⟨t,rfl⟩:=rx
    cases y with
    | non=>cases ry;exact PySem.EqNone.ne_str_none (aH I q (by simp))
    | bl j=>cases ry;exact PySem.EqMixed.ne_str_bool (aH I q (by simp))
    | int j=>obtain ⟨t',rfl⟩:=ry;exact PySem.EqMixed.ne_str_int (aH I q (by simp))
    | str j=>obtain ⟨t',rfl⟩:=ry;exact ne_str (aH I q (congrArg not jq))
    | _=>exact absurd (show false=true from hs) Bool.false_ne_true
  | byt i=>
    obtain ⟨t,rfl⟩:=rx
    cases y with
    | byt j=>obtain ⟨t',rfl⟩:=ry;exact PySem.W.ne_bytes (aH I q (congrArg not jr))
    | _=>exact absurd (show false=true from hs) Bool.false_ne_true
  | _=>cases y <;> exact absurd (show false=true from hs) Bool.false_ne_true
theorem rm:OpR X (compareOp .Lt) (oi fun i j=> .bl (decide (i < j))):=mH fun _ _ _ _ _ _ _ q=>lt_int q
theorem rn:OpR X (compareOp .LtE) (oi fun i j=> .bl (decide (i≤j))):=mH fun _ _ _ _ _ _ _ q=>le_int q
theorem rq:OpR X (compareOp .Gt) (oi fun i j=> .bl (decide (j < i))):=mH fun _ _ _ _ _ _ _ q=>gt_int q
theorem rB:OpR X (compareOp .GtE) (oi fun i j=> .bl (decide (j≤i))):=mH fun _ _ _ _ _ _ _ q=>ge_int q
theorem jV:OpR X (compareOp .Lt) (fun x y H Q=>∃i j,x= .str i∧y= .str j∧Q (.bl (decide (i.cps.toList < j.cps.toList))) H):=by
  intro pins s σ H x y v u Q I rx ry h
  obtain ⟨i,j,rfl,rfl,q⟩:=h
  obtain ⟨t,rfl⟩:=rx
  obtain ⟨t',rfl⟩:=ry
  exact lt_str (aH I q rfl)
theorem jW:OpR X (compareOp .In) (fun x y H Q=>∃i j,x= .str i∧y= .str j∧Q (.bl (!(Builtin.Str.occurrences j i 0 j.length 1).isEmpty)) H):=by
  intro pins s σ H x y v u Q I rx ry h
  obtain ⟨i,j,rfl,rfl,q⟩:=h
  obtain ⟨t,rfl⟩:=rx
  obtain ⟨t',rfl⟩:=ry
  exact in_str (aH I q rfl)
theorem pj:OpR X (compareOp .Is) (fun x y H Q=>y= .non∧Q (.bl (decide (x= .non))) H):=by
  intro pins s σ H x y v u Q I rx ry h
  obtain ⟨rfl,q⟩:=h
  cases ry
  refine is_none_gen (aH I q ?_)
  cases x <;> first
    | (cases rx;rfl)
    | (obtain ⟨t,rfl⟩:=rx;rfl)
theorem mI:OpR X (compareOp .IsNot) (fun x y H Q=>y= .non∧Q (.bl (!decide (x= .non))) H):=by
  intro pins s σ H x y v u Q I rx ry h
  obtain ⟨rfl,q⟩:=h
  cases ry
  refine isnot_none_gen (aH I q ?_)
  cases x <;> first
    | (cases rx;rfl)
    | (obtain ⟨t,rfl⟩:=rx;rfl)
theorem OpR.or {f:Value→Value→Sem Value} {r r':R2} (h:OpR X f r) (h':OpR X f r'):OpR X f (fun x y H Q=>r x y H Q∨r' x y H Q):=by
  intro pins s σ H x y v u Q I rx ry q
  rcases q with q | q
  · exact h pins s σ H x y v u Q I rx ry q
  · exact h' pins s σ H x y v u Q I rx ry q
theorem eT (b:Expr) {op:CmpOp} (h:op≠ .In:=by decide) (h2:op≠ .NotIn:=by decide):behindInMarks op b=false:=by
  have e1:(op == CmpOp.In)=false:=by cases op <;> first | rfl | exact absurd rfl h
  have e2:(op == CmpOp.NotIn)=false:=by cases op <;> first | rfl | exact absurd rfl h2
  cases b <;> simp [behindInMarks,e1,e2]
theorem mJ {op:CmpOp} {r:R2} (ho:OpR X (compareOp op) r) (ha:PE X a ta) (hb:PE X b tb) (hm:behindInMarks op b=false):PE X (.Compare a [op] [b] pos) (q_ r ta tb):=by
  intro pins s σ H Q I h
  exact wpAny_Compare1 (o_ ha hb I h fun v u s2 x y H2 I2 rx ry q=>ho pins s2 σ H2 x y v u Q I2 rx ry q) hm
def om (t:TE):TT:=fun σ H Q=>t σ H fun x H'=>∃k,x= .bl k∧Q k H'
theorem mK {op:CmpOp} {r:R2} (ho:OpR X (compareOp op) r) (ha:PE X a ta) (hb:PE X b tb) (hm:behindInMarks op b=false):PT X (.Compare a [op] [b] pos) (om (q_ r ta tb)):=by
  intro pins s σ H Q I h
  refine wpAny_isTrue_Compare1 (ce (ha pins s σ H _ I h) fun v s1 ⟨x,H1,I1,r1,q1⟩=>ce (hb pins s1 σ H1 _ I1 q1) fun u s2 ⟨y,H2,I2,r2,q2⟩=>
    ce (ho pins s2 σ H2 x y v u _ I2 r1 r2 q2) fun c s3 ⟨z,H3,I3,r3,k,e,q3⟩=>?_) hm
  subst e
  cases r3
  exact wpAny_truthy_bool ⟨H3,I3,q3⟩
def iT (r r':R2) (ta tb tc:TE):TE:=fun σ H Q=>ta σ H fun x H1=>tb σ H1 fun y H2=>r x y H2 fun z H3=>∃k,z= .bl k∧
  (if k=true then tc σ H3 fun w' H4=>r' y w' H4 Q else Q (.bl false) H3)
theorem kP {op op':CmpOp} {r r':R2} (ho:OpR X (compareOp op) r) (ho':OpR X (compareOp op') r') (ha:PE X a ta) (hb:PE X b tb) (hc:PE X c tc)
    (hm:lastMarks [op,op'] [b,c]=false:=by with_unfolding_all rfl):PE X (.Compare a [op,op'] [b,c] pos) (iT r r' ta tb tc):=by
  intro pins s σ H Q I h
  refine Compare_chain (ce (ha pins s σ H _ I h) fun v s1 ⟨x,H1,I1,r1,q1⟩=>chain_link (ce (hb pins s1 σ H1 _ I1 q1) fun u s2 ⟨y,H2,I2,r2,q2⟩=>
    ce (ho pins s2 σ H2 x y v u _ I2 r1 r2 q2) fun d s3 ⟨z,H3,I3,r3,k,e,q3⟩=>?_)) hm
  subst e
  cases r3
  refine wpAny_truthy_bool ?_
  cases k with
  | false=>exact ite_ff ⟨.bl false,H3,I3,rfl,q3⟩
  | true=>exact ite_tt (chain_last (ce (hc pins s3 σ H3 _ I3 q3) fun w' s4 ⟨z',H4,I4,r4,q4⟩=>ho' pins s4 σ H4 y z' u w' Q I4 r2 r4 q4))
theorem kQ {op op':CmpOp} {r r':R2} (ho:OpR X (compareOp op) r) (ho':OpR X (compareOp op') r') (ha:PE X a ta) (hb:PE X b tb) (hc:PE X c tc)
    (hm:lastMarks [op,op'] [b,c]=false:=by with_unfolding_all rfl):PT X (.Compare a [op,op'] [b,c] pos) (om (iT r r' ta tb tc)):=by
  intro pins s σ H Q I h
  refine isTrue_chain (ce (ha pins s σ H _ I h) fun v s1 ⟨x,H1,I1,r1,q1⟩=>test_link (ce (hb pins s1 σ H1 _ I1 q1) fun u s2 ⟨y,H2,I2,r2,q2⟩=>
    ce (ho pins s2 σ H2 x y v u _ I2 r1 r2 q2) fun d s3 ⟨z,H3,I3,r3,k,e,q3⟩=>?_)) hm
  subst e
  cases r3
  refine wpAny_truthy_bool ?_
  cases k with
  | false=>
    obtain ⟨k',e',q'⟩:=q3
    cases e'
    exact ite_ff ⟨H3,I3,q'⟩
  | true=>
    refine ite_tt (test_last (ce (hc pins s3 σ H3 _ I3 q3) fun w' s4 ⟨z',H4,I4,r4,q4⟩=>ce (ho' pins s4 σ H4 y z' u w' _ I4 r2 r4 q4) fun d' s5 ⟨z2,H5,I5,r5,k2,e2,q5⟩=>?_))
    subst e2
    cases r5
    exact wpAny_truthy_bool ⟨H5,I5,q5⟩
def kR (K:PySem.W.Frag) (x:V) (H:Hp) (k:Bool):Prop:=
  match x with
  | .non=>k=false
  | .bl b=>k=b
  | .int i=>k=(i != 0)
  | .str y=>y.length≤sizeLine∧k=((y.length:Int) != 0)
  | .byt y=>y.size≤sizeLine∧k=((y.size:Int) != 0)
  | .ref p=>(∃xs,SqL K H p xs∧k= !xs.isEmpty)∨(∃xs,SqT K H p xs∧k= !xs.isEmpty)∨∃kvs,H p=some (.dK kvs)∧k= !kvs.isEmpty
  | _=>False
theorem iU {κ:Type} {kvs:List (κ×V)} {vs:List (κ×Value)} (r:KV kvs vs):(!vs.isEmpty)= !kvs.isEmpty:=by
  cases r <;> rfl
theorem fu {xs:List V} {its:List Value} (r:Vals xs its):(!its.toArray.isEmpty)= !xs.isEmpty:=by
  cases r <;> simp
theorem eU:(sizeLine:Nat) < 2 ^ 63:=by rw [sizeLine_eq];decide
theorem pk:tB X (fun x H Q=>∃k,kR X.K x H k∧Q k H):=by
  intro pins s σ H x v Q I rx h
  obtain ⟨k,e,q⟩:=h
  have hl:=eU
  have hs:sizeLine=16777216:=sizeLine_eq
  cases x with
  | non=>
    cases rx
    have e':k=false:=e
    subst e'
    exact truthy_none ⟨H,I,q⟩
  | bl b=>
    cases rx
    have e':k=b:=e
    subst e'
    exact wpAny_truthy_bool ⟨H,I,q⟩
  | int i=>
    obtain ⟨t,rfl⟩:=rx
    have e':k=(i != 0):=e
    subst e'
    exact PySem.P.truthy_int ⟨H,I,q⟩
  | str y=>
    obtain ⟨t,rfl⟩:=rx
    obtain ⟨hy,e'⟩:y.length≤sizeLine∧k=((y.length:Int) != 0):=e
    subst e'
    exact PySem.P.truthy_str (by omega) ⟨H,I.tok _,q⟩
  | byt y=>
    obtain ⟨t,rfl⟩:=rx
    obtain ⟨hy,e'⟩:y.size≤sizeLine∧k=((y.size:Int) != 0):=e
    subst e'
    exact PySem.W.truthy_bytes (by omega) ⟨H,I.tok _,q⟩
  | ref p=>
    cases rx
    have e':(∃xs,SqL X.K H p xs∧k= !xs.isEmpty)∨(∃xs,SqT X.K H p xs∧k= !xs.isEmpty)∨∃kvs,H p=some (.dK kvs)∧k= !kvs.isEmpty:=e
    rcases e' with ⟨xs,hx,e'⟩ | ⟨xs,hx,e'⟩ | ⟨kvs,hx,e'⟩
    · subst e'
      obtain ⟨its,r,pl,hz⟩:=I.list hx
      have hlen:=r.length
      exact wpAny_truthy_list pl.isList (by simp only [List.size_toArray];omega) ⟨H,I.tok _,by rw [fu r];exact q⟩
    · subst e'
      obtain ⟨its,r,pl,hz⟩:=I.tuple hx
      have hlen:=r.length
      exact truthy_tuple pl (by simp only [List.size_toArray];omega) ⟨H,I.tok _,by rw [fu r];exact q⟩
    · subst e'
      obtain ⟨hz,hS,vs,r,m⟩:kvs.length≤sizeLine∧(p == sysModules)=false∧∃vs,KV kvs vs∧s.heap.DictOf (cg X.prog X.w) p vs:=I.hok p _ hx
      have hlen:kvs.length=vs.length:=Paired.length r
      exact wpAny_truthy_dict hS m (by omega) ⟨H,I.tok _,by rw [iU r];exact q⟩
  | _=>exact (show False from e).elim
theorem kS (ha:PE X a ta) (he:∀whole,isTrue a X.env whole=(do let v ←whole;standAt a.pos;holding [v] (truthy v))):
    PT X a (fun σ H Q=>ta σ H fun x H'=>∃k,kR X.K x H' k∧Q k H'):=by
  intro pins s σ H Q I h
  exact isTrue_plain (ce (ha pins s σ H _ I h) fun v s1 ⟨x,H1,I1,r1,q1⟩=>pk pins s1 σ H1 x v Q I1 r1 q1) (he _)
theorem iV:OpR X (binaryOp .Add) (fun x y H Q=>∃i j,x= .str i∧y= .str j∧i.length+j.length≤sizeLine∧Q (.str (i++j)) H):=by
  intro pins s σ H x y v u Q I rx ry h
  obtain ⟨i,j,rfl,rfl,hz,q⟩:=h
  obtain ⟨t,rfl⟩:=rx
  obtain ⟨t',rfl⟩:=ry
  exact add_str (fun t' tk=>⟨.str (i++j),H,I.tok _,⟨_,rfl⟩,q⟩) hz
theorem hZ {x:V} {us:List Value} (r:Vals [x] us):∃u,us=[u]∧RelV x u:=by
  cases r with
  | cons r1 r2=>cases r2;exact ⟨_,rfl,r1⟩
theorem kT:CallR X (.builtin "abs") (fun xs H Q=>∃i,xs=[.int i]∧Q (.int (if i < 0 then -i else i)) H):=by
  intro pins s σ H xs us Q I r h
  obtain ⟨i,rfl,q⟩:=h
  obtain ⟨u,rfl,t,rfl⟩:=hZ r
  exact call_abs_int fun u tk=>⟨.int (if i < 0 then -i else i),H,I.tok _,⟨_,rfl⟩,q⟩
end
end L2
namespace L2
open PySem PySem.Spec PyProof.Rows
structure ObjM (h:Heap) (x dx C:Addr) (mA:Str→Option Value):Prop where
  obj:h.get? x=some (PySem.W.instObj C dx)
  ns:h.Ns1 dx mA
  ne:dx≠x
theorem jX {h:Heap} {dx:Addr} {mA:Str→Option Value} (n:h.Ns1 dx mA):∃od,h.get? dx=some od∧∀name,PySem.W.lookIn name od=some (mA name):=by
  obtain ⟨o,es,ep,ho,hd,hk,_,hm⟩:=n
  refine ⟨o,ho,fun name=>?_⟩
  have e:=hm name
  unfold nsFind findBy at e
  rw [←Array.find?_toList] at e
  unfold PySem.W.lookIn
  rw [hd]
  dsimp only
  split
  · rename_i y q
    rw [q] at e
    exact congrArg some e
  · rename_i q
    rw [q] at e
    have a:es.toList.any (·.refKey)=false:=by
      rw [List.any_eq_false]
      intro y hy
      obtain ⟨z,t,hkey⟩:=hk y (Array.mem_toList_iff.mp hy)
      simp [DictEntry.refKey,hkey]
    have a':¬es.toList.any (·.refKey)=true:=by rw [a];exact Bool.false_ne_true
    rw [if_neg a']
    exact congrArg some e
theorem ObjM.look {h:Heap} {x dx C:Addr} {mA:Str→Option Value} (I:ObjM h x dx C mA):∃od,PySem.W.InstAt h x (PySem.W.instObj C dx) C (some od)∧∀name,PySem.W.lookIn name od=some (mA name):=
  let ⟨od,ho,hl⟩:=jX I.ns
  ⟨od,⟨I.obj,rfl,rfl,ho⟩,hl⟩
section
variable {P:Program} {w:World} {H H':Hp} {h h':Heap} {a C dx:Addr} {fs fs':List (Str×V)}
theorem mL (hok:HOk P w H h) (e:H a=some (.ins C dx fs)):∃mA,ObjM h a dx C mA∧(∀f,RelO (fs.lookup f) (mA f))∧PySem.Within mA (fs.map (·.1))∧fs.length≤1000∧H dx=some (.own a):=by
  obtain ⟨d,z,ne,ob,mA,n,r,q⟩:=(show ObjOk P w H h a (.ins C dx fs) from hok a _ e)
  exact ⟨mA,⟨ob,n,ne⟩,r,q,z,d⟩
end
structure Cls (K:PySem.W.Frag) (C:Addr):Prop where
  pg:PySem.W.plainGet K C Str.empty=true
  hd:PySem.W.hasDictIn K C=true
  po:PySem.W.plainOver K C=true
  sa:PySem.W.findIn K (.ref C) "__setattr__"=some (some (.builtin "object.__setattr__"))
theorem Cls.get {K:PySem.W.Frag} {C:Addr} (c:Cls K C) (f:Str):PySem.W.plainGet K C f=true:=c.pg
section
variable {X:Cx} {pins:List (Addr×Obj)} {σ:St} {H:Hp} {s:Shared} {A:Around} {E:Value→Shared→Prop} {Q:Value→Shared→Prop} {c:Value} {b:Bool}
inductive TyOf (K:PySem.W.Frag) (H:Hp):V→Value→Prop where
  | non:TyOf K H .non (.type "NoneType")
  | bl (x:Bool):TyOf K H (.bl x) (.type "bool")
  | int (i:Int):TyOf K H (.int i) (.type "int")
  | str (x:Str):TyOf K H (.str x) (.type "str")
  | flt (x:UInt64):TyOf K H (.flt x) (.type "float")
  | lst {a:Addr} {xs:List V} (e:H a=some (.lst xs)):TyOf K H (.ref a) (.type "list")
  | frz {a:Addr} {o:Obj} {xs:List V} (e:H a=some (.frz o (.lst xs))):TyOf K H (.ref a) (.type "list")
  | tup {a:Addr} {xs:List V} (e:H a=some (.tup xs)):TyOf K H (.ref a) (.type "tuple")
  | dK {a:Addr} {kvs:List (bG×V)} (e:H a=some (.dK kvs)):TyOf K H (.ref a) (.type "dict")
  | dT {a:Addr} {kvs:List (List bG×V)} (e:H a=some (.dT kvs)):TyOf K H (.ref a) (.type "dict")
  | ins {a C dx:Addr} {fs:List (Str×V)} (e:H a=some (.ins C dx fs)) (cl:Cls K C) (ha:PySem.W.findIn K (.ref C) "__class__"=some (some (.builtin "object.__class__")))
      (hn:PySem.W.specialIn K (.builtin "object.__class__") "__get__"=some (some (.builtin "getset_descriptor.__get__"))) (htk:PySem.W.takesIn K (.builtin "object.__class__")=some true)
      (hm:PySem.W.mroIn K C (.type "object")=some true):TyOf K H (.ref a) (.ref C)
theorem dH {x:V} {u t:Value} (I:Inv X pins σ H s) (rx:RelV x u) (ty:TyOf X.K H x t) (e:PySem.W.kitOne X.K t c=some b) (h:∀tk,Q (.bool b) {s with toks:=tk}):
    wpAny (model X.prog X.w) A (call (.builtin "isinstance") [u,c]) Q E s:=by
  cases ty with
  | non=>cases (show u=Value.none from rx);exact PySem.W.kia_one PySem.W.kitx_none I.kIn True.intro e (fun z=>nomatch z) h
  | bl y=>cases (show u=Value.bool y from rx);exact PySem.W.kia_one PySem.W.kitx_bool I.kIn True.intro e (fun z=>nomatch z) h
  | int i=>obtain ⟨t,q⟩:=(show ∃t,u=Value.int i t from rx);cases q;exact PySem.W.kia_one PySem.W.kitx_int I.kIn True.intro e (fun z=>nomatch z) h
  | str y=>obtain ⟨t,q⟩:=(show ∃t,u=Value.str y t from rx);cases q;exact PySem.W.kia_one PySem.W.kitx_str I.kIn True.intro e (fun z=>nomatch z) h
  | flt y=>obtain ⟨t,q⟩:=(show ∃t,u=Value.float y t from rx);cases q;exact PySem.W.kia_one PySem.W.kitx_float I.kIn True.intro e (fun z=>nomatch z) h
  | @lst a xs ea=>
    cases (show u=Value.ref a from rx)
    obtain ⟨_,_,n,_,h1⟩:=(show ObjOk X.prog X.w H s.heap a (.lst xs) from I.hok a _ ea)
    exact PySem.W.kia_one PySem.W.kitx_list I.kIn ⟨_,h1,rfl⟩ e (fun z=>nomatch z) h
  | @frz a ob xs ea=>
    cases (show u=Value.ref a from rx)
    obtain ⟨_,_,_,n,_,h1⟩:=(show ObjOk X.prog X.w H s.heap a (.frz ob (.lst xs)) from I.hok a _ ea)
    exact PySem.W.kia_one PySem.W.kitx_list I.kIn ⟨_,h1,rfl⟩ e (fun z=>nomatch z) h
  | @tup a xs ea=>
    cases (show u=Value.ref a from rx)
    obtain ⟨_,_,_,p⟩:=(show ObjOk X.prog X.w H s.heap a (.tup xs) from I.hok a _ ea)
    obtain ⟨o,h1,h2,_⟩:=p
    exact PySem.W.kia_one PySem.W.kitx_tuple I.kIn ⟨o,h1,h2⟩ e (fun z=>nomatch z) h
  | @dK a kvs ea=>
    cases (show u=Value.ref a from rx)
    obtain ⟨_,_,vs,_,p⟩:=(show ObjOk X.prog X.w H s.heap a (.dK kvs) from I.hok a _ ea)
    obtain ⟨o,es,ep,h1,h2,_⟩:=p
    exact PySem.W.kia_one PySem.W.kitx_dict I.kIn ⟨o,h1,h2.1⟩ e (fun z=>nomatch z) h
  | @dT a kvs ea=>
    cases (show u=Value.ref a from rx)
    obtain ⟨_,_,xs,_,o,es,ep,h1,h2,_⟩:=(show ObjOk X.prog X.w H s.heap a (.dT kvs) from I.hok a _ ea)
    exact PySem.W.kia_one PySem.W.kitx_dict I.kIn ⟨o,h1,h2.1⟩ e (fun z=>nomatch z) h
  | @ins a C dx fs ea cl ha hn htk hm=>
    cases (show u=Value.ref a from rx)
    obtain ⟨mA,O,_⟩:=mL I.hok ea
    obtain ⟨od,J,_⟩:=O.look
    exact PySem.W.kia_one (PySem.W.kitx_own (cl.get _) cl.hd ha hn htk hm) I.kIn J e (fun z=>nomatch z) h
end
end L2
namespace L2
open PySem PySem.Spec PyProof.Rows
structure Room (k:Nat) (A:Around):Prop where
  hd:A.handled=none
  dp:A.depth+3*k+5 < recursionLimit
  un:A.units+16*k+200 < cLine
theorem Room.mono {j k:Nat} {A:Around} (r:Room k A) (h:j≤k):Room j A:=⟨r.hd,by have:=r.dp;omega,by have:=r.un;omega⟩
theorem Room.deeper {k:Nat} {A:Around} (r:Room (k+1) A) (env:Env):Room k (A.deeper env):=
  ⟨r.hd,by have:=r.dp;show A.depth+1+3*k+5 < _;omega,by have:=r.un;show A.units+3+16*k+200 < _;omega⟩
theorem Room.depth {k:Nat} {A:Around} (r:Room k A):A.depth < recursionLimit:=by have:=r.dp;omega
theorem Room.units {k:Nat} {A:Around} (r:Room k A):A.units+64 < cLine:=by have:=r.un;omega
def tD:TA:=fun _ H Q=>Q [] H
def rC (ta:TE) (tr:TA):TA:=fun σ H Q=>ta σ H fun x H1=>tr σ H1 fun xs H2=>Q (x::xs) H2
section
variable {X:Cx} {e:Expr} {es:List Expr} {te:TE} {t:TA} {pos:Pos}
theorem cM:PA X [] tD:=fun _ _ _ _ H Q I h=>Calls.spliced_nil ⟨[],H,I, .nil,h⟩
theorem bN (ha:PE X e te) (hr:PA X es t) (hs:starEach (e::es) X.env=(false,eval e X.env)::starEach es X.env:=by rfl):PA X (e::es) (rC te t):=by
  intro pos pins s σ H Q I h
  rw [hs]
  show wpAny _ _ (spliced ((false,eval e X.env)::backTo pos (starEach es X.env))) _ _ s
  refine Calls.spliced_cons (ce (ha pins s σ H _ I h) fun u s1 ⟨x,H1,I1,r1,q1⟩=>?_)
  exact ce (hr pos pins s1 σ H1 _ I1 q1) fun us s2 ⟨xs,H2,I2,r2,q2⟩=>⟨x::xs,H2,I2, .cons r1 r2,q2⟩
def tE (t:TA):TE:=fun σ H Q=>t σ H fun xs H1=>xs.length≤sizeLine∧∀p,H1 p=none→Q (.ref p) (upd H1 p (.tup xs))
def tF (t:TA):TE:=fun σ H Q=>t σ H fun xs H1=>xs.length≤sizeLine∧∀p,H1 p=none→Q (.ref p) (upd H1 p (.lst xs))
theorem pq {x1} (h:PA X es t):PE X (.Tuple es x1 pos) (tE t):=by
  intro pins s σ H Q I hq
  refine wpAny_Tuple_spliced (ce (h pos pins s σ H _ I hq) fun us s1 ⟨xs,H1,I1,r,z,q⟩=>⟨by rw [←r.length];exact z,?_⟩)
  have hf:H1 s1.heap.objs.size=none:=I1.hok.fresh (Nat.le_refl _)
  refine ⟨.ref s1.heap.objs.size,upd H1 s1.heap.objs.size (.tup xs),I1.laid (t':=s1.toks) (fun b u e=>Heap.get?_push_of_some _ e) (Nat.le_refl _) ?_,rfl,q _ hf⟩
  exact ⟨z,us,r,⟨_,Heap.get?_push_size _ rfl,rfl,_,rfl⟩⟩
theorem pv (h:PA X es t):PE X (.List es pos) (tF t):=by
  intro pins s σ H Q I hq
  refine wpAny_List_spliced (ce (h pos pins s σ H _ I hq) fun us s1 ⟨xs,H1,I1,r,z,q⟩=>⟨by rw [←r.length];exact z,?_⟩)
  have hf:H1 s1.heap.objs.size=none:=I1.hok.fresh (Nat.le_refl _)
  refine ⟨.ref s1.heap.objs.size,upd H1 s1.heap.objs.size (.lst xs),I1.laid (t':=s1.toks) (fun b u e=>Heap.get?_push_of_some _ e) (Nat.le_refl _) ?_,rfl,q _ hf⟩
  exact ⟨z,us,0,r,Heap.get?_push_size _ rfl⟩
end
abbrev Sp:=List V→Hp→VK→XK→Prop
abbrev jY:=List Env→Hp→Shared→XK→Value→Shared→Prop
structure Env0 (P:Program) (w:World) (K:PySem.W.Frag) (mg:Str→Option Value) (base:Heap) (A:Around) (outer:List Env) (s:Shared) (H:Hp):Prop where
  frames:A.frames=some outer
  mod:Mod K mg base
  bs:∀b o,base.get? b=some o→s.heap.get? b=some o∧H b=none
  bsz:base.objs.size≤s.heap.objs.size
  funs:s.heap.FunFrames base outer
  frf:∀b∈eG outer,H b=none
  hok:HOk P w H s.heap
  bare:AllBare s.gens
  tab:∀b q,fj K b=some q→H b=some (.tbl q)
def CE (outer:List Env) (P:Program) (w:World) (H:Hp) (s:Shared) (Q:VK) (u:Value) (s':Shared):Prop:=
  ∃v H',s'.os=s.os∧AllBare s'.gens∧Un (eG outer) [] H H' s.heap s'.heap∧HOk P w H' s'.heap∧RelV v u∧Q v H'
def CR (CX:jY) (outer:List Env) (P:Program) (w:World) (H:Hp) (s:Shared) (Q:VK) (E:XK) (r:Result) (s':Shared):Prop:=
  match r with
  | .ok (.ret u)=>CE outer P w H s Q u s'
  | .ok _=>False
  | .error e=>CX outer H s E e s'
structure FnOk (P:Program) (w:World) (K:PySem.W.Frag) (mg:Str→Option Value) (base:Heap) (CX:jY) (k:Nat) (f:Addr) (fd:FuncData) (ps:List Str) (sp:Sp):Prop where
  len:∀vs H Q E,sp vs H Q E→vs.length=ps.length
  run:∀(A:Around) (outer:List Env) (s:Shared) (H:Hp) (args:Args) (us:List Value) (vs:List V) (Q:VK) (E:XK),Room k A→Env0 P w K mg base A outer s H→BindsTo s fd args (ps.zip us)→Vals vs us→sp vs H Q E→
    codeAny (model P w) A (.call (.ref f) args) (CR CX outer P w H s Q E) s
theorem FnOk.mono {P:Program} {w:World} {K:PySem.W.Frag} {mg:Str→Option Value} {base:Heap} {CX:jY} {j k:Nat} {f:Addr} {fd:FuncData} {ps:List Str} {sp:Sp} (F:FnOk P w K mg base CX j f fd ps sp) (h:j≤k):
    FnOk P w K mg base CX k f fd ps sp:=⟨F.len,fun A outer s H args us vs Q E hr=>F.run A outer s H args us vs Q E (hr.mono h)⟩
theorem FnOk.imp {P:Program} {w:World} {K:PySem.W.Frag} {mg:Str→Option Value} {base:Heap} {CX:jY} {k:Nat} {f:Addr} {fd:FuncData} {ps:List Str} {sp sp':Sp} (F:FnOk P w K mg base CX k f fd ps sp)
    (h:∀vs H Q E,sp' vs H Q E→sp vs H Q E):FnOk P w K mg base CX k f fd ps sp':=
  ⟨fun vs H Q E q=>F.len vs H Q E (h _ _ _ _ q),fun A outer s H args us vs Q E hr he hb hv hs=>F.run A outer s H args us vs Q E hr he hb hv (h _ _ _ _ hs)⟩
section
variable {X:Cx} {pins:List (Addr×Obj)} {σ:St} {H:Hp} {s s':Shared}
theorem Inv.env0 (I:Inv X pins σ H s):Env0 X.prog X.w X.K X.mg X.base X.A X.stack s H:=
  ⟨I.ok.frames,I.ok.mod,I.bs,Nat.le_trans I.ok.bsz I.sz,I.stack,I.stkFree,I.hok,I.bare,I.tab⟩
theorem Inv.after {Q:VK} {u:Value} (I:Inv X pins σ H s) (h:CE X.stack X.prog X.w H s Q u s'):EP X pins σ Q u s':=by
  obtain ⟨v,H',os,bare,un,hok,r,q⟩:=h
  obtain ⟨hh,g,d,t,os'⟩:=s'
  obtain rfl:os'=s.os:=os
  exact ⟨v,H',I.call (h':=hh) (g':=g) (d':=d) (t':=t) (ch:=[]) un hok bare (fun b z=>absurd z (by simp)),r,q⟩
end
def kU (sp:Sp) (dvs:List V) (E:XK) (t:TA):TE:=fun σ H Q=>t σ H fun vs H1=>sp (vs++dvs) H1 Q E
def Binds (K:PySem.W.Frag) (fd:FuncData) (ps:List Str) (ds:List Value):Prop:=
  ∀(s:Shared) (us:List Value),K.In s.heap→(us++ds).length=ps.length→BindsTo s fd ⟨us,[]⟩ (ps.zip (us++ds))
theorem Binds.all {K:PySem.W.Frag} {fd:FuncData} {ps:List Str} (h:∀us:List Value,us.length=ps.length→bindArgs fd ⟨us,[]⟩=pure (ps.zip us)):Binds K fd ps []:=fun s us _ hl=>by
  rw [List.append_nil] at hl ⊢
  exact .of_eq (h us hl)
def iW (CX:jY) (X:Cx) (E:XK):Prop:=∀(pins:List (Addr×Obj)) (σ:St) (H:Hp) (s:Shared) (e:Value) (s':Shared),Inv X pins σ H s→CX X.stack H s E e s'→X.xe e s'
section
variable {X:Cx} {CX:jY} {k:Nat} {f C:Addr} {fd:FuncData} {ps:List Str} {sp:Sp} {dvs:List V} {ds:List Value} {E:XK} {x m:Str} {p pos apos:Pos} {e o:Expr} {es:List Expr} {ta:TE} {t:TA}
theorem pw {pins:List (Addr×Obj)} {σ:St} {H:Hp} {s:Shared} {Q:VK} {us:List Value} {vs:List V} (F:FnOk X.prog X.w X.K X.mg X.base CX k f fd ps sp) (hr:Room k X.A) (hb:Binds X.K fd ps ds) (hd:Vals dvs ds) (hx:iW CX X E)
    (I:Inv X pins σ H s) (r:Vals vs us) (h:sp (vs++dvs) H Q E):wpAny (model X.prog X.w) X.A (call (.ref f) us) (EP X pins σ Q) X.xe s:=by
  have r2:Vals (vs++dvs) (us++ds):=r.append hd
  have hl:(us++ds).length=ps.length:=by rw [←r2.length];exact F.len _ _ _ _ h
  refine wpAny_call (codeAny_mono (F.run X.A X.stack s H ⟨us,[]⟩ (us++ds) (vs++dvs) Q E hr I.env0 (hb s us I.kIn hl) r2 h) fun r s' hq=>?_)
  cases r with
  | error e=>exact hx pins σ H s e s' I hq
  | ok fl=>
    cases fl with
    | ret u=>exact I.after hq
    | next=>exact False.elim hq
    | brk=>exact False.elim hq
    | cont=>exact False.elim hq
theorem mM (F:FnOk X.prog X.w X.K X.mg X.base CX k f fd ps sp) (hr:Room k X.A) (hg:Gl X x) (hm:X.mg x=some (.ref f)) (hk:PySem.W.keepIn X.K (.ref f)=true) (hb:Binds X.K fd ps ds) (hd:Vals dvs ds) (hx:iW CX X E)
    (ha:PA X (e::es) t) (hdb:(x == ("__debug__":Str))=false:=by decide) (he:starEach (e::es) X.env=(false,eval e X.env)::starEach es X.env:=by rfl) (hpl:(backTo pos (starEach es X.env)).any (·.1)=false:=by rfl):
    PE X (.Call (.Name x p) (e::es) [] pos) (kU sp dvs E t):=by
  intro pins s σ H Q I h
  refine wpAny_Call_Name_kw (dG I hg hm ?_ hdb)
  refine PySem.W.callWith_K (h₀:=X.base) I.ok.mod.kin hk (ce (ha pos pins s σ H _ I h) fun us s1 ⟨vs,H1,I1,r,q⟩=>⟨I1.kIn,?_⟩) he hpl
  exact pw F hr hb hd hx I1 r q
end
structure FnScope (N P:List Str) (sc:Scope):Prop where
  kind:sc.kind= .function
  co:sc.isCoroutine=false
  gen:sc.isGenerator=false
  nd:N.Nodup
  pre:N.take P.length=P
  par:∀x∈P,sc.names.lookup x=some .local∨sc.names.lookup x=some .cell
  nofree:∀y∈sc.names,y.2≠ .free
theorem gg {kindOf:Str→Option NameKind} {x:Str}:∀{binds:List (Str×Value)} {m:Str→Option Value},(∀v,(x,v)∉binds)→bindL kindOf binds m x=m x
  | [],_,_=>rfl
  | (n,v)::r,m,h=>by
    unfold bindL
    rw [gg fun w hw=>h w (List.mem_cons_of_mem _ hw)]
    split
    · have:x≠n:=by rintro rfl;exact h v List.mem_cons_self
      simp [this]
    · rfl
theorem gh {kindOf:Str→Option NameKind} {x:Str}:∀{binds:List (Str×Value)} {m:Str→Option Value},(∀v,(x,v)∉binds)→bindC kindOf binds m x=m x
  | [],_,_=>rfl
  | (n,v)::r,m,h=>by
    unfold bindC
    rw [gh fun w hw=>h w (List.mem_cons_of_mem _ hw)]
    split
    · rfl
    · have:x≠n:=by rintro rfl;exact h v List.mem_cons_self
      simp [this]
theorem gi {kindOf:Str→Option NameKind} {x:Str} {v:Value}:∀{P:List Str} {vs:List Value} {i:Nat} {m:Str→Option Value},P.Nodup→P[i]? =some x→vs[i]? =some v→kindOf x=some .local→
    bindL kindOf (P.zip vs) m x=some v
  | [],_,_,_,_,h,_,_=>by simp at h
  | _::_,[],_,_,_,_,h,_=>by simp at h
  | p::P,w::vs,0,m,nd,h1,h2,hk=>by
    simp at h1 h2;subst h1;subst h2
    show bindL kindOf ((p,w)::P.zip vs) m p=_
    unfold bindL
    rw [gg fun v hv=>(List.nodup_cons.mp nd).1 (List.of_mem_zip hv).1,if_pos hk]
    simp
  | p::P,w::vs,i+1,m,nd,h1,h2,hk=>by
    show bindL kindOf ((p,w)::P.zip vs) m x=_
    unfold bindL
    exact gi (i:=i) (List.nodup_cons.mp nd).2 (by simpa using h1) (by simpa using h2) hk
theorem gj {kindOf:Str→Option NameKind} {x:Str} {v:Value}:∀{P:List Str} {vs:List Value} {i:Nat} {m:Str→Option Value},P.Nodup→P[i]? =some x→vs[i]? =some v→kindOf x≠some .local→
    bindC kindOf (P.zip vs) m x=some v
  | [],_,_,_,_,h,_,_=>by simp at h
  | _::_,[],_,_,_,_,h,_=>by simp at h
  | p::P,w::vs,0,m,nd,h1,h2,hk=>by
    simp at h1 h2;subst h1;subst h2
    show bindC kindOf ((p,w)::P.zip vs) m p=_
    unfold bindC
    rw [gh fun v hv=>(List.nodup_cons.mp nd).1 (List.of_mem_zip hv).1,if_neg hk]
    simp
  | p::P,w::vs,i+1,m,nd,h1,h2,hk=>by
    show bindC kindOf ((p,w)::P.zip vs) m x=_
    unfold bindC
    exact gj (i:=i) (List.nodup_cons.mp nd).2 (by simpa using h1) (by simpa using h2) hk
def cF (N:List Str) (vs:List V):St:=vs.map some++List.replicate (N.length - vs.length) none
def du (CX:jY) (P:Program) (w:World) (K:PySem.W.Frag) (mg:Str→Option Value) (base:Heap) (N:List Str) (qual:Str) (scope:Scope) (f:Addr) (cd:Value) (A:Around) (outer:List Env) (s:Shared) (H:Hp) (E:XK):Cx where
  prog:=P
  w:=w
  K:=K
  mg:=mg
  base:=base
  A:=A.deeper (envOfC qual scope s.heap.objs.size f cd)
  N:=N
  s₀:=s
  H₀:=H
  env:=envOfC qual scope s.heap.objs.size f cd
  outer:=outer
  stack:=envOfC qual scope s.heap.objs.size f cd::outer
  ex:=[]
  calm:=true
  fn:=fun _=>true
  pn:=[]
  xe:=fun e s'=>wpAny (model P w) (A.deeper (envOfC qual scope s.heap.objs.size f cd)) (leaving (envOfC qual scope s.heap.objs.size f cd) e) (fun _ s''=>CX outer H s E e s'') (fun e' s''=>CX outer H s E e' s'') s'
theorem h7 {sc:Scope} {n:Nat} {x:Str} (h:sc.names.lookup x=some .cell):∃c,(cellsFrom n sc.names []).lookup x=some c:=by
  have q:=PySem.W.cellsFrom_some sc.names n [] (.inl h)
  exact Option.isSome_iff_exists.mp q
theorem gk {CX:jY} {P:Program} {w:World} {K:PySem.W.Frag} {mg:Str→Option Value} {base:Heap} {N ps:List Str} {qual:Str} {scope:Scope} {f:Addr} {cd:Value} {A:Around} {outer:List Env} {s s1:Shared} {H:Hp} {E:XK} {us:List Value} {vs:List V}
    (S:FnScope N ps scope) (hd:A.handled=none) (e0:Env0 P w K mg base A outer s H) (hl:vs.length=ps.length) (r:Vals vs us)
    (x:InCallC s s.heap.objs.size (bindL (envOfC qual scope s.heap.objs.size f cd).kindOf (ps.zip us) fun _=>none) (cellsFrom (s.heap.objs.size+1) scope.names []) (bindC (envOfC qual scope s.heap.objs.size f cd).kindOf (ps.zip us) fun _=>none) s1):
    Inv (du CX P w K mg base N qual scope f cd A outer s H E) [] (cF N vs) H s1:=by
  have hpl:ps.length≤N.length:=by have:=congrArg List.length S.pre;rw [List.length_take] at this;omega
  obtain ⟨h1,tk,rfl,hk⟩:=x.done
  have noA:∀b:Addr,b∉(du CX P w K mg base N qual scope f cd A outer s H E).ex:=fun b z=>absurd (show b∈([]:List Addr) from z) (by simp)
  refine ⟨⟨e0.mod,S.kind,rfl,rfl,Nat.le_refl _,fun y z c h1 h2=>?_,fun y hy=>?_,fun y c _ h=>?_,fun _=>hd,Around.frames_deeper e0.frames, .inr ⟨rfl,rfl⟩,fun b z=>absurd z (noA b),e0.bs,e0.bsz,fun b _ _=>noA b,fun b z=>absurd z (noA b),e0.funs,e0.frf,e0.tab⟩,
    rfl,e0.bare,Un.kept hk,⟨_,x.toInCall.ns,fun i y v h1 h2 h3=>?_⟩,fun y c h=>⟨_,x.cell y c h⟩,e0.hok.fresh (Nat.le_refl _),fun y c h=>?_,fun p hp=>absurd (show p∈([]:List (Addr×Obj)) from hp) (by simp),e0.hok.kept hk,?_⟩
  · exact name_of_addr x.apart (PySem.mem_of_lookup h1) (PySem.mem_of_lookup h2)
  · have hy:scope.names.lookup y=some .cell∨scope.names.lookup y=some .free:=hy
    rcases hy with hy | hy
    · exact h7 hy
    · exact absurd rfl (S.nofree _ (PySem.mem_of_lookup hy))
  · exact Nat.le_of_lt (x.above y c (PySem.mem_of_lookup h))
  · have hi:i < vs.length:=by
      unfold cF at h2
      by_cases hi:i < vs.length
      · exact hi
      · rw [List.getElem?_append_right (by simpa using hi)] at h2
        rw [List.getElem?_replicate] at h2
        split at h2 <;> cases h2
    have ha:vs[i]? =some v:=by
      unfold cF at h2
      rw [List.getElem?_append_left (by simpa using hi),List.getElem?_map] at h2
      cases e:vs[i]? with
      | none=>rw [e] at h2;cases h2
      | some a=>rw [e] at h2;cases h2;rfl
    obtain ⟨u,hu,rv⟩:=r.get ha
    have hp:ps[i]? =some y:=by
      rw [←S.pre,List.getElem?_take_of_lt (by omega)];exact h1
    have ndP:ps.Nodup:=by rw [←S.pre];exact S.nd.sublist (List.take_sublist _ _)
    refine ⟨u,rv,?_⟩
    rcases S.par y (List.mem_of_getElem? hp) with k | k
    · exact .inl ⟨k,gi ndP hp hu k⟩
    · obtain ⟨c,e⟩:=h7 (n:=s.heap.objs.size+1) k
      refine .inr ⟨.inl k,c,e,?_⟩
      have q:=x.cell y c e
      rw [gj ndP hp hu (by show scope.names.lookup y≠_;rw [k];decide)] at q
      exact q
  · exact e0.hok.fresh (Nat.le_of_lt (x.above y c (PySem.mem_of_lookup h)))
  · unfold cF
    show _=N.length
    rw [List.length_append,List.length_map,List.length_replicate]
    omega
theorem oo {CX:jY} {P:Program} {w:World} {K:PySem.W.Frag} {mg:Str→Option Value} {base:Heap} {k:Nat} {f:Addr} {name qual:Str} {params:Arguments} {body:List Stmt} {scope:Scope} {dV kV doc pm cdv ct oc:Value} {an od:Option Addr}
    {osl:Array (Option Value)} {N ps:List Str} {sp:Sp} (lk:K.lookup f=some ⟨oc,od, .func (PySem.W.fnOf name qual params body scope dV kV doc pm an cdv ct),osl⟩) (hcd:PySem.W.codeIn K cdv qual=true) (S:FnScope N ps scope)
    (len:∀vs H Q E,sp vs H Q E→vs.length=ps.length)
    (hbody:∀(A:Around) (outer:List Env) (s:Shared) (H:Hp) (vs:List V) (Q:VK) (E:XK),Room k (A.deeper (envOfC qual scope s.heap.objs.size f cdv))→sp vs H Q E→
      ∃t,PSs (du CX P w K mg base N qual scope f cdv A outer s H E) body t∧t {nx:=fun _ H'=>Q .non H',rt:=Q} (cF N vs) H):
    FnOk P w K mg base CX (k+1) f (PySem.W.fnOf name qual params body scope dV kV doc pm an cdv ct) ps sp:=by
  refine ⟨len,fun A outer s H args us vs Q E hr e0 hb r hsp=>?_⟩
  have hl:=len _ _ _ _ hsp
  have KX:K.In s.heap:=e0.mod.kin.keeps fun b o e=>(e0.bs b o e).1
  have lim:s.heap.NoLimit:=e0.mod.nolimit.keeps fun b o e=>(e0.bs b o e).1
  have hkind:∀y∈ps.zip us,scope.names.lookup y.1=some .local∨(scope.names.lookup y.1=some .cell∧((cellsFrom (s.heap.objs.size+1) scope.names []).lookup y.1).isSome=true):=fun ⟨n,v⟩ hy=>by
    rcases S.par n (List.of_mem_zip hy).1 with q | q
    · exact .inl q
    · exact .inr ⟨q,PySem.W.cellsFrom_some _ _ _ (.inl q)⟩
  refine codeAny_call_function hr.depth (KX _ _ lk) rfl S.co S.gen rfl (PySem.W.codeRec_of KX hcd) (hb _ _ _ _ ?_)
  refine wpAny_newFunctionEnv_cells S.kind hkind fun env he s1 x=>?_
  subst he
  refine ⟨lim.keeps x.toInCall.keep,codeAny_func ?_⟩
  obtain ⟨t,ht,hq⟩:=hbody A outer s H vs Q E (hr.deeper _) hsp
  have I:Inv (du CX P w K mg base N qual scope f cdv A outer s H E) [] (cF N vs) H s1:=gk S hr.hd e0 hl r x
  refine wpAny_mono (ht [] s1 (cF N vs) H _ I hq) (fun fl s' hs=>?_) fun e s' hs=>hs
  have fin:∀{σ':St} {H':Hp} {v:V} {u:Value},Inv (du CX P w K mg base N qual scope f cdv A outer s H E) [] σ' H' s'→RelV v u→Q v H'→CE outer P w H s Q u s':=
    fun {σ' H' v u} J rv q=>⟨v,H',J.os,J.bare,J.base,J.hok,rv,q⟩
  cases fl with
  | ret u=>
    obtain ⟨v,σ',H',J,rv,q⟩:=hs
    exact fin J rv q
  | next=>
    obtain ⟨σ',H',J,q⟩:=hs
    exact fin (v:=V.non) (u:=Value.none) J rfl q
  | brk=>
    obtain ⟨_,_,_,q⟩:=hs
    exact False.elim q
  | cont=>
    obtain ⟨_,_,_,q⟩:=hs
    exact False.elim q
end L2
namespace L2
open PySem PySem.Spec PyProof.Rows
section
variable {X:Cx} {x:Str} {p pos:Pos} {e:Expr} {es:List Expr} {t:TA} {id T:String} {r:List V→Hp→VK→Prop}
def tH (r:List V→Hp→VK→Prop) (t:TA):TE:=fun σ H Q=>t σ H fun vs H1=>r vs H1 Q
theorem fw (hc:CallR X (.builtin id) r) (hg:Gl X x) (hm:X.mg x=none) (hv:bootBuiltins x=some (.builtin id)) (ha:PA X (e::es) t) (hn:x≠"__name__":=by decide) (hdb:(x == ("__debug__":Str))=false:=by decide)
    (he:starEach (e::es) X.env=(false,eval e X.env)::starEach es X.env:=by rfl) (hpl:(backTo pos (starEach es X.env)).any (·.1)=false:=by rfl):PE X (.Call (.Name x p) (e::es) [] pos) (tH r t):=by
  intro pins s σ H Q I h
  refine wpAny_Call_Name_kw (gA I hg hm hv ?_ hn hdb)
  exact PyProof.Rows.callWith_builtin1 (ce (ha pos pins s σ H _ I h) fun us s1 ⟨vs,H1,I1,r1,q1⟩=>hc pins s1 σ H1 vs us Q I1 r1 q1) he hpl
theorem gm (hc:CallR X (.type T) r) (hg:Gl X x) (hm:X.mg x=none) (hv:bootBuiltins x=some (.type T)) (ha:PA X (e::es) t) (hn:x≠"__name__":=by decide) (hdb:(x == ("__debug__":Str))=false:=by decide)
    (he:starEach (e::es) X.env=(false,eval e X.env)::starEach es X.env:=by rfl) (hpl:(backTo pos (starEach es X.env)).any (·.1)=false:=by rfl):PE X (.Call (.Name x p) (e::es) [] pos) (tH r t):=by
  intro pins s σ H Q I h
  refine wpAny_Call_Name_kw (gA I hg hm hv ?_ hn hdb)
  exact PyProof.Rows.callWith_type1 (ce (ha pos pins s σ H _ I h) fun us s1 ⟨vs,H1,I1,r1,q1⟩=>hc pins s1 σ H1 vs us Q I1 r1 q1) he hpl
end
end L2
namespace HT
open PySem PyProof.Rows
section
open PySem.SeqAt
open PySem.AutoSeq1 (wpAny_loadPart')
open PySem.MeetsSeq PySem.MeetsSeq2 PySem.MeetsSeq3
end
section
variable {prog:Program} {w:World} {A:Around} {E:Value→Shared→Prop} {s:Shared}
def fT (n d:Nat):Option Int→Nat
  | none=>d
  | some v=>if v < 0 then (v+(n:Int)).toNat else min v.toNat n
end
end HT
namespace L2
open PySem PySem.Spec PyProof.Rows
abbrev TO:=St→Hp→(Option Int→Hp→Prop)→Prop
def PO (X:Cx) (e:Option Expr) (t:TO):Prop:=
  ∀(pins:List (Addr×Obj)) (s:Shared) (σ:St) (H:Hp) (Q:Option Int→Hp→Prop),Inv X pins σ H s→t σ H Q→
    wpAny (model X.prog X.w) X.A (evalPart e X.env) (fun u s'=>∃o H',Inv X pins σ H' s'∧IsPart u o∧Q o H') X.xe s
def mO:TO:=fun _ H Q=>Q none H
def rD (t:TE):TO:=fun σ H Q=>t σ H fun x H1=>∃i,x= .int i∧Q (some i) H1
section
variable {X:Cx} {e:Expr} {te:TE} {lo hi:Option Expr} {tl th:TO} {pos p2:Pos}
theorem mP:PO X none mO:=by
  intro pins s σ H Q I h
  rw [evalPart_none]
  exact wpAny_pure ⟨none,H,I, .none,h⟩
theorem mQ (h:PE X e te):PO X (some e) (rD te):=by
  intro pins s σ H Q I hw
  rw [evalPart_some]
  refine ce (h pins s σ H _ I hw) fun u s1 ⟨x,H1,I1,r1,q1⟩=>?_
  obtain ⟨i,rfl,q⟩:=q1
  obtain ⟨t,rfl⟩:=r1
  exact ⟨some i,H1,I1, .int i t,q⟩
def SlR (X:Cx) (r:V→Option Int→Option Int→Hp→VK→Prop):Prop:=
  ∀(pins:List (Addr×Obj)) (s:Shared) (σ:St) (H:Hp) (x:V) (v vl vu:Value) (lo hi:Option Int) (sl:Addr) (Q:VK),Inv X pins σ H s→RelV x v→s.heap.IsSliceOf sl vl vu .none→IsPart vl lo→IsPart vu hi→r x lo hi H Q→
    ∃T id,typeLookup (.type T) "__getitem__"=pure (some (.builtin id))∧s.TypeIs v T∧wpAny (model X.prog X.w) X.A (getItem v (.ref sl)) (EP X pins σ Q) X.xe s
theorem SlR.or {r r':V→Option Int→Option Int→Hp→VK→Prop} (h:SlR X r) (h':SlR X r'):SlR X (fun x lo hi H Q=>r x lo hi H Q∨r' x lo hi H Q):=by
  intro pins s σ H x v vl vu lo hi sl Q I rx hs pl pu q
  rcases q with q | q
  · exact h pins s σ H x v vl vu lo hi sl Q I rx hs pl pu q
  · exact h' pins s σ H x v vl vu lo hi sl Q I rx hs pl pu q
def ur (r:V→Option Int→Option Int→Hp→VK→Prop) (te:TE) (tl th:TO):TE:=fun σ H Q=>te σ H fun x H1=>tl σ H1 fun l H2=>th σ H2 fun u H3=>r x l u H3 Q
theorem kW {r:V→Option Int→Option Int→Hp→VK→Prop} (hr:SlR X r) (he:PE X e te) (hl:PO X lo tl) (hu:PO X hi th):PE X (.Subscript e (.Slice lo hi none p2) pos) (ur r te tl th):=by
  intro pins s σ H Q I h
  refine Subscript_ (ce (he pins s σ H _ I h) fun v s1 ⟨x,H1,I1,r1,q1⟩=>?_)
  refine wpAny_Slice (ce (hl pins s1 σ H1 _ I1 q1) fun vl s2 ⟨l,H2,I2,pl,q2⟩=>ce (hu pins s2 σ H2 _ I2 q2) fun vu s3 ⟨u,H3,I3,pu,q3⟩=>?_)
  rw [evalPart_none]
  refine wpAny_pure ?_
  have I4:Inv X pins σ H3 {s3 with heap:=s3.heap.push {cls:= .type "slice",data:= .fields #[vl,vu, .none]}}:=I3.kept (t':=s3.toks) fun b ob q=>Heap.get?_push_of_some _ q
  obtain ⟨T,id,hT,ht,hg⟩:=hr pins {s3 with heap:=s3.heap.push {cls:= .type "slice",data:= .fields #[vl,vu, .none]}} σ H3 x v vl vu l u s3.heap.objs.size Q I4 r1 (Heap.IsSliceOf.new ..) pl pu q3
  show wpAny (model X.prog X.w) X.A (subscriptTail e (.Slice lo hi none p2) v (.ref s3.heap.objs.size)) (EP X pins σ Q) X.xe {s3 with heap:=s3.heap.push {cls:= .type "slice",data:= .fields #[vl,vu, .none]}}
  exact tail_any (ops:=[.ref s3.heap.objs.size,v]) ht hT hg (by with_unfolding_all rfl)
def jZ (xs:List V) (lo hi:Option Int):List V:=(xs.drop (HT.fT xs.length 0 lo)).take (HT.fT xs.length xs.length hi - HT.fT xs.length 0 lo)
theorem h8 (xs:List V) (lo hi:Option Int):(jZ xs lo hi).length≤xs.length:=by
  unfold jZ
  rw [List.length_take,List.length_drop]
  omega
end
end L2
namespace L2
open PySem PySem.Spec PyProof.Rows
def rE (n:Nat) (i:Int):Option Nat:=if 0≤i then (if i < n then some i.toNat else none) else if -(n:Int)≤i then some (i+n).toNat else none
def atI {α:Type} (xs:List α) (i:Int):Option α:=(rE xs.length i).bind fun j=>xs[j]?
theorem mR {n:Nat} {i:Int} {j:Nat} (h:rE n i=some j):seqIndex? i n=some j∧j < n∧ -(n:Int)≤i∧i < n:=by
  unfold rE at h
  by_cases h0:0≤i
  · rw [if_pos h0] at h
    by_cases h1:i < n
    · rw [if_pos h1] at h
      have e:i.toNat=j:=Option.some.inj h
      exact ⟨by rw [seqIndex_of h0 h1,e],by omega,by omega,h1⟩
    · rw [if_neg h1] at h;cases h
  · rw [if_neg h0] at h
    by_cases h1: -(n:Int)≤i
    · rw [if_pos h1] at h
      have e:(i+n).toNat=j:=Option.some.inj h
      exact ⟨by rw [seqIndex_neg (by omega) h1,e],by omega,h1,by omega⟩
    · rw [if_neg h1] at h;cases h
theorem gC {α:Type} {xs:List α} {i:Int} {v:α} (h:atI xs i=some v):∃j,seqIndex? i xs.length=some j∧xs[j]? =some v∧j < xs.length∧ -(xs.length:Int)≤i∧i < xs.length:=by
  unfold atI at h
  cases e:rE xs.length i with
  | none=>rw [e] at h;cases h
  | some j=>
    rw [e] at h
    obtain ⟨h1,h2,h3,h4⟩:=mR e
    exact ⟨j,h1,h,h2,h3,h4⟩
def jt (b:Expr):Prop:=∀o i,subscripted b false o i=operate [o,i] (getItem o i)
def IxR (X:Cx) (r:R2):Prop:=
  ∀(value slice:Expr) (pins:List (Addr×Obj)) (s:Shared) (σ:St) (H:Hp) (x y:V) (v u:Value) (Q:VK),Inv X pins σ H s→RelV x v→RelV y u→r x y H Q→
    subscripted slice false v u=operate [v,u] (getItem v u)→wpAny (model X.prog X.w) X.A (subscriptTail value slice v u) (EP X pins σ Q) X.xe s
def MtR (X:Cx) (id:String) (r:V→List V→Hp→VK→Prop):Prop:=
  ∀(pins:List (Addr×Obj)) (s:Shared) (σ:St) (H:Hp) (x:V) (xs:List V) (v:Value) (us:List Value) (Q:VK),Inv X pins σ H s→RelV x v→Vals xs us→r x xs H Q→
    wpAny (model X.prog X.w) X.A (call (.builtin id) (v::us)) (EP X pins σ Q) X.xe s
section
variable {X:Cx} {a b:Expr} {ta tb:TE} {pos:Pos}
theorem IxR.or {r r':R2} (h:IxR X r) (h':IxR X r'):IxR X (fun x y H Q=>r x y H Q∨r' x y H Q):=by
  intro value slice pins s σ H x y v u Q I rx ry q hs
  rcases q with q | q
  · exact h value slice pins s σ H x y v u Q I rx ry q hs
  · exact h' value slice pins s σ H x y v u Q I rx ry q hs
theorem MtR.or {id:String} {r r':V→List V→Hp→VK→Prop} (h:MtR X id r) (h':MtR X id r'):MtR X id (fun x xs H Q=>r x xs H Q∨r' x xs H Q):=by
  intro pins s σ H x xs v us Q I rx rs q
  rcases q with q | q
  · exact h pins s σ H x xs v us Q I rx rs q
  · exact h' pins s σ H x xs v us Q I rx rs q
theorem rF {r:R2} (hr:IxR X r) (ha:PE X a ta) (hb:PE X b tb) (hs:jt b):PE X (.Subscript a b pos) (q_ r ta tb):=by
  intro pins s σ H Q I h
  exact Subscript_ (o_ ha hb I h fun v u s2 x y H2 I2 rx ry q=>hr a b pins s2 σ H2 x y v u Q I2 rx ry q (hs _ _))
def rG (K:PySem.W.Frag):R2:=fun x y H Q=>∃p xs i v,x= .ref p∧y= .int i∧SqL K H p xs∧atI xs i=some v∧Q v H
def rH (K:PySem.W.Frag):R2:=fun x y H Q=>∃p xs i v,x= .ref p∧y= .int i∧SqT K H p xs∧atI xs i=some v∧Q v H
def rJ:R2:=fun x y H Q=>∃z i c,x= .str z∧y= .int i∧z.length≤sizeLine∧atI z.cps.toList i=some c∧Q (.str ⟨#[c]⟩) H
theorem ix_list:IxR X (rG X.K):=by
  intro value slice pins s σ H x y v u Q I rx ry h hs
  obtain ⟨p,xs,i,z,rfl,rfl,hq,he,q⟩:=h
  cases rx
  obtain ⟨t,rfl⟩:=ry
  obtain ⟨its,r,pl,hz⟩:=I.list hq
  obtain ⟨j,h1,h2,h3,h4,h5⟩:=gC he
  obtain ⟨w,ew,rw'⟩:=r.get h2
  have hl:=r.length
  have hn:=eU
  have fin:EP X pins σ Q w s:=⟨z,H,I,rw',q⟩
  by_cases h0:0≤i
  · have hj:i.toNat=j:=by
      rw [seqIndex_of h0 h5] at h1
      exact Option.some.inj h1
    exact item_listR pl.isList h0 (by omega) (by rw [hj];simpa using ew) fin hs
  · have hj:(i+(its.toArray.size:Int)).toNat=j:=by
      rw [seqIndex_neg (by omega) h4] at h1
      rw [List.size_toArray,←hl]
      exact Option.some.inj h1
    exact subscriptTail_builtinR (x:=w) pl.isList.typeIs slot_list_getitem.lookup
      (wpAny_getItem_list_neg (Q:=fun r s'=>r=w∧EP X pins σ Q r s') pl.isList (by omega) (by rw [List.size_toArray] <;> omega) (by omega) (by rw [hj];simpa using ew) ⟨rfl,fin⟩) hs
theorem ix_tup:IxR X (rH X.K):=by
  intro value slice pins s σ H x y v u Q I rx ry h hs
  obtain ⟨p,xs,i,z,rfl,rfl,hq,he,q⟩:=h
  cases rx
  obtain ⟨t,rfl⟩:=ry
  obtain ⟨its,r,pl,hz⟩:=I.tuple hq
  obtain ⟨j,h1,h2,h3,h4,h5⟩:=gC he
  obtain ⟨w,ew,rw'⟩:=r.get h2
  have hl:=r.length
  have hn:=eU
  have fin:EP X pins σ Q w s:=⟨z,H,I,rw',q⟩
  exact subscriptTail_builtinR (x:=w) pl.typeIs slot_tuple_getitem.lookup
    (getItem_tuple (j:=j) (Q:=fun r s'=>r=w∧EP X pins σ Q r s') pl (by omega) (by omega) (by rw [List.size_toArray,←hl];exact h1) (by simpa using ew) ⟨rfl,fin⟩) hs
theorem px:IxR X rJ:=by
  intro value slice pins s σ H x y v u Q I rx ry h hs
  obtain ⟨z,i,c,rfl,rfl,hz,he,q⟩:=h
  obtain ⟨t,rfl⟩:=rx
  obtain ⟨t',rfl⟩:=ry
  obtain ⟨j,h1,h2,h3,h4,h5⟩:=gC he
  have hl:z.cps.toList.length=z.length:=by simp [Str.length]
  rw [hl] at h1 h4 h5
  have hn:=eU
  exact tail_any (typeIs_str s z t) slot_str_getitem.lookup (getItem_str (c:=c) (by
    have e1:decide (i < -(2 ^ 63:Int))=false:=decide_eq_false (by omega)
    have e2:decide (i≥2 ^ 63)=false:=decide_eq_false (by omega)
    rw [e1,e2,Bool.or_false]) (by rw [h1];simpa using h2) ⟨.str ⟨#[c]⟩,H,I.tok _,⟨_,rfl⟩,q⟩) hs
def uc (K:PySem.W.Frag):R2:=fun x y H Q=>rG K x y H Q∨rH K x y H Q∨rJ x y H Q
theorem py:IxR X (uc X.K):=ix_list.or (ix_tup.or px)
theorem Inv.lst {pins:List (Addr×Obj)} {σ:St} {H:Hp} {s:Shared} {p:Addr} {xs:List V} (I:Inv X pins σ H s) (h:H p=some (.lst xs)):
    ∃(its:List Value) (n:Nat),Vals xs its∧s.heap.get? p=some {cls:= .type "list",data:= .seq its.toArray n}∧xs.length≤sizeLine:=by
  obtain ⟨z,its,n,r,e⟩:=I.hok p _ h
  exact ⟨its,n,r,e,z⟩
theorem gD (lo hi:Option Int) (n:Nat):(sliceBounds lo hi none n).1=((HT.fT n 0 lo:Nat):Int)∧(sliceBounds lo hi none n).2.1=((HT.fT n n hi:Nat):Int)∧(sliceBounds lo hi none n).2.2=1:=by
  refine ⟨?_,?_,rfl⟩
  · cases lo with
    | none=>simp [sliceBounds,HT.fT]
    | some i=>
      simp only [sliceBounds,HT.fT,Option.getD_none,show (1:Int) > 0 by decide,if_true]
      by_cases h:i < 0
      · simp only [h,if_true] <;> omega
      · simp only [h,if_false] <;> omega
  · cases hi with
    | none=>simp [sliceBounds,HT.fT]
    | some i=>
      simp only [sliceBounds,HT.fT,Option.getD_none,show (1:Int) > 0 by decide,if_true]
      by_cases h:i < 0
      · simp only [h,if_true] <;> omega
      · simp only [h,if_false] <;> omega
theorem fU (its:List Value) (lo hi:Option Int):slicePick its.toArray lo hi none=((its.drop (HT.fT its.length 0 lo)).take (HT.fT its.length its.length hi - HT.fT its.length 0 lo)).toArray:=by
  obtain ⟨h1,h2,h3⟩:=gD lo hi its.toArray.size
  unfold slicePick
  rw [h1,h2,h3]
  simp only [sliceRange_one,pick_run,List.size_toArray] <;> rfl
def tI (K:PySem.W.Frag):V→Option Int→Option Int→Hp→VK→Prop:=fun x lo hi H Q=>∃a xs,x= .ref a∧SqL K H a xs∧∀p,H p=none→Q (.ref p) (upd H p (.lst (jZ xs lo hi)))
theorem mS:SlR X (tI X.K):=by
  intro pins s σ H x v vl vu lo hi sl Q I rx hs pl pu h
  obtain ⟨a,xs,rfl,hx,q⟩:=h
  cases rx
  obtain ⟨its,r,ht,hz⟩:=I.list hx
  have hlen:=r.length
  refine ⟨"list",_,slot_list_getitem.lookup,ht.isList.typeIs,?_⟩
  refine wpAny_getItem_list_slice ht.isList hs pl pu .none (by simp) ?_ (by rw [List.size_toArray] <;> omega)
  rw [fU,←hlen]
  refine ⟨.ref s.heap.objs.size,_,I.laid (t':=s.toks) (o:= .lst (jZ xs lo hi)) (fun b ob q=>Heap.get?_push_of_some _ q) (Nat.le_refl _) ?_,rfl,q _ (I.hok.fresh (Nat.le_refl _))⟩
  exact ⟨Nat.le_trans (h8 xs lo hi) hz,_,0,(r.drop (HT.fT xs.length 0 lo)).take (HT.fT xs.length xs.length hi - HT.fT xs.length 0 lo),Heap.get?_push_size _ rfl⟩
def cS:V→Bool
  | .non=>true
  | .bl _=>true
  | .int _=>true
  | .str _=>true
  | _=>false
def mt:V→V→Bool
  | .non, .non=>true
  | .bl a, .bl b=>a == b
  | .bl a, .int b=>(if a then 1 else 0) == b
  | .int a, .bl b=>a == (if b then 1 else 0)
  | .int a, .int b=>a == b
  | .str a, .str b=>a == b
  | _,_=>false
theorem pz {A:Around} {s:Shared} {y x:V} {u v:Value} (ry:RelV y u) (rx:RelV x v) (fy:cS y=true) (fx:cS x=true):SeqAt.EqAt A s u v (mt y x):=by
  cases y with
  | non=>
    cases ry
    cases x with
    | non=>cases rx;exact SeqAt.EqAt.same _
    | bl b=>cases rx;exact SeqAt.EqAt.none_bool b
    | int b=>obtain ⟨t,rfl⟩:=rx;exact SeqAt.EqAt.none_int b t
    | str b=>obtain ⟨t,rfl⟩:=rx;exact SeqAt.EqAt.none_str b t
    | _=>exact absurd (show false=true from fx) Bool.false_ne_true
  | bl a=>
    cases ry
    cases x with
    | non=>cases rx;exact SeqAt.EqAt.bool_none a
    | bl b=>cases rx;exact SeqAt.EqAt.bool_bool a b
    | int b=>obtain ⟨t,rfl⟩:=rx;exact SeqAt.EqAt.bool_int a b t
    | str b=>obtain ⟨t,rfl⟩:=rx;exact SeqAt.EqAt.bool_str a b t
    | _=>exact absurd (show false=true from fx) Bool.false_ne_true
  | int a=>
    obtain ⟨t',rfl⟩:=ry
    cases x with
    | non=>cases rx;exact SeqAt.EqAt.int_none a t'
    | bl b=>cases rx;exact SeqAt.EqAt.int_bool a t' b
    | int b=>obtain ⟨t,rfl⟩:=rx;exact SeqAt.EqAt.int_int a t' b t
    | str b=>obtain ⟨t,rfl⟩:=rx;exact SeqAt.EqAt.int_str a t' b t
    | _=>exact absurd (show false=true from fx) Bool.false_ne_true
  | str a=>
    obtain ⟨t',rfl⟩:=ry
    cases x with
    | non=>cases rx;exact SeqAt.EqAt.str_none a t'
    | bl b=>cases rx;exact SeqAt.EqAt.str_bool a t' b
    | int b=>obtain ⟨t,rfl⟩:=rx;exact SeqAt.EqAt.str_int a t' b t
    | str b=>obtain ⟨t,rfl⟩:=rx;exact SeqAt.EqAt.str_str a t' b t
    | _=>exact absurd (show false=true from fx) Bool.false_ne_true
  | _=>exact absurd (show false=true from fy) Bool.false_ne_true
def ju (x:V) (u:Value):Bool:=match u with
  | .none=>mt .non x
  | .bool b=>mt (.bl b) x
  | .int i _=>mt (.int i) x
  | .str z _=>mt (.str z) x
  | _=>false
theorem kX {x y:V} {u:Value} (r:RelV y u) (f:cS y=true):ju x u=mt y x:=by
  cases y with
  | non=>cases r;rfl
  | bl b=>cases r;rfl
  | int i=>obtain ⟨t,rfl⟩:=r;rfl
  | str z=>obtain ⟨t,rfl⟩:=r;rfl
  | _=>exact absurd (show false=true from f) Bool.false_ne_true
theorem gE {x:V}:∀{xs:List V} {us:List Value},Vals xs us→xs.all cS=true→us.any (ju x)=xs.any fun y=>mt y x
  | _,_, .nil,_=>rfl
  | y::xs,u::us, .cons r t,f=>by
    rw [List.all_cons,Bool.and_eq_true] at f
    rw [List.any_cons,List.any_cons,kX r f.1,gE t f.2]
theorem dw {A:Around} {s:Shared} {x:V} {v:Value} (rx:RelV x v) (fx:cS x=true):∀{xs:List V} {us:List Value},Vals xs us→xs.all cS=true→∀u∈us,SeqAt.EqAt A s u v (ju x u)
  | _,_, .nil,_=>fun u hu=>by cases hu
  | y::xs,u::us, .cons r t,f=>fun u' hu=>by
    rw [List.all_cons,Bool.and_eq_true] at f
    rcases List.mem_cons.mp hu with rfl | hu
    · rw [kX r f.1];exact pz r rx f.1 fx
    · exact dw rx fx t f.2 u' hu
def qL (x:V) (xs:List V):Bool:=xs.any fun y=>mt y x
def ud (K:PySem.W.Frag) (neg:Bool):R2:=fun x y H Q=>∃p xs,y= .ref p∧(SqL K H p xs∨SqT K H p xs)∧cS x=true∧xs.all cS=true∧Q (.bl (if neg then !qL x xs else qL x xs)) H
theorem j1:OpR X (compareOp .In) (ud X.K false):=by
  intro pins s σ H x y v u Q I rx ry h
  obtain ⟨p,xs,rfl,hq,fx,fs,q⟩:=h
  cases ry
  rcases hq with hq | hq
  · obtain ⟨its,r,pl,hz⟩:=I.list hq
    refine SeqAt.in_listAt (ju x) pl.isList (fun w hw=>dw rx fx r fs w (by simpa using hw)) ⟨.bl _,H,I,rfl,?_⟩
    rw [show its.toArray.any (ju x)=its.any (ju x) by simp,gE r fs]
    exact q
  · obtain ⟨its,r,pl,hz⟩:=I.tuple hq
    refine SeqAt.in_tupleAt (ju x) pl (fun w hw=>dw rx fx r fs w (by simpa using hw)) ⟨.bl _,H,I,rfl,?_⟩
    rw [show its.toArray.any (ju x)=its.any (ju x) by simp,gE r fs]
    exact q
theorem gG:CallR X (.builtin "len") (fun xs H Q=>∃p ys,xs=[.ref p]∧(SqL X.K H p ys∨SqT X.K H p ys)∧Q (.int ys.length) H):=by
  intro pins s σ H xs us Q I r h
  obtain ⟨p,ys,rfl,hq,q⟩:=h
  obtain ⟨u,rfl,rx⟩:=hZ r
  cases rx
  have hn:=eU
  rcases hq with hq | hq
  · obtain ⟨its,r',pl,hz⟩:=I.list hq
    have hlen:=r'.length
    exact Calls.call_len_list pl.isList (by simp only [List.size_toArray] <;> omega) ⟨.int ys.length,H,I.tok _,⟨s.toks+1,by rw [List.size_toArray,hlen]⟩,q⟩
  · obtain ⟨its,r',pl,hz⟩:=I.tuple hq
    have hlen:=r'.length
    exact len_tuple pl (by simp only [List.size_toArray] <;> omega) ⟨.int ys.length,H,I.tok _,⟨s.toks+1,by rw [List.size_toArray,hlen]⟩,q⟩
theorem gH:CallR X (.builtin "len") (fun xs H Q=>∃z,xs=[.str z]∧z.length≤sizeLine∧Q (.int z.length) H):=by
  intro pins s σ H xs us Q I r h
  obtain ⟨z,rfl,hz,q⟩:=h
  obtain ⟨u,rfl,t,rfl⟩:=hZ r
  have hn:=eU
  exact len_str (by omega) ⟨.int z.length,H,I.tok _,⟨_,rfl⟩,q⟩
theorem CallR.or {f:Value} {r r':List V→Hp→VK→Prop} (h:CallR X f r) (h':CallR X f r'):CallR X f (fun xs H Q=>r xs H Q∨r' xs H Q):=by
  intro pins s σ H xs us Q I rs q
  rcases q with q | q
  · exact h pins s σ H xs us Q I rs q
  · exact h' pins s σ H xs us Q I rs q
theorem gI:CallR X (.type "list") (fun xs H Q=>∃p ys,xs=[.ref p]∧(SqL X.K H p ys∨SqT X.K H p ys)∧∀l,H l=none→Q (.ref l) (upd H l (.lst ys))):=by
  intro pins s σ H xs us Q I r h
  obtain ⟨p,ys,rfl,hq,q⟩:=h
  obtain ⟨u,rfl,rx⟩:=hZ r
  cases rx
  have fin:∀(its:List Value),Vals ys its→ys.length≤sizeLine→∀(h':Heap) (c':Nat),(∀b o',s.heap.get? b=some o'→h'.get? b=some o')→
      h'.get? s.heap.objs.size=some {cls:= .type "list",dict:=none,data:= .seq its.toArray c',slots:=#[]}→EP X pins σ Q (.ref s.heap.objs.size) {s with heap:=h'}:=fun its r' hz h' c' kp e=>
    ⟨.ref s.heap.objs.size,_,I.laid (t':=s.toks) kp (Nat.le_refl _) (show ObjOk X.prog X.w _ h' _ (.lst ys) from ⟨hz,its,c',r',e⟩),rfl,q _ (I.hok.fresh (Nat.le_refl _))⟩
  rcases hq with hq | hq
  · obtain ⟨its,r',pl,hz⟩:=I.list hq
    have hlen:=r'.length
    obtain ⟨o,ho,hc,n,hd⟩:=pl.isList
    exact call_list_seq p (.inl rfl) ho hc hd (fun h' c' kp e=>fin its r' hz h' c' kp e) (by simp only [List.size_toArray] <;> omega)
  · obtain ⟨its,r',pl,hz⟩:=I.tuple hq
    have hlen:=r'.length
    obtain ⟨o,ho,hc,n,hd⟩:=pl
    exact call_list_seq p (.inr rfl) ho hc hd (fun h' c' kp e=>fin its r' hz h' c' kp e) (by simp only [List.size_toArray] <;> omega)
theorem fV:CallR X (.type "tuple") (fun xs H Q=>∃p ys,xs=[.ref p]∧((SqL X.K H p ys∧∀l,H l=none→Q (.ref l) (upd H l (.tup ys)))∨(SqT X.K H p ys∧Q (.ref p) H))):=by
  intro pins s σ H xs us Q I r h
  obtain ⟨p,ys,rfl,h⟩:=h
  obtain ⟨u,rfl,rx⟩:=hZ r
  cases rx
  rcases h with ⟨hq,q⟩ | ⟨hq,q⟩
  · obtain ⟨its,r',pl,hz⟩:=I.list hq
    have hlen:=r'.length
    refine call_tuple_list pl.isList (fun h' kp=>?_) (by simp only [List.size_toArray] <;> omega)
    have I1:Inv X pins σ H {s with heap:=h'}:=I.kept (t':=s.toks) kp
    have I2:Inv X pins σ (upd H h'.objs.size (.tup ys)) {s with heap:=h'.push {cls:= .type "tuple",data:= .seq its.toArray}}:=
      I1.laid (t':=s.toks) (fun b o e=>Heap.get?_push_of_some _ e) (Nat.le_refl _) (show ObjOk X.prog X.w _ _ _ (.tup ys) from ⟨hz,its,r',IsTup.new _ _⟩)
    exact ⟨.ref h'.objs.size,_,I2,rfl,q _ (I1.hok.fresh (Nat.le_refl _))⟩
  · obtain ⟨its,r',pl,hz⟩:=I.tuple hq
    exact call_tuple_same pl ⟨.ref p,H,I,rfl,q⟩
def ue (K:PySem.W.Frag) (T:String) (x:V) (H:Hp):Prop:=match x with
  | .str _=>T="str"
  | .int _=>T="int"
  | .ref p=>(T="list"∧∃xs,SqL K H p xs)∨(T="tuple"∧∃o,K.lookup p=some o∧o.cls= .type "tuple"∧o.dict=none)∨
      (T="dict"∧((∃kvs,H p=some (.dK kvs))∨∃kvs,H p=some (.dT kvs)))∨(T="set"∧∃S n,H p=some (.set S n))
  | _=>False
theorem pA {pins:List (Addr×Obj)} {σ:St} {H:Hp} {s:Shared} {T:String} {x:V} {v:Value} (I:Inv X pins σ H s) (r:RelV x v) (ty:ue X.K T x H):
    s.TypeIs v T∧∀a,v= .ref a→∃ob,s.heap.get? a=some ob∧ob.dict=none:=by
  cases x with
  | str z=>
    obtain ⟨t,rfl⟩:=r
    cases (show T="str" from ty)
    exact ⟨typeIs_str s z t,fun _ e=>nomatch e⟩
  | int i=>
    obtain ⟨t,rfl⟩:=r
    cases (show T="int" from ty)
    exact ⟨typeIs_int s i t,fun _ e=>nomatch e⟩
  | ref p=>
    cases r
    rcases ty with ⟨rfl,xs,hq⟩ | ⟨rfl,o,hk,hc,hd⟩ | ⟨rfl,hk⟩ | ⟨rfl,S,n,hk⟩
    · obtain ⟨its,_,pl,_⟩:=I.list hq
      refine ⟨pl.isList.typeIs,fun a e=>?_⟩
      cases e
      obtain ⟨o,n,e,c,hd,_⟩:=pl
      exact ⟨o,e,hd⟩
    · refine ⟨⟨o,I.kIn p o hk,hc⟩,fun a e=>?_⟩
      cases e
      exact ⟨o,I.kIn _ o hk,hd⟩
    · have z:∃o,s.heap.get? p=some o∧o.ExactDict:=by
        rcases hk with ⟨kvs,hk⟩ | ⟨kvs,hk⟩
        · obtain ⟨_,_,_,_,o,_,_,e,ex,_⟩:=I.hok p _ hk
          exact ⟨o,e,ex⟩
        · obtain ⟨_,_,_,_,o,_,_,e,ex,_⟩:=I.hok p _ hk
          exact ⟨o,e,ex⟩
      obtain ⟨o,e,ex⟩:=z
      refine ⟨⟨o,e,ex.1⟩,fun a e2=>?_⟩
      cases e2
      exact ⟨o,e,ex.2.1⟩
    · obtain ⟨o,_,_,_,e,ex,_⟩:=I.hok p _ hk
      refine ⟨⟨o,e,ex.1⟩,fun a e2=>?_⟩
      cases e2
      exact ⟨o,e,ex.2.1⟩
  | _=>exact False.elim ty
def ut (K:PySem.W.Frag) (T:String) (r:V→List V→Hp→VK→Prop) (to:TE) (t:TA):TE:=fun σ H Q=>to σ H fun x H1=>ue K T x H1∧t σ H1 fun xs H2=>r x xs H2 Q
variable {o e:Expr} {es:List Expr} {to:TE} {t:TA} {name:Str} {apos cpos:Pos} {T id:String} {r:V→List V→Hp→VK→Prop}
theorem jv (pa:PlainAttrs T) (slot:Slot T name id) (hty:typeOf (.builtin id)=pure (.type "method_descriptor")) (hm:MtR X id r) (ho:PE X o to) (ha:PA X (e::es) t)
    (hbase:attributeBase o name X.env (eval o X.env)=eval o X.env:=by rfl)
    (hfew:((backTo cpos (starEach (e::es) X.env)).all (fun x=> !x.1)&&(backToKw cpos (keywordEach [] X.env)).all (fun x=>x.1.isSome)
      &&decide ((e::es).length+([]:List Keyword).length+(if ([]:List Keyword).isEmpty then 0 else 1) < 30))=true:=by rfl)
    (hline:(apos.endLine == cpos.line)=true:=by rfl) (hs:starEach (e::es) X.env=(false,eval e X.env)::starEach es X.env:=by rfl) (hplain:(backTo cpos (starEach es X.env)).any (·.1)=false:=by rfl):
    PE X (.Call (.Attribute o name apos) (e::es) [] cpos) (ut X.K T r to t):=by
  intro pins s σ H Q I h
  refine wpAny_Call_method_late hbase hfew hline rfl (ce (ho pins s σ H _ I h) fun v s1 ⟨x,H1,I1,r1,ty,q1⟩=>?_)
  obtain ⟨h1,h2⟩:=pA I1 r1 ty
  refine ⟨T,id,pa,slot,hty,h1,h2,?_⟩
  have hA:=ha cpos pins s1 σ H1 _ I1 q1
  rw [hs] at hA ⊢
  refine Calls.callWith_builtin (by show (false||(backTo cpos (starEach es X.env)).any (·.1))=false;rw [hplain] <;> rfl) (Calls.evalArgs_plain ?_)
  exact ce hA fun us s2 ⟨vs,H2,I2,r2,q2⟩=>hm pins s2 σ H2 x vs v us Q I2 r1 r2 q2
end
end L2
namespace L2
open PySem PySem.Spec PyProof.Rows
def uf (X:Cx) (id:String) (r:V→List V→Hp→VK→Prop):Prop:=
  ∀(pins:List (Addr×Obj)) (s:Shared) (σ:St) (H:Hp) (x:V) (xs:List V) (v:Value) (us:List Value) (Q:VK),Inv X pins σ H s→RelV x v→Vals xs us→r x xs H Q→
    wpAny (model X.prog X.w) X.A (call (.builtin id) (v::us)) (EP X pins σ Q) X.xe s
theorem Vals.one {x:V} {us:List Value} (h:Vals [x] us):∃u,us=[u]∧RelV x u:=by
  cases h with
  | cons r t=>cases t;exact ⟨_,rfl,r⟩
theorem Vals.two {x y:V} {us:List Value} (h:Vals [x,y] us):∃u v,us=[u,v]∧RelV x u∧RelV y v:=by
  cases h with
  | cons r t=>
    obtain ⟨v,rfl,q⟩:=Vals.one t
    exact ⟨_,_,rfl,r,q⟩
theorem Vals.zero:∀{us:List Value},Vals [] us→us=[]
  | _, .nil=>rfl
theorem Vals.reverse {xs:List V} {us:List Value} (h:Vals xs us):Vals xs.reverse us.reverse:=by
  induction h with
  | nil=>exact .nil
  | cons r t ih=>rw [List.reverse_cons,List.reverse_cons];exact Vals.append ih (.cons r .nil)
theorem Vals.rep {xs:List V} {us:List Value} (h:Vals xs us):∀k:Nat,Vals (List.replicate k xs).flatten (List.replicate k us).flatten
  | 0=> .nil
  | k+1=>by
    rw [List.replicate_succ,List.replicate_succ,List.flatten_cons,List.flatten_cons]
    exact Vals.append h (Vals.rep h k)
section
variable {X:Cx} {pins:List (Addr×Obj)} {σ:St} {H:Hp} {s:Shared} {l b:Addr} {xs ys zs:List V}
theorem Inv.lset {its its':List Value} {n:Nat} {f:Array Value→Array Value} {t':Nat} (I:Inv X pins σ H s) (hH:H l=some (.lst xs))
    (e:s.heap.get? l=some {cls:= .type "list",data:= .seq its.toArray n}) (hf:f its.toArray=its'.toArray) (hv:Vals ys its') (hz:ys.length≤sizeLine):
    Inv X pins σ (upd H l (.lst ys)) {s with heap:=s.heap.update l (Obj.mapSeq f),toks:=t'}:=by
  have q:=PySem.IsL.update e f
  rw [hf] at q
  refine I.write (x:=l) (e:=l) (by rw [hH];exact trivial) (.inl rfl) (fun b' u hb hu=>(Heap.get?_update_other s.heap (Obj.mapSeq f) (Ne.symm hb)).trans hu) ⟨_,q⟩ ?_
  exact ⟨hz,its',_,hv,q⟩
theorem Inv.lnew {its:List Value} {t':Nat} (I:Inv X pins σ H s) (hv:Vals ys its) (hz:ys.length≤sizeLine):
    Inv X pins σ (upd H s.heap.objs.size (.lst ys)) {s with heap:=s.heap.push {cls:= .type "list",data:= .seq its.toArray},toks:=t'}:=
  I.laid (fun _ _ q=>Heap.get?_push_of_some _ q) (Nat.le_refl _) ⟨hz,its,0,hv,Heap.get?_push_size _ rfl⟩
theorem Inv.fresh (I:Inv X pins σ H s):H s.heap.objs.size=none:=I.hok.fresh (Nat.le_refl _)
theorem Inv.lstM (I:Inv X pins σ H s) (hH:H l=some (.lst xs)):xs.length≤sizeLine∧∃(its:List Value) (n:Nat),Vals xs its∧xs.length=its.length∧s.heap.get? l=some {cls:= .type "list",data:= .seq its.toArray n}:=by
  obtain ⟨z,its,n,r,e⟩:=I.hok l _ hH
  exact ⟨z,its,n,r,r.length,e⟩
end
section
variable {X:Cx}
def mT:V→List V→Hp→VK→Prop:=fun x vs H Q=>∃l xs y,x= .ref l∧vs=[y]∧H l=some (.lst xs)∧xs.length < sizeLine∧Q .non (upd H l (.lst (xs++[y])))
theorem j2:uf X "list.append" mT:=by
  intro pins s σ H x vs v us Q I rx rv h
  obtain ⟨l,xs,y,rfl,rfl,hH,hz,q⟩:=h
  cases rx
  obtain ⟨u,rfl,ru⟩:=rv.one
  obtain ⟨z,its,n,r,hl,e⟩:=I.lstM hH
  refine call_meets F.slot_list_append ⟨_,e,rfl⟩ F.entry_list_append (F.args_list_append_2 _ _) (PySem.list_append l its.toArray n u (by rw [List.size_toArray];omega)) ⟨e,?_⟩
  refine ⟨.non,_,I.lset (its':=its++[u]) hH e (by simp) (r.append (.cons ru .nil)) ?_,rfl,q⟩
  rw [List.length_append,List.length_singleton]
  omega
theorem mU {α:Type} (xs:List α) (k:Nat):(List.replicate k xs).flatten.length=k*xs.length:=by
  induction k with
  | zero=>simp
  | succ k ih=>rw [List.replicate_succ,List.flatten_cons,List.length_append,ih,Nat.succ_mul,Nat.add_comm]
end
end L2
namespace Att
open PySem PySem.W PySem.Calls PyProof.Rows
theorem e8 {P:Params} {h:Heap}:∀(ns:List Int) (vs:List Value),WellAll P h vs (ns.map WData.int)→IntsAre vs ns:=by
  intro ns
  induction ns with
  | nil=>
    intro vs w
    rw [List.map_nil] at w
    cases w
    exact .nil
  | cons n ns ih=>
    intro vs w
    rw [List.map_cons] at w
    cases w with
    | cons a b=>
      cases a
      exact .cons _ _ (ih _ b)
theorem j3 {l:OpenLaw} {n:Nat} (hn:l.most=some n) {P:Params} {h:Heap} {args:List WData} {vals:List Value}
    (hpre:l.row.toRowW.claim.pre args=true) (hwl:WellAll P h vals args):
    ∃a vs ns,vals=[Value.ref a]∧args=[WData.list (ns.map WData.int)]∧h.get? a=some {cls:= .type "list",data:= .seq vs.toArray}∧IntsAre vs ns∧ns.length≤n:=by
  have hsh:WShape.hasAll [] args [.list .int]=true:=(pre_splitW hpre).1
  have hc:l.pre.holds [] {args:=args}=true:=(pre_splitW hpre).2
  obtain ⟨d,r,rfl,h1,h2⟩:=hasAllW_cons hsh
  obtain rfl:=hasAllW_nil h2
  obtain ⟨xs,rfl,h3⟩:=hasW_list h1
  obtain ⟨ns,rfl⟩:=items_int h3
  have hlen:ns.length≤n:=by
    unfold OpenLaw.pre at hc
    have h4:(WTm.not (.lt (.lit (.int (n:Int))) (.len (.arg 0)))).holds [] {args:=[.list (ns.map .int)]}=true:=by
      have h4:=(holds_andW hc).1
      rw [hn] at h4
      exact h4
    have h5:=condW_of h4 (w_not (w_lt w_lit (w_len_list (w_arg rfl))))
    rw [List.length_map] at h5
    refine Nat.le_of_not_lt fun q=>?_
    have q':(n:Int) < ((ns.length:Nat):Int):=by omega
    first
      | (rw [decide_eq_true q'] at h5;exact absurd h5 (by decide))
      | (simp at h5;omega)
  cases hwl with
  | cons w1 w2=>
    cases w2
    cases w1 with
    | list ho hall=>exact ⟨_,_,ns,rfl,rfl,ho,e8 ns _ hall,hlen⟩
theorem j4 (l:OpenLaw) (args:List WData):l.row.toRowW.claim.post args (.bool true) args=true:=
  postW_of (r:=l.row.toRowW) (X:=(true == true))
    (show WShape.has [] (.bool true) .bool=true by first | rfl | decide | simp [WShape.has,WShape.arms,WShape.armsAll])
    (show (WTm.eq .res (.lit (.bool true))).value [] {args:=args,res:=some (.bool true),after:=args}=some (.bool (true == true)) from w_eq_bool (w_res rfl) w_lit) rfl
theorem h9 {l:OpenLaw} {n:Nat} {q:Program} {loose:List Str} {XP:(Str→Option Value)→Heap→Prop} {YP:World→Heap→Prop} {d:DefRec}
    (hn:l.most=some n) (hdf:d.params.defaults=[])
    (call:∀(w:World) (s₀ s₁:Shared) (mg mb:Str→Option Value) (fa:Addr) (o:Obj) (pm cd doc:Value) (a:Addr) (vs:List Value) (ns:List Int),
      Ground q loose [] XP w s₀ mg mb s₁.heap→YP w s₁.heap→
      s₁.heap.get? fa=some o→o.data= .func (docDef d.name d.params d.body d.scope pm cd doc)→s₁.heap.CodeRec cd d.name→mg d.name=some (.ref fa)→
      s₁.heap.get? a=some {cls:= .type "list",data:= .seq vs.toArray}→IntsAre vs ns→ns.length≤n→s₁.gens=#[]→
      codeAny (model l.prog w) callerA (.call (.ref fa) ⟨[.ref a],[]⟩) (fun r s'=>r= .ok (.ret (.bool true))∧OldK s₁.heap s'.heap∧s'.os=s₁.os∧AllBare s'.gens) s₁):
    WalkO q loose XP YP l.row.toRowW d [] (fun f vs=>PySem.call f vs):=by
  intro w s₀ s₁ mg mb G Y fa o pm cd doc dV kV ho hd hcd hD hmg hg args vals as hpre hlay hrd hwl hlo
  obtain rfl:dV= .none:=Dflts.none hD hdf
  obtain rfl:kV= .none:=Dflts.noKw hD
  obtain ⟨a,vs,ns,rfl,rfl,hobj,hints,hlen⟩:=j3 hn hpre hwl
  refine enter_call (codeAny_mono (call w s₀ s₁ mg mb fa o pm cd doc a vs ns G Y ho (fd_plain hd) hcd hmg hobj hints hlen hg) fun r s' hq=>?_)
  obtain ⟨rfl,h2,h3,h4⟩:=hq
  exact ⟨.inl ⟨.bool true, .bool true,[],rfl,fun _=>rfl, .bool true,j4 l _,fun _=>⟨List.Pairwise.nil,fun _ hm=>(nomatch hm)⟩⟩,h2,h3,h4⟩
end Att
namespace L2
open PySem PySem.Spec PyProof.Rows
theorem dI:∀{vs:List Value} {ns:List Int},IntsAre vs ns→Vals (ns.map V.int) vs
  | _,_, .nil=> .nil
  | _,_, .cons n t h=> .cons ⟨t,rfl⟩ (dI h)
theorem ObjOk.tbl0 {P:Program} {w:World} {H:Hp} {h:Heap} {b:Addr} {q:Str} (e:h.get? b=some (PySem.W.tabObj #[])):ObjOk P w H h b (.tbl q):=⟨#[],e,trivial,fun pos cv z=>by cases z⟩
end L2
namespace L2
open PySem PySem.Spec PyProof.Rows
def bc (s:Stmt):Arguments:=match s with
  | .FunctionDef _ a _ _ _ _ _ _ _ _=>a
  | _=>{posonlyargs:=[],args:=[],vararg:=none,kwonlyargs:=[],kw_defaults:=[],kwarg:=none,defaults:=[]}
def aM (s:Stmt):List Stmt:=match s with
  | .FunctionDef _ _ b _ _ _ _ _ _ _=>b
  | _=>[]
def af (s:Stmt):Scope:=match s with
  | .FunctionDef _ _ _ _ _ _ sc _ _ _=>sc
  | _=>{kind:= .function,names:=[],isGenerator:=false,isCoroutine:=false}
abbrev iX:jY:=fun _ _ _ _ _ _=>False
abbrev E0:XK:=fun _ _ _=>False
theorem rK {X:Cx}:iW iX X E0:=fun _ _ _ _ _ _ _ h=>h.elim
structure Fun (K:PySem.W.Frag) (x qual:Str) (st:Stmt) (f:Addr) (fd:FuncData):Prop where
  ex:∃(oc:Value) (od:Option Addr) (kV doc pm:Value) (an:Option Addr) (cdv ct:Value) (osl:Array (Option Value)),
    fd=PySem.W.fnOf x qual (bc st) (aM st) (af st) .none kV doc pm an cdv ct∧K.lookup f=some ⟨oc,od, .func fd,osl⟩∧PySem.W.codeIn K cdv qual=true
  kp:PySem.W.keepIn K (.ref f)=true
section
variable {P:Program} {w:World} {K:PySem.W.Frag} {mg:Str→Option Value} {base:Heap}
theorem Fun.ok {x qual:Str} {st:Stmt} {f:Addr} {fd:FuncData} {N ps:List Str} {k:Nat} {sp:Sp} (F:Fun K x qual st f fd) (S:FnScope N ps (af st)) (len:∀vs H Q E,sp vs H Q E→vs.length=ps.length)
    (hbody:∀(cdv:Value) (A:Around) (outer:List Env) (s:Shared) (H:Hp) (vs:List V) (Q:VK) (E:XK),Room k (A.deeper (envOfC qual (af st) s.heap.objs.size f cdv))→sp vs H Q E→
      ∃t,PSs (du iX P w K mg base N qual (af st) f cdv A outer s H E).nox (aM st) t∧t {nx:=fun _ H'=>Q .non H',rt:=Q} (cF N vs) H):FnOk P w K mg base iX (k+1) f fd ps sp:=by
  obtain ⟨oc,od,kV,doc,pm,an,cdv,ct,osl,rfl,lk,hcd⟩:=F.ex
  refine oo lk hcd S len fun A outer s H vs Q E hr hsp=>?_
  obtain ⟨t,h,q⟩:=hbody cdv A outer s H vs Q E hr hsp
  exact ⟨t,h.nox,q⟩
theorem Fun.binds {x qual:Str} {st:Stmt} {f:Addr} {fd:FuncData} {ps:List Str} (F:Fun K x qual st f fd)
    (h:∀(kV doc pm:Value) (an:Option Addr) (cdv ct:Value) (us:List Value),us.length=ps.length→bindArgs (PySem.W.fnOf x qual (bc st) (aM st) (af st) .none kV doc pm an cdv ct) ⟨us,[]⟩=pure (ps.zip us)):Binds K fd ps []:=by
  obtain ⟨oc,od,kV,doc,pm,an,cdv,ct,osl,rfl,lk,hcd⟩:=F.ex
  exact .all (h kV doc pm an cdv ct)
theorem iY {x qual:Str} {st:Stmt} {f:Addr} {oc:Value} {od an:Option Addr} {osl:Array (Option Value)} {kV doc pm cdv ct:Value} (l:K.lookup f=some ⟨oc,od, .func (PySem.W.fnOf x qual (bc st) (aM st) (af st) .none kV doc pm an cdv ct),osl⟩)
    (c:PySem.W.codeIn K cdv qual=true) (k:PySem.W.keepIn K (.ref f)=true):Fun K x qual st f (PySem.W.fnOf x qual (bc st) (aM st) (af st) .none kV doc pm an cdv ct):=⟨⟨oc,od,kV,doc,pm,an,cdv,ct,osl,rfl,l,c⟩,k⟩
end
def Same (H H':Hp):Prop:=∀b o,H b=some o→H' b=some o
theorem Same.refl (H:Hp):Same H H:=fun _ _ h=>h
theorem Same.trans {H H1 H2:Hp} (a:Same H H1) (b:Same H1 H2):Same H H2:=fun c o h=>b c o (a c o h)
theorem Same.free {H H':Hp} (e:Same H H') {l:Addr} (h:H' l=Option.none):H l=Option.none:=by
  cases q:H l with
  | none=>rfl
  | some o=>
    rw [e l o q] at h
    cases h
theorem Same.seq {K:PySem.W.Frag} {H H':Hp} {a:Addr} {xs:List V} (e:Same H H') (h:SqL K H a xs):SqL K H' a xs:=by
  rcases h with (h | ⟨o,h⟩) | h
  · exact .inl (.inl (e _ _ h))
  · exact .inl (.inr ⟨o,e _ _ h⟩)
  · exact .inr h
end L2
namespace NH
section
variable {α:Type} [DecidableEq α]
def stp (r:List (α×Int)) (p:α×Int):List (α×Int):=
  match r with
  | []=>if p.2=0 then [] else [p]
  | q::r'=>if q.1=p.1 then (if q.2+p.2=0 then r' else (p.1,q.2+p.2)::r') else (if p.2=0 then q::r' else p::q::r')
def stk (c:List (α×Int)):List (α×Int):=c.foldl stp []
def Red:List (α×Int)→Prop
  | []=>True
  | [p]=>p.2≠0
  | p::q::r=>p.2≠0∧p.1≠q.1∧Red (q::r)
theorem Red.cons {p:α×Int} {r:List (α×Int)} (h0:p.2≠0) (h1:∀q∈r.head?,p.1≠q.1) (h:Red r):Red (p::r):=by
  cases r with
  | nil=>exact h0
  | cons q r=>exact ⟨h0,h1 q rfl,h⟩
theorem Red.next {p:α×Int} {r:List (α×Int)} (h:Red (p::r)):∀q∈r.head?,p.1≠q.1:=by
  cases r with
  | nil=>intro q hq;cases hq
  | cons q r=>intro q' hq;cases hq;exact h.2.1
def sn (w:List (α×Int)) (p:α×Int):List (α×Int):=(stp w.reverse p).reverse
def oq (p x:α×Int):List (α×Int):=if x.1=p.1 then (if x.2+p.2=0 then [] else [(p.1,x.2+p.2)]) else (if p.2=0 then [x] else [p,x])
theorem eI (p x:α×Int) (r:List (α×Int)):stp (x::r) p=oq p x++r:=by
  show (if x.1=p.1 then (if x.2+p.2=0 then r else (p.1,x.2+p.2)::r) else (if p.2=0 then x::r else p::x::r))=oq p x++r
  unfold oq
  by_cases e:x.1=p.1
  · rw [if_pos e,if_pos e];split <;> rfl
  · rw [if_neg e,if_neg e];split <;> rfl
def tJ (x p:α×Int):List (α×Int):=(oq p x).reverse
theorem jw (p x:α×Int) (r:List (α×Int)):sn (r++[x]) p=r++tJ x p:=by
  unfold sn tJ
  rw [List.reverse_append,List.reverse_singleton,List.singleton_append,eI,List.reverse_append,List.reverse_reverse]
theorem rL (p q:α×Int) (x:α×Int) (hx:x.2≠0):stp (sn [x] q) p=sn (stp [x] p) q:=by
  obtain ⟨n,a⟩:=p
  obtain ⟨k,b⟩:=q
  obtain ⟨m,u⟩:=x
  simp at hx
  by_cases e1:m=n
  · subst e1
    by_cases e2:m=k
    · subst e2
      by_cases z1:u+a=0 <;> by_cases z2:u+b=0
      · simp [stp,sn,z1,z2]
        have:a=b:=by omega
        have ha:a≠0:=by omega
        have hb:b≠0:=by omega
        simp [ha,hb,this]
      · have hb:u+b+a=b:=by omega
        by_cases b0:b=0
        · subst b0;simp [stp,sn,z1,hx]
        · simp [stp,sn,z1,z2,hb,b0]
      · have hb:u+a+b=a:=by omega
        by_cases a0:a=0
        · subst a0;simp [stp,sn,z2,hx]
        · simp [stp,sn,z1,z2,hb,a0]
      · have hb:u+b+a=u+a+b:=by omega
        by_cases z3:u+a+b=0
        · simp [stp,sn,z1,z2,hb,z3]
        · simp [stp,sn,z1,z2,hb,z3]
    · by_cases z1:u+a=0 <;> by_cases z2:b=0 <;> simp [stp,sn,e2,z1,z2]
  · by_cases e2:m=k
    · subst e2
      by_cases z1:u+b=0 <;> by_cases z2:a=0 <;> simp [stp,sn,e1,z1,z2]
    · by_cases z1:a=0 <;> by_cases z2:b=0 <;> simp [stp,sn,e1,e2,z1,z2]
theorem rM (p q:α×Int):stp (sn [] q) p=sn (stp [] p) q:=by
  obtain ⟨n,a⟩:=p
  obtain ⟨k,b⟩:=q
  by_cases z1:a=0 <;> by_cases z2:b=0
  · simp [stp,sn,z1,z2]
  · by_cases e:k=n <;> simp [stp,sn,z1,z2,e]
  · by_cases e:n=k <;> simp [stp,sn,z1,z2,e]
  · by_cases e:k=n
    · subst e
      by_cases z:a+b=0
      · have z':b+a=0:=by omega
        simp [stp,sn,z1,z2,z,z']
      · have z':¬b+a=0:=by omega
        simp [stp,sn,z1,z2,z,z']
        omega
    · have e':¬n=k:=fun t=>e t.symm
      simp [stp,sn,z1,z2,e,e']
theorem comm (p q:α×Int) {w:List (α×Int)} (h:Red w):stp (sn w q) p=sn (stp w p) q:=by
  cases w with
  | nil=>exact rM p q
  | cons x r=>
    rcases List.eq_nil_or_concat r with rfl | ⟨m,y,e⟩
    · exact rL p q x h
    · have e':r=m++[y]:=by rw [e] <;> simp
      subst e'
      have e1:x::(m++[y])=(x::m)++[y]:=rfl
      have e2:sn (x::(m++[y])) q=x::(m++tJ y q):=by rw [e1,jw];rfl
      rw [e2,eI,eI,←List.append_assoc,←List.append_assoc,jw]
end
end NH
namespace L2
open PySem PySem.Spec PyProof.Rows
theorem cZ {H:Hp} {p:Addr} (h:H p=none) (o:HO):Same H (upd H p o):=fun b u q=>by rw [ax (bH q h)];exact q
theorem Same.tup {K:PySem.W.Frag} {H H':Hp} {a:Addr} {xs:List V} (e:Same H H') (h:SqT K H a xs):SqT K H' a xs:=by
  rcases h with (h | ⟨o,h⟩) | h
  · exact .inl (.inl (e _ _ h))
  · exact .inl (.inr ⟨o,e _ _ h⟩)
  · exact .inr h
def SameBut (l:Addr) (H H':Hp):Prop:=∀b o,b≠l→H b=some o→H' b=some o
theorem SameBut.upd {H:Hp} {l:Addr} (o:HO):SameBut l H (upd H l o):=fun b u hb q=>by rw [ax hb];exact q
theorem SameBut.trans {H H1 H2:Hp} {l:Addr} (a:SameBut l H H1) (b:SameBut l H1 H2):SameBut l H H2:=fun c o hc q=>b c o hc (a c o hc q)
theorem SameBut.same {H H':Hp} {l:Addr} (a:SameBut l H H') (h:H l=none):Same H H':=fun b o q=>a b o (bH q h) q
theorem SameBut.tup {K:PySem.W.Frag} {H H':Hp} {l a:Addr} {xs ys:List V} (e:SameBut l H H') (hl:H l=some (.lst ys)) (h:SqT K H a xs):SqT K H' a xs:=by
  rcases h with (h | ⟨o,h⟩) | h
  · exact .inl (.inl (e _ _ (og h hl (by intro z;cases z)) h))
  · exact .inl (.inr ⟨o,e _ _ (og h hl (by intro z;cases z)) h⟩)
  · exact .inr h
mutual
inductive DOf (K:PySem.W.Frag) (H:Hp):V→PyData→Prop
  | non:DOf K H .non .none
  | bl (b:Bool):DOf K H (.bl b) (.bool b)
  | int (i:Int):DOf K H (.int i) (.int i)
  | str (x:Str):DOf K H (.str x) (.str x)
  | lst {a:Addr} {xs:List V} {ds:List PyData}:SqL K H a xs→DAll K H xs ds→DOf K H (.ref a) (.list ds)
  | tup {a:Addr} {xs:List V} {ds:List PyData}:SqT K H a xs→DAll K H xs ds→DOf K H (.ref a) (.tuple ds)
inductive DAll (K:PySem.W.Frag) (H:Hp):List V→List PyData→Prop
  | nil:DAll K H [] []
  | cons {x:V} {xs:List V} {d:PyData} {ds:List PyData}:DOf K H x d→DAll K H xs ds→DAll K H (x::xs) (d::ds)
end
section
variable {X:Cx} {pins:List (Addr×Obj)} {σ:St} {H:Hp} {s:Shared}
theorem DOf.reads (I:Inv X pins σ H s) {x:V} {d:PyData} {u:Value} (h:DOf X.K H x d) (r:RelV x u):∃as,Reads s.heap u d as:=DOf.rec (motive_1:=fun x d _=>∀{u:Value},RelV x u→∃as,Reads s.heap u d as) (motive_2:=fun xs ds _=>∀{us:List Value},Vals xs us→∃as,ReadsAll s.heap us ds as)
    (fun r=>by cases r;exact ⟨_,Reads.none⟩) (fun b _ r=>by cases r;exact ⟨_,Reads.bool b⟩) (fun i _ r=>by obtain ⟨t,rfl⟩:=r;exact ⟨_,Reads.int i t⟩) (fun x _ r=>by obtain ⟨t,rfl⟩:=r;exact ⟨_,Reads.str x t⟩)
    (fun hq _ ih _ r=>by
      cases r
      obtain ⟨its,rv,⟨o,n,e,c,_,d⟩,_⟩:=I.list hq
      obtain ⟨as,q⟩:=ih rv
      exact ⟨_,reads_list_at e c d (by simpa using q)⟩)
    (fun hq _ ih _ r=>by
      cases r
      obtain ⟨its,rv,⟨o,e,c,n,d⟩,_⟩:=I.tuple hq
      obtain ⟨as,q⟩:=ih rv
      exact ⟨_,reads_tuple_at e c d (by simpa using q)⟩)
    (fun r=>by cases r;exact ⟨_,ReadsAll.nil⟩)
    (fun _ _ a b _ r=>by
      cases r with
      | cons r rt=>
        obtain ⟨as,q⟩:=a r
        obtain ⟨bs,p⟩:=b rt
        exact ⟨_,ReadsAll.cons q p⟩) h r
end
def rN (K:PySem.W.Frag):R2:=fun x y H Q=>∃d e,DOf K H x d∧DOf K H y e∧SeqAt.shaped d=true∧SeqAt.shaped e=true∧Q (.bl (PyData.eqv d e)) H
def rO (K:PySem.W.Frag):R2:=fun x y H Q=>∃d e,DOf K H x d∧DOf K H y e∧SeqAt.shaped d=true∧SeqAt.shaped e=true∧Q (.bl (!PyData.eqv d e)) H
theorem kY {X:Cx} (hu:X.A.units+64 < cLine):OpR X (compareOp .Eq) (rN X.K):=by
  intro pins s σ H x y v u Q I rx ry h
  obtain ⟨d,e,hd,he,s1,s2,q⟩:=h
  obtain ⟨as,ra⟩:=hd.reads I rx
  obtain ⟨bs,rb⟩:=he.reads I ry
  exact eq_dataH ra rb s1 s2 hu ⟨.bl _,H,I,rfl,q⟩
theorem pB {X:Cx} (hu:X.A.units+64 < cLine):OpR X (compareOp .NotEq) (rO X.K):=by
  intro pins s σ H x y v u Q I rx ry h
  obtain ⟨d,e,hd,he,s1,s2,q⟩:=h
  obtain ⟨as,ra⟩:=hd.reads I rx
  obtain ⟨bs,rb⟩:=he.reads I ry
  exact ne_dataH ra rb s1 s2 hu ⟨.bl _,H,I,rfl,q⟩
end L2
namespace L2
open PySem PySem.Spec PyProof.Rows
def slots (js:List (Option Nat)) (σ:St):St:=js.map fun j=>j.bind fun j=>(σ[j]?).join
end L2
namespace L2
open PySem PySem.Spec PyProof.Rows
structure Own (P:Program) (w:World) (K:PySem.W.Frag) (mg:Str→Option Value) (base:Heap) (k:Nat) (x:Str) (ps:List Str) (sp:Sp):Prop where
  ex:∃(f:Addr) (fd:FuncData),FnOk P w K mg base iX k f fd ps sp∧Binds K fd ps []∧mg x=some (.ref f)∧PySem.W.keepIn K (.ref f)=true
theorem pD {X:Cx} {k:Nat} {x:Str} {ps:List Str} {sp:Sp} {p pos:Pos} {e:Expr} {es:List Expr} {t:TA} (D:Own X.prog X.w X.K X.mg X.base k x ps sp) (hr:Room k X.A) (hg:Gl X x) (ha:PA X (e::es) t)
    (hdb:(x == ("__debug__":Str))=false:=by decide) (he:starEach (e::es) X.env=(false,eval e X.env)::starEach es X.env:=by rfl) (hpl:(backTo pos (starEach es X.env)).any (·.1)=false:=by rfl):
    PE X (.Call (.Name x p) (e::es) [] pos) (kU sp [] E0 t):=by
  obtain ⟨f,fd,F,b,m,kp⟩:=D.ex
  exact mM F hr hg m kp b .nil rK ha hdb he hpl
structure Def (K:PySem.W.Frag) (mg:Str→Option Value) (x:Str) (st:Stmt) (ps:List Str):Prop where
  ex:∃(f:Addr) (fd:FuncData),Fun K x x st f fd∧mg x=some (.ref f)∧Binds K fd ps []
theorem Def.own {P:Program} {w:World} {K:PySem.W.Frag} {mg:Str→Option Value} {base:Heap} {x:Str} {st:Stmt} {N ps:List Str} {k:Nat} {sp:Sp} (D:Def K mg x st ps) (S:FnScope N ps (af st))
    (len:∀vs H Q E,sp vs H Q E→vs.length=ps.length)
    (hbody:∀(f:Addr) (cdv:Value) (A:Around) (outer:List Env) (s:Shared) (H:Hp) (vs:List V) (Q:VK) (E:XK),Room k (A.deeper (envOfC x (af st) s.heap.objs.size f cdv))→sp vs H Q E→
      ∃t,PSs (du iX P w K mg base N x (af st) f cdv A outer s H E).nox (aM st) t∧t {nx:=fun _ H'=>Q .non H',rt:=Q} (cF N vs) H):Own P w K mg base (k+1) x ps sp:=by
  obtain ⟨f,fd,F,m,b⟩:=D.ex
  exact ⟨f,fd,F.ok S len (hbody f),b,m,F.kp⟩
theorem cD {K:PySem.W.Frag} {h:Heap} {mg:Str→Option Value} {x:Str} {st:Stmt} {ps:List Str} {f:Addr} {oc:Value} {od an:Option Addr} {osl:Array (Option Value)} {kV doc pm cdv ct:Value} (X:K.In h) (G:h.Ns mainGlobals mg)
    (a:PySem.W.nsIn K mainGlobals x=some (some (.ref f))) (l:K.lookup f=some ⟨oc,od, .func (PySem.W.fnOf x x (bc st) (aM st) (af st) .none kV doc pm an cdv ct),osl⟩)
    (c:PySem.W.codeIn K cdv x=true) (k:PySem.W.keepIn K (.ref f)=true)
    (b:∀(kV doc pm:Value) (an:Option Addr) (cdv ct:Value) (us:List Value),us.length=ps.length→bindArgs (PySem.W.fnOf x x (bc st) (aM st) (af st) .none kV doc pm an cdv ct) ⟨us,[]⟩=pure (ps.zip us)):Def K mg x st ps:=
  ⟨f,_,iY l c k,PySem.W.mg_of X G a,(iY (st:=st) l c k).binds b⟩
end L2
namespace Nh
open PySem L2
section
variable {α β:Type} {F:α→β→Prop}
theorem dJ:∀{a:List α} {b:List β} {c:List α} {d:List β},Paired F a b→Paired F c d→Paired F (a++c) (b++d)
  | _,_,_,_, .nil,s=>s
  | _,_,_,_, .cons r t,s=> .cons r (dJ t s)
theorem jx:∀{a:List α} {b:List β} (n:Nat),Paired F a b→Paired F (a.take n) (b.take n)
  | _,_,0,_=> .nil
  | _,_,_+1, .nil=> .nil
  | _,_,n+1, .cons r t=> .cons r (jx n t)
theorem jy:∀{a:List α} {b:List β} (n:Nat),Paired F a b→Paired F (a.drop n) (b.drop n)
  | _,_,0,r=>r
  | _,_,_+1, .nil=> .nil
  | _,_,n+1, .cons _ t=>jy n t
theorem dX:∀{a:List α} {b:List β},Paired F a b→Paired F a.reverse b.reverse
  | _,_, .nil=> .nil
  | _,_, .cons r t=>by
    rw [List.reverse_cons,List.reverse_cons]
    exact dJ (dX t) (.cons r .nil)
theorem jz:∀{a:List α} {b:List β} {i:Nat} {y:β},Paired F a b→b[i]? =some y→∃x,a[i]? =some x∧F x y
  | _,_,_,_, .nil,e=>by simp at e
  | _,_,0,_, .cons r _,e=>by simp at e;subst e;exact ⟨_,rfl,r⟩
  | _,_,i+1,x, .cons _ t,e=>by
    obtain ⟨u,h1,h2⟩:=jz (i:=i) (y:=x) t (by simpa using e)
    exact ⟨u,by simpa using h1,h2⟩
theorem kZ {a:List α} {b:List β} (h:Paired F a b):∀k:Nat,Paired F (List.replicate k a).flatten (List.replicate k b).flatten
  | 0=> .nil
  | k+1=>by
    rw [List.replicate_succ,List.replicate_succ,List.flatten_cons,List.flatten_cons]
    exact dJ h (kZ h k)
end
abbrev Pc:=Nat×Int
def tv (p:Pc):List V:=[.str ⟨#[p.1]⟩, .int p.2]
def tK (H:Hp) (v:V) (p:Pc):Prop:=∃t,v= .ref t∧H t=some (.tup (tv p))
abbrev PAll (H:Hp):List V→List Pc→Prop:=Paired (tK H)
section
variable {H H':Hp} {l:Addr} {xs ys:List V} {c:List Pc}
theorem PAll.same (s:Same H H') (h:PAll H xs c):PAll H' xs c:=Paired.mapP h fun _ _ ⟨t,e,q⟩=>⟨t,e,s _ _ q⟩
theorem PAll.len (h:PAll H xs c):xs.length=c.length:=Paired.length h
end
def Cord (H:Hp) (a:Addr) (c:List Pc):Prop:=∃xs,H a=some (.lst xs)∧PAll H xs c
section
variable {H H':Hp} {a:Addr} {c d:List Pc}
theorem Cord.same (s:Same H H') (h:Cord H a c):Cord H' a c:=let ⟨xs,e,p⟩:=h;⟨xs,s _ _ e,p.same s⟩
end
def cf (p:Pc):PyData:= .tuple [.str ⟨#[p.1]⟩, .int p.2]
def dR (c:List Pc):PyData:= .list (c.map cf)
def NailsOk (c:List Pc):Prop:=∀p∈c,p.1 < 128
theorem gn {K:PySem.W.Frag} {H:Hp}:∀{xs:List V} {c:List Pc},PAll H xs c→DAll K H xs (c.map cf)
  | _,_, .nil=> .nil
  | _,_, .cons ⟨t,e,q⟩ r=>by
    subst e
    exact .cons (.tup (SqT.of q) (.cons (.str _) (.cons (.int _) .nil))) (gn r)
theorem Cord.data {K:PySem.W.Frag} {H:Hp} {a:Addr} {c:List Pc} (h:Cord H a c):DOf K H (.ref a) (dR c):=
  let ⟨_,e,p⟩:=h; .lst (SqL.of e) (gn p)
theorem ot {p:Pc} (h:p.1 < 128):(cf p).canLay0=true:=by
  have:p.1 < 1114112:=by omega
  simp [cf,PyData.canLay0,PyData.canLayAll0,PyData.strOk,this]
theorem ia:∀{c:List Pc},NailsOk c→PyData.canLayAll0 (c.map cf)=true∧PyData.depthAll (c.map cf)≤1
  | [],_=>by simp [PyData.canLayAll0,PyData.depthAll]
  | p::c,h=>by
    have ih:=ia (c:=c) fun q hq=>h q (List.mem_cons_of_mem _ hq)
    have h1:=ot (h p (List.mem_cons_self ..))
    have h2:=ih.2
    simp only [List.map_cons,PyData.canLayAll0,PyData.depthAll,h1,ih.1,Bool.and_self,true_and]
    have h3:(cf p).depth=1:=by simp [cf,PyData.depth,PyData.depthAll]
    omega
theorem e6 {c:List Pc} (h:NailsOk c):SeqAt.shaped (dR c)=true:=by
  have q:=ia h
  have q2:=q.2
  unfold SeqAt.shaped
  simp only [dR,PyData.canLay0,PyData.depth,q.1,Bool.true_and]
  exact decide_eq_true (by omega)
theorem k_ (p q:Pc):PyData.eqv (cf p) (cf q)=decide (p=q):=by
  obtain ⟨n,a⟩:=p
  obtain ⟨m,b⟩:=q
  simp only [cf,PyData.eqv,PyData.eqvAll,Bool.and_true]
  rw [Bool.eq_iff_iff]
  simp
theorem gp:∀c d:List Pc,PyData.eqvAll (c.map cf) (d.map cf)=decide (c=d)
  | [],[]=>by simp [PyData.eqvAll]
  | [],_::_=>by simp [PyData.eqvAll]
  | _::_,[]=>by simp [PyData.eqvAll]
  | p::c,q::d=>by
    simp only [List.map_cons,PyData.eqvAll,k_,gp c d]
    rw [Bool.eq_iff_iff]
    simp
theorem la (c d:List Pc):PyData.eqv (dR c) (dR d)=decide (c=d):=by
  simp only [dR,PyData.eqv,gp]
end Nh
namespace PL
open PySem PySem.Spec PyProof.Rows L2 Nh
def pE:bG→PyData
  | .inl i=> .int i
  | .inr x=> .str x
def c0 (a C:Addr):Heap→Prop:=fun h=>∃o,h.get? a=some o∧o.cls= .ref C
mutual
inductive Rp (K:PySem.W.Frag) (H:Hp):V→PyData→Prop
  | non:Rp K H .non .none
  | bl (b:Bool):Rp K H (.bl b) (.bool b)
  | int (i:Int):Rp K H (.int i) (.int i)
  | str (x:Str):Rp K H (.str x) (.str x)
  | lst {a:Addr} {xs:List V} {ds:List PyData}:SqL K H a xs→RpA K H xs ds→Rp K H (.ref a) (.list ds)
  | tup {a:Addr} {xs:List V} {ds:List PyData}:SqT K H a xs→RpA K H xs ds→Rp K H (.ref a) (.tuple ds)
  | dct {a:Addr} {us:List (bG×V)} {kvs:List (PyData×PyData)}:Rd H a (.dK us)→RpK K H us kvs→Rp K H (.ref a) (.dict kvs)
  | exc {a C:Addr} {n:Str}:H a=some (.ext (c0 a C))→PySem.W.nsIn K mainGlobals n=some (some (.ref C))→Rp K H (.ref a) (.dict [(.none, .str n)])
inductive RpA (K:PySem.W.Frag) (H:Hp):List V→List PyData→Prop
  | nil:RpA K H [] []
  | cons {x:V} {xs:List V} {d:PyData} {ds:List PyData}:Rp K H x d→RpA K H xs ds→RpA K H (x::xs) (d::ds)
inductive RpK (K:PySem.W.Frag) (H:Hp):List (bG×V)→List (PyData×PyData)→Prop
  | nil:RpK K H [] []
  | cons {k:bG} {x:V} {us:List (bG×V)} {d:PyData} {kvs:List (PyData×PyData)}:Rp K H x d→RpK K H us kvs→RpK K H ((k,x)::us) ((pE k,d)::kvs)
end
mutual
def aK:PyData→Bool
  | .none=>true
  | .bool _=>true
  | .int _=>true
  | .str _=>true
  | .list _=>false
  | .tuple xs=>a_ xs
  | .dict _=>false
def a_:List PyData→Bool
  | []=>true
  | d::ds=>aK d&&a_ ds
end
def ou:HO→Bool
  | .tup _=>true
  | .frz _ _=>true
  | _=>false
def tups (H:Hp):Hp:=fun b=>(H b).filter ou
theorem dL (H:Hp):Same (tups H) H:=fun b o h=>(Option.filter_eq_some_iff.mp h).1
theorem df {H:Hp} {b:Addr} {o:HO} (h:H b=some o) (c:ou o=true):tups H b=some o:=Option.filter_eq_some_iff.mpr ⟨h,c⟩
theorem lf {H:Hp} {l:Addr} {xs ys:List V} (h:H l=some (.lst xs)):tups (upd H l (.lst ys))=tups H:=by
  funext b
  unfold tups
  by_cases e:b=l
  · subst e
    rw [aY,h]
    rfl
  · rw [ax e]
section
variable {K:PySem.W.Frag} {H H':Hp}
theorem ib {a:Addr} {xs:List V} (h:SqT K H a xs):SqT K (tups H) a xs:=by
  rcases h with (h | ⟨o,h⟩) | h
  · exact .inl (.inl (df h rfl))
  · exact .inl (.inr ⟨o,df h rfl⟩)
  · exact .inr h
theorem gJ {a:Addr} {u:HO} (s:Same H H') (h:Rd H a u):Rd H' a u:=by
  rcases h with h | ⟨o,h⟩
  · exact .inl (s _ _ h)
  · exact .inr ⟨o,s _ _ h⟩
theorem Rp.same (s:Same H H') {v:V} {d:PyData} (h:Rp K H v d):Rp K H' v d:=Rp.rec (motive_1:=fun v d _=>Rp K H' v d) (motive_2:=fun v d _=>RpA K H' v d) (motive_3:=fun v d _=>RpK K H' v d) .non .bl .int .str (fun h _ r=> .lst (s.seq h) r) (fun h _ r=> .tup (s.tup h) r) (fun h _ r=> .dct (gJ s h) r) (fun h r=> .exc (s _ _ h) r) .nil (fun _ _ a b=> .cons a b) .nil (fun _ _ a b=> .cons a b) h
theorem RpA.same (s:Same H H') {v:List V} {d:List PyData} (h:RpA K H v d):RpA K H' v d:=RpA.rec (motive_1:=fun v d _=>Rp K H' v d) (motive_2:=fun v d _=>RpA K H' v d) (motive_3:=fun v d _=>RpK K H' v d) .non .bl .int .str (fun h _ r=> .lst (s.seq h) r) (fun h _ r=> .tup (s.tup h) r) (fun h _ r=> .dct (gJ s h) r) (fun h r=> .exc (s _ _ h) r) .nil (fun _ _ a b=> .cons a b) .nil (fun _ _ a b=> .cons a b) h
theorem RpK.same (s:Same H H') {v:List (bG×V)} {d:List (PyData×PyData)} (h:RpK K H v d):RpK K H' v d:=RpK.rec (motive_1:=fun v d _=>Rp K H' v d) (motive_2:=fun v d _=>RpA K H' v d) (motive_3:=fun v d _=>RpK K H' v d) .non .bl .int .str (fun h _ r=> .lst (s.seq h) r) (fun h _ r=> .tup (s.tup h) r) (fun h _ r=> .dct (gJ s h) r) (fun h r=> .exc (s _ _ h) r) .nil (fun _ _ a b=> .cons a b) .nil (fun _ _ a b=> .cons a b) h
theorem Rp.cold {v:V} {d:PyData} (h:Rp K H v d) (e:aK d=true):Rp K (tups H) v d:=Rp.rec (motive_1:=fun v d _=>aK d=true→Rp K (tups H) v d) (motive_2:=fun v d _=>a_ d=true→RpA K (tups H) v d) (motive_3:=fun _ _ _=>True) (fun _=> .non) (fun b _=> .bl b) (fun i _=> .int i) (fun x _=> .str x) (fun _ _ _ e=>nomatch e) (fun h _ r e=> .tup (ib h) (r e)) (fun _ _ _ e=>nomatch e) (fun _ _ e=>nomatch e) (fun _=> .nil) (fun _ _ a b e=> .cons (a (Bool.and_eq_true_iff.mp e).1) (b (Bool.and_eq_true_iff.mp e).2)) trivial (fun _ _ _ _=>trivial) h e
theorem RpA.cold {v:List V} {d:List PyData} (h:RpA K H v d) (e:a_ d=true):RpA K (tups H) v d:=RpA.rec (motive_1:=fun v d _=>aK d=true→Rp K (tups H) v d) (motive_2:=fun v d _=>a_ d=true→RpA K (tups H) v d) (motive_3:=fun _ _ _=>True) (fun _=> .non) (fun b _=> .bl b) (fun i _=> .int i) (fun x _=> .str x) (fun _ _ _ e=>nomatch e) (fun h _ r e=> .tup (ib h) (r e)) (fun _ _ _ e=>nomatch e) (fun _ _ e=>nomatch e) (fun _=> .nil) (fun _ _ a b e=> .cons (a (Bool.and_eq_true_iff.mp e).1) (b (Bool.and_eq_true_iff.mp e).2)) trivial (fun _ _ _ _=>trivial) h e
theorem Rp.dof' {v:V} {d:PyData} (h:Rp K H v d) (e:d.canLay0=true):DOf K H v d:=Rp.rec (motive_1:=fun v d _=>d.canLay0=true→DOf K H v d) (motive_2:=fun v d _=>PyData.canLayAll0 d=true→DAll K H v d) (motive_3:=fun _ _ _=>True) (fun _=> .non) (fun b _=> .bl b) (fun i _=> .int i) (fun x _=> .str x) (fun h _ r e=> .lst h (r e)) (fun h _ r e=> .tup h (r e)) (fun _ _ _ e=>nomatch e) (fun _ _ e=>nomatch e) (fun _=> .nil) (fun _ _ a b e=> .cons (a (Bool.and_eq_true_iff.mp e).1) (b (Bool.and_eq_true_iff.mp e).2)) trivial (fun _ _ _ _=>trivial) h e
theorem Rp.dof {v:V} {d:PyData} (h:Rp K H v d) (e:SeqAt.shaped d=true):DOf K H v d:=h.dof' (SeqAt.canLay_of_shaped e)
theorem RpA.pr {vs:List V} {ds:List PyData} (h:RpA K H vs ds):Paired (Rp K H) vs ds:=RpA.rec (motive_1:=fun _ _ _=>True) (motive_2:=fun v d _=>Paired (Rp K H) v d) (motive_3:=fun _ _ _=>True) trivial (fun _=>trivial) (fun _=>trivial) (fun _=>trivial) (fun _ _ _=>trivial) (fun _ _ _=>trivial) (fun _ _ _=>trivial) (fun _ _=>trivial) .nil (fun h _ _ b=> .cons h b) trivial (fun _ _ _ _=>trivial) h
theorem RpA.of {vs:List V} {ds:List PyData} (h:Paired (Rp K H) vs ds):RpA K H vs ds:=by
  induction h with
  | nil=>exact .nil
  | cons a _ b=>exact .cons a b
theorem RpA.len {vs:List V} {ds:List PyData} (h:RpA K H vs ds):vs.length=ds.length:=Paired.length h.pr
theorem RpA.append {vs us:List V} {ds es:List PyData} (h:RpA K H vs ds) (k:RpA K H us es):RpA K H (vs++us) (ds++es):= .of (dJ h.pr k.pr)
theorem RpA.take {vs:List V} {ds:List PyData} (n:Nat) (h:RpA K H vs ds):RpA K H (vs.take n) (ds.take n):= .of (jx n h.pr)
theorem RpA.drop {vs:List V} {ds:List PyData} (n:Nat) (h:RpA K H vs ds):RpA K H (vs.drop n) (ds.drop n):= .of (jy n h.pr)
theorem RpA.rev {vs:List V} {ds:List PyData} (h:RpA K H vs ds):RpA K H vs.reverse ds.reverse:= .of (dX h.pr)
theorem RpA.rep {vs:List V} {ds:List PyData} (n:Nat) (h:RpA K H vs ds):RpA K H (List.replicate n vs).flatten (List.replicate n ds).flatten:= .of (kZ h.pr n)
theorem RpA.get {vs:List V} {ds:List PyData} {i:Nat} {d:PyData} (h:RpA K H vs ds) (e:ds[i]? =some d):∃v,vs[i]? =some v∧Rp K H v d:=jz h.pr e
theorem RpA.set:∀{vs:List V} {ds:List PyData} {v:V} {d:PyData} (i:Nat),RpA K H vs ds→Rp K H v d→RpA K H (vs.set i v) (ds.set i d)
  | _,_,_,_,_, .nil,_=> .nil
  | _,_,_,_,0, .cons _ r,h=> .cons h r
  | _,_,_,_,i+1, .cons q r,h=> .cons q (RpA.set i r h)
theorem RpA.snoc {vs:List V} {ds:List PyData} {v:V} {d:PyData} (h:RpA K H vs ds) (k:Rp K H v d):RpA K H (vs++[v]) (ds++[d]):=h.append (.cons k .nil)
end
inductive Pt where
  | fl (d:PyData) | ol (ds:List PyData)
def Pt.val:Pt→PyData
  | .fl d=>d
  | .ol ds=> .list ds
inductive Sl where
  /-- nothing is known -/
  | no
  /-- never written again -/
  | sh (d:PyData)
  /-- a list of one's own -/
  | ow (ds:List PyData)
  /-- a dict of one's own,its values lists of one's own -/
  | od (kvs:List (bG×List PyData))
  /-- a tuple with lists of one's own -/
  | tx (ps:List Pt)
  /-- (a part of an expression) the value of a name -/
  | al (i:Nat)
  /-- (a part of an expression) as it stands just now -/
  | br (d:PyData)
def PtsOk (K:PySem.W.Frag) (F H:Hp):List V→List Pt→List Addr→Prop
  | [],[],A=>A=[]
  | v::vs, .fl d::ps,A=>Rp K F v d∧PtsOk K F H vs ps A
  | v::vs, .ol ds::ps,A=>∃l us A',v= .ref l∧A=l::A'∧H l=some (.lst us)∧RpA K F us ds∧PtsOk K F H vs ps A'
  | _,_,_=>False
def DlOk (K:PySem.W.Frag) (F H:Hp):List (bG×V)→List (bG×List PyData)→List Addr→Prop
  | [],[],A=>A=[]
  | p::us,q::kvs,A=>∃l vs A',p=(q.1, .ref l)∧A=l::A'∧H l=some (.lst vs)∧RpA K F vs q.2∧DlOk K F H us kvs A'
  | _,_,_=>False
def SlOk (K:PySem.W.Frag) (F H:Hp) (σ:L2.St) (o:Option V):Sl→List Addr→Prop
  | .no,A=>A=[]
  | .sh d,A=>A=[]∧∃v,o=some v∧Rp K F v d
  | .ow ds,A=>∃l vs,o=some (.ref l)∧A=[l]∧H l=some (.lst vs)∧RpA K F vs ds
  | .od kvs,A=>∃l us A',o=some (.ref l)∧A=l::A'∧H l=some (.dK us)∧DlOk K F H us kvs A'
  | .tx ps,A=>∃t vs,o=some (.ref t)∧F t=some (.tup vs)∧PtsOk K F H vs ps A
  | .al i,A=>A=[]∧∃v,o=some v∧σ[i]? =some (some v)
  | .br d,A=>A=[]∧∃v,o=some v∧Rp K H v d
def Sl.isBr:Sl→Bool
  | .br _=>true
  | _=>false
def Sl.isAl:Sl→Bool
  | .al _=>true
  | .br _=>true
  | _=>false
section
variable {K:PySem.W.Frag} {F F' H H':Hp} {σ σ':L2.St}
theorem PtsOk.stay (s:Same F F'):∀{vs:List V} {ps:List Pt} {A:List Addr},(∀b∈A,H' b=H b)→PtsOk K F H vs ps A→PtsOk K F' H' vs ps A
  | [],[],A,_,h=>h
  | v::vs, .fl d::ps,A,e,h=>⟨h.1.same s,PtsOk.stay s e h.2⟩
  | v::vs, .ol ds::ps,A,e,h=>by
    obtain ⟨l,us,A',rfl,rfl,hl,hr,q⟩:=h
    exact ⟨l,us,A',rfl,rfl,(e l (List.mem_cons_self ..)).trans hl,hr.same s,q.stay s fun b hb=>e b (List.mem_cons_of_mem _ hb)⟩
  | [],_::_,_,_,h=>False.elim h
  | _::_,[],_,_,h=>False.elim h
theorem DlOk.stay (s:Same F F'):∀{us:List (bG×V)} {kvs:List (bG×List PyData)} {A:List Addr},(∀b∈A,H' b=H b)→DlOk K F H us kvs A→DlOk K F' H' us kvs A
  | [],[],A,_,h=>h
  | p::us,q::kvs,A,e,h=>by
    obtain ⟨l,vs,A',rfl,rfl,hl,hr,k⟩:=h
    exact ⟨l,vs,A',rfl,rfl,(e l (List.mem_cons_self ..)).trans hl,hr.same s,k.stay s fun b hb=>e b (List.mem_cons_of_mem _ hb)⟩
  | [],_::_,_,_,h=>False.elim h
  | _::_,[],_,_,h=>False.elim h
theorem DlOk.some:∀{us:List (bG×V)} {kvs:List (bG×List PyData)} {A:List Addr},DlOk K F H us kvs A→∀a∈A,∃vs,H a=some (.lst vs)
  | [],[],A,h,a,ha=>by rw [show A=[] from h] at ha;cases ha
  | p::us,q::kvs,A,h,a,ha=>by
    obtain ⟨l,vs,A',rfl,rfl,hl,hr,k⟩:=h
    rcases List.mem_cons.mp ha with e | e
    · subst e;exact ⟨vs,hl⟩
    · exact k.some a e
  | [],_::_,_,h,_,_=>False.elim h
  | _::_,[],_,h,_,_=>False.elim h
theorem PtsOk.some:∀{vs:List V} {ps:List Pt} {A:List Addr},PtsOk K F H vs ps A→∀a∈A,∃us,H a=some (.lst us)
  | [],[],A,h,a,ha=>by rw [show A=[] from h] at ha;cases ha
  | v::vs, .fl d::ps,A,h,a,ha=>PtsOk.some h.2 a ha
  | v::vs, .ol ds::ps,A,h,a,ha=>by
    obtain ⟨l,us,A',rfl,rfl,hl,hr,q⟩:=h
    rcases List.mem_cons.mp ha with e | e
    · subst e;exact ⟨us,hl⟩
    · exact q.some a e
  | [],_::_,_,h,_,_=>False.elim h
  | _::_,[],_,h,_,_=>False.elim h
theorem PtsOk.rp (s:Same F H):∀{vs:List V} {ps:List Pt} {A:List Addr},PtsOk K F H vs ps A→RpA K H vs (ps.map Pt.val)
  | [],[],A,_=> .nil
  | v::vs, .fl d::ps,A,h=> .cons (h.1.same s) (PtsOk.rp s h.2)
  | v::vs, .ol ds::ps,A,h=>by
    obtain ⟨l,us,A',rfl,rfl,hl,hr,q⟩:=h
    exact .cons (.lst (SqL.of hl) (hr.same s)) (q.rp s)
  | [],_::_,_,h=>False.elim h
  | _::_,[],_,h=>False.elim h
theorem SlOk.stay {o:Option V} {s:Sl} {A:List Addr} (hF:Same F F') (e:∀b∈A,H' b=H b) (hb:s.isBr=true→Same H H') (h:SlOk K F H σ o s A):SlOk K F' H' σ o s A:=by
  cases s with
  | no=>exact h
  | sh d=>obtain ⟨rfl,v,rfl,r⟩:=h;exact ⟨rfl,v,rfl,r.same hF⟩
  | ow ds=>obtain ⟨l,vs,rfl,rfl,hl,r⟩:=h;exact ⟨l,vs,rfl,rfl,(e l (by simp)).trans hl,r.same hF⟩
  | od kvs=>obtain ⟨l,us,A',rfl,rfl,hl,r⟩:=h;exact ⟨l,us,A',rfl,rfl,(e l (by simp)).trans hl,r.stay hF fun b hb=>e b (List.mem_cons_of_mem _ hb)⟩
  | tx ps=>obtain ⟨t,vs,rfl,ht,r⟩:=h;exact ⟨t,vs,rfl,hF _ _ ht,r.stay hF e⟩
  | al i=>exact h
  | br d=>obtain ⟨rfl,v,rfl,r⟩:=h;exact ⟨rfl,v,rfl,r.same (hb rfl)⟩
theorem SlOk.mut {o:Option V} {s:Sl} {A:List Addr} (h:SlOk K F H σ o s A):∀a∈A,(∃us,H a=some (.lst us))∨∃us,H a=some (.dK us):=by
  cases s with
  | no=>intro a ha;rw [show A=[] from h] at ha;cases ha
  | sh d=>obtain ⟨rfl,_⟩:=h;intro a ha;cases ha
  | ow ds=>obtain ⟨l,vs,rfl,rfl,hl,r⟩:=h;intro a ha;rw [List.mem_singleton.mp ha];exact .inl ⟨_,hl⟩
  | od kvs=>
    obtain ⟨l,vs,A',rfl,rfl,hl,r⟩:=h
    intro a ha
    rcases List.mem_cons.mp ha with z | z
    · rw [z];exact .inr ⟨_,hl⟩
    · exact .inl (r.some a z)
  | tx ps=>obtain ⟨t,vs,rfl,ht,r⟩:=h;exact fun a ha=> .inl (r.some a ha)
  | al i=>obtain ⟨rfl,_⟩:=h;intro a ha;cases ha
  | br d=>obtain ⟨rfl,_⟩:=h;intro a ha;cases ha
end
inductive SAll (P:Option V→Sl→List Addr→Prop):List (Option V)→List Sl→List Addr→Prop
  | nil:SAll P [] [] []
  | cons {o:Option V} {s:Sl} {A:List Addr} {os:List (Option V)} {ss:List Sl} {B:List Addr}:P o s A→SAll P os ss B→SAll P (o::os) (s::ss) (A++B)
section
variable {P P':Option V→Sl→List Addr→Prop}
theorem SAll.len {os:List (Option V)} {ss:List Sl} {A:List Addr} (h:SAll P os ss A):os.length=ss.length:=by
  induction h with
  | nil=>rfl
  | cons _ _ b=>exact congrArg (· +1) b
theorem SAll.mono {os:List (Option V)} {ss:List Sl} {A:List Addr} (h:SAll P os ss A):(∀o s B,s∈ss→(∀b∈B,b∈A)→P o s B→P' o s B)→SAll P' os ss A:=by
  induction h with
  | nil=>exact fun _=> .nil
  | cons h _ r=>exact fun f=> .cons (f _ _ _ (List.mem_cons_self ..) (fun b hb=>List.mem_append_left _ hb) h) (r fun o s B hs hB q=>f o s B (List.mem_cons_of_mem _ hs) (fun b hb=>List.mem_append_right _ (hB b hb)) q)
theorem SAll.all {R:Addr→Prop} (hR:∀o s B,P o s B→∀b∈B,R b) {os:List (Option V)} {ss:List Sl} {A:List Addr} (h:SAll P os ss A):∀a∈A,R a:=by
  induction h with
  | nil=>exact fun _ ha=>nomatch ha
  | cons h _ r=>exact fun a ha=>(List.mem_append.mp ha).elim (hR _ _ _ h a) (r a)
theorem SAll.at:∀{os:List (Option V)} {ss:List Sl} {A:List Addr} {k:Nat} {s:Sl},SAll P os ss A→ss[k]? =some s→
    ∃o A0 A1 A2,A=A0++(A1++A2)∧os[k]? =some o∧P o s A1∧∀(P':Option V→Sl→List Addr→Prop) (o':Option V) (s':Sl) (A1':List Addr),P' o' s' A1'→
      (∀o s B,s∈ss→(∀b∈B,b∈A0∨b∈A2)→P o s B→P' o s B)→SAll P' (os.set k o') (ss.set k s') (A0++(A1'++A2))
  | _,_,_,_,_, .nil,e=>by simp at e
  | _,_,_,0,s, .cons (o:=o) (A:=A) (B:=B) h r,e=>by
    simp at e;subst e
    refine ⟨o,[],A,B,by simp,rfl,h,fun P' o' s' A1' h' f=>?_⟩
    have z:SAll P' _ _ (A1'++B):= .cons h' (r.mono (P':=P') fun o s B hs hB q=>f o s B (List.mem_cons_of_mem _ hs) (fun b hb=> .inr (hB b hb)) q)
    exact z
  | _,_,_,k+1,s, .cons (o:=o) (A:=A) (B:=B) h r,e=>by
    obtain ⟨o2,A0,A1,A2,eA,eo,hp,f⟩:=r.at (k:=k) (s:=s) (by simpa using e)
    subst eA
    refine ⟨o2,A++A0,A1,A2,by simp,by simpa using eo,hp,fun P' o' s' A1' h' g=>?_⟩
    have z:=f P' o' s' A1' h' fun o s B hs hB q=>g o s B (List.mem_cons_of_mem _ hs) (fun b hb=>(hB b hb).imp (fun x=>List.mem_append_right _ x) id) q
    rw [List.append_assoc]
    exact .cons (g _ _ _ (List.mem_cons_self ..) (fun b hb=> .inl (List.mem_append_left _ hb)) h) z
end
end PL
namespace PL
open PySem L2 Nh
abbrev Sg:=L2.St
structure FrF (K:PySem.W.Frag) (B F:Hp) (A:List Addr) (σ:Sg) (H:Hp) (E:List Sl) (xs:List V) (Xs:List Sl):Prop where
  bf:Same B F
  fh:Same F H
  tf:Same (tups H) F
  sl:SAll (SlOk K F H σ) (xs.map some++σ) (Xs++E) A
  nd:A.Nodup
  fr:∀a∈A,F a=none
  len:xs.length=Xs.length
  pl:∀s∈E,s.isAl=false
def Frm (K:PySem.W.Frag) (B:Hp) (σ:Sg) (H:Hp) (E:List Sl) (xs:List V) (Xs:List Sl):Prop:=∃F A,FrF K B F A σ H E xs Xs
def Sl.val:Sl→Option PyData
  | .sh d=>some d
  | .ow ds=>some (.list ds)
  | .tx ps=>some (.tuple (ps.map Pt.val))
  | .br d=>some d
  | _=>none
def look (E:List Sl):Sl→Option PyData
  | .al i=>(E[i]?).bind Sl.val
  | s=>s.val
def bQ:Sl→Bool
  | .br _=>true
  | .tx _=>true
  | _=>false
def ck (E:List Sl):Sl→Bool
  | .al i=>(E[i]?).any bQ
  | s=>bQ s
def RpF (K:PySem.W.Frag) (F H:Hp) (v:V):PyData→Prop
  | .list ds=>∃a vs,v= .ref a∧SqL K H a vs∧RpA K F vs ds
  | d=>Rp K F v d
def ic (F H:Hp) (A:List Addr):Hp:=fun b=>if b∈A then H b else F b
theorem gK {F H:Hp} {A:List Addr} {b:Addr} (h:b∈A):ic F H A b=H b:=if_pos h
theorem fz {F H:Hp} {A:List Addr} {b:Addr} (h:b∉A):ic F H A b=F b:=if_neg h
section
variable {K:PySem.W.Frag} {B F:Hp} {A:List Addr} {σ:Sg} {H:Hp} {E:List Sl} {xs:List V} {Xs:List Sl} {v:V} {s:Sl} {d:PyData}
theorem RpF.of (h:Rp K F v d) (s:Same F H):RpF K F H v d:=by
  cases h with
  | lst h r=>exact ⟨_,_,rfl,s.seq h,r⟩
  | non=>exact .non
  | bl b=>exact .bl b
  | int i=>exact .int i
  | str x=>exact .str x
  | tup h r=>exact .tup h r
  | dct h r=>exact .dct h r
  | exc h r=>exact .exc h r
theorem SlOk.val {o:Option V} {A1:List Addr} (h:SlOk K F H σ o s A1) (hF:Same F H) (e:s.val=some d):∃v,o=some v∧Rp K H v d∧(bQ s=false→RpF K F H v d):=by
  cases s with
  | no=>cases e
  | sh d'=>
    obtain ⟨rfl,v,rfl,r⟩:=h
    cases e
    exact ⟨v,rfl,r.same hF,fun _=>RpF.of r hF⟩
  | ow ds=>
    obtain ⟨l,vs,rfl,rfl,hl,r⟩:=h
    cases e
    exact ⟨_,rfl, .lst (SqL.of hl) (r.same hF),fun _=>⟨_,_,rfl,SqL.of hl,r⟩⟩
  | od kvs=>cases e
  | tx ps=>
    obtain ⟨t,vs,rfl,ht,r⟩:=h
    cases e
    exact ⟨_,rfl, .tup (SqT.of (hF _ _ ht)) (r.rp hF),fun z=>by cases z⟩
  | al i=>cases e
  | br d'=>
    obtain ⟨rfl,v,rfl,r⟩:=h
    cases e
    exact ⟨v,rfl,r,fun z=>by cases z⟩
theorem FrF.slen (h:FrF K B F A σ H E xs Xs):σ.length=E.length:=by
  have e:=h.sl.len
  have:=h.len
  simp only [List.length_append,List.length_map] at e
  omega
theorem FrF.var {i:Nat} (h:FrF K B F A σ H E xs Xs) (e:E[i]? =some s):∃o A1,σ[i]? =some o∧SlOk K F H σ o s A1:=by
  obtain ⟨o,A0,A1,A2,eA,eo,hp,_⟩:=h.sl.at (k:=Xs.length+i) (s:=s) (by rw [List.getElem?_append_right (by omega)];simpa using e)
  rw [List.getElem?_append_right (by rw [List.length_map,h.len];omega),List.length_map,h.len,Nat.add_sub_cancel_left] at eo
  exact ⟨o,A1,eo,hp⟩
theorem FrF.ext {k:Nat} (h:FrF K B F A σ H E xs Xs) (e:Xs[k]? =some s):∃v A1,xs[k]? =some v∧SlOk K F H σ (some v) s A1:=by
  have hk:k < Xs.length:=(List.getElem?_eq_some_iff.mp e).1
  obtain ⟨o,A0,A1,A2,eA,eo,hp,_⟩:=h.sl.at (k:=k) (s:=s) (by rw [List.getElem?_append_left hk];exact e)
  rw [List.getElem?_append_left (by rw [List.length_map,h.len];omega),List.getElem?_map] at eo
  cases q:xs[k]? with
  | none=>rw [q] at eo;cases eo
  | some v=>rw [q] at eo;cases eo;exact ⟨v,A1,rfl,hp⟩
theorem FrF.look {k:Nat} (h:FrF K B F A σ H E xs Xs) (e:Xs[k]? =some s) (q:look E s=some d):∃v,xs[k]? =some v∧Rp K H v d∧(ck E s=false→RpF K F H v d):=by
  obtain ⟨v,A1,ev,hs⟩:=h.ext e
  cases s with
  | al i=>
    obtain ⟨rfl,w,ew,hw⟩:=hs
    cases ew
    cases ei:E[i]? with
    | none=>simp [PL.look,ei] at q
    | some t=>
      obtain ⟨o,A2,eo,ht⟩:=h.var ei
      rw [hw] at eo
      cases eo
      obtain ⟨v',e',r,c⟩:=ht.val h.fh (d:=d) (by simpa [PL.look,ei] using q)
      cases e'
      exact ⟨v,ev,r,fun z=>c (by simpa [ck,ei] using z)⟩
  | no=>cases q
  | od kvs=>cases q
  | sh d'=>obtain ⟨v',e',r,c⟩:=hs.val h.fh q;cases e';exact ⟨v,ev,r,c⟩
  | ow ds=>obtain ⟨v',e',r,c⟩:=hs.val h.fh q;cases e';exact ⟨v,ev,r,c⟩
  | tx ps=>obtain ⟨v',e',r,c⟩:=hs.val h.fh q;cases e';exact ⟨v,ev,r,c⟩
  | br d'=>obtain ⟨v',e',r,c⟩:=hs.val h.fh q;cases e';exact ⟨v,ev,r,c⟩
theorem FrF.look0 (h:FrF K B F A σ H E (v::xs) (s::Xs)) (q:PL.look E s=some d):Rp K H v d∧(ck E s=false→RpF K F H v d):=by
  obtain ⟨v',e,r⟩:=h.look (k:=0) rfl q
  cases e
  exact r
theorem FrF.look1 {w:V} {t:Sl} (h:FrF K B F A σ H E (w::v::xs) (t::s::Xs)) (q:PL.look E s=some d):Rp K H v d∧(ck E s=false→RpF K F H v d):=by
  obtain ⟨v',e,r⟩:=h.look (k:=1) rfl q
  cases e
  exact r
theorem FrF.mutA (h:FrF K B F A σ H E xs Xs):∀a∈A,(∃us,H a=some (.lst us))∨∃us,H a=some (.dK us):=
  SAll.all (R:=fun a=>(∃us,H a=some (.lst us))∨∃us,H a=some (.dK us)) (fun _ _ _ q=>q.mut) h.sl
theorem FrF.newA {p:Addr} (h:FrF K B F A σ H E xs Xs) (hp:H p=none):p∉A:=fun hm=>by
  rcases h.mutA p hm with ⟨_,z⟩ | ⟨_,z⟩ <;> rw [hp] at z <;> cases z
theorem FrF.cold {u:V} {e:PyData} (h:FrF K B F A σ H E xs Xs) (r:Rp K H u e) (f:aK e=true):Rp K F u e:=(r.cold f).same h.tf
theorem FrF.coldA {us:List V} {es:List PyData} (h:FrF K B F A σ H E xs Xs) (r:RpA K H us es) (f:a_ es=true):RpA K F us es:=(r.cold f).same h.tf
theorem FrF.push (h:FrF K B F A σ H E xs Xs) (q:SlOk K F H σ (some v) s []):FrF K B F A σ H E (v::xs) (s::Xs):=
  ⟨h.bf,h.fh,h.tf, .cons (A:=[]) q h.sl,h.nd,h.fr,by simp [h.len],h.pl⟩
theorem FrF.pop (h:FrF K B F A σ H E (v::xs) (s::Xs)):∃A',FrF K B F A' σ H E xs Xs:=by
  obtain ⟨bf,fh,tf,sl,nd,fr,len,pl⟩:=h
  generalize hT:List.map some (v::xs)++σ=T at sl
  generalize hS:(s::Xs)++E=S at sl
  cases sl with
  | nil=>cases hS
  | cons q r=>
    injection hT with _ hT
    injection hS with _ hS
    subst hT hS
    exact ⟨_,bf,fh,tf,r,(List.nodup_append.mp nd).2.1,fun a ha=>fr a (List.mem_append_right _ ha),by simpa using len,pl⟩
theorem FrF.grow {H':Hp} (h:FrF K B F A σ H E xs Xs) (g:Same H H'):FrF K B (fun b=>if b∈A then none else H' b) A σ H' E xs Xs:=by
  have nF:∀b o,F b=some o→b∉A:=fun b o e hb=>by rw [h.fr b hb] at e;cases e
  have FF:Same F (fun b=>if b∈A then none else H' b):=fun b o e=>by
    show (if b∈A then none else H' b)=some o
    rw [if_neg (nF b o e)]
    exact g _ _ (h.fh _ _ e)
  have hA:∀b∈A,H' b=H b:=fun b hb=>by
    rcases h.mutA b hb with ⟨_,z⟩ | ⟨_,z⟩ <;> rw [z,g _ _ z]
  refine ⟨h.bf.trans FF,fun b o e=>?_,fun b o e=>?_,h.sl.mono fun o s C _ hC q=>q.stay FF (fun b hb=>hA b (hC b hb)) fun _=>g,h.nd,fun a ha=>if_pos ha,h.len,h.pl⟩
  · by_cases hb:b∈A
    · rw [if_pos hb] at e;cases e
    · rw [if_neg hb] at e;exact e
  · obtain ⟨e1,e2⟩:=Option.filter_eq_some_iff.mp e
    show (if b∈A then none else H' b)=some o
    by_cases hb:b∈A
    · rw [hA b hb] at e1
      rcases h.mutA b hb with ⟨_,z⟩ | ⟨_,z⟩ <;> rw [z] at e1 <;> cases e1 <;> cases e2
    · rw [if_neg hb];exact e1
theorem FrF.newl {p:Addr} {vs:List V} {ds:List PyData} (h:FrF K B F A σ H E xs Xs) (r:RpA K F vs ds) (hp:H p=none):FrF K B F (p::A) σ (upd H p (.lst vs)) E (.ref p::xs) (.ow ds::Xs):=by
  have g:Same H (upd H p (.lst vs)):=cZ hp _
  have nA:=h.newA hp
  refine ⟨h.bf,h.fh.trans g,fun b o e=>?_, .cons (A:=[p]) ⟨p,vs,rfl,rfl,aY,r⟩ (h.sl.mono fun o s C _ hC q=>q.stay (Same.refl _) (fun b hb=>ax fun z=>nA (z▸hC b hb)) fun _=>g),List.nodup_cons.mpr ⟨nA,h.nd⟩,fun a ha=>?_,by simp [h.len],h.pl⟩
  · obtain ⟨e1,e2⟩:=Option.filter_eq_some_iff.mp e
    by_cases hb:b=p
    · subst hb;rw [aY] at e1;cases e1;cases e2
    · rw [ax hb] at e1;exact h.tf b o (df e1 e2)
  · rcases List.mem_cons.mp ha with z | z
    · subst z;exact h.fh.free hp
    · exact h.fr a z
theorem FrF.newt {p:Addr} {vs:List V} {ds:List PyData} (h:FrF K B F A σ H E xs Xs) (r:RpA K F vs ds) (hp:H p=none):FrF K B (upd F p (.tup vs)) A σ (upd H p (.tup vs)) E (.ref p::xs) (.sh (.tuple ds)::Xs):=by
  have g:Same H (upd H p (.tup vs)):=cZ hp _
  have nA:=h.newA hp
  have gF:Same F (upd F p (.tup vs)):=cZ (h.fh.free hp) _
  refine ⟨h.bf.trans gF,fun b o e=>?_,fun b o e=>?_, .cons (A:=[]) ⟨rfl,_,rfl, .tup (.inl (.inl aY)) (r.same gF)⟩ (h.sl.mono fun o s C _ hC q=>q.stay gF (fun b hb=>ax fun z=>nA (z▸hC b hb)) fun _=>g),h.nd,fun a ha=>?_,by simp [h.len],h.pl⟩
  · by_cases hb:b=p
    · subst hb;rw [aY] at e ⊢;exact e
    · rw [ax hb] at e ⊢;exact h.fh _ _ e
  · obtain ⟨e1,e2⟩:=Option.filter_eq_some_iff.mp e
    by_cases hb:b=p
    · subst hb;rw [aY] at e1 ⊢;exact e1
    · rw [ax hb] at e1 ⊢;exact h.tf b o (df e1 e2)
  · have ne:a≠p:=fun z=>nA (z▸ha)
    rw [ax ne];exact h.fr a ha
theorem FrF.mut {i:Nat} {ds:List PyData} (h:FrF K B F A σ H E xs Xs) (e:E[i]? =some (.ow ds)) (c:∀s∈Xs,s.isBr=false):
    ∃l vs,σ[i]? =some (some (.ref l))∧H l=some (.lst vs)∧RpA K F vs ds∧∀vs' ds',RpA K F vs' ds'→FrF K B F A σ (upd H l (.lst vs')) (E.set i (.ow ds')) xs Xs:=by
  obtain ⟨o,A0,A1,A2,eA,eo,hp,put⟩:=h.sl.at (k:=Xs.length+i) (s:= .ow ds) (by rw [List.getElem?_append_right (by omega)];simpa using e)
  rw [List.getElem?_append_right (by rw [List.length_map,h.len];omega),List.length_map,h.len,Nat.add_sub_cancel_left] at eo
  obtain ⟨l,vs,rfl,rfl,hl,r⟩:=hp
  refine ⟨l,vs,eo,hl,r,fun vs' ds' r'=>?_⟩
  have hlA:l∈A:=by rw [eA];simp
  have nl:∀b,b∈A0∨b∈A2→b≠l:=fun b hb z=>by
    subst z
    have nd:=h.nd
    rw [eA] at nd
    rcases hb with hb | hb
    · exact (List.nodup_append.mp nd).2.2 b hb b (by simp) rfl
    · exact (List.nodup_append.mp (List.nodup_append.mp nd).2.1).2.2 b (by simp) b hb rfl
  have lF:F l=none:=h.fr l hlA
  have z:=put (SlOk K F (upd H l (.lst vs')) σ) (some (.ref l)) (.ow ds') [l] ⟨l,vs',rfl,rfl,aY,r'⟩ fun o s C hs hC q=>q.stay (Same.refl _) (fun b hb=>ax (nl b (hC b hb))) fun z=>by
    rcases List.mem_append.mp hs with hs | hs
    · rw [c s hs] at z;cases z
    · have:=h.pl s hs
      cases s <;> simp [Sl.isAl,Sl.isBr] at this z
  have e3:(Xs++E).set (Xs.length+i) (.ow ds')=Xs++E.set i (.ow ds'):=by
    rw [List.set_append_right _ _ (by omega),Nat.add_sub_cancel_left]
  have e2:(List.map some xs++σ).set (Xs.length+i) (some (V.ref l))=List.map some xs++σ:=by
    rw [←h.len,List.set_append_right _ _ (by rw [List.length_map];omega),List.length_map,Nat.add_sub_cancel_left]
    congr 1
    exact List.ext_getElem? fun j=>by
      by_cases hj:i=j
      · subst hj
        rw [List.getElem?_set_self',eo];rfl
      · rw [List.getElem?_set_ne hj]
  rw [e2,e3,←eA] at z
  refine ⟨h.bf,fun b o q=>?_,?_,z,h.nd,h.fr,h.len,fun s hs=>?_⟩
  · rw [ax (fun z=>by rw [z,lF] at q;cases q)]
    exact h.fh _ _ q
  · rw [lf hl];exact h.tf
  · rcases List.mem_or_eq_of_mem_set hs with hs | hs
    · exact h.pl s hs
    · subst hs;rfl
theorem FrF.frzAt {k:Nat} (h:FrF K B F A σ H E xs Xs) (e:(Xs++E)[k]? =some s) (q:s.val=some d) (c:s.isAl=false):
    ∃F' A' v,(xs.map some++σ)[k]? =some (some v)∧Rp K F' v d∧Same B F'∧Same F' H∧Same (tups H) F'∧SAll (SlOk K F' H σ) (xs.map some++σ) ((Xs++E).set k (.sh d)) A'∧A'.Nodup∧∀a∈A',F' a=none:=by
  obtain ⟨o,A0,A1,A2,eA,eo,hp,put⟩:=h.sl.at e
  have nd:=h.nd
  rw [eA] at nd
  have nA1:∀b o,F b=some o→b∉A1:=fun b o e hb=>by
    have:=h.fr b (by rw [eA];simp [hb])
    rw [this] at e;cases e
  have FF:Same F (ic F H A1):=fun b o e=>by rw [fz (nA1 b o e)];exact e
  obtain ⟨v,rfl,r⟩:∃v,o=some v∧Rp K (ic F H A1) v d:=by
    cases s with
    | no=>cases q
    | od kvs=>cases q
    | al i=>cases c
    | br d'=>cases c
    | sh d'=>
      obtain ⟨rfl,v,rfl,r⟩:=hp
      cases q
      exact ⟨v,rfl,r.same FF⟩
    | ow ds=>
      obtain ⟨l,vs,rfl,rfl,hl,r⟩:=hp
      cases q
      exact ⟨_,rfl, .lst (SqL.of ((gK (by simp)).trans hl)) (r.same FF)⟩
    | tx ps=>
      obtain ⟨t,vs,rfl,ht,r⟩:=hp
      cases q
      refine ⟨_,rfl, .tup (SqT.of (FF _ _ ht)) ?_⟩
      have r':PtsOk K (ic F H A1) (ic F H A1) vs ps A1:=r.stay FF fun b hb=>gK hb
      exact r'.rp (Same.refl _)
  have e2:(List.map some xs++σ).set k (some v)=List.map some xs++σ:=List.ext_getElem? fun j=>by
    by_cases hj:k=j
    · subst hj
      rw [List.getElem?_set_self',eo];rfl
    · rw [List.getElem?_set_ne hj]
  have z:=put (SlOk K (ic F H A1) H σ) (some v) (.sh d) [] ⟨rfl,v,rfl,r⟩ fun o s C _ hC q=>q.stay FF (fun b _=>rfl) fun _=>Same.refl _
  rw [e2] at z
  refine ⟨ic F H A1,A0++A2,v,eo,r,h.bf.trans FF,fun b o e=>?_,fun b o e=>FF _ _ (h.tf _ _ e),by simpa using z,?_,fun a ha=>?_⟩
  · by_cases hb:b∈A1
    · rw [gK hb] at e;exact e
    · rw [fz hb] at e;exact h.fh _ _ e
  · exact List.Nodup.sublist (List.Sublist.append (List.Sublist.refl _) (List.sublist_append_right _ _)) nd
  · have hn:a∉A1:=fun hm=>by
      rcases List.mem_append.mp ha with z | z
      · exact (List.nodup_append.mp nd).2.2 a z a (by simp [hm]) rfl
      · exact (List.nodup_append.mp (List.nodup_append.mp nd).2.1).2.2 a hm a z rfl
    rw [fz hn]
    exact h.fr a (by rw [eA];rcases List.mem_append.mp ha with z | z <;> simp [z])
end
def frz (E:List Sl):Sl→Option (PyData×List Sl)
  | .sh d=>some (d,E)
  | .ow ds=>some (.list ds,E)
  | .tx ps=>some (.tuple (ps.map Pt.val),E)
  | .br d=>if aK d then some (d,E) else none
  | .al i=>match E[i]? with
    | some (.sh d)=>some (d,E)
    | some (.ow ds)=>some (.list ds,E.set i (.sh (.list ds)))
    | some (.tx ps)=>some (.tuple (ps.map Pt.val),E.set i (.sh (.tuple (ps.map Pt.val))))
    | _=>none
  | _=>none
section
variable {K:PySem.W.Frag} {B F:Hp} {A:List Addr} {σ:Sg} {H:Hp} {E E':List Sl} {xs:List V} {Xs:List Sl} {v:V} {s:Sl} {d:PyData}
theorem FrF.frzVar {i:Nat} (h:FrF K B F A σ H E xs Xs) (e:E[i]? =some s) (q:s.val=some d):∃F' A' v,σ[i]? =some (some v)∧Rp K F' v d∧FrF K B F' A' σ H (E.set i (.sh d)) xs Xs:=by
  obtain ⟨F',A',v,ev,r,b1,b2,b3,sl,nd,fr⟩:=h.frzAt (k:=Xs.length+i) (by rw [List.getElem?_append_right (by omega)];simpa using e) q (h.pl s (List.mem_of_getElem? e))
  rw [List.getElem?_append_right (by rw [List.length_map,h.len];omega),List.length_map,h.len,Nat.add_sub_cancel_left] at ev
  have e3:(Xs++E).set (Xs.length+i) (.sh d)=Xs++E.set i (.sh d):=by
    rw [List.set_append_right _ _ (by omega),Nat.add_sub_cancel_left]
  rw [e3] at sl
  refine ⟨F',A',v,ev,r,b1,b2,b3,sl,nd,fr,h.len,fun s hs=>?_⟩
  rcases List.mem_or_eq_of_mem_set hs with hs | hs
  · exact h.pl s hs
  · subst hs;rfl
theorem FrF.frz0 (h:FrF K B F A σ H E (v::xs) (s::Xs)) (q:PL.frz E s=some (d,E')):∃F' A',FrF K B F' A' σ H E' (v::xs) (.sh d::Xs):=by
  have key:s.val=some d→s.isAl=false→E=E'→∃F' A',FrF K B F' A' σ H E' (v::xs) (.sh d::Xs):=fun q' c e=>by
    subst e
    obtain ⟨F',A',v',ev,r,b1,b2,b3,sl,nd,fr⟩:=h.frzAt (k:=0) rfl q' c
    exact ⟨F',A',b1,b2,b3,sl,nd,fr,by simpa using h.len,h.pl⟩
  have al:∀i t,s= .al i→E[i]? =some t→t.val=some d→E'=E.set i (.sh d)→∃F' A',FrF K B F' A' σ H E' (v::xs) (.sh d::Xs):=fun i t es ei qt eE=>by
    subst es eE
    obtain ⟨v',A1,ev,hs⟩:=h.ext (k:=0) rfl
    cases ev
    obtain ⟨rfl,w,ew,hw⟩:=hs
    cases ew
    obtain ⟨F',A',w,ew,r,h'⟩:=h.frzVar ei qt
    rw [hw] at ew
    cases ew
    obtain ⟨A2,h2⟩:=h'.pop
    exact ⟨F',A2,h2.push ⟨rfl,_,rfl,r⟩⟩
  cases s with
  | no=>cases q
  | od kvs=>cases q
  | sh d'=>cases q;exact key rfl rfl rfl
  | ow ds=>cases q;exact key rfl rfl rfl
  | tx ps=>cases q;exact key rfl rfl rfl
  | br d'=>
    simp only [PL.frz] at q
    split at q
    · rename_i hf
      cases q
      obtain ⟨r,_⟩:=h.look0 (d:=d) rfl
      obtain ⟨A2,h2⟩:=h.pop
      exact ⟨F,A2,h2.push ⟨rfl,_,rfl,h.cold r hf⟩⟩
    · cases q
  | al i=>
    simp only [PL.frz] at q
    split at q
    · rename_i d' ei
      cases q
      refine al i _ rfl ei rfl ?_
      exact List.ext_getElem? fun j=>by
        by_cases hj:i=j
        · subst hj;rw [List.getElem?_set_self',ei];rfl
        · rw [List.getElem?_set_ne hj]
    · rename_i ds ei
      cases q
      exact al i _ rfl ei rfl rfl
    · rename_i ps ei
      cases q
      exact al i _ rfl ei rfl rfl
    · cases q
theorem FrF.store {i:Nat} (h:FrF K B F A σ H E (v::xs) (s::Xs)) (c:s.isAl=false) (cx:∀s∈Xs,s.isAl=false) (hi:i < E.length):∃A',FrF K B F A' (σ.set i (some v)) H (E.set i s) xs Xs:=by
  have hlen:=h.len
  have hsl:=h.slen
  obtain ⟨bf,fh,tf,sl,nd,fr,len,pl⟩:=h
  generalize hT:List.map some (v::xs)++σ=T at sl
  generalize hS:(s::Xs)++E=S at sl
  cases sl with
  | nil=>cases hS
  | cons q r=>
    rename_i A1 _ _ A2
    injection hT with h1 hT
    injection hS with h2 hS
    subst h1 h2 hT hS
    have len':xs.length=Xs.length:=by simpa using len
    have r:SAll (SlOk K F H σ) (List.map some xs++σ) (Xs++E) A2:=r
    obtain ⟨t,et⟩:∃t,E[i]? =some t:=⟨E[i],List.getElem?_eq_getElem hi⟩
    obtain ⟨o,C0,C1,C2,eA,eo,hp,put⟩:=r.at (k:=Xs.length+i) (s:=t) (by rw [List.getElem?_append_right (by omega)];simpa using et)
    have all:∀s'∈Xs++E,s'.isAl=false:=fun s' hs=>(List.mem_append.mp hs).elim (cx s') (pl s')
    have chg:∀(o:Option V) (s':Sl) (C:List Addr),s'.isAl=false→SlOk K F H σ o s' C→SlOk K F H (σ.set i (some v)) o s' C:=fun o s' C hc z=>by
      cases s' <;> first | exact z | cases hc
    have z:=put (SlOk K F H (σ.set i (some v))) (some v) s A1 (chg _ _ _ c q) fun o s' C hs _ z=>chg o s' C (all s' hs) z
    have e3:(Xs++E).set (Xs.length+i) s=Xs++E.set i s:=by
      rw [List.set_append_right _ _ (by omega),Nat.add_sub_cancel_left]
    have e2:(List.map some xs++σ).set (Xs.length+i) (some v)=List.map some xs++σ.set i (some v):=by
      rw [←len',List.set_append_right _ _ (by rw [List.length_map];omega),List.length_map,Nat.add_sub_cancel_left]
    rw [e2,e3] at z
    refine ⟨_,bf,fh,tf,z,?_,fun a ha=>fr a ?_,len',fun s' hs=>?_⟩
    · rw [eA] at nd
      have p:(C0++(A1++C2)).Perm (A1++(C0++C2)):=by
        rw [←List.append_assoc,←List.append_assoc]
        exact List.Perm.append_right _ List.perm_append_comm
      refine p.nodup_iff.mpr (List.Nodup.sublist ?_ nd)
      exact List.Sublist.append (List.Sublist.refl _) (List.Sublist.append (List.Sublist.refl _) (List.sublist_append_right _ _))
    · rw [eA]
      simp only [List.mem_append] at ha ⊢
      rcases ha with z | z | z
      · exact .inr (.inl z)
      · exact .inl z
      · exact .inr (.inr (.inr z))
    · rcases List.mem_or_eq_of_mem_set hs with hs | hs
      · exact pl s' hs
      · subst hs;exact c
end
end PL
namespace PL
open PySem L2 Nh
abbrev bF:=List Sl→Option (Sl×List Sl)
abbrev iP:=List Sl→Option (Bool×List Sl)
abbrev ie:=List Sl→Option (List Sl×List Sl)
abbrev hO:=List Sl→Option (List PyData×List Sl)
inductive Fl where
  | nx | bk | ct | rt (r:Sl)
abbrev bZ:=List Sl→Option (List Sl×Fl)
abbrev Calm (Xs:List Sl):Prop:=∀s∈Xs,s.isBr=false
abbrev Still (Xs:List Sl):Prop:=∀s∈Xs,s.isAl=false
theorem Still.calm {Xs:List Sl} (h:Still Xs):Calm Xs:=fun s hs=>by
  have:=h s hs
  cases s <;> simp [Sl.isAl,Sl.isBr] at this ⊢
theorem Still.nil {Xs:List Sl} (h:Xs=[]):Still Xs:=fun s hs=>by subst h;cases hs
theorem Calm.nil {Xs:List Sl} (h:Xs=[]):Calm Xs:=(Still.nil h).calm
theorem Calm.cons {Xs:List Sl} {s:Sl} (h:Calm Xs) (hs:s.isBr=false):Calm (s::Xs):=fun t ht=>(List.mem_cons.mp ht).elim (fun e=>e▸hs) (h t)
def rd (K:PySem.W.Frag) (m:Bool) (f:bF):TE:=fun σ H Q=>∃B E xs Xs r E',Frm K B σ H E xs Xs∧(m=true→Calm Xs)∧f E=some (r,E')∧∀v H',Frm K B σ H' E' (v::xs) (r::Xs)→Q v H'
def rt (K:PySem.W.Frag) (m:Bool) (f:iP):TT:=fun σ H Q=>∃B E xs Xs b E',Frm K B σ H E xs Xs∧(m=true→Calm Xs)∧f E=some (b,E')∧∀H',Frm K B σ H' E' xs Xs→Q b H'
def ra (K:PySem.W.Frag) (m:Bool) (f:ie):TA:=fun σ H Q=>∃B E xs Xs rs E',Frm K B σ H E xs Xs∧(m=true→Calm Xs)∧f E=some (rs,E')∧∀vs H',vs.length=rs.length→Frm K B σ H' E' (vs.reverse++xs) (rs.reverse++Xs)→Q vs H'
def uv (K:PySem.W.Frag) (m:Bool) (f:hO):TA:=fun σ H Q=>∃B E xs Xs ds E',Frm K B σ H E xs Xs∧(m=true→Calm Xs)∧f E=some (ds,E')∧∀vs H',vs.length=ds.length→Frm K B σ H' E' (vs.reverse++xs) (ds.reverse.map .sh++Xs)→Q vs H'
def rs (K:PySem.W.Frag) (g:bZ):TS:=fun D σ H=>∃B E xs Xs E' fl,Frm K B σ H E xs Xs∧Xs=[]∧g E=some (E',fl)∧match fl with
  | .nx=>∀σ' H',Frm K B σ' H' E' xs Xs→D.nx σ' H'
  | .bk=>∀σ' H',Frm K B σ' H' E' xs Xs→D.bk σ' H'
  | .ct=>∀σ' H',Frm K B σ' H' E' xs Xs→D.ct σ' H'
  | .rt r=>∀σ' v H',Frm K B σ' H' E' (v::xs) (r::Xs)→D.rt v H'
def EX (X:Cx) (e:Expr) (m:Bool) (f:bF):Prop:=PE X e (rd X.K m f)
def TX (X:Cx) (e:Expr) (m:Bool) (f:iP):Prop:=PT X e (rt X.K m f)
def WX (X:Cx) (e:Expr) (m:Bool) (f:iP):Prop:=PW X e (rt X.K m f)
def AX (X:Cx) (es:List Expr) (m:Bool) (f:ie):Prop:=PA X es (ra X.K m f)
def DX (X:Cx) (es:List Expr) (m:Bool) (f:hO):Prop:=PA X es (uv X.K m f)
def SX (X:Cx) (s:Stmt) (g:bZ):Prop:=PS X s (rs X.K g)
def iZ (X:Cx) (s:List Stmt) (g:bZ):Prop:=PSs X s (rs X.K g)
section
variable {X:Cx}
theorem ba {e:Expr} {t t':TE} (h:PE X e t) (k:∀σ H Q,t' σ H Q→t σ H Q):PE X e t':=fun pins s σ H Q I q=>h pins s σ H Q I (k σ H Q q)
theorem gL {e:Expr} {t t':TT} (h:PT X e t) (k:∀σ H Q,t' σ H Q→t σ H Q):PT X e t':=fun pins s σ H Q I q=>h pins s σ H Q I (k σ H Q q)
theorem lg {e:Expr} {t t':TT} (h:PW X e t) (k:∀σ H Q,t' σ H Q→t σ H Q):PW X e t':=fun whole pins s σ H Q I q=>h whole pins s σ H Q I (k σ H Q q)
theorem gM {es:List Expr} {t t':TA} (h:PA X es t) (k:∀σ H Q,t' σ H Q→t σ H Q):PA X es t':=fun pos pins s σ H Q I q=>h pos pins s σ H Q I (k σ H Q q)
theorem dY {st:Stmt} {t t':TS} (h:PS X st t) (k:∀D σ H,t' D σ H→t D σ H):PS X st t':=fun pins s σ H D I q=>h pins s σ H D I (k D σ H q)
theorem jA {st:List Stmt} {t t':TS} (h:PSs X st t) (k:∀D σ H,t' D σ H→t D σ H):PSs X st t':=fun pins s σ H D I q=>h pins s σ H D I (k D σ H q)
end
def ov:PyData→Option V
  | .none=>some .non
  | .bool b=>some (.bl b)
  | .int i=>some (.int i)
  | .str x=>some (.str x)
  | _=>none
theorem fA {K:PySem.W.Frag} {H:Hp} {d:PyData} {v:V} (h:ov d=some v):Rp K H v d:=by
  cases d <;> simp [ov] at h <;> subst h <;> constructor
def ac (i:Nat):bF:=fun E=>match E[i]? with
  | some (.sh d)=>some (.sh d,E)
  | some (.ow _)=>some (.al i,E)
  | some (.od _)=>some (.al i,E)
  | some (.tx _)=>some (.al i,E)
  | _=>none
def pC (d:PyData):bF:=fun E=>some (.sh d,E)
section
variable {X:Cx} {K:PySem.W.Frag}
theorem aa (i:Nat) {x:Str} {pos:Pos} (hN:X.N[i]? =some x:=by rfl) (hv:jk X.env.scope x:=by first | exact Or.inl rfl | exact Or.inr (Or.inl rfl) | exact Or.inr (Or.inr rfl)) (hd:(x == ("__debug__":Str))=false:=by decide)
    (hcd:(x == ("__classdict__":Str))=false:=by decide):EX X (.Name x pos) false (ac i):=by
  refine ba (fq hN hv hd hcd) fun σ H Q h=>?_
  obtain ⟨B,E,xs,Xs,r,E',⟨F,A,fr⟩,_,e,q⟩:=h
  unfold ac at e
  split at e
  · rename_i d ei
    cases e
    obtain ⟨o,A1,eo,rfl,v,rfl,rp⟩:=fr.var ei
    exact ⟨v,eo,q v H ⟨F,A,fr.push ⟨rfl,v,rfl,rp⟩⟩⟩
  · rename_i ds ei
    cases e
    obtain ⟨o,A1,eo,l,vs,rfl,_⟩:=fr.var ei
    exact ⟨_,eo,q _ H ⟨F,A,fr.push ⟨rfl,_,rfl,eo⟩⟩⟩
  · rename_i ds ei
    cases e
    obtain ⟨o,A1,eo,l,vs,A2,rfl,_⟩:=fr.var ei
    exact ⟨_,eo,q _ H ⟨F,A,fr.push ⟨rfl,_,rfl,eo⟩⟩⟩
  · rename_i ds ei
    cases e
    obtain ⟨o,A1,eo,l,vs,rfl,_⟩:=fr.var ei
    exact ⟨_,eo,q _ H ⟨F,A,fr.push ⟨rfl,_,rfl,eo⟩⟩⟩
  · cases e
theorem mV {e:Expr} {v:V} (d:PyData) (h:PE X e (tC v)) (hd:ov d=some v:=by rfl):EX X e false (pC d):=by
  refine ba h fun σ H Q h=>?_
  obtain ⟨B,E,xs,Xs,r,E',⟨F,A,fr⟩,_,e,q⟩:=h
  cases e
  exact q v H ⟨F,A,fr.push ⟨rfl,v,rfl,fA hd⟩⟩
theorem ag {i j pos}:EX X (.Constant (.int i) j pos) false (pC (.int i)):=mV _ oW
theorem fB {b j pos}:EX X (.Constant (.bool b) j pos) false (pC (.bool b)):=mV _ kI
theorem fD {j pos}:EX X (.Constant .none j pos) false (pC .none):=mV _ oX
theorem aE {x j pos}:EX X (.Constant (.str x) j pos) false (pC (.str x)):=mV _ kJ
end
abbrev P2:=List Sl→Sl→Sl→Option (Sl×List Sl)
def dy (K:PySem.W.Frag) (r:R2) (p:P2):Prop:=∀{B F:Hp} {A:List Addr} {σ:Sg} {H:Hp} {E:List Sl} {xs:List V} {Xs:List Sl} {v1 v2:V} {s1 s2 res:Sl} {E':List Sl} {Q:VK},
  FrF K B F A σ H E (v2::v1::xs) (s2::s1::Xs)→p E s1 s2=some (res,E')→(∀v H',Frm K B σ H' E' (v::xs) (res::Xs)→Q v H')→r v1 v2 H Q
def ad (p:P2) (m2:Bool) (f g:bF):bF:=fun E=>(f E).bind fun a=>if m2&&a.1.isBr then none else (g a.2).bind fun b=>p b.2 a.1 b.1
theorem gN {K:PySem.W.Frag} {r:R2} {p:P2} (hp:dy K r p) {m1 m2:Bool} {f g:bF} {σ:Sg} {H:Hp} {Q:VK} (h:rd K (m1||m2) (ad p m2 f g) σ H Q):q_ r (rd K m1 f) (rd K m2 g) σ H Q:=by
  obtain ⟨B,E,xs,Xs,res,E',fr,c,e,q⟩:=h
  obtain ⟨⟨s1,E1⟩,e1,e⟩:=Option.bind_eq_some_iff.mp e
  by_cases hb:(m2&&s1.isBr)=true
  · rw [if_pos hb] at e;cases e
  rw [if_neg hb] at e
  obtain ⟨⟨s2,E2⟩,e2,e⟩:=Option.bind_eq_some_iff.mp e
  refine ⟨B,E,xs,Xs,s1,E1,fr,fun z=>c (by simp [z]),e1,fun v1 H1 fr1=>?_⟩
  refine ⟨B,E1,v1::xs,s1::Xs,s2,E2,fr1,fun z=>?_,e2,fun v2 H2 fr2=>?_⟩
  · refine Calm.cons (c (by simp [z])) ?_
    cases hs:s1.isBr with
    | false=>rfl
    | true=>exact absurd (by simp [z,hs]) hb
  · obtain ⟨F,A,fr2⟩:=fr2
    exact hp fr2 e q
def bR (op:PyData→PyData→Option PyData):P2:=fun E s1 s2=>(look E s1).bind fun d1=>(look E s2).bind fun d2=>(op d1 d2).map fun d=>(.sh d,E)
theorem FrF.res2 {K:PySem.W.Frag} {B F:Hp} {A:List Addr} {σ:Sg} {H:Hp} {E:List Sl} {xs:List V} {Xs:List Sl} {v1 v2 v:V} {s1 s2 s:Sl} (h:FrF K B F A σ H E (v2::v1::xs) (s2::s1::Xs)) (q:SlOk K F H σ (some v) s []):Frm K B σ H E (v::xs) (s::Xs):=by
  obtain ⟨A1,h⟩:=h.pop
  obtain ⟨A2,h⟩:=h.pop
  exact ⟨F,A2,h.push q⟩
theorem dZ {K:PySem.W.Frag} {r:R2} {op:PyData→PyData→Option PyData} (h:∀(d1 d2 d:PyData) (v1 v2:V) (H:Hp) (Q:VK),op d1 d2=some d→Rp K H v1 d1→Rp K H v2 d2→∃v,ov d=some v∧(Q v H→r v1 v2 H Q)):dy K r (bR op):=by
  intro B F A σ H E xs Xs v1 v2 s1 s2 res E' Q fr e q
  obtain ⟨d1,e1,e⟩:=Option.bind_eq_some_iff.mp e
  obtain ⟨d2,e2,e⟩:=Option.bind_eq_some_iff.mp e
  obtain ⟨d,e3,e⟩:=Option.map_eq_some_iff.mp e
  cases e
  obtain ⟨v,hv,k⟩:=h d1 d2 d v1 v2 H Q e3 (fr.look1 e1).1 (fr.look0 e2).1
  exact k (q v H (fr.res2 ⟨rfl,v,rfl,fA hv⟩))
section
variable {X:Cx} {a b:Expr} {m1 m2:Bool} {f g:bF} {pos:Pos}
theorem gq {op:Operator} {r:R2} {p:P2} (ho:OpR X (binaryOp op) r) (hp:dy X.K r p) (ha:EX X a m1 f) (hb:EX X b m2 g):EX X (.BinOp a op b pos) (m1||m2) (ad p m2 f g):=ba (re ho ha hb) fun _ _ _ h=>gN hp h
theorem i3 {op:CmpOp} {r:R2} {p:P2} (ho:OpR X (compareOp op) r) (hp:dy X.K r p) (ha:EX X a m1 f) (hb:EX X b m2 g) (hm:behindInMarks op b=false):EX X (.Compare a [op] [b] pos) (m1||m2) (ad p m2 f g):=ba (mJ ho ha hb hm) fun _ _ _ h=>gN hp h
def cT (f:bF):iP:=fun E=>(f E).bind fun a=>match a.1 with
  | .sh (.bool b)=>some (b,a.2)
  | _=>none
theorem lh {K:PySem.W.Frag} {m:Bool} {f:bF} {σ:Sg} {H:Hp} {Q:Bool→Hp→Prop} (h:rt K m (cT f) σ H Q):rd K m f σ H (fun x H'=>∃k,x= .bl k∧Q k H'):=by
  obtain ⟨B,E,xs,Xs,b,E',fr,c,e,q⟩:=h
  obtain ⟨⟨s,E1⟩,e1,e⟩:=Option.bind_eq_some_iff.mp e
  refine ⟨B,E,xs,Xs,s,E1,fr,c,e1,fun v H' ⟨F,A,fr'⟩=>?_⟩
  simp only at e
  split at e
  · cases e
    obtain ⟨r,_⟩:=fr'.look0 (d:= .bool b) rfl
    cases r
    obtain ⟨A',fr2⟩:=fr'.pop
    exact ⟨b,rfl,q H' ⟨F,A',fr2⟩⟩
  · cases e
theorem gO {op:CmpOp} {r:R2} {p:P2} (ho:OpR X (compareOp op) r) (hp:dy X.K r p) (ha:EX X a m1 f) (hb:EX X b m2 g) (hm:behindInMarks op b=false):TX X (.Compare a [op] [b] pos) (m1||m2) (cT (ad p m2 f g)):=by
  refine gL (mK ho ha hb hm) fun σ H Q h=>?_
  exact gN hp (lh h)
end
def pF:Int:=2 ^ 20000
def cG (i j:Int):Bool:=decide (-(2 ^ 64) < i∧i < 2 ^ 64)||decide (-(2 ^ 64) < j∧j < 2 ^ 64)||decide (-pF < i∧i < pF∧ -pF < j∧j < pF)
def bV (j:Int):Bool:=decide (0 < j∧j < 2 ^ 200)
def e9 (C:Int→Int→Bool) (g:Int→Int→PyData):PyData→PyData→Option PyData
  | .int i, .int j=>if C i j then some (g i j) else none
  | _,_=>none
abbrev qM (C:Int→Int→Bool) (g:Int→Int→V):R2:=rI (fun i j=>C i j=true) g
theorem gP {K:PySem.W.Frag} {C:Int→Int→Bool} {g:Int→Int→PyData} {g':Int→Int→V} (hg:∀i j,ov (g i j)=some (g' i j)):dy K (qM C g') (bR (e9 C g)):=by
  refine dZ fun d1 d2 d v1 v2 H Q e r1 r2=>?_
  unfold e9 at e
  split at e
  · split at e
    · cases e
      cases r1
      cases r2
      rename_i hC
      exact ⟨_,hg _ _,fun q=>⟨_,_,rfl,rfl,hC,q⟩⟩
    · cases e
  · cases e
section
variable {X:Cx}
theorem e7 {i:Int} (h1: -pF < i) (h2:i < pF):Builtin.Int.intBits i≤2 ^ 20:=by
  unfold pF at h1 h2
  have h:i.natAbs < 2 ^ 20000:=by
    have e:((2 ^ 20000:Nat):Int)=2 ^ 20000:=Int.natCast_pow 2 20000
    generalize (2 ^ 20000:Int)=z at h1 h2 e
    generalize (2 ^ 20000:Nat)=y at e ⊢
    omega
  unfold Builtin.Int.intBits
  split
  · exact Nat.zero_le _
  · rename_i hz
    have hz':i≠0:=by simpa using hz
    have:i.natAbs.log2 < 20000:=(Nat.log2_lt (by omega)).mpr h
    omega
theorem li {i j:Int} (h:cG i j=true):PySem.IntMulOk i j:=by
  unfold cG at h
  simp only [Bool.or_eq_true,decide_eq_true_eq] at h
  rcases h with (h | h) | h
  · exact CMul.ok (.inl h)
  · exact CMul.ok (.inr h)
  · exact PySem.IntMulOk.of_bits (e7 h.1 h.2.1) (e7 h.2.2.1 h.2.2.2)
end
end PL
namespace PL
open PySem L2 Nh PyProof.Rows
abbrev fW:=L2.St
section
variable {X:Cx}
theorem OpR.or {f:Value→Value→Sem Value} {r r':R2} (h:OpR X f r) (h':OpR X f r'):OpR X f (fun x y H Q=>r x y H Q∨r' x y H Q):=by
  intro pins s σ H x y v u Q I rx ry q
  rcases q with q | q
  · exact h pins s σ H x y v u Q I rx ry q
  · exact h' pins s σ H x y v u Q I rx ry q
theorem OpR.imp {f:Value→Value→Sem Value} {r r':R2} (h:OpR X f r) (k:∀x y H Q,r' x y H Q→r x y H Q):OpR X f r':=fun pins s σ H x y v u Q I rx ry q=>h pins s σ H x y v u Q I rx ry (k _ _ _ _ q)
def ox (K:PySem.W.Frag):R2:=fun x y H Q=>∃l b xs zs,x= .ref l∧y= .ref b∧SqL K H l xs∧SqL K H b zs∧xs.length+zs.length≤sizeLine∧∀p,H p=none→Q (.ref p) (upd H p (.lst (xs++zs)))
theorem mW:OpR X (binaryOp .Add) (ox X.K):=by
  intro pins s σ H x y v u Q I rx ry h
  obtain ⟨l,b,xs,zs,rfl,rfl,hH,hB,hz,q⟩:=h
  cases rx
  cases ry
  obtain ⟨its,r,p1,z1⟩:=I.list hH
  obtain ⟨its2,r2,p2,z2⟩:=I.list hB
  obtain ⟨⟨cls,dd,data,sl⟩,ho,hc,n,hd⟩:=p1.isList
  obtain ⟨⟨cls2,dd2,data2,sl2⟩,ho2,hc2,n2,oq⟩:=p2.isList
  simp only at hc hd hc2 oq
  subst hc hd hc2 oq
  have l1:=r.length
  have l2:=r2.length
  refine concat_meets ⟨_,ho,rfl⟩ ⟨_,ho2,rfl⟩ noFill_list_add seq_list_add PySem.F.slot_list_add PySem.F.entry_list_add (PySem.F.args_list_add_2 _ _) (list_addW l b its.toArray its2.toArray n n2 dd dd2 sl sl2 (by simp only [List.size_toArray];omega)) ⟨ho,ho2,?_⟩
  have ea:its.toArray++its2.toArray=(its++its2).toArray:=by simp
  rw [ea]
  exact ⟨.ref _,_,I.lnew (t':=s.toks) (r.append r2) (by rw [List.length_append];omega),rfl,q _ I.fresh⟩
def oy (K:PySem.W.Frag):R2:=fun x y H Q=>∃l k xs,x= .ref l∧y= .int k∧SqL K H l xs∧ -(2 ^ 63)≤k∧k < 2 ^ 63∧xs.length*k.toNat≤sizeLine∧
  ∀p,H p=none→Q (.ref p) (upd H p (.lst (List.replicate k.toNat xs).flatten))
theorem mX:OpR X (binaryOp .Mult) (oy X.K):=by
  intro pins s σ H x y v u Q I rx ry h
  obtain ⟨l,k,xs,rfl,rfl,hH,h1,h2,hz,q⟩:=h
  cases rx
  obtain ⟨t,rfl⟩:=ry
  obtain ⟨its,r,p1,z1⟩:=I.list hH
  obtain ⟨⟨cls,d,data,sl⟩,ho,hcl,n,hd⟩:=p1.isList
  simp only at hcl hd
  subst hcl hd
  have l1:=r.length
  have hsz:its.toArray.size*k.toNat≤2 ^ 24:=by rw [List.size_toArray,←l1];exact hz
  refine wpAny_binaryOp_repeat_ref (T:="list") (U:="int") (by decide) ⟨_,ho,rfl⟩ (fun s'=>typeIs_int s' k t) noFill_list_mul F.fills_int_mul F.slot_int_rmul repeat_list F.slot_int_index.lookup
    (call_meets F.slot_int_rmul (typeIs_int s k t) F.entry_int_rmul (F.args_int_rmul_2 _ _) (lm_int_rmul_list_any k t l its.toArray n d sl)
      ⟨ho,rfl,⟨_,ho,rfl⟩,call_meets F.slot_list_mul ⟨_,ho,rfl⟩ F.entry_list_mul (F.args_list_mul_2 _ _)
        (lm_list_mul_any l its.toArray n d sl k t (by simp [Builtin.List.listFitsIndex];omega) (by omega) (by simp [Builtin.List.listTooLong,sizeLine];omega))
        ⟨ho,?_⟩⟩)
  rw [listMul_foldl_if]
  exact ⟨.ref _,_,I.lnew (t':=s.toks) (r.rep k.toNat) (by rw [mU,Nat.mul_comm];exact hz),rfl,q _ I.fresh⟩
end
def bW:P2:=fun E s1 s2=>(look E s1).bind fun d1=>(look E s2).bind fun d2=>match d1,d2 with
  | .int i, .int j=>some (.sh (.int (i+j)),E)
  | .str a, .str b=>if a.length+b.length≤1000000 then some (.sh (.str (a++b)),E) else none
  | .list a, .list b=>if decide (a.length+b.length≤1000000)&&(!ck E s1||a_ a)&&(!ck E s2||a_ b) then some (.ow (a++b),E) else none
  | _,_=>none
theorem oz {n:Nat} (h:n≤1000000):n < sizeLine:=Nat.lt_of_le_of_lt h (by rw [sizeLine_eq];decide)
theorem dg {n:Nat} (h:n≤1000000):n≤sizeLine:=Nat.le_of_lt (oz h)
section
variable {K:PySem.W.Frag} {B F:Hp} {A:List Addr} {σ:fW} {H:Hp} {E:List Sl} {xs:List V} {Xs:List Sl} {v:V} {s:Sl} {ds:List PyData}
theorem FrF.items {k:Nat} (h:FrF K B F A σ H E xs Xs) (e:Xs[k]? =some s) (q:PL.look E s=some (.list ds)) (c:(!ck E s||a_ ds)=true):∃a vs,xs[k]? =some (.ref a)∧SqL K H a vs∧RpA K F vs ds:=by
  obtain ⟨v,ev,r,f⟩:=h.look e q
  cases hh:ck E s with
  | false=>
    obtain ⟨a,vs,rfl,h1,h2⟩:=f hh
    exact ⟨a,vs,ev,h1,h2⟩
  | true=>
    rw [hh] at c
    cases r with
    | lst h1 h2=>exact ⟨_,_,ev,h1,h.coldA h2 (by simpa using c)⟩
theorem FrF.res2l {v1 v2:V} {s1 s2:Sl} {vs:List V} (h:FrF K B F A σ H E (v2::v1::xs) (s2::s1::Xs)) (r:RpA K F vs ds) {p:Addr} (hp:H p=none):Frm K B σ (upd H p (.lst vs)) E (.ref p::xs) (.ow ds::Xs):=by
  obtain ⟨A1,h⟩:=h.pop
  obtain ⟨A2,h⟩:=h.pop
  exact ⟨F,_,h.newl r hp⟩
end
abbrev oA (K:PySem.W.Frag):R2:=fun x y H Q=>(∃i j,x= .int i∧y= .int j∧Q (.int (i+j)) H)∨(∃i j,x= .str i∧y= .str j∧i.length+j.length≤sizeLine∧Q (.str (i++j)) H)∨ox K x y H Q
theorem mY {X:Cx}:OpR X (binaryOp .Add) (oA X.K):=OpR.or pb (OpR.or iV mW)
theorem mZ {K:PySem.W.Frag}:dy K (oA K) bW:=by
  intro B F A σ H E xs Xs v1 v2 s1 s2 res E' Q fr e q
  obtain ⟨d1,e1,e⟩:=Option.bind_eq_some_iff.mp e
  obtain ⟨d2,e2,e⟩:=Option.bind_eq_some_iff.mp e
  have r1:=(fr.look1 e1).1
  have r2:=(fr.look0 e2).1
  split at e
  · cases e;cases r1;cases r2
    exact .inl ⟨_,_,rfl,rfl,q _ _ (fr.res2 ⟨rfl,_,rfl, .int _⟩)⟩
  · split at e
    · rename_i hl
      cases e;cases r1;cases r2
      exact .inr (.inl ⟨_,_,rfl,rfl,dg hl,q _ _ (fr.res2 ⟨rfl,_,rfl, .str _⟩)⟩)
    · cases e
  · split at e
    · rename_i hc
      cases e
      simp only [Bool.and_eq_true,decide_eq_true_eq] at hc
      obtain ⟨a1,u1,x1,q1,i1⟩:=fr.items (k:=1) rfl e1 hc.1.2
      obtain ⟨a2,u2,x2,q2,i2⟩:=fr.items (k:=0) rfl e2 hc.2
      cases x1;cases x2
      have l1:=i1.len
      have l2:=i2.len
      exact .inr (.inr ⟨_,_,_,_,rfl,rfl,q1,q2,dg (by omega),fun p hp=>q _ _ (fr.res2l (i1.append i2) hp)⟩)
    · cases e
  · cases e
def eJ:P2:=bR (e9 (fun _ _=>true) fun i j=> .int (i - j))
def aZ:P2:=bR (e9 (fun _ j=>bV j) fun i j=> .int (i / j))
def bC:P2:=bR (e9 (fun _ j=>decide (0 < j)) fun i j=> .int (i % j))
def cN:P2:=bR (e9 (fun i j=>decide (0≤j∧j≤1000000∧ -(2 ^ 64) < i∧i < 2 ^ 64)) fun i j=> .int (i ^ j.toNat))
section
variable {X:Cx}
theorem m4:OpR X (binaryOp .Sub) (qM (fun _ _=>true) fun i j=> .int (i - j)):=OpR.imp pc fun x y H Q ⟨i,j,a,b,_,q⟩=>⟨i,j,a,b,q⟩
theorem lj:OpR X (binaryOp .FloorDiv) (qM (fun _ j=>bV j) fun i j=> .int (i / j)):=sO fun i j _ _ _ _ _ hc q=>by
  obtain ⟨h1,h2⟩:=of_decide_eq_true hc
  have h3:j.natAbs.log2 < 9000:=by
    have:j.natAbs < 2 ^ 200:=by omega
    have:=(Nat.log2_lt (n:=j.natAbs) (k:=200) (by omega)).mpr this
    omega
  exact floordiv_int (by omega) (by rw [Int.fdiv_eq_ediv_of_nonneg i (by omega)];exact q) (.inl (PyProof.noPylong_of_log2 h3))
theorem m5:OpR X (binaryOp .Mod) (qM (fun _ j=>decide (0 < j)) fun i j=> .int (i % j)):=OpR.imp pd fun x y H Q ⟨i,j,a,b,c,q⟩=>⟨i,j,a,b,of_decide_eq_true c,q⟩
theorem m6 {i j:Int} (c:0≤j∧j≤1000000∧ -(2 ^ 64) < i∧i < 2 ^ 64):rj i j:=⟨c.1,c.2.1,by omega⟩
theorem m7:OpR X (binaryOp .Pow) (qM (fun i j=>decide (0≤j∧j≤1000000∧ -(2 ^ 64) < i∧i < 2 ^ 64)) fun i j=> .int (i ^ j.toNat)):=OpR.imp pf fun x y H Q ⟨i,j,a,b,c,q⟩=>⟨i,j,a,b,m6 (of_decide_eq_true c),q⟩
end
def eK:P2:=fun E s1 s2=>(look E s1).bind fun d1=>(look E s2).bind fun d2=>match d1,d2 with
  | .int i, .int j=>if cG i j then some (.sh (.int (i*j)),E) else none
  | .list a, .int k=>if decide (a.length*k.toNat≤1000000∧ -1000000≤k∧k≤1000000)&&(!ck E s1||a_ a) then some (.ow (List.replicate k.toNat a).flatten,E) else none
  | _,_=>none
abbrev oB (K:PySem.W.Frag):R2:=fun x y H Q=>qM cG (fun i j=> .int (i*j)) x y H Q∨oy K x y H Q
theorem m8 {X:Cx}:OpR X (binaryOp .Mult) (oB X.K):=OpR.or (sO fun _ _ _ _ _ _ _ hc q=>mul_int q (li hc)) mX
theorem m9 {K:PySem.W.Frag}:dy K (oB K) eK:=by
  intro B F A σ H E xs Xs v1 v2 s1 s2 res E' Q fr e q
  obtain ⟨d1,e1,e⟩:=Option.bind_eq_some_iff.mp e
  obtain ⟨d2,e2,e⟩:=Option.bind_eq_some_iff.mp e
  have r1:=(fr.look1 e1).1
  have r2:=(fr.look0 e2).1
  split at e
  · split at e
    · rename_i hm
      cases e;cases r1;cases r2
      exact .inl ⟨_,_,rfl,rfl,hm,q _ _ (fr.res2 ⟨rfl,_,rfl, .int _⟩)⟩
    · cases e
  · split at e
    · rename_i hc
      cases e
      simp only [Bool.and_eq_true,decide_eq_true_eq] at hc
      obtain ⟨a1,u1,x1,q1,i1⟩:=fr.items (k:=1) rfl e1 hc.2
      cases x1;cases r2
      have l1:=i1.len
      exact .inr ⟨_,_,_,rfl,rfl,q1,by omega,by omega,dg (by rw [l1];exact hc.1.1),fun p hp=>q _ _ (fr.res2l (i1.rep _) hp)⟩
    · cases e
  · cases e
section
variable {X:Cx} {a b:Expr} {m1 m2:Bool} {f g:bF} {pos:Pos}
theorem cm (ha:EX X a m1 f) (hb:EX X b m2 g):EX X (.BinOp a .Add b pos) (m1||m2) (ad bW m2 f g):=gq mY mZ ha hb
theorem fE (ha:EX X a m1 f) (hb:EX X b m2 g):EX X (.BinOp a .Sub b pos) (m1||m2) (ad eJ m2 f g):=gq m4 (gP fun _ _=>rfl) ha hb
theorem d5 (ha:EX X a m1 f) (hb:EX X b m2 g):EX X (.BinOp a .Mult b pos) (m1||m2) (ad eK m2 f g):=gq m8 m9 ha hb
theorem bS (ha:EX X a m1 f) (hb:EX X b m2 g):EX X (.BinOp a .FloorDiv b pos) (m1||m2) (ad aZ m2 f g):=gq lj (gP fun _ _=>rfl) ha hb
theorem bo (ha:EX X a m1 f) (hb:EX X b m2 g):EX X (.BinOp a .Mod b pos) (m1||m2) (ad bC m2 f g):=gq m5 (gP fun _ _=>rfl) ha hb
theorem d8 (ha:EX X a m1 f) (hb:EX X b m2 g):EX X (.BinOp a .Pow b pos) (m1||m2) (ad cN m2 f g):=gq m7 (gP fun _ _=>rfl) ha hb
end
def tL (K:PySem.W.Frag) (r:V→Hp→VK→Prop) (op:PyData→Option PyData):Prop:=∀(d1 d:PyData) (v1:V) (H:Hp) (Q:VK),op d1=some d→Rp K H v1 d1→∃v,ov d=some v∧(Q v H→r v1 H Q)
def bI (op:PyData→Option PyData) (f:bF):bF:=fun E=>(f E).bind fun a=>(look a.2 a.1).bind fun d1=>(op d1).map fun d=>(.sh d,a.2)
theorem oC {K:PySem.W.Frag} {r:V→Hp→VK→Prop} {op:PyData→Option PyData} (hp:tL K r op) {m:Bool} {f:bF} {σ:fW} {H:Hp} {Q:VK} (h:rd K m (bI op f) σ H Q):rd K m f σ H (fun x H1=>r x H1 Q):=by
  obtain ⟨B,E,xs,Xs,res,E',fr,c,e,q⟩:=h
  obtain ⟨⟨s1,E1⟩,e1,e⟩:=Option.bind_eq_some_iff.mp e
  obtain ⟨d1,e2,e⟩:=Option.bind_eq_some_iff.mp e
  obtain ⟨d,e3,e⟩:=Option.map_eq_some_iff.mp e
  cases e
  refine ⟨B,E,xs,Xs,s1,E1,fr,c,e1,fun v1 H1 ⟨F,A,fr1⟩=>?_⟩
  obtain ⟨v,hv,k⟩:=hp d1 d v1 H1 Q e3 (fr1.look0 e2).1
  obtain ⟨A',fr2⟩:=fr1.pop
  exact k (q v H1 ⟨F,A',fr2.push ⟨rfl,v,rfl,fA hv⟩⟩)
def i4:PyData→Option PyData
  | .int i=>some (.int (-i))
  | _=>none
def i5:PyData→Option PyData
  | .bool b=>some (.bool (!b))
  | _=>none
section
variable {X:Cx} {a b c:Expr} {m1 m2 m3:Bool} {f g h:bF} {pos:Pos}
theorem pG (ha:EX X a m1 f):EX X (.UnaryOp .USub a pos) m1 (bI i4 f):=ba (rf ph ha) fun σ H Q h=>oC (r:=rU fun i=> .int (-i)) (fun d1 d v1 H Q e r=>by
  cases d1 <;> simp [i4] at e
  cases e;cases r
  exact ⟨_,rfl,fun q=>⟨_,rfl,q⟩⟩) h
theorem pH (ha:EX X a m1 f):EX X (.UnaryOp .Not a pos) m1 (bI i5 f):=ba (o5 ha) fun σ H Q h=>oC (r:=fun x H1 Q=>∃c,x= .bl c∧Q (.bl (!c)) H1) (fun d1 d v1 H Q e r=>by
  cases d1 <;> simp [i5] at e
  cases e;cases r
  exact ⟨_,rfl,fun q=>⟨_,rfl,q⟩⟩) h
end
def i6 (d1 d2:PyData):Option Bool:=match d1,d2 with
  | .int i, .int j=>some (decide (i=j))
  | .str a, .str b=>some (decide (a=b))
  | .bool a, .bool b=>some (decide (a=b))
  | .none, .none=>some true
  | .none, .str _=>some false
  | .str _, .none=>some false
  | d1,d2=>if SeqAt.shaped d1&&SeqAt.shaped d2 then some (PyData.eqv d1 d2) else none
def cH:P2:=bR fun d1 d2=>(i6 d1 d2).map fun b=> .bool b
def i7:P2:=bR fun d1 d2=>(i6 d1 d2).map fun b=> .bool (!b)
abbrev tM (K:PySem.W.Frag):R2:=fun x y H Q=>ua x y H Q∨rN K x y H Q
abbrev tN (K:PySem.W.Frag):R2:=fun x y H Q=>ub x y H Q∨rO K x y H Q
theorem lm {K:PySem.W.Frag} {H:Hp} {v1 v2:V} {d1 d2:PyData} {b:Bool} (e:i6 d1 d2=some b) (r1:Rp K H v1 d1) (r2:Rp K H v2 d2):
    (pi v1 v2=true∧decide (v1=v2)=b)∨(DOf K H v1 d1∧DOf K H v2 d2∧SeqAt.shaped d1=true∧SeqAt.shaped d2=true∧PyData.eqv d1 d2=b):=by
  unfold i6 at e
  split at e
  · cases e;cases r1;cases r2;exact .inl ⟨rfl,by simp⟩
  · cases e;cases r1;cases r2;exact .inl ⟨rfl,by simp⟩
  · cases e;cases r1;cases r2;exact .inl ⟨rfl,by simp⟩
  · cases e;cases r1;cases r2;exact .inl ⟨rfl,rfl⟩
  · cases e;cases r1;cases r2;exact .inl ⟨rfl,rfl⟩
  · cases e;cases r1;cases r2;exact .inl ⟨rfl,rfl⟩
  · split at e
    · rename_i hs
      cases e
      simp only [Bool.and_eq_true] at hs
      exact .inr ⟨r1.dof hs.1,r2.dof hs.2,hs.1,hs.2,rfl⟩
    · cases e
theorem ln {K:PySem.W.Frag}:dy K (tM K) cH:=dZ fun d1 d2 d v1 v2 H Q e r1 r2=>by
  obtain ⟨b,e',rfl⟩:=Option.map_eq_some_iff.mp e
  refine ⟨_,rfl,fun q=>?_⟩
  rcases lm e' r1 r2 with ⟨a,rfl⟩ | ⟨a1,a2,a3,a4,rfl⟩
  · exact .inl ⟨a,q⟩
  · exact .inr ⟨_,_,a1,a2,a3,a4,q⟩
theorem pI {K:PySem.W.Frag}:dy K (tN K) i7:=dZ fun d1 d2 d v1 v2 H Q e r1 r2=>by
  obtain ⟨b,e',rfl⟩:=Option.map_eq_some_iff.mp e
  refine ⟨_,rfl,fun q=>?_⟩
  rcases lm e' r1 r2 with ⟨a,rfl⟩ | ⟨a1,a2,a3,a4,rfl⟩
  · exact .inl ⟨a,q⟩
  · exact .inr ⟨_,_,a1,a2,a3,a4,q⟩
def fX (K:PySem.W.Frag) (r:R2) (op:PyData→PyData→Option PyData):Prop:=∀(d1 d2 d:PyData) (v1 v2:V) (H:Hp) (Q:VK),op d1 d2=some d→Rp K H v1 d1→Rp K H v2 d2→∃v,ov d=some v∧(Q v H→r v1 v2 H Q)
def e_ (neg:Bool):PyData→PyData→Option PyData
  | d, .none=>some (.bool (match d with | .none=> !neg | _=>neg))
  | _,_=>none
theorem pJ {K:PySem.W.Frag}:fX K (fun x y H Q=>y= .non∧Q (.bl (decide (x= .non))) H) (e_ false):=fun d1 d2 d v1 v2 H Q e r1 r2=>by
  unfold e_ at e
  split at e
  · cases e;cases r2
    refine ⟨_,rfl,fun q=>⟨rfl,?_⟩⟩
    cases r1 <;> exact q
  · cases e
theorem m_ {K:PySem.W.Frag}:fX K (fun x y H Q=>y= .non∧Q (.bl (!decide (x= .non))) H) (e_ true):=fun d1 d2 d v1 v2 H Q e r1 r2=>by
  unfold e_ at e
  split at e
  · cases e;cases r2
    refine ⟨_,rfl,fun q=>⟨rfl,?_⟩⟩
    cases r1 <;> exact q
  · cases e
def bp (op op':PyData→PyData→Option PyData) (m2 m3:Bool) (f g h:bF):bF:=fun E=>(f E).bind fun a=>if (m2||m3)&&a.1.isBr then none else (g a.2).bind fun b=>if m3&&b.1.isBr then none else
  (look b.2 a.1).bind fun d1=>(look b.2 b.1).bind fun d2=>match op d1 d2 with
    | some (.bool true)=>(h b.2).bind fun c=>(look c.2 b.1).bind fun d2=>(look c.2 c.1).bind fun d3=>(op' d2 d3).map fun d=>(.sh d,c.2)
    | some (.bool false)=>some (.sh (.bool false),b.2)
    | _=>none
section
variable {X:Cx} {a b c:Expr} {m1 m2 m3:Bool} {f g h:bF} {pos:Pos}
theorem gr (hu:X.A.units+64 < cLine) (ha:EX X a m1 f) (hb:EX X b m2 g):EX X (.Compare a [.Eq] [b] pos) (m1||m2) (ad cH m2 f g):=i3 (OpR.or oj (kY hu)) ln ha hb (eT _)
theorem pK (ha:EX X a m1 f) (hb:EX X b m2 g):EX X (.Compare a [.Is] [b] pos) (m1||m2) (ad (bR (e_ false)) m2 f g):=i3 pj (dZ pJ) ha hb (eT _)
theorem jB (hu:X.A.units+64 < cLine) (ha:EX X a m1 f) (hb:EX X b m2 g):TX X (.Compare a [.Eq] [b] pos) (m1||m2) (cT (ad cH m2 f g)):=gO (OpR.or oj (kY hu)) ln ha hb (eT _)
theorem jC (hu:X.A.units+64 < cLine) (ha:EX X a m1 f) (hb:EX X b m2 g):TX X (.Compare a [.NotEq] [b] pos) (m1||m2) (cT (ad i7 m2 f g)):=gO (OpR.or rl (pB hu)) pI ha hb (eT _)
theorem nb (ha:EX X a m1 f) (hb:EX X b m2 g):TX X (.Compare a [.IsNot] [b] pos) (m1||m2) (cT (ad (bR (e_ true)) m2 f g)):=gO mI (dZ m_) ha hb (eT _)
theorem ig {K:PySem.W.Frag} {r r':R2} {op op':PyData→PyData→Option PyData} (k:fX K r op) (k':fX K r' op') {σ:fW} {H:Hp} {Q:VK} (z:rd K (m1||(m2||m3)) (bp op op' m2 m3 f g h) σ H Q):iT r r' (rd K m1 f) (rd K m2 g) (rd K m3 h) σ H Q:=by
  obtain ⟨B,E,xs,Xs,res,E',fr,cl,e,q⟩:=z
  obtain ⟨⟨s1,E1⟩,e1,e⟩:=Option.bind_eq_some_iff.mp e
  by_cases hb:((m2||m3)&&s1.isBr)=true
  · rw [if_pos hb] at e;cases e
  rw [if_neg hb] at e
  obtain ⟨⟨s2,E2⟩,e2,e⟩:=Option.bind_eq_some_iff.mp e
  by_cases hb2:(m3&&s2.isBr)=true
  · rw [if_pos hb2] at e;cases e
  rw [if_neg hb2] at e
  obtain ⟨d1,l1,e⟩:=Option.bind_eq_some_iff.mp e
  obtain ⟨d2,l2,e⟩:=Option.bind_eq_some_iff.mp e
  have n1:(m2||m3)=true→s1.isBr=false:=fun z=>by
    cases hs:s1.isBr with
    | false=>rfl
    | true=>exact absurd (by rw [z,hs];rfl) hb
  have n2:m3=true→s2.isBr=false:=fun z=>by
    cases hs:s2.isBr with
    | false=>rfl
    | true=>exact absurd (by rw [z,hs];rfl) hb2
  refine ⟨B,E,xs,Xs,s1,E1,fr,fun z=>cl (by simp [z]),e1,fun v1 H1 fr1=>?_⟩
  refine ⟨B,E1,v1::xs,s1::Xs,s2,E2,fr1,fun z=>Calm.cons (cl (by simp [z])) (n1 (by simp [z])),e2,fun v2 H2 ⟨F,A,fr2⟩=>?_⟩
  cases ho:op d1 d2 with
  | none=>rw [ho] at e;cases e
  | some d=>
    rw [ho] at e
    obtain ⟨v,hv,kk⟩:=k d1 d2 d v1 v2 H2 (fun z H3=>∃k,z= .bl k∧(if k=true then rd K m3 h σ H3 fun w' H4=>r' v2 w' H4 Q else Q (.bl false) H3)) ho (fr2.look1 l1).1 (fr2.look0 l2).1
    cases d with
    | bool t=>
      cases hv
      refine kk ⟨t,rfl,?_⟩
      cases t with
      | true=>
        rw [if_pos rfl]
        obtain ⟨⟨s3,E3⟩,e3,e⟩:=Option.bind_eq_some_iff.mp e
        obtain ⟨d2',l2',e⟩:=Option.bind_eq_some_iff.mp e
        obtain ⟨d3,l3,e⟩:=Option.bind_eq_some_iff.mp e
        obtain ⟨d,ho',e⟩:=Option.map_eq_some_iff.mp e
        cases e
        refine ⟨B,E2,v2::v1::xs,s2::s1::Xs,s3,E3,⟨F,A,fr2⟩,fun z=>Calm.cons (Calm.cons (cl (by simp [z])) (n1 (by simp [z]))) (n2 z),e3,fun v3 H3 ⟨F3,A3,fr3⟩=>?_⟩
        obtain ⟨v,hv,kk⟩:=k' d2' d3 d v2 v3 H3 Q ho' (fr3.look1 l2').1 (fr3.look0 l3).1
        obtain ⟨A4,fr4⟩:=fr3.pop
        exact kk (q v H3 (fr4.res2 ⟨rfl,v,rfl,fA hv⟩))
      | false=>
        rw [if_neg (by decide)]
        cases e
        exact q _ _ (fr2.res2 ⟨rfl,_,rfl, .bl _⟩)
    | none=>cases e
    | int i=>cases e
    | str x=>cases e
    | list xs=>cases e
    | tuple xs=>cases e
    | dict kvs=>cases e
theorem lq {o1 o2:CmpOp} {r r':R2} {op op':PyData→PyData→Option PyData} (ho:OpR X (compareOp o1) r) (ho':OpR X (compareOp o2) r') (k:fX X.K r op) (k':fX X.K r' op') (ha:EX X a m1 f) (hb:EX X b m2 g) (hc:EX X c m3 h)
    (hm:lastMarks [o1,o2] [b,c]=false:=by with_unfolding_all rfl):EX X (.Compare a [o1,o2] [b,c] pos) (m1||(m2||m3)) (bp op op' m2 m3 f g h):=ba (kP ho ho' ha hb hc hm) fun _ _ _ z=>ig k k' z
end
end PL
namespace PL
open PySem L2 Nh
def aN (f g:bF):bF:=fun E=>(f E).bind fun a=>match a.1 with
  | .sh (.bool true)=>g a.2
  | .sh (.bool false)=>some (.sh (.bool false),a.2)
  | _=>none
def gs (f g:iP):iP:=fun E=>(f E).bind fun a=>if a.1 then g a.2 else some (false,a.2)
def eL (f g:iP):iP:=fun E=>(f E).bind fun a=>if a.1 then some (true,a.2) else g a.2
def bn (f:iP):iP:=fun E=>(f E).map fun a=>(!a.1,a.2)
def cE:PyData→Option Bool
  | .none=>some false
  | .bool b=>some b
  | .int i=>some (i != 0)
  | .str x=>if x.length≤1000000 then some ((x.length:Int) != 0) else none
  | .list xs=>some (!xs.isEmpty)
  | .tuple xs=>some (!xs.isEmpty)
  | .dict _=>none
def bX (f:bF):iP:=fun E=>(f E).bind fun a=>match a.1 with
  | .al i=>match a.2[i]? with
    | some (.od kvs)=>some (!kvs.isEmpty,a.2)
    | some s=>(s.val.bind cE).map fun b=>(b,a.2)
    | none=>none
  | s=>(s.val.bind cE).map fun b=>(b,a.2)
section
variable {X:Cx} {a b c:Expr} {bO:List Expr} {m1 m2 m3:Bool} {f g h:bF} {t u:iP} {pos:Pos} {K:PySem.W.Frag}
theorem fF {op} (h:EX X a m1 f):EX X (.BoolOp op [a] pos) m1 f:=o3 h
theorem cV (ha:EX X a m1 f) (hb:EX X (.BoolOp .And (b::bO) pos) m2 g):EX X (.BoolOp .And (a::b::bO) pos) (m1||m2) (aN f g):=by
  refine ba (o4 ha hb) fun σ H Q z=>?_
  obtain ⟨B,E,xs,Xs,res,E',fr,cl,e,q⟩:=z
  obtain ⟨⟨s1,E1⟩,e1,e⟩:=Option.bind_eq_some_iff.mp e
  refine ⟨B,E,xs,Xs,s1,E1,fr,fun z=>cl (by simp [z]),e1,fun v1 H1 ⟨F,A,fr1⟩=>?_⟩
  simp only at e
  split at e
  · obtain ⟨r,_⟩:=fr1.look0 (d:= .bool true) rfl
    cases r
    obtain ⟨A',fr2⟩:=fr1.pop
    exact ⟨true,rfl,(if_pos rfl).mpr ⟨B,E1,xs,Xs,res,E',⟨F,A',fr2⟩,fun z=>cl (by simp [z]),e,q⟩⟩
  · cases e
    obtain ⟨r,_⟩:=fr1.look0 (d:= .bool false) rfl
    cases r
    exact ⟨false,rfl,(if_neg (by decide)).mpr (q _ _ ⟨F,A,fr1⟩)⟩
  · cases e
theorem ng (ha:TX X a m1 t):WX X (.BoolOp .And [a] pos) m1 t:=mC ha
theorem gQ (ha:TX X a m1 t):WX X (.BoolOp .Or [a] pos) m1 t:=oY ha
theorem pL (ha:TX X a m1 t) (hb:WX X (.BoolOp .And (b::bO) pos) m2 u):WX X (.BoolOp .And (a::b::bO) pos) (m1||m2) (gs t u):=by
  refine lg (oZ ha hb) fun σ H Q z=>?_
  obtain ⟨B,E,xs,Xs,res,E',fr,cl,e,q⟩:=z
  obtain ⟨⟨b1,E1⟩,e1,e⟩:=Option.bind_eq_some_iff.mp e
  refine ⟨B,E,xs,Xs,b1,E1,fr,fun z=>cl (by simp [z]),e1,fun H1 fr1=>?_⟩
  cases b1 with
  | true=>exact (if_pos rfl).mpr ⟨B,E1,xs,Xs,res,E',fr1,fun z=>cl (by simp [z]),e,q⟩
  | false=>cases e;exact (if_neg (by decide)).mpr (q _ fr1)
theorem jD (ha:TX X a m1 t) (hb:WX X (.BoolOp .Or (b::bO) pos) m2 u):WX X (.BoolOp .Or (a::b::bO) pos) (m1||m2) (eL t u):=by
  refine lg (qT ha hb) fun σ H Q z=>?_
  obtain ⟨B,E,xs,Xs,res,E',fr,cl,e,q⟩:=z
  obtain ⟨⟨b1,E1⟩,e1,e⟩:=Option.bind_eq_some_iff.mp e
  refine ⟨B,E,xs,Xs,b1,E1,fr,fun z=>cl (by simp [z]),e1,fun H1 fr1=>?_⟩
  cases b1 with
  | true=>cases e;exact (if_pos rfl).mpr (q _ fr1)
  | false=>exact (if_neg (by decide)).mpr ⟨B,E1,xs,Xs,res,E',fr1,fun z=>cl (by simp [z]),e,q⟩
theorem lr (h:WX X a m1 t):TX X a m1 t:=PW.pt h
theorem cW (ha:TX X a m1 t):TX X (.UnaryOp .Not a pos) m1 (bn t):=by
  refine gL (o0 ha) fun σ H Q z=>?_
  obtain ⟨B,E,xs,Xs,res,E',fr,cl,e,q⟩:=z
  obtain ⟨⟨b1,E1⟩,e1,e⟩:=Option.map_eq_some_iff.mp e
  cases e
  exact ⟨B,E,xs,Xs,b1,E1,fr,cl,e1,fun H1 fr1=>q _ fr1⟩
theorem pM {H:Hp} {v:V} {d:PyData} {b:Bool} (r:Rp K H v d) (e:cE d=some b):kR K v H b:=by
  cases r with
  | non=>cases e;rfl
  | bl b=>cases e;rfl
  | int i=>cases e;rfl
  | str x=>
    simp only [cE] at e
    split at e
    · rename_i hl
      cases e
      exact ⟨dg hl,rfl⟩
    · cases e
  | lst h r=>cases e;exact .inl ⟨_,h,by cases r <;> rfl⟩
  | tup h r=>cases e;exact .inr (.inl ⟨_,h,by cases r <;> rfl⟩)
  | dct h r=>cases e
  | exc h r=>cases e
theorem cX (ha:EX X a m1 f) (he:∀whole,isTrue a X.env whole=(do let v ←whole;standAt a.pos;holding [v] (truthy v)):=by exact fun _=>rfl):TX X a m1 (bX f):=by
  refine gL (kS ha he) fun σ H Q z=>?_
  obtain ⟨B,E,xs,Xs,res,E',fr,cl,e,q⟩:=z
  obtain ⟨⟨s,E1⟩,e1,e⟩:=Option.bind_eq_some_iff.mp e
  refine ⟨B,E,xs,Xs,s,E1,fr,cl,e1,fun v1 H1 ⟨F,A,fr1⟩=>?_⟩
  have key:∀d,look E1 s=some d→(cE d).map (fun b=>(b,E1))=some (res,E')→∃k,kR X.K v1 H1 k∧Q k H1:=fun d l e=>by
    obtain ⟨b,e',z⟩:=Option.map_eq_some_iff.mp e
    cases z
    obtain ⟨A',fr2⟩:=fr1.pop
    exact ⟨_,pM (fr1.look0 l).1 e',q _ ⟨F,A',fr2⟩⟩
  have kv:(s.val.bind cE).map (fun b=>(b,E1))=some (res,E')→(∀i,s≠ .al i)→∃k,kR X.K v1 H1 k∧Q k H1:=fun e na=>by
    obtain ⟨b,e',z⟩:=Option.map_eq_some_iff.mp e
    obtain ⟨d,e1,e2⟩:=Option.bind_eq_some_iff.mp e'
    refine key d ?_ (by rw [e2];exact congrArg some z)
    cases s <;> first | exact e1 | exact absurd rfl (na _)
  simp only at e
  split at e
  · rename_i i
    split at e
    · rename_i kvs ei
      cases e
      obtain ⟨v',A1,ev,rfl,w,ew,hw⟩:=fr1.ext (k:=0) rfl
      cases ev;cases ew
      obtain ⟨o,A1,eo,l,us,A2,rfl,_,hl,r⟩:=fr1.var ei
      rw [hw] at eo
      cases eo
      obtain ⟨A',fr2⟩:=fr1.pop
      exact ⟨_, .inr (.inr ⟨_,hl,by cases us <;> cases kvs <;> first | rfl | exact False.elim r⟩),q _ ⟨F,A',fr2⟩⟩
    · rename_i s' _ ei
      obtain ⟨b,e',z⟩:=Option.map_eq_some_iff.mp e
      obtain ⟨d,e1,e2⟩:=Option.bind_eq_some_iff.mp e'
      exact key d (by simp [look,ei,e1]) (by rw [e2];exact congrArg some z)
    · cases e
  · rename_i na
    exact kv e na
end
theorem ls {X:Cx} {a b c:Expr} {m1 m2 m3:Bool} {f g h:bF} {pos:Pos} {o1 o2:CmpOp} {r r':R2} {op op':PyData→PyData→Option PyData} (ho:OpR X (compareOp o1) r) (ho':OpR X (compareOp o2) r') (k:fX X.K r op) (k':fX X.K r' op') (ha:EX X a m1 f) (hb:EX X b m2 g) (hc:EX X c m3 h)
    (hm:lastMarks [o1,o2] [b,c]=false:=by with_unfolding_all rfl):TX X (.Compare a [o1,o2] [b,c] pos) (m1||(m2||m3)) (cT (bp op op' m2 m3 f g h)):=gL (kQ ho ho' ha hb hc hm) fun _ _ _ z=>ig k k' (lh z)
def au:ie:=fun E=>some ([],E)
def ae (m2:Bool) (f:bF) (g:ie):ie:=fun E=>(f E).bind fun a=>if m2&&a.1.isBr then none else (g a.2).map fun b=>(a.1::b.1,b.2)
def bg:hO:=fun E=>some ([],E)
def aj (f:bF) (g:hO):hO:=fun E=>(f E).bind fun a=>(frz a.2 a.1).bind fun b=>(g b.2).map fun c=>(b.1::c.1,c.2)
def cc (f:hO):bF:=fun E=>(f E).bind fun a=>if a.1.length≤1000000 then some (.sh (.tuple a.1),a.2) else none
def bY (f:hO):bF:=fun E=>(f E).bind fun a=>if a.1.length≤1000000 then some (.ow a.1,a.2) else none
section
variable {X:Cx} {e:Expr} {es:List Expr} {m1 m2:Bool} {f:bF} {g:ie} {d:hO} {pos:Pos} {K:PySem.W.Frag}
theorem aS:AX X [] false au:=by
  refine gM cM fun σ H Q z=>?_
  obtain ⟨B,E,xs,Xs,res,E',fr,cl,e,q⟩:=z
  cases e
  exact q [] H rfl fr
theorem aD (ha:EX X e m1 f) (hr:AX X es m2 g) (hs:starEach (e::es) X.env=(false,eval e X.env)::starEach es X.env:=by rfl):AX X (e::es) (m1||m2) (ae m2 f g):=by
  refine gM (bN ha hr hs) fun σ H Q z=>?_
  obtain ⟨B,E,xs,Xs,res,E',fr,cl,e,q⟩:=z
  obtain ⟨⟨s,E1⟩,e1,e⟩:=Option.bind_eq_some_iff.mp e
  by_cases hb:(m2&&s.isBr)=true
  · rw [if_pos hb] at e;cases e
  rw [if_neg hb] at e
  obtain ⟨⟨rs,E2⟩,e2,e⟩:=Option.map_eq_some_iff.mp e
  cases e
  refine ⟨B,E,xs,Xs,s,E1,fr,fun z=>cl (by simp [z]),e1,fun v1 H1 fr1=>?_⟩
  refine ⟨B,E1,v1::xs,s::Xs,rs,E2,fr1,fun z=>Calm.cons (cl (by simp [z])) ?_,e2,fun vs H2 hl fr2=>?_⟩
  · cases hs:s.isBr with
    | false=>rfl
    | true=>exact absurd (by simp [z,hs]) hb
  · exact q (v1::vs) H2 (by simp [hl]) (by simpa using fr2)
theorem aT:DX X [] false bg:=by
  refine gM cM fun σ H Q z=>?_
  obtain ⟨B,E,xs,Xs,res,E',fr,cl,e,q⟩:=z
  cases e
  exact q [] H rfl fr
theorem aJ (ha:EX X e m1 f) (hr:DX X es m2 d) (hs:starEach (e::es) X.env=(false,eval e X.env)::starEach es X.env:=by rfl):DX X (e::es) (m1||m2) (aj f d):=by
  refine gM (bN ha hr hs) fun σ H Q z=>?_
  obtain ⟨B,E,xs,Xs,res,E',fr,cl,e,q⟩:=z
  obtain ⟨⟨s,E1⟩,e1,e⟩:=Option.bind_eq_some_iff.mp e
  obtain ⟨⟨d1,E2⟩,e2,e⟩:=Option.bind_eq_some_iff.mp e
  obtain ⟨⟨rs,E3⟩,e3,e⟩:=Option.map_eq_some_iff.mp e
  cases e
  refine ⟨B,E,xs,Xs,s,E1,fr,fun z=>cl (by simp [z]),e1,fun v1 H1 ⟨F,A,fr1⟩=>?_⟩
  obtain ⟨F2,A2,fr2⟩:=fr1.frz0 e2
  refine ⟨B,E2,v1::xs, .sh d1::Xs,rs,E3,⟨F2,A2,fr2⟩,fun z=>Calm.cons (cl (by simp [z])) rfl,e3,fun vs H2 hl fr2=>?_⟩
  exact q (v1::vs) H2 (by simp [hl]) (by simpa using fr2)
theorem FrF.shsR {B F:Hp} {σ:fW} {H:Hp} {E:List Sl} {xs:List V} {Xs:List Sl}:∀{us:List V} {es:List PyData} {A:List Addr},us.length=es.length→FrF K B F A σ H E (us++xs) (es.map .sh++Xs)→RpA K F us es∧∃A',FrF K B F A' σ H E xs Xs
  | [],[],A,_,h=>⟨.nil,A,h⟩
  | u::us,e::es,A,hl,h=>by
    obtain ⟨v,A1,ev,rfl,w,ew,r⟩:=h.ext (k:=0) rfl
    cases ev;cases ew
    obtain ⟨A',h'⟩:=FrF.pop (xs:=us++xs) (Xs:=es.map .sh++Xs) h
    obtain ⟨r',q⟩:=FrF.shsR (by simpa using hl) h'
    exact ⟨.cons r r',q⟩
  | [],_::_,_,e,_=>by cases e
  | _::_,[],_,e,_=>by cases e
theorem FrF.shs {B F:Hp} {σ:fW} {H:Hp} {E:List Sl} {xs:List V} {Xs:List Sl} {us:List V} {es:List PyData} {A:List Addr} (hl:us.length=es.length) (h:FrF K B F A σ H E (us.reverse++xs) (es.reverse.map .sh++Xs)):RpA K F us es∧∃A',FrF K B F A' σ H E xs Xs:=by
  obtain ⟨r,q⟩:=FrF.shsR (by simpa using hl) h
  have:=r.rev
  rw [List.reverse_reverse,List.reverse_reverse] at this
  exact ⟨this,q⟩
theorem b4 {x1} (h:DX X es m1 d):EX X (.Tuple es x1 pos) m1 (cc d):=by
  refine ba (pq h) fun σ H Q z=>?_
  obtain ⟨B,E,xs,Xs,res,E',fr,cl,e,q⟩:=z
  obtain ⟨⟨ds,E1⟩,e1,e⟩:=Option.bind_eq_some_iff.mp e
  simp only at e
  split at e
  · rename_i hl
    cases e
    refine ⟨B,E,xs,Xs,ds,_,fr,cl,e1,fun vs H1 hv ⟨F,A,fr1⟩=>?_⟩
    obtain ⟨r,A',fr2⟩:=fr1.shs hv
    exact ⟨dg (by omega),fun p hp=>q _ _ ⟨_,_,fr2.newt r hp⟩⟩
  · cases e
theorem b5 (h:DX X es m1 d):EX X (.List es pos) m1 (bY d):=by
  refine ba (pv h) fun σ H Q z=>?_
  obtain ⟨B,E,xs,Xs,res,E',fr,cl,e,q⟩:=z
  obtain ⟨⟨ds,E1⟩,e1,e⟩:=Option.bind_eq_some_iff.mp e
  simp only at e
  split at e
  · rename_i hl
    cases e
    refine ⟨B,E,xs,Xs,ds,_,fr,cl,e1,fun vs H1 hv ⟨F,A,fr1⟩=>?_⟩
    obtain ⟨r,A',fr2⟩:=fr1.shs hv
    exact ⟨dg (by omega),fun p hp=>q _ _ ⟨_,_,fr2.newl r hp⟩⟩
  · cases e
end
def ii (ds:List PyData) (lo hi:Option Int):List PyData:=(ds.drop (HT.fT ds.length 0 lo)).take (HT.fT ds.length ds.length hi - HT.fT ds.length 0 lo)
def dn:P2:=fun E s1 s2=>(look E s1).bind fun d1=>(look E s2).bind fun d2=>match d2 with
  | .int i=>match d1 with
    | .list ds=>(atI ds i).map fun d=>(if ck E s1&& !aK d then .br d else .sh d,E)
    | .tuple ds=>(atI ds i).map fun d=>(if ck E s1&& !aK d then .br d else .sh d,E)
    | .str z=>if z.length≤1000000 then (atI z.cps.toList i).map fun c=>(.sh (.str ⟨#[c]⟩),E) else none
    | _=>none
  | _=>none
section
variable {K:PySem.W.Frag} {H:Hp}
theorem RpA.atI {vs:List V} {ds:List PyData} {i:Int} {d:PyData} (h:RpA K H vs ds) (e:L2.atI ds i=some d):∃v,L2.atI vs i=some v∧Rp K H v d:=by
  unfold L2.atI at e ⊢
  obtain ⟨j,e1,e2⟩:=Option.bind_eq_some_iff.mp e
  obtain ⟨v,ev,r⟩:=h.get e2
  exact ⟨v,by rw [h.len,e1];exact ev,r⟩
theorem FrF.item {B F:Hp} {A:List Addr} {σ:fW} {E:List Sl} {xs:List V} {Xs:List Sl} {v1 v2 v:V} {s1 s2:Sl} {d:PyData} (fr:FrF K B F A σ H E (v2::v1::xs) (s2::s1::Xs)) (r:Rp K H v d) (f:ck E s1=false→Rp K F v d):
    Frm K B σ H E (v::xs) ((if ck E s1&& !aK d then .br d else .sh d)::Xs):=by
  by_cases hc:(ck E s1&& !aK d)=true
  · rw [if_pos hc]
    exact fr.res2 ⟨rfl,v,rfl,r⟩
  · rw [if_neg hc]
    refine fr.res2 ⟨rfl,v,rfl,?_⟩
    cases hh:ck E s1 with
    | false=>exact f hh
    | true=>
      rw [hh] at hc
      exact fr.cold r (by simpa using hc)
theorem pN:dy K (uc K) dn:=by
  intro B F A σ H E xs Xs v1 v2 s1 s2 res E' Q fr e q
  obtain ⟨d1,e1,e⟩:=Option.bind_eq_some_iff.mp e
  obtain ⟨d2,e2,e⟩:=Option.bind_eq_some_iff.mp e
  obtain ⟨r1,f1⟩:=fr.look1 e1
  have r2:=(fr.look0 e2).1
  split at e
  · cases r2
    split at e
    · obtain ⟨d,ed,e⟩:=Option.map_eq_some_iff.mp e
      cases e
      cases hh:ck E s1 with
      | false=>
        obtain ⟨a,vs,rfl,h1,h2⟩:=f1 hh
        obtain ⟨v,ev,rv⟩:=h2.atI ed
        have z:=fr.item (rv.same fr.fh) fun _=>rv
        rw [hh] at z q
        exact .inl ⟨_,_,_,v,rfl,rfl,h1,ev,q _ _ z⟩
      | true=>
        cases r1 with
        | lst h1 h2=>
          obtain ⟨v,ev,rv⟩:=h2.atI ed
          have z:=fr.item rv fun h=>absurd (hh.symm.trans h) (by decide)
          rw [hh] at z q
          exact .inl ⟨_,_,_,v,rfl,rfl,h1,ev,q _ _ z⟩
    · obtain ⟨d,ed,e⟩:=Option.map_eq_some_iff.mp e
      cases e
      cases hh:ck E s1 with
      | false=>
        have h0:Rp K F v1 _:=f1 hh
        cases h0 with
        | tup h1 h2=>
          obtain ⟨v,ev,rv⟩:=h2.atI ed
          have z:=fr.item (rv.same fr.fh) fun _=>rv
          rw [hh] at z q
          exact .inr (.inl ⟨_,_,_,v,rfl,rfl,fr.fh.tup h1,ev,q _ _ z⟩)
      | true=>
        cases r1 with
        | tup h1 h2=>
          obtain ⟨v,ev,rv⟩:=h2.atI ed
          have z:=fr.item rv fun h=>absurd (hh.symm.trans h) (by decide)
          rw [hh] at z q
          exact .inr (.inl ⟨_,_,_,v,rfl,rfl,h1,ev,q _ _ z⟩)
    · split at e
      · rename_i hl
        obtain ⟨c,ec,e⟩:=Option.map_eq_some_iff.mp e
        cases e;cases r1
        exact .inr (.inr ⟨_,_,c,rfl,rfl,dg hl,ec,q _ _ (fr.res2 ⟨rfl,_,rfl, .str _⟩)⟩)
      · cases e
    · cases e
  · cases e
end
end PL
namespace L2
open PySem PySem.Spec PyProof.Rows
section
variable {κ:Type} [DecidableEq κ]
def eM (kvs:List (κ×V)) (k:κ):Option V:=(kvs.find? fun kv=>decide (kv.1=k)).map (·.2)
def dv (kvs:List (κ×V)) (k:κ) (v:V):List (κ×V):=
  if (kvs.any fun kv=>decide (kv.1=k))=true then kvs.map (fun kv=>if kv.1=k then (kv.1,v) else kv) else kvs++[(k,v)]
def oD (kvs:List (κ×V)) (k:κ):List (κ×V):=kvs.filter fun kv=>decide (kv.1≠k)
theorem fG {p:κ×V} {r:List (κ×V)} {k:κ} (e:p.1=k):eM (p::r) k=some p.2:=by simp [eM,List.find?_cons,e]
theorem eN {p:κ×V} {r:List (κ×V)} {k:κ} (e:¬p.1=k):eM (p::r) k=eM r k:=by simp [eM,List.find?_cons,e]
theorem fH (k:κ):∀kvs:List (κ×V),(kvs.any fun kv=>decide (kv.1=k))=(eM kvs k).isSome
  | []=>rfl
  | p::r=>by
    rw [List.any_cons]
    by_cases e:p.1=k
    · simp only [fG e,decide_eq_true e,Bool.true_or,Option.isSome_some]
    · rw [eN e,decide_eq_false e,Bool.false_or];exact fH k r
theorem ij (kvs:List (κ×V)) (k:κ) (v:V):(dv kvs k v).length≤kvs.length+1:=by
  unfold dv
  split
  · rw [List.length_map];omega
  · rw [List.length_append,List.length_cons,List.length_nil];omega
theorem lu {kvs:List (κ×V)} {k:κ} (v:V) (h:eM kvs k=none):dv kvs k v=kvs++[(k,v)]:=by
  unfold dv
  rw [fH,h]
  exact if_neg (by decide)
theorem RelO.isSome_eq {o:Option V} {u:Option Value} (r:RelO o u):o.isSome=u.isSome:=by
  cases o with
  | none=>cases u with
    | none=>rfl
    | some _=>exact (show False from r).elim
  | some _=>cases u with
    | none=>exact (show False from r).elim
    | some _=>rfl
theorem RelO.getD {o:Option V} {u:Option Value} {d:V} {d':Value} (r:RelO o u) (rd:RelV d d'):RelV (o.getD d) (u.getD d'):=by
  cases o with
  | none=>cases u with
    | none=>exact rd
    | some _=>exact (show False from r).elim
  | some _=>cases u with
    | none=>exact (show False from r).elim
    | some _=>exact r
theorem KV.val {kvs:List (κ×V)} {vs:List (κ×Value)} (r:KV kvs vs) (k:κ):RelO (eM kvs k) (valueAt vs k):=by
  unfold KV at r
  induction r with
  | nil=>exact True.intro
  | @cons p q ps qs h t ih=>
    obtain ⟨h1,h2⟩:=h
    by_cases e:p.1=k
    · have e':q.1=k:=h1.symm.trans e
      have b:valueAt (q::qs) k=some q.2:=by simp [valueAt,List.find?_cons,e']
      rw [fG e,b];exact h2
    · have e':¬q.1=k:=fun z=>e (h1.trans z)
      have b:valueAt (q::qs) k=valueAt qs k:=by simp [valueAt,List.find?_cons,e']
      rw [eN e,b];exact ih
theorem KV.any {kvs:List (κ×V)} {vs:List (κ×Value)} (r:KV kvs vs) (k:κ):(kvs.any fun kv=>decide (kv.1=k))=vs.any fun kv=>decide (kv.1=k):=by
  unfold KV at r
  induction r with
  | nil=>rfl
  | cons h t ih=>rw [List.any_cons,List.any_cons,ih,h.1]
theorem KV.repl {kvs:List (κ×V)} {vs:List (κ×Value)} (r:KV kvs vs) (k:κ) {y:V} {u:Value} (ry:RelV y u):
    KV (kvs.map fun kv=>if kv.1=k then (kv.1,y) else kv) (vs.map fun kv=>if kv.1=k then (kv.1,u) else kv):=by
  unfold KV at r ⊢
  induction r with
  | nil=>exact .nil
  | @cons p q ps qs h t ih=>
    rw [List.map_cons,List.map_cons]
    refine .cons ?_ ih
    obtain ⟨h1,h2⟩:=h
    by_cases e:p.1=k
    · rw [if_pos e,if_pos (h1.symm.trans e)];exact ⟨h1,ry⟩
    · rw [if_neg e,if_neg (fun z=>e (h1.trans z))];exact ⟨h1,h2⟩
theorem KV.put {kvs:List (κ×V)} {vs:List (κ×Value)} (r:KV kvs vs) (k:κ) {y:V} {u:Value} (ry:RelV y u):KV (dv kvs k y) (stored vs k u):=by
  unfold dv stored
  rw [r.any k]
  by_cases e:(vs.any fun kv=>decide (kv.1=k))=true
  · rw [if_pos e,if_pos e];exact r.repl k ry
  · rw [if_neg e,if_neg e];exact Paired.snoc r ⟨rfl,ry⟩
theorem KV.drop {kvs:List (κ×V)} {vs:List (κ×Value)} (r:KV kvs vs) (k:κ):KV (oD kvs k) (without vs k):=by
  unfold KV at r ⊢
  unfold oD without
  induction r with
  | nil=>exact .nil
  | @cons p q ps qs h t ih=>
    obtain ⟨h1,h2⟩:=h
    rw [List.filter_cons,List.filter_cons]
    by_cases e:p.1=k
    · have a:¬decide (p.1≠k)=true:=by simp [e]
      have b:¬decide (q.1≠k)=true:=by simp [h1.symm.trans e]
      rw [if_neg a,if_neg b];exact ih
    · have e':¬q.1=k:=fun z=>e (h1.trans z)
      have a:decide (p.1≠k)=true:=by simp [e]
      have b:decide (q.1≠k)=true:=by simp [e']
      rw [if_pos a,if_pos b];exact .cons ⟨h1,h2⟩ ih
theorem KV.keys {kvs:List (κ×V)} {vs:List (κ×Value)} (r:KV kvs vs):kvs.map (·.1)=vs.map (·.1):=by
  unfold KV at r
  induction r with
  | nil=>rfl
  | cons h t ih=>rw [List.map_cons,List.map_cons,ih,h.1]
theorem KV.length {kvs:List (κ×V)} {vs:List (κ×Value)} (r:KV kvs vs):kvs.length=vs.length:=Paired.length r
end
theorem rP {P:Program} {w:World} {k:bG} {u:Value} (r:RelV (kV k) u):(cg P w).is k u=true:=by
  cases k with
  | inl i=>obtain ⟨t,e⟩:=(show ∃t,u=Value.int i t from r);subst e;exact hU P w i t
  | inr x=>obtain ⟨t,e⟩:=(show ∃t,u=Value.str x t from r);subst e;exact hV P w x t
abbrev KT (H:Hp):List (List bG×V)→List (List bG×Addr×Value)→Prop:=Paired fun p q=>p.1=q.1∧H q.2.1=some (.tup (p.1.map kV))∧RelV p.2 q.2.2
theorem KT.val {H:Hp} {kvs:List (List bG×V)} {xs:List (List bG×Addr×Value)} (r:KT H kvs xs) (k:List bG):RelO (eM kvs k) ((atKey xs k).map (·.2)):=by
  induction r with
  | nil=>exact True.intro
  | @cons p q ps qs h t ih=>
    obtain ⟨h1,_,h2⟩:=h
    by_cases e:p.1=k
    · have e':q.1=k:=h1.symm.trans e
      have b:atKey (q::qs) k=some q.2:=by simp [atKey,List.find?_cons,e']
      rw [fG e,b];exact h2
    · have e':¬q.1=k:=fun z=>e (h1.trans z)
      have b:atKey (q::qs) k=atKey qs k:=by simp [atKey,List.find?_cons,e']
      rw [eN e,b];exact ih
theorem KT.repl {H:Hp} {kvs:List (List bG×V)} {xs:List (List bG×Addr×Value)} (r:KT H kvs xs) (k:List bG) {y:V} {u:Value} (ry:RelV y u):
    KT H (kvs.map fun kv=>if kv.1=k then (kv.1,y) else kv) (xs.map (putAt k u)):=by
  induction r with
  | nil=>exact .nil
  | @cons p q ps qs h t ih=>
    rw [List.map_cons,List.map_cons]
    refine .cons ?_ ih
    obtain ⟨h1,h2,h3⟩:=h
    unfold putAt
    by_cases e:p.1=k
    · rw [if_pos e,if_pos (h1.symm.trans e)];exact ⟨h1,h2,ry⟩
    · rw [if_neg e,if_neg (fun z=>e (h1.trans z))];exact ⟨h1,h2,h3⟩
theorem KT.put {H:Hp} {kvs:List (List bG×V)} {xs:List (List bG×Addr×Value)} (r:KT H kvs xs) (k:List bG) {b:Addr} {y:V} {u:Value} (hb:H b=some (.tup (k.map kV))) (ry:RelV y u):
    KT H (dv kvs k y) (storedH xs k b u):=by
  have e:(kvs.any fun kv=>decide (kv.1=k))=(atKey xs k).isSome:=by
    rw [fH,(r.val k).isSome_eq,Option.isSome_map]
  unfold dv storedH
  rw [e]
  by_cases q:(atKey xs k).isSome=true
  · rw [if_pos q,if_pos q];exact r.repl k ry
  · rw [if_neg q,if_neg q];exact Paired.snoc r ⟨rfl,hb,ry⟩
theorem KT.keeps {H H':Hp} {kvs:List (List bG×V)} {xs:List (List bG×Addr×Value)} (r:KT H kvs xs) (ht:∀b ys,H b=some (.tup ys)→H' b=some (.tup ys)):KT H' kvs xs:=
  Paired.mapP r fun _ _ z=>⟨z.1,ht _ _ z.2.1,z.2.2⟩
section
variable {P:Program} {w:World} {H:Hp} {h:Heap} {a:Addr}
theorem rQ {u:HO} (ok:HOk P w H h) (e:Rd H a u):ObjOk P w H h a u:=e.ok ok
theorem oE {kvs:List (bG×V)} (ok:HOk P w H h) (e:Rd H a (.dK kvs)):kvs.length≤sizeLine∧(a == sysModules)=false∧∃vs,KV kvs vs∧h.DictOf (cg P w) a vs:=
  show ObjOk P w H h a (.dK kvs) from rQ ok e
theorem rR {kvs:List (bG×V)} (ok:HOk P w H h) (e:H a=some (.dK kvs)):kvs.length≤sizeLine∧(a == sysModules)=false∧∃vs,KV kvs vs∧h.DictOf (cg P w) a vs:=oE ok (.inl e)
end
def DGet (H:Hp) (a:Addr) (y:V) (r:Option V):Prop:=
  (∃kvs k,Rd H a (.dK kvs)∧y=kV k∧r=eM kvs k)∨∃kvs k b,Rd H a (.dT kvs)∧y= .ref b∧H b=some (.tup (k.map kV))∧r=eM kvs k
def DPut (H:Hp) (a:Addr) (y v:V) (H':Hp):Prop:=
  (∃kvs k,H a=some (.dK kvs)∧y=kV k∧kvs.length < sizeLine∧H'=upd H a (.dK (dv kvs k v)))∨
  ∃kvs k b,H a=some (.dT kvs)∧y= .ref b∧H b=some (.tup (k.map kV))∧kvs.length < sizeLine∧H'=upd H a (.dT (dv kvs k v))
theorem DGet.k {H:Hp} {a:Addr} {kvs:List (bG×V)} {k:bG} (e:H a=some (.dK kvs)):DGet H a (kV k) (eM kvs k):= .inl ⟨kvs,k, .inl e,rfl,rfl⟩
theorem DGet.t {H:Hp} {a b:Addr} {kvs:List (List bG×V)} {k:List bG} (e:H a=some (.dT kvs)) (eb:H b=some (.tup (k.map kV))):DGet H a (.ref b) (eM kvs k):= .inr ⟨kvs,k,b, .inl e,rfl,eb,rfl⟩
theorem DPut.k {H:Hp} {a:Addr} {kvs:List (bG×V)} {k:bG} {v:V} (e:H a=some (.dK kvs)) (hl:kvs.length < sizeLine):DPut H a (kV k) v (upd H a (.dK (dv kvs k v))):= .inl ⟨kvs,k,e,rfl,hl,rfl⟩
theorem DPut.t {H:Hp} {a b:Addr} {kvs:List (List bG×V)} {k:List bG} {v:V} (e:H a=some (.dT kvs)) (eb:H b=some (.tup (k.map kV))) (hl:kvs.length < sizeLine):
    DPut H a (.ref b) v (upd H a (.dT (dv kvs k v))):= .inr ⟨kvs,k,b,e,rfl,eb,hl,rfl⟩
section
variable {X:Cx} {pins:List (Addr×Obj)} {σ:St} {H:Hp} {s:Shared} {a:Addr} {y v:V} {u r:Value} {o:Option V} {A:Around} {E:Value→Shared→Prop}
theorem Inv.big (I:Inv X pins σ H s):sysModules < s.heap.objs.size:=by
  have h:mainGlobals < s.heap.objs.size:=(I.mod.glob.keeps I.bk).lt
  exact Nat.lt_trans (by decide) h
theorem nh {h':Heap} {t':Nat} {ob:HO} (I:Inv X pins σ H s) (mu:qQ (H a)) (hs:Heap.SameBut a s.heap h') (he:∃q,h'.get? a=some q) (new:ObjOk X.prog X.w (upd H a ob) h' a ob):
    Inv X pins σ (upd H a ob) {s with heap:=h',toks:=t'}:=
  I.write (x:=a) (e:=a) mu (.inl rfl) (fun b q hb z=>(hs.2 b hb).trans z) he new
theorem pO {P:Program} {w:World} {H':Hp} {h':Heap} {kvs:List (bG×V)} {vs:List (bG×Value)} (z:kvs.length≤sizeLine) (hd:(a == sysModules)=false) (rel:KV kvs vs) (dd:h'.DictOf (cg P w) a vs):
    ObjOk P w H' h' a (.dK kvs):=⟨z,hd,vs,rel,dd⟩
end
theorem ik {P:Program} {w:World} {H:Hp} (h:Heap) (hb:sysModules < h.objs.size):ObjOk P w H (h.push {cls:= .type "dict",data:= .dict #[]}) h.objs.size (.dK []):=
  ⟨Nat.zero_le _,beq_eq_false_iff_ne.mpr (Ne.symm (Nat.ne_of_lt hb)),[], .nil,Heap.DictOf.new h⟩
def pP:TE:=fun _ H Q=>∀p,H p=none→Q (.ref p) (upd H p (.dK []))
section
variable {X:Cx} {pos:Pos}
theorem lv:PE X (.Dict [] [] pos) pP:=fun pins s σ H Q I h=>
  wpAny_Dict_empty ⟨.ref s.heap.objs.size,_,I.laid (a:=s.heap.objs.size) (o:= .dK []) (t':=s.toks) (fun _ _ q=>Heap.get?_push_of_some _ q) (Nat.le_refl _) (ik s.heap I.big),rfl,h _ (I.hok.fresh (Nat.le_refl _))⟩
end
def gR:List (TE×TE)→St→Hp→(List (V×V)→Hp→Prop)→Prop
  | [],_,H,Q=>Q [] H
  | (tk,tv)::r,σ,H,Q=>tk σ H fun x H1=>tv σ H1 fun y H2=>gR r σ H2 fun ps H3=>Q ((x,y)::ps) H3
abbrev VV:List (V×V)→List (Value×Value)→Prop:=Paired fun p q=>RelV p.1 q.1∧RelV p.2 q.2
def rS (X:Cx) (pos:Pos) (keys:List (Option Expr)) (values:List Expr) (trs:List (TE×TE)):Prop:=
  ∀(pins:List (Addr×Obj)) (s:Shared) (σ:St) (H:Hp) (Q:List (V×V)→Hp→Prop),Inv X pins σ H s→gR trs σ H Q→
    wpAny (model X.prog X.w) X.A (evalPairs (pairTrees keys values X.env pos)) (fun vs s'=>∃ps H',Inv X pins σ H' s'∧VV ps vs∧Q ps H') X.xe s
theorem ni {X:Cx} {pos:Pos}:rS X pos [] [] []:=fun pins s σ H Q I h=>pairTrees_nil_walk ⟨[],H,I, .nil,h⟩
theorem lw {X:Cx} {pos:Pos} {k v:Expr} {ks:List (Option Expr)} {vs:List Expr} {tk tv:TE} {trs:List (TE×TE)} (hk:PE X k tk) (hv:PE X v tv) (hr:rS X pos ks vs trs):
    rS X pos (some k::ks) (v::vs) ((tk,tv)::trs):=fun pins s σ H Q I h=>
  pairTrees_cons_walk (ce (hk pins s σ H _ I h) fun u s1 ⟨x,H1,I1,rx,q1⟩=>ce (hv pins s1 σ H1 _ I1 q1) fun w2 s2 ⟨y,H2,I2,ry,q2⟩=>
    ce (hr pins s2 σ H2 _ I2 q2) fun ws s3 ⟨ps,H3,I3,rel,q3⟩=>⟨(x,y)::ps,H3,I3, .cons ⟨rx,ry⟩ rel,q3⟩)
def dz (kvs more:List (bG×V)):List (bG×V):=more.foldl (fun acc kv=>dv acc kv.1 kv.2) kvs
theorem KV.merge:∀{more:List (bG×V)} {rs:List (bG×Value)} {kvs:List (bG×V)} {vs:List (bG×Value)},KV more rs→KV kvs vs→KV (dz kvs more) (merged vs rs):=by
  intro more rs kvs vs r
  unfold KV at r
  induction r generalizing kvs vs with
  | nil=>intro q;exact q
  | @cons p q ps qs h t ih=>
    intro r0
    have e:KV (dv kvs p.1 p.2) (stored vs q.1 q.2):=by
      have:=r0.put p.1 h.2
      rw [←h.1];exact this
    exact ih e
theorem dS:∀(more kvs:List (bG×V)),(dz kvs more).length≤kvs.length+more.length
  | [],kvs=>by show kvs.length≤kvs.length+0;omega
  | p::r,kvs=>by
    have h1:=dS r (dv kvs p.1 p.2)
    have h2:=ij kvs p.1 p.2
    show (dz (dv kvs p.1 p.2) r).length≤_
    rw [List.length_cons];omega
theorem fI {P:Program} {w:World}:∀{kvs:List (bG×V)} {ws:List (Value×Value)},VV (kvs.map fun kv=>(kV kv.1,kv.2)) ws→∃rs,Carries (cg P w) ws rs∧KV kvs rs
  | [],_,r=>by rw [List.map_nil] at r;cases r;exact ⟨[],True.intro, .nil⟩
  | p::kvs,_,r=>by
    rw [List.map_cons] at r
    cases r with
    | @cons a b as bs h t=>
      obtain ⟨rs,c,q⟩:=fI (P:=P) (w:=w) t
      obtain ⟨b1,b2⟩:=b
      exact ⟨(p.1,b2)::rs,⟨rP h.1,rfl,c⟩, .cons ⟨rfl,h.2⟩ q⟩
def oF (trs:List (TE×TE)):TE:=fun σ H Q=>∀p,H p=none→gR trs σ (upd H p (.dK [])) fun ps H2=>H2 p=some (.dK [])∧∃kvs:List (bG×V),ps=kvs.map (fun kv=>(kV kv.1,kv.2))∧kvs.length≤15∧Q (.ref p) (upd H2 p (.dK (dz [] kvs)))
theorem nj {X:Cx} {pos:Pos} {keys:List (Option Expr)} {values:List Expr} {trs:List (TE×TE)} (h:rS X pos keys values trs) (hall:keys.all (·.isSome)=true) (hl:keys.length=values.length) (h0:keys≠[])
    (h15:keys.length≤15):PE X (.Dict keys values pos) (oF trs):=by
  intro pins s σ H Q I q
  have hn:=I.hok.fresh (Nat.le_refl s.heap.objs.size)
  have I1:=I.laid (a:=s.heap.objs.size) (o:= .dK []) (h':=s.heap.push {cls:= .type "dict",data:= .dict #[]}) (t':=s.toks) (fun _ _ q=>Heap.get?_push_of_some _ q) (Nat.le_refl _) (ik s.heap I.big)
  refine wpAny_Dict_walk (knd:=cg X.prog X.w) hall hl h0 h15 (ce (h pins _ σ _ _ I1 (q _ hn)) fun ws s2 ⟨ps,H2,I2,rel,e,kvs,ep,lk,q2⟩=>?_)
  subst ep
  obtain ⟨rs,c,rk⟩:=fI (P:=X.prog) (w:=X.w) rel
  obtain ⟨z,hd,vs0,r0,dd⟩:=rR I2.hok e
  cases r0
  refine ⟨rs,c,dd,fun h' dd' hs=>⟨.ref s.heap.objs.size,_,?_,rfl,q2⟩⟩
  have hz:(dz [] kvs).length≤sizeLine:=by
    have h1:=dS kvs []
    rw [List.length_nil] at h1
    rw [sizeLine_eq];omega
  have he:∃q,h'.get? s.heap.objs.size=some q:=let ⟨q,_,_,hq,_⟩:=dd';⟨q,hq⟩
  exact nh I2 (by rw [e];exact True.intro) hs he (pO hz hd (rk.merge .nil) dd')
end L2
namespace PL
open PySem L2 Nh
theorem c_ {X:Cx} {a b:Expr} {m1 m2:Bool} {f g:bF} {pos:Pos} (ha:EX X a m1 f) (hb:EX X b m2 g) (hs:jt b:=by exact fun _ _=>rfl):EX X (.Subscript a b pos) (m1||m2) (ad dn m2 f g):=ba (rF py ha hb hs) fun _ _ _ h=>gN pN h
abbrev pQ:=List Sl→Option (Option Int×List Sl)
def ro (K:PySem.W.Frag) (m:Bool) (f:pQ):TO:=fun σ H Q=>∃B E xs Xs o E',Frm K B σ H E xs Xs∧(m=true→Calm Xs)∧f E=some (o,E')∧∀H',Frm K B σ H' E' xs Xs→Q o H'
def OX (X:Cx) (e:Option Expr) (m:Bool) (f:pQ):Prop:=PO X e (ro X.K m f)
def il:pQ:=fun E=>some (none,E)
def im (f:bF):pQ:=fun E=>(f E).bind fun a=>match look a.2 a.1 with
  | some (.int i)=>some (some i,a.2)
  | _=>none
section
variable {X:Cx} {e:Expr} {lo hi:Option Expr} {m1 m2 m3:Bool} {f:bF} {g h:pQ} {pos p2:Pos} {K:PySem.W.Frag}
theorem lx {e:Option Expr} {t t':TO} (h:PO X e t) (k:∀σ H Q,t' σ H Q→t σ H Q):PO X e t':=fun pins s σ H Q I q=>h pins s σ H Q I (k σ H Q q)
theorem nk:OX X none false il:=lx mP fun σ H Q z=>by
  obtain ⟨B,E,xs,Xs,res,E',fr,cl,e,q⟩:=z
  cases e
  exact q _ fr
theorem nn (he:EX X e m1 f):OX X (some e) m1 (im f):=lx (mQ he) fun σ H Q z=>by
  obtain ⟨B,E,xs,Xs,res,E',fr,cl,e,q⟩:=z
  obtain ⟨⟨s,E1⟩,e1,e⟩:=Option.bind_eq_some_iff.mp e
  refine ⟨B,E,xs,Xs,s,E1,fr,cl,e1,fun v1 H1 ⟨F,A,fr1⟩=>?_⟩
  simp only at e
  split at e
  · rename_i i l
    cases e
    have r:=(fr1.look0 l).1
    cases r
    obtain ⟨A',fr2⟩:=fr1.pop
    exact ⟨i,rfl,q _ ⟨F,A',fr2⟩⟩
  · cases e
theorem RpA.cut {F:Hp} {vs:List V} {ds:List PyData} (h:RpA K F vs ds) (lo hi:Option Int):RpA K F (jZ vs lo hi) (ii ds lo hi):=by
  unfold jZ ii
  rw [h.len]
  exact (h.drop _).take _
end
def aB (E:List Sl):List Sl→Option (List PyData)
  | []=>some []
  | s::ss=>(look E s).bind fun d=>(aB E ss).map fun ds=>d::ds
theorem lookA_iff {E:List Sl}:∀{ss:List Sl} {ds:List PyData},aB E ss=some ds↔Paired (fun s d=>look E s=some d) ss ds
  | [],ds=>⟨fun h=>by cases h;exact .nil,fun h=>by cases h;rfl⟩
  | s::ss,ds=>by
    constructor
    · intro h
      obtain ⟨d,h1,h⟩:=Option.bind_eq_some_iff.mp h
      obtain ⟨es,h2,h⟩:=Option.map_eq_some_iff.mp h
      cases h
      exact .cons h1 (lookA_iff.mp h2)
    · intro h
      cases h with
      | cons h1 h2=>simp [aB,h1,lookA_iff.mpr h2]
theorem j5 {E:List Sl} {ss:List Sl} {ds:List PyData} (h:aB E ss=some ds):aB E ss.reverse=some ds.reverse:=lookA_iff.mpr (dX (lookA_iff.mp h))
section
variable {X:Cx} {K:PySem.W.Frag} {B F:Hp} {σ:fW} {H:Hp} {E:List Sl} {xs:List V} {Xs:List Sl}
theorem FrF.looksR:∀{us:List V} {ts:List Sl} {es:List PyData} {A:List Addr},us.length=ts.length→FrF K B F A σ H E (us++xs) (ts++Xs)→aB E ts=some es→RpA K H us es∧∃A',FrF K B F A' σ H E xs Xs
  | [],[],es,A,_,h,e=>by cases e;exact ⟨.nil,A,h⟩
  | u::us,t::ts,es,A,hl,h,e=>by
    obtain ⟨d,h1,e⟩:=Option.bind_eq_some_iff.mp e
    obtain ⟨es',h2,e⟩:=Option.map_eq_some_iff.mp e
    cases e
    have r:=(FrF.look0 (xs:=us++xs) (Xs:=ts++Xs) h h1).1
    obtain ⟨A',h'⟩:=FrF.pop (xs:=us++xs) (Xs:=ts++Xs) h
    obtain ⟨r',q⟩:=FrF.looksR (by simpa using hl) h' h2
    exact ⟨.cons r r',q⟩
  | [],_::_,_,_,e,_,_=>by cases e
  | _::_,[],_,_,e,_,_=>by cases e
theorem FrF.looks {us:List V} {ts:List Sl} {es:List PyData} {A:List Addr} (hl:us.length=ts.length) (h:FrF K B F A σ H E (us.reverse++xs) (ts.reverse++Xs)) (e:aB E ts=some es):RpA K H us es∧∃A',FrF K B F A' σ H E xs Xs:=by
  obtain ⟨r,q⟩:=FrF.looksR (by simpa using hl) h (j5 e)
  have:=r.rev
  rw [List.reverse_reverse,List.reverse_reverse] at this
  exact ⟨this,q⟩
end
def pR (K:PySem.W.Frag) (r:List V→Hp→VK→Prop) (op:List PyData→Option PyData):Prop:=∀(ds:List PyData) (d:PyData) (vs:List V) (H:Hp) (Q:VK),op ds=some d→RpA K H vs ds→∃v,ov d=some v∧(Q v H→r vs H Q)
def bh (op:List PyData→Option PyData) (g:ie):bF:=fun E=>(g E).bind fun a=>(aB a.2 a.1).bind fun ds=>(op ds).map fun d=>(.sh d,a.2)
theorem pS {K:PySem.W.Frag} {r:List V→Hp→VK→Prop} {op:List PyData→Option PyData} (hp:pR K r op) {m:Bool} {g:ie} {σ:fW} {H:Hp} {Q:VK} (h:rd K m (bh op g) σ H Q):tH r (ra K m g) σ H Q:=by
  obtain ⟨B,E,xs,Xs,res,E',fr,cl,e,q⟩:=h
  obtain ⟨⟨rs,E1⟩,e1,e⟩:=Option.bind_eq_some_iff.mp e
  obtain ⟨ds,e2,e⟩:=Option.bind_eq_some_iff.mp e
  obtain ⟨d,e3,e⟩:=Option.map_eq_some_iff.mp e
  cases e
  refine ⟨B,E,xs,Xs,rs,E1,fr,cl,e1,fun vs H1 hl ⟨F,A,fr1⟩=>?_⟩
  obtain ⟨r1,A',fr2⟩:=fr1.looks hl e2
  obtain ⟨v,hv,k⟩:=hp ds d vs H1 Q e3 r1
  exact k (q v H1 ⟨F,A',fr2.push ⟨rfl,v,rfl,fA hv⟩⟩)
def bq:List PyData→Option PyData
  | [.list xs]=>some (.int xs.length)
  | [.tuple xs]=>some (.int xs.length)
  | [.str z]=>if z.length≤1000000 then some (.int z.length) else none
  | _=>none
def i8:List PyData→Option PyData
  | [.int i]=>some (.int (if i < 0 then -i else i))
  | _=>none
theorem RpA.one {K:PySem.W.Frag} {H:Hp} {vs:List V} {d:PyData} (h:RpA K H vs [d]):∃v,vs=[v]∧Rp K H v d:=by
  cases h with
  | cons h t=>cases t;exact ⟨_,rfl,h⟩
theorem RpA.two {K:PySem.W.Frag} {H:Hp} {vs:List V} {d e:PyData} (h:RpA K H vs [d,e]):∃v u,vs=[v,u]∧Rp K H v d∧Rp K H u e:=by
  cases h with
  | cons h t=>
    obtain ⟨u,rfl,r⟩:=t.one
    exact ⟨_,_,rfl,h,r⟩
section
variable {X:Cx} {e:Expr} {es:List Expr} {m1:Bool} {g:ie} {p pos:Pos} {K:PySem.W.Frag}
abbrev rT (K:PySem.W.Frag):List V→Hp→VK→Prop:=fun xs H Q=>(∃p ys,xs=[.ref p]∧(SqL K H p ys∨SqT K H p ys)∧Q (.int ys.length) H)∨(∃z,xs=[.str z]∧z.length≤sizeLine∧Q (.int z.length) H)
theorem nq:pR K (rT K) bq:=fun ds d vs H Q e r=>by
  unfold bq at e
  split at e
  · cases e
    obtain ⟨v,rfl,r'⟩:=r.one
    cases r' with
    | lst h1 h2=>exact ⟨_,rfl,fun q=> .inl ⟨_,_,rfl, .inl h1,by rw [h2.len];exact q⟩⟩
  · cases e
    obtain ⟨v,rfl,r'⟩:=r.one
    cases r' with
    | tup h1 h2=>exact ⟨_,rfl,fun q=> .inl ⟨_,_,rfl, .inr h1,by rw [h2.len];exact q⟩⟩
  · split at e
    · rename_i hl
      cases e
      obtain ⟨v,rfl,r'⟩:=r.one
      cases r'
      exact ⟨_,rfl,fun q=> .inr ⟨_,rfl,dg hl,q⟩⟩
    · cases e
  · cases e
theorem io {x:Str} {id:String} {r:List V→Hp→VK→Prop} {op:List PyData→Option PyData} (hp:pR X.K r op) (hc:CallR X (.builtin id) r) (hg:Gl X x) (hm:X.mg x=none) (hv:bootBuiltins x=some (.builtin id)) (ha:AX X (e::es) m1 g) (hn:x≠"__name__":=by decide) (hdb:(x == ("__debug__":Str))=false:=by decide)
    (he:starEach (e::es) X.env=(false,eval e X.env)::starEach es X.env:=by rfl) (hpl:(backTo pos (starEach es X.env)).any (·.1)=false:=by rfl):EX X (.Call (.Name x p) (e::es) [] pos) m1 (bh op g):=
  ba (fw hc hg hm hv ha hn hdb he hpl) fun _ _ _ h=>pS hp h
theorem dA (hg:Gl X "len") (hm:X.mg "len"=none) (ha:AX X [e] m1 g) (he:starEach [e] X.env=[(false,eval e X.env)]:=by rfl):EX X (.Call (.Name "len" p) [e] [] pos) m1 (bh bq g):=io nq (CallR.or gG gH) hg hm PySem.boot_len ha (by decide) (by decide) he rfl
theorem pT (hg:Gl X "abs") (hm:X.mg "abs"=none) (ha:AX X [e] m1 g) (he:starEach [e] X.env=[(false,eval e X.env)]:=by rfl):EX X (.Call (.Name "abs" p) [e] [] pos) m1 (bh i8 g):=io (fun ds d vs H Q e r=>by
  unfold i8 at e
  split at e
  · cases e
    obtain ⟨v,rfl,r'⟩:=r.one
    cases r'
    exact ⟨_,rfl,fun q=>⟨_,rfl,q⟩⟩
  · cases e) kT hg hm PyProof.Rows.boot_abs ha (by decide) (by decide) he rfl
end
def dB (g:bF):bF:=fun E=>(g E).bind fun a=>match look a.2 a.1 with
  | some (.list ds)=>if !ck a.2 a.1||a_ ds then some (.ow ds,a.2) else none
  | some (.tuple ds)=>if !ck a.2 a.1||a_ ds then some (.ow ds,a.2) else none
  | _=>none
section
variable {X:Cx} {e:Expr} {m1:Bool} {f:bF} {p pos:Pos} {K:PySem.W.Frag}
theorem jE (hg:Gl X "list") (hm:X.mg "list"=none) (ha:EX X e m1 f) (he:starEach [e] X.env=[(false,eval e X.env)]:=by rfl):EX X (.Call (.Name "list" p) [e] [] pos) m1 (dB f):=by
  refine ba (gm gI hg hm PyProof.Rows.boot_list (bN ha cM he) (by decide) (by decide) he rfl) fun σ H Q z=>?_
  obtain ⟨B,E,xs,Xs,res,E',fr,cl,e,q⟩:=z
  obtain ⟨⟨s,E1⟩,e1,e⟩:=Option.bind_eq_some_iff.mp e
  refine ⟨B,E,xs,Xs,s,E1,fr,cl,e1,fun v1 H1 ⟨F,A,fr1⟩=>?_⟩
  obtain ⟨A',fr2⟩:=fr1.pop
  simp only at e
  split at e
  · rename_i ds ld
    split at e
    · rename_i hc
      cases e
      obtain ⟨a,vs,ev,h1,h2⟩:=fr1.items (k:=0) rfl ld hc
      cases ev
      exact ⟨a,vs,rfl, .inl h1,fun l hl=>q _ _ ⟨F,_,fr2.newl h2 hl⟩⟩
    · cases e
  · rename_i ds ld
    split at e
    · rename_i hc
      cases e
      obtain ⟨r,f0⟩:=fr1.look0 ld
      cases hh:ck E' s with
      | false=>
        have h0:Rp X.K F v1 _:=f0 hh
        cases h0 with
        | tup h1 h2=>exact ⟨_,_,rfl, .inr (fr1.fh.tup h1),fun l hl=>q _ _ ⟨F,_,fr2.newl h2 hl⟩⟩
      | true=>
        rw [hh] at hc
        cases r with
        | tup h1 h2=>exact ⟨_,_,rfl, .inr h1,fun l hl=>q _ _ ⟨F,_,fr2.newl (fr1.coldA h2 (by simpa using hc)) hl⟩⟩
    · cases e
  · cases e
end
inductive Ty where
  | non | bool | int | str | list | tuple | dict
def Ty.name:Ty→String
  | .non=>"NoneType"
  | .bool=>"bool"
  | .int=>"int"
  | .str=>"str"
  | .list=>"list"
  | .tuple=>"tuple"
  | .dict=>"dict"
def Ty.is:Ty→Ty→Bool
  | .non, .non=>true
  | .bool, .bool=>true
  | .bool, .int=>true
  | .int, .int=>true
  | .str, .str=>true
  | .list, .list=>true
  | .tuple, .tuple=>true
  | .dict, .dict=>true
  | _,_=>false
def cR:PyData→Ty
  | .none=> .non
  | .bool _=> .bool
  | .int _=> .int
  | .str _=> .str
  | .list _=> .list
  | .tuple _=> .tuple
  | .dict _=> .dict
theorem rV (K:PySem.W.Frag) (t n:Ty):PySem.W.kitOne K (.type t.name) (.type n.name)=some (t.is n):=by cases t <;> cases n <;> rfl
def aW (n:Ty):PyData→Option PyData
  | .dict ((.none,_)::_)=>none
  | d=>some (.bool ((cR d).is n))
section
variable {X:Cx} {e:Expr} {m1:Bool} {f:bF} {p p2 pos:Pos}
theorem j6 {pins:List (Addr×Obj)} {s:Shared} {σ:fW} {H:Hp} {x:V} {u:Value} {d r:PyData} {n:Ty} {A:Around} {E:Value→Shared→Prop} {Q:Value→Shared→Prop} (I:Inv X pins σ H s) (rx:RelV x u) (rp:Rp X.K H x d) (hd:aW n d=some r) (h:∀tk b,r= .bool b→Q (.bool b) {s with toks:=tk}):
    wpAny (model X.prog X.w) A (call (.builtin "isinstance") [u, .type n.name]) Q E s:=by
  have e:=rV X.K (cR d) n
  have h:∀tk,r= .bool ((cR d).is n)→Q (.bool ((cR d).is n)) {s with toks:=tk}:=fun tk z=>h tk _ z
  cases rp with
  | non=>cases hd;exact dH I rx .non e fun tk=>h tk rfl
  | bl b=>cases hd;exact dH I rx (.bl b) e fun tk=>h tk rfl
  | int i=>cases hd;exact dH I rx (.int i) e fun tk=>h tk rfl
  | str y=>cases hd;exact dH I rx (.str y) e fun tk=>h tk rfl
  | lst h1 _=>
    cases hd
    cases rx
    obtain ⟨its,rv,⟨o,n',e1,c,_,d⟩,_⟩:=I.list h1
    exact PySem.W.kia_one PySem.W.kitx_list I.kIn ⟨_,e1,c⟩ e (fun z=>nomatch z) fun tk=>h tk rfl
  | tup h1 _=>
    cases hd
    cases rx
    obtain ⟨its,rv,⟨o,e1,c,n',d⟩,_⟩:=I.tuple h1
    exact PySem.W.kia_one PySem.W.kitx_tuple I.kIn ⟨_,e1,c⟩ e (fun z=>nomatch z) fun tk=>h tk rfl
  | dct h1 hk=>
    cases rx
    obtain ⟨_,_,vs,_,ob,es,ep,e1,c,_⟩:=oE I.hok h1
    refine PySem.W.kia_one PySem.W.kitx_dict I.kIn ⟨_,e1,c.1⟩ e (fun z=>nomatch z) fun tk=>h tk ?_
    cases hk with
    | nil=>cases hd;rfl
    | @cons k x us d kvs a b=>cases k <;> (cases hd;rfl)
  | exc h1 h2=>cases hd
theorem j7 (n:Ty):CallR X (.builtin "isinstance") (fun xs H Q=>∃x d r,xs=[x, .ty n.name]∧Rp X.K H x d∧aW n d=some r∧∀b,r= .bool b→Q (.bl b) H):=by
  intro pins s σ H xs us Q I r h
  obtain ⟨x,d,r',rfl,rp,hd,q⟩:=h
  obtain ⟨u,w',rfl,ru,rw'⟩:=r.two
  cases (show w'=Value.type n.name from rw')
  exact j6 I ru rp hd fun tk b z=>⟨.bl _,H,I.tok _,rfl,q b z⟩
theorem cY (n:Ty) (hg:Gl X "isinstance") (hm:X.mg "isinstance"=none) (ha:EX X e m1 f) {x:Str} (hgx:Gl X x) (hmx:X.mg x=none) (hbx:bootBuiltins x=some (.type n.name)) (hnx:x≠"__name__":=by decide) (hdx:(x == ("__debug__":Str))=false:=by decide)
    (he:starEach [e, .Name x p2] X.env=(false,eval e X.env)::starEach [.Name x p2] X.env:=by rfl) (he2:starEach [.Name x p2] X.env=[(false,eval (.Name x p2) X.env)]:=by rfl) (hpl:(backTo pos (starEach [.Name x p2] X.env)).any (·.1)=false:=by rfl):
    EX X (.Call (.Name "isinstance" p) [e, .Name x p2] [] pos) m1 (bI (aW n) f):=by
  have h2:PE X (.Name x p2) (tC (.ty n.name)):=jm (v:= .ty n.name) hgx hmx hbx rfl hnx hdx
  refine ba (fw (j7 n) hg hm PyProof.Rows.boot_isinstance (bN ha (bN h2 cM he2) he) (by decide) (by decide) he hpl) fun σ H Q z=>?_
  obtain ⟨B,E,xs,Xs,res,E',fr,cl,e,q⟩:=z
  obtain ⟨⟨s,E1⟩,e1,e⟩:=Option.bind_eq_some_iff.mp e
  obtain ⟨d1,e2,e⟩:=Option.bind_eq_some_iff.mp e
  obtain ⟨d2,e3,e⟩:=Option.map_eq_some_iff.mp e
  cases e
  refine ⟨B,E,xs,Xs,s,E1,fr,cl,e1,fun v1 H1 ⟨F,A,fr1⟩=>?_⟩
  obtain ⟨A',fr2⟩:=fr1.pop
  exact ⟨v1,d1,d2,rfl,(fr1.look0 e2).1,e3,fun b z=>q _ _ ⟨F,A',fr2.push ⟨rfl,_,rfl,z▸ .bl b⟩⟩⟩
end
end PL
namespace PL
open PySem L2 Nh
def jF (K:PySem.W.Frag) (H H':Hp) (v:V):Sl→Prop
  | .sh d=>Rp K (tups H') v d
  | .ow ds=>∃l vs,v= .ref l∧H l=none∧H' l=some (.lst vs)∧RpA K (tups H') vs ds
  | .tx ps=>∃t vs A,v= .ref t∧tups H' t=some (.tup vs)∧A.Nodup∧(∀a∈A,H a=none)∧PtsOk K (tups H') H' vs ps A
  | .od kvs=>∃l us A,v= .ref l∧(l::A).Nodup∧(∀a∈l::A,H a=none)∧H' l=some (.dK us)∧DlOk K (tups H') H' us kvs A
  | .br d=>Rp K H' v d
  | _=>False
def dh (K:PySem.W.Frag) (c:List PyData→Option Sl):Sp:=fun vs H Q _=>∃ds r,c ds=some r∧RpA K H vs ds∧∀v H',Same H H'→jF K H H' v r→Q v H'
section
variable {K:PySem.W.Frag} {B F:Hp} {A N:List Addr} {σ:fW} {H H':Hp} {E:List Sl} {xs:List V} {Xs:List Sl} {v:V} {s:Sl}
theorem FrF.growN (h:FrF K B F A σ H E xs Xs) (g:Same H H') (hN:∀a∈N,H a=none∧((∃us,H' a=some (.lst us))∨∃us,H' a=some (.dK us))):FrF K B (fun b=>if b∈N then none else if b∈A then none else H' b) A σ H' E xs Xs:=by
  have h1:=h.grow g
  have nF:∀b o,F b=some o→b∉N:=fun b o e hb=>by
    have:=h.fh.free (hN b hb).1
    rw [this] at e;cases e
  have FF:Same F (fun b=>if b∈N then none else if b∈A then none else H' b):=fun b o e=>by
    have nA:b∉A:=fun hb=>by rw [h.fr b hb] at e;cases e
    show (if b∈N then none else if b∈A then none else H' b)=some o
    rw [if_neg (nF b o e),if_neg nA]
    exact g _ _ (h.fh _ _ e)
  have hA:∀b∈A,H' b=H b:=fun b hb=>by
    rcases h.mutA b hb with ⟨_,z⟩ | ⟨_,z⟩ <;> rw [z,g _ _ z]
  refine ⟨h.bf.trans FF,fun b o e=>?_,fun b o e=>?_,h.sl.mono fun o s C _ hC q=>q.stay FF (fun b hb=>hA b (hC b hb)) fun _=>g,h.nd,fun a ha=>?_,h.len,h.pl⟩
  · by_cases hb:b∈N
    · rw [if_pos hb] at e;cases e
    · rw [if_neg hb] at e;exact h1.fh _ _ e
  · show (if b∈N then none else if b∈A then none else H' b)=some o
    by_cases hb:b∈N
    · obtain ⟨e1,e2⟩:=Option.filter_eq_some_iff.mp e
      rcases (hN b hb).2 with ⟨us,z⟩ | ⟨us,z⟩ <;> rw [z] at e1 <;> cases e1 <;> cases e2
    · rw [if_neg hb];exact h1.tf _ _ e
  · show (if a∈N then none else if a∈A then none else H' a)=none
    by_cases hb:a∈N
    · rw [if_pos hb]
    · rw [if_neg hb,if_pos ha]
theorem FrF.pushR (h:FrF K B F A σ H E xs Xs) (q:SlOk K F H σ (some v) s N) (nd:N.Nodup) (dj:∀a∈N,a∉A) (fr:∀a∈N,F a=none):FrF K B F (N++A) σ H E (v::xs) (s::Xs):=
  ⟨h.bf,h.fh,h.tf, .cons q h.sl,List.nodup_append.mpr ⟨nd,h.nd,fun a ha b hb e=>dj a ha (e▸hb)⟩,fun a ha=>(List.mem_append.mp ha).elim (fr a) (h.fr a),by simp [h.len],h.pl⟩
theorem FrF.told (h:FrF K B F A σ H E xs Xs) (g:Same H H') (q:jF K H H' v s):Frm K B σ H' E (v::xs) (s::Xs):=by
  cases s with
  | sh d=>
    have h1:=h.grow g
    exact ⟨_,_,h1.push ⟨rfl,v,rfl,Rp.same h1.tf q⟩⟩
  | ow ds=>
    obtain ⟨l,vs,rfl,hl,hl',r⟩:=q
    have h1:=h.growN (N:=[l]) g fun a ha=>by rw [List.mem_singleton.mp ha];exact ⟨hl, .inl ⟨vs,hl'⟩⟩
    exact ⟨_,_,h1.pushR (N:=[l]) ⟨l,vs,rfl,rfl,hl',r.same h1.tf⟩ (by simp) (fun a ha=>by rw [List.mem_singleton.mp ha];exact h.newA hl) fun a ha=>if_pos ha⟩
  | tx ps=>
    obtain ⟨t,vs,N,rfl,ht,nd,hN,r⟩:=q
    have h1:=h.growN (N:=N) g fun a ha=>⟨hN a ha, .inl (r.some a ha)⟩
    exact ⟨_,_,h1.pushR (N:=N) ⟨t,vs,rfl,h1.tf _ _ ht,r.stay h1.tf fun _ _=>rfl⟩ nd (fun a ha=>h.newA (hN a ha)) fun a ha=>if_pos ha⟩
  | no=>exact False.elim q
  | od kvs=>
    obtain ⟨l,us,N,rfl,nd,hN,hl,r⟩:=q
    have h1:=h.growN (N:=l::N) g fun a ha=>⟨hN a ha,(List.mem_cons.mp ha).elim (fun z=> .inr ⟨us,z▸hl⟩) fun z=> .inl (r.some a z)⟩
    exact ⟨_,_,h1.pushR (N:=l::N) ⟨l,us,N,rfl,rfl,hl,r.stay h1.tf fun _ _=>rfl⟩ nd (fun a ha=>h.newA (hN a ha)) fun a ha=>if_pos ha⟩
  | al i=>exact False.elim q
  | br d=>
    have h1:=h.grow g
    exact ⟨_,_,h1.push ⟨rfl,v,rfl,q⟩⟩
end
def aw (c:List PyData→Option Sl) (g:ie):bF:=fun E=>(g E).bind fun a=>(aB a.2 a.1).bind fun ds=>(c ds).map fun r=>(r,a.2)
theorem bJ {X:Cx} {k:Nat} {x:Str} {ps:List Str} {c:List PyData→Option Sl} {p pos:Pos} {e:Expr} {es:List Expr} {m:Bool} {g:ie} (D:Own X.prog X.w X.K X.mg X.base k x ps (dh X.K c)) (hr:Room k X.A) (hg:Gl X x) (ha:AX X (e::es) m g)
    (hdb:(x == ("__debug__":Str))=false:=by decide) (he:starEach (e::es) X.env=(false,eval e X.env)::starEach es X.env:=by rfl) (hpl:(backTo pos (starEach es X.env)).any (·.1)=false:=by rfl):
    EX X (.Call (.Name x p) (e::es) [] pos) m (aw c g):=by
  refine ba (pD D hr hg ha hdb he hpl) fun σ H Q z=>?_
  obtain ⟨B,E,xs,Xs,res,E',fr,cl,e,q⟩:=z
  obtain ⟨⟨rs,E1⟩,e1,e⟩:=Option.bind_eq_some_iff.mp e
  obtain ⟨ds,e2,e⟩:=Option.bind_eq_some_iff.mp e
  obtain ⟨r,e3,e⟩:=Option.map_eq_some_iff.mp e
  cases e
  refine ⟨B,E,xs,Xs,rs,E1,fr,cl,e1,fun vs H1 hl ⟨F,A,fr1⟩=>?_⟩
  obtain ⟨r1,A',fr2⟩:=fr1.looks hl e2
  exact ⟨ds,res,e3,by rw [List.append_nil];exact r1,fun v H' g q'=>q v H' (fr2.told g q')⟩
def di (i:Nat) (f:bF):bF:=fun E=>match E[i]? with
  | some (.ow _)=>(f E).bind fun a=>(frz a.2 a.1).bind fun b=>match b.2[i]? with
    | some (.ow ds)=>if ds.length < 1000000 then some (.sh .none,b.2.set i (.ow (ds++[b.1]))) else none
    | _=>none
  | _=>none
section
variable {X:Cx} {e:Expr} {m1:Bool} {f:bF} {x:Str} {p apos cpos:Pos}
theorem j8 (i:Nat) (he:EX X e m1 f) (hN:X.N[i]? =some x:=by rfl) (hv:jk X.env.scope x:=by first | exact Or.inl rfl | exact Or.inr (Or.inl rfl) | exact Or.inr (Or.inr rfl)) (hd:(x == ("__debug__":Str))=false:=by decide) (hcd:(x == ("__classdict__":Str))=false:=by decide)
    (hs:starEach [e] X.env=[(false,eval e X.env)]:=by rfl) (hbase:attributeBase (.Name x p) "append" X.env (eval (.Name x p) X.env)=eval (.Name x p) X.env:=by rfl)
    (hfew:((backTo cpos (starEach [e] X.env)).all (fun x=> !x.1)&&(backToKw cpos (keywordEach [] X.env)).all (fun x=>x.1.isSome)
      &&decide (([e]:List Expr).length+([]:List Keyword).length+(if ([]:List Keyword).isEmpty then 0 else 1) < 30))=true:=by rfl) (hline:(apos.endLine == cpos.line)=true:=by rfl):
    EX X (.Call (.Attribute (.Name x p) "append" apos) [e] [] cpos) true (di i f):=by
  refine ba (jv PySem.F.plainAttrs_list PySem.F.slot_list_append PySem.F.type_list_append j2 (fq hN hv hd hcd) (bN he cM hs) hbase hfew hline hs rfl) fun σ H Q z=>?_
  obtain ⟨B,E,xs,Xs,res,E',⟨F,A,fr⟩,cl,e,q⟩:=z
  unfold di at e
  split at e
  · rename_i ds0 ei
    obtain ⟨⟨s,E1⟩,e1,e⟩:=Option.bind_eq_some_iff.mp e
    obtain ⟨⟨d,E2⟩,e2,e⟩:=Option.bind_eq_some_iff.mp e
    simp only at e
    split at e
    · rename_i ds ei2
      split at e
      · rename_i hl
        cases e
        obtain ⟨o,A1,eo,l,vs,rfl,rfl,hl0,_⟩:=fr.var ei
        refine ⟨_,eo, .inl ⟨rfl,_,SqL.of hl0⟩,B,E,xs,Xs,s,E1,⟨F,A,fr⟩,fun _=>cl rfl,e1,fun v H1 ⟨F1,A1,fr1⟩=>?_⟩
        obtain ⟨F2,A2,fr2⟩:=fr1.frz0 e2
        obtain ⟨v',A3,ev,rfl,w,ew,rv⟩:=fr2.ext (k:=0) rfl
        cases ev;cases ew
        obtain ⟨A4,fr3⟩:=fr2.pop
        obtain ⟨l',vs',eo',hl',r',put⟩:=fr3.mut ei2 (cl rfl)
        rw [eo] at eo'
        cases eo'
        have ll:=r'.len
        have fr4:=put (vs'++[v]) (ds++[d]) (r'.snoc rv)
        exact ⟨l,vs',v,rfl,rfl,hl',oz (by omega),q _ _ ⟨_,_,fr4.push ⟨rfl,_,rfl, .non⟩⟩⟩
      · cases e
    · cases e
  · cases e
end
def cU (s:Sl):Sl:=match s.val with
  | some d=> .sh d
  | none=> .no
def frzAll (E:List Sl):List Sl:=E.map cU
def settle (E:List Sl):Sl→Option (Sl×List Sl)
  | .al i=>(frz E (.al i)).map fun a=>(.sh a.1,a.2)
  | .br d=>if aK d then some (.sh d,E) else some (.sh d,frzAll E)
  | s=>some (s,E)
def aF (g h:bZ):bZ:=fun E=>(g E).bind fun a=>match a.2 with
  | .nx=>h a.1
  | fl=>some (a.1,fl)
def aO:bZ:=fun E=>some (E, .nx)
def gu (f:bF):bZ:=fun E=>(f E).map fun a=>(a.2, .nx)
def aG (f:bF):bZ:=fun E=>(f E).bind fun a=>match a.1 with
  | .al i=>(a.2[i]?).map fun s=>(a.2.set i .no, .rt s)
  | s=>some (a.2, .rt s)
def bv (c:iP) (g h:bZ):bZ:=fun E=>(c E).bind fun a=>if a.1 then g a.2 else h a.2
def aL (i:Nat) (f:bF):bZ:=fun E=>(f E).bind fun a=>(settle a.2 a.1).bind fun b=>if i < b.2.length then some (b.2.set i b.1, .nx) else none
section
variable {K:PySem.W.Frag} {B F:Hp} {A:List Addr} {σ:fW} {H:Hp} {E E':List Sl} {xs:List V} {Xs:List Sl} {v:V} {s s':Sl} {d:PyData}
theorem FrF.frzAll (h:FrF K B F A σ H E xs Xs) (hX:Xs=[]):FrF K B H [] σ H (PL.frzAll E) [] []:=by
  subst hX
  have hx:xs=[]:=by simpa using h.len
  subst hx
  refine ⟨h.bf.trans h.fh,Same.refl _,dL H,?_,List.nodup_nil,fun a ha=>(by cases ha),rfl,fun s hs=>?_⟩
  · have key:∀{os:List (Option V)} {ss:List Sl} {C:List Addr},SAll (SlOk K F H σ) os ss C→SAll (SlOk K H H σ) os (PL.frzAll ss) []:=fun {os ss C} r=>by
      induction r with
      | nil=>exact .nil
      | cons q _ ih=>
        refine .cons (A:=[]) ?_ ih
        unfold cU
        split
        · rename_i d e
          obtain ⟨v,rfl,r,_⟩:=q.val h.fh e
          exact ⟨rfl,v,rfl,r⟩
        · exact rfl
    exact key h.sl
  · obtain ⟨t,_,rfl⟩:=List.mem_map.mp hs
    unfold cU
    split <;> rfl
theorem FrF.settle (h:FrF K B F A σ H E (v::xs) (s::Xs)) (hX:Xs=[]) (q:PL.settle E s=some (s',E')):s'.isAl=false∧Frm K B σ H E' (v::xs) (s'::Xs):=by
  cases s with
  | al i=>
    obtain ⟨⟨d,E2⟩,e,z⟩:=Option.map_eq_some_iff.mp (show (frz E (.al i)).map (fun a=>(Sl.sh a.1,a.2))=some (s',E') from q)
    cases z
    obtain ⟨F',A',h'⟩:=h.frz0 e
    exact ⟨rfl,F',A',h'⟩
  | br d=>
    have r:=(h.look0 (d:=d) rfl).1
    obtain ⟨A',h'⟩:=h.pop
    simp only [PL.settle] at q
    split at q
    · rename_i hf
      cases q
      exact ⟨rfl,F,A',h'.push ⟨rfl,v,rfl,h.cold r hf⟩⟩
    · cases q
      have h2:=h'.frzAll hX
      have hl:=h'.len
      subst hX
      have hx:xs=[]:=by simpa using hl
      subst hx
      exact ⟨rfl,H,[],h2.push ⟨rfl,v,rfl,r⟩⟩
  | no=>cases q;exact ⟨rfl,F,A,h⟩
  | sh d=>cases q;exact ⟨rfl,F,A,h⟩
  | ow ds=>cases q;exact ⟨rfl,F,A,h⟩
  | od kvs=>cases q;exact ⟨rfl,F,A,h⟩
  | tx ps=>cases q;exact ⟨rfl,F,A,h⟩
theorem FrF.move {i:Nat} (h:FrF K B F A σ H E (v::xs) (.al i::Xs)) (e:E[i]? =some s):Frm K B σ H (E.set i .no) (v::xs) (s::Xs):=by
  obtain ⟨v',A1,ev,rfl,w,ew,hw⟩:=h.ext (k:=0) rfl
  cases ev;cases ew
  obtain ⟨A',h'⟩:=h.pop
  obtain ⟨o,A0,A1,A2,eA,eo,hp,put⟩:=h'.sl.at (k:=Xs.length+i) (s:=s) (by rw [List.getElem?_append_right (by omega)];simpa using e)
  have z:=put (SlOk K F H σ) o .no [] rfl fun _ _ _ _ _ q=>q
  have e3:(Xs++E).set (Xs.length+i) .no=Xs++E.set i .no:=by
    rw [List.set_append_right _ _ (by omega),Nat.add_sub_cancel_left]
  have e2:(List.map some xs++σ).set (Xs.length+i) o=List.map some xs++σ:=List.ext_getElem? fun j=>by
    by_cases hj:Xs.length+i=j
    · subst hj
      rw [List.getElem?_set_self',eo];rfl
    · rw [List.getElem?_set_ne hj]
  rw [e2,e3] at z
  rw [List.getElem?_append_right (by rw [List.length_map,h'.len];omega),List.length_map,h'.len,Nat.add_sub_cancel_left,hw] at eo
  cases eo
  have nd:=h'.nd
  rw [eA] at nd
  refine ⟨F,A1++(A0++([]++A2)),h.bf,h.fh,h.tf, .cons hp z,?_,fun a ha=>h'.fr a ?_,h.len,fun s' hs=>?_⟩
  · have p:(A1++(A0++([]++A2))).Perm (A0++(A1++A2)):=by
      rw [List.nil_append,←List.append_assoc,←List.append_assoc]
      exact List.Perm.append_right _ List.perm_append_comm
    exact p.nodup_iff.mpr nd
  · rw [eA]
    simp only [List.mem_append,List.nil_append] at ha ⊢
    rcases ha with z | z | z
    · exact .inr (.inl z)
    · exact .inl z
    · exact .inr (.inr z)
  · rcases List.mem_or_eq_of_mem_set hs with hs | hs
    · exact h.pl s' hs
    · subst hs;rfl
end
section
variable {X:Cx} {st:Stmt} {bO a b:List Stmt} {g h:bZ} {e c:Expr} {m:Bool} {f:bF} {t:iP} {pos:Pos}
theorem bD:iZ X [] aO:=jA mD fun D σ H z=>by
  obtain ⟨B,E,xs,Xs,E',fl,fr,cl,e,q⟩:=z
  cases e
  exact q _ _ fr
theorem aC (h1:SX X st g):iZ X [st] g:=mE h1
theorem pU {K:PySem.W.Frag} {D:Ends} {σ:fW} {H:Hp} (z:rs K (aF g h) D σ H):rs K g {D with nx:=rs K h D} σ H:=by
  obtain ⟨B,E,xs,Xs,E',fl,fr,cl,e,q⟩:=z
  obtain ⟨⟨E1,f1⟩,e1,e⟩:=Option.bind_eq_some_iff.mp e
  refine ⟨B,E,xs,Xs,E1,f1,fr,cl,e1,?_⟩
  cases f1 with
  | nx=>exact fun σ' H' fr'=>⟨B,E1,xs,Xs,E',fl,fr',cl,e,q⟩
  | bk=>cases e;exact q
  | ct=>cases e;exact q
  | rt r=>cases e;exact q
theorem ao (h1:SX X st g) (h2:iZ X bO h):iZ X (st::bO) (aF g h):=jA (kK h1 h2) fun D σ H z=>pU z
theorem nr (he:EX X e m f) (hs:swapsWith e none pos.line X.env=pure false:=by rfl):SX X (.Expr e pos) (gu f):=dY (jn he hs) fun D σ H z=>by
  obtain ⟨B,E,xs,Xs,E',fl,fr,cl,e,q⟩:=z
  obtain ⟨⟨s,E1⟩,e1,e⟩:=Option.map_eq_some_iff.mp e
  cases e
  refine ⟨B,E,xs,Xs,s,E1,fr,fun _=>Calm.nil cl,e1,fun v H1 ⟨F,A,fr1⟩=>?_⟩
  obtain ⟨A',fr2⟩:=fr1.pop
  exact q _ _ ⟨F,A',fr2⟩
theorem bi (he:EX X e m f):SX X (.Return (some e) pos) (aG f):=dY (o6 he) fun D σ H z=>by
  obtain ⟨B,E,xs,Xs,E',fl,fr,cl,e,q⟩:=z
  obtain ⟨⟨s,E1⟩,e1,e⟩:=Option.bind_eq_some_iff.mp e
  refine ⟨B,E,xs,Xs,s,E1,fr,fun _=>Calm.nil cl,e1,fun v H1 ⟨F,A,fr1⟩=>?_⟩
  simp only at e
  split at e
  · obtain ⟨s',es,e⟩:=Option.map_eq_some_iff.mp e
    cases e
    exact q σ _ _ (fr1.move es)
  · cases e
    exact q σ _ _ ⟨F,A,fr1⟩
theorem cI (hc:TX X c m t) (ha:iZ X a g) (hb:iZ X b h):SX X (.If c a b pos) (bv t g h):=dY (qY hc ha hb) fun D σ H z=>by
  obtain ⟨B,E,xs,Xs,E',fl,fr,cl,e,q⟩:=z
  obtain ⟨⟨b1,E1⟩,e1,e⟩:=Option.bind_eq_some_iff.mp e
  refine ⟨B,E,xs,Xs,b1,E1,fr,fun _=>Calm.nil cl,e1,fun H1 fr1=>?_⟩
  cases b1 with
  | true=>exact (if_pos rfl).mpr ⟨B,E1,xs,Xs,E',fl,fr1,cl,e,q⟩
  | false=>exact (if_neg (by decide)).mpr ⟨B,E1,xs,Xs,E',fl,fr1,cl,e,q⟩
theorem aX (i:Nat) {x:Str} {pos':Pos} (hN:X.N.Nodup) (he:EX X e m f) (hi:X.N[i]? =some x:=by rfl) (hx:kH X.env.scope x:=by first | exact Or.inl rfl | exact Or.inr rfl) (hs:swapsWith e (some (.Name x pos')) pos.line X.env=pure false:=by rfl) (hf:X.fn x=true∨X.env.scope.names.lookup x=some .local:=by first | exact .inl rfl | exact .inr rfl | assumption):
    SX X (.Assign [.Name x pos'] e pos) (aL i f):=dY (o8 hN hi hx he hs hf) fun D σ H z=>by
  obtain ⟨B,E,xs,Xs,E',fl,fr,cl,e,q⟩:=z
  obtain ⟨⟨s,E1⟩,e1,e⟩:=Option.bind_eq_some_iff.mp e
  obtain ⟨⟨s',E2⟩,e2,e⟩:=Option.bind_eq_some_iff.mp e
  refine ⟨B,E,xs,Xs,s,E1,fr,fun _=>Calm.nil cl,e1,fun v H1 ⟨F,A,fr1⟩=>?_⟩
  obtain ⟨c1,F2,A2,fr2⟩:=fr1.settle cl e2
  simp only at e
  split at e
  · rename_i hi
    cases e
    obtain ⟨A3,fr3⟩:=fr2.store c1 (Still.nil cl) hi
    exact q _ _ ⟨F2,A3,fr3⟩
  · cases e
end
end PL
namespace PL
open PySem L2 Nh
abbrev j9:=PyData→List Sl→Option (List Sl)
def rg (K:PySem.W.Frag) (h:j9):TG:=fun v σ H Q=>∃B E xs Xs d E',Frm K B σ H E (v::xs) (.sh d::Xs)∧Still Xs∧h d E=some E'∧∀σ' H',Frm K B σ' H' E' xs Xs→Q σ' H'
def GX (X:Cx) (e:Expr) (h:j9):Prop:=PG X e (rg X.K h)
def dk (i:Nat):j9:=fun d E=>if i < E.length then some (E.set i (.sh d)) else none
section
variable {X:Cx}
theorem pV {e:Expr} {t t':TG} (h:PG X e t) (k:∀v σ H Q,t' v σ H Q→t v σ H Q):PG X e t':=fun pins s σ H v u Q I r q=>h pins s σ H v u Q I r (k v σ H Q q)
theorem fb (i:Nat) {x:Str} {pos:Pos} (hN:X.N.Nodup) (hi:X.N[i]? =some x:=by rfl) (hx:kH X.env.scope x:=by first | exact Or.inl rfl | exact Or.inr rfl) (hf:X.fn x=true∨X.env.scope.names.lookup x=some .local:=by first | exact .inl rfl | exact .inr rfl | assumption):GX X (.Name x pos) (dk i):=pV (mF hN hi hx hf) fun v σ H Q z=>by
  obtain ⟨B,E,xs,Xs,d,E',⟨F,A,fr⟩,cl,e,q⟩:=z
  unfold dk at e
  split at e
  · rename_i hi
    cases e
    obtain ⟨A',fr'⟩:=fr.store rfl cl hi
    exact q _ _ ⟨F,A',fr'⟩
  · cases e
end
def ly (K:PySem.W.Frag) (B0:Hp) (J:It) (ds:List PyData):Prop:=∀{B F:Hp} {A:List Addr} {σ:fW} {H:Hp} {E:List Sl} {xs:List V} {Xs:List Sl} (i:Nat),Same B0 B→FrF K B F A σ H E xs Xs→
  (∀d,ds[i]? =some d→J.go i H∧∀x H2,J.yld i H x H2→Frm K B σ H2 E (x::xs) (.sh d::Xs))∧(i=ds.length→J.stop i H)
def ri (K:PySem.W.Frag) (m:Bool) (f:hO):TI:=fun σ H R=>∃B E xs Xs ds E',Frm K B σ H E xs Xs∧(m=true→Calm Xs)∧f E=some (ds,E')∧∀B' J H',Same B B'→Frm K B' σ H' E' xs Xs→ly K B' J ds→R J H'
def IX (X:Cx) (tg e:Expr) (m:Bool) (f:hO):Prop:=PI X tg e (ri X.K m f)
theorem FrF.base {K:PySem.W.Frag} {B B' F:Hp} {A:List Addr} {σ:fW} {H:Hp} {E:List Sl} {xs:List V} {Xs:List Sl} (h:FrF K B' F A σ H E xs Xs) (s:Same B B'):FrF K B F A σ H E xs Xs:=⟨s.trans h.bf,h.fh,h.tf,h.sl,h.nd,h.fr,h.len,h.pl⟩
theorem Frm.base {K:PySem.W.Frag} {B B':Hp} {σ:fW} {H:Hp} {E:List Sl} {xs:List V} {Xs:List Sl} (h:Frm K B' σ H E xs Xs) (s:Same B B'):Frm K B σ H E xs Xs:=let ⟨F,A,h⟩:=h;⟨F,A,h.base s⟩
theorem FrF.raise {K:PySem.W.Frag} {B F:Hp} {A:List Addr} {σ:fW} {H:Hp} {E:List Sl} {xs:List V} {Xs:List Sl} (h:FrF K B F A σ H E xs Xs):FrF K F F A σ H E xs Xs:=⟨Same.refl _,h.fh,h.tf,h.sl,h.nd,h.fr,h.len,h.pl⟩
def gS (lo:Int) (n:Nat):List PyData:=(List.range n).map fun (k:Nat)=> .int (lo+(k:Int))
def gT (g:ie):hO:=fun E=>(g E).bind fun a=>match aB a.2 a.1 with
  | some [.int j]=>if -1000000≤j∧j≤1000000 then some (gS 0 j.toNat,a.2) else none
  | _=>none
section
variable {X:Cx} {tg e e2:Expr} {m:Bool} {f:bF} {g:ie} {p pos:Pos} {K:PySem.W.Frag} {B:Hp}
theorem lz {t t':TI} (h:PI X tg e t) (k:∀σ H Q,t' σ H Q→t σ H Q):PI X tg e t':=fun pins s σ H R I q=>h pins s σ H R I (k σ H R q)
theorem j_ {a:Addr} {vs:List V} {ds:List PyData} (h:SqL K B a vs) (r:RpA K B vs ds):ly K B (tj K a) ds:=fun {B' F A σ H E xs Xs} i sB fr=>by
  have hH:=fr.fh.seq (fr.bf.seq (sB.seq h))
  refine ⟨fun d ed=>?_,fun e=>⟨vs,hH,by rw [e,r.len];exact Nat.le_refl _⟩⟩
  obtain ⟨v,ev,rv⟩:=r.get ed
  refine ⟨⟨vs,v,hH,ev⟩,fun x H2 ⟨e2,y⟩=>?_⟩
  subst e2
  have:=y vs hH
  rw [ev] at this
  cases this
  exact ⟨F,A,fr.push ⟨rfl,_,rfl,rv.same (sB.trans fr.bf)⟩⟩
theorem i9 {lo:Int} {n:Nat}:ly K B (sN lo n) (gS lo n):=fun {B' F A σ H E xs Xs} i sB fr=>by
  have hl:(gS lo n).length=n:=by simp [gS]
  refine ⟨fun d ed=>?_,fun e=>?_⟩
  · have hi:i < n:=by have:=(List.getElem?_eq_some_iff.mp ed).1;omega
    refine ⟨hi,fun x H2 ⟨e2,y⟩=>?_⟩
    subst e2 y
    have:d= .int (lo+i):=by
      unfold gS at ed
      rw [List.getElem?_map,List.getElem?_range hi] at ed
      exact (Option.some.inj ed).symm
    subst this
    exact ⟨F,A,fr.push ⟨rfl,_,rfl, .int _⟩⟩
  · show n≤i
    omega
theorem kb (hg:Gl X "range") (hm:X.mg "range"=none) (ha:AX X [e] m g) (hs:starEach [e] X.env=[(false,eval e X.env)]:=by rfl):IX X tg (.Call (.Name "range" p) [e] [] pos) m (gT g):=lz (jT hg hm ha hs) fun σ H R z=>by
  obtain ⟨B,E,xs,Xs,ds,E',fr,cl,e,q⟩:=z
  obtain ⟨⟨rs,E1⟩,e1,e⟩:=Option.bind_eq_some_iff.mp e
  refine ⟨B,E,xs,Xs,rs,E1,fr,cl,e1,fun vs H1 hl ⟨F,A,fr1⟩=>?_⟩
  simp only at e
  split at e
  · rename_i j ld
    split at e
    · rename_i hj
      cases e
      obtain ⟨r,A',fr2⟩:=fr1.looks hl ld
      obtain ⟨v,rfl,r'⟩:=r.one
      cases r'
      exact ⟨j,rfl,by omega,by omega,q B _ _ (Same.refl _) ⟨F,A',fr2⟩ i9⟩
    · cases e
  · cases e
end
def dq (tg:j9) (body:bZ):List PyData→bZ
  | [],E=>some (E, .nx)
  | d::ds,E=>((tg d E).bind body).bind fun a=>match a.2 with
    | .nx=>dq tg body ds a.1
    | .ct=>dq tg body ds a.1
    | .bk=>some (a.1, .nx)
    | .rt r=>some (a.1, .rt r)
def fY (it:hO) (tg:j9) (body:bZ):bZ:=fun E=>(it E).bind fun a=>dq tg body a.1 a.2
theorem i_ {X:Cx} {tg iter:Expr} {body:List Stmt} {m:Bool} {it:hO} {g:j9} {b:bZ} {pos:Pos} (hp:PassesOwn (model X.prog X.w) X.A X.env X.xe) (hc:X.calm=true) (hi:IX X tg iter m it) (hg:GX X tg g) (hb:iZ X body b)
    (hs:∀x,foldedSetIterable iter X.env x=pure x:=by intro _;rfl):SX X (.For tg iter body [] pos) (fY it g b):=dY (kN hp hc hi hg hb hs) fun D σ H z=>by
  obtain ⟨B,E,xs,Xs,E',fl,fr,cl,e,q⟩:=z
  obtain ⟨⟨ds,E1⟩,e1,e⟩:=Option.bind_eq_some_iff.mp e
  refine ⟨B,E,xs,Xs,ds,E1,fr,fun _=>Calm.nil cl,e1,fun B' J H1 hB fr1 ok=>?_⟩
  refine ⟨fun i mm σ' H'=>mm=ds.length - i∧i≤ds.length∧∃Ei,dq g b (ds.drop i) Ei=some (E',fl)∧Frm X.K B' σ' H' Ei xs Xs,⟨ds.length,by simp,Nat.zero_le _,E1,by simpa using e,fr1⟩,?_⟩
  rintro i mm σ' H' ⟨rfl,hi,Ei,ei,F,A,fri⟩
  obtain ⟨go,stop⟩:=ok i (Same.refl _) fri
  by_cases hlt:i < ds.length
  · obtain ⟨d,ed⟩:∃d,ds[i]? =some d:=⟨ds[i],List.getElem?_eq_getElem hlt⟩
    obtain ⟨g1,yl⟩:=go d ed
    have edr:ds.drop i=d::ds.drop (i+1):=by
      rw [List.drop_eq_getElem_cons hlt]
      congr 1
      exact Option.some.inj ((List.getElem?_eq_getElem hlt).symm.trans ed)
    rw [edr] at ei
    obtain ⟨⟨E2,f2⟩,e2,ei⟩:=Option.bind_eq_some_iff.mp ei
    obtain ⟨E3,e3,e2⟩:=Option.bind_eq_some_iff.mp e2
    refine .inr ⟨g1,fun σ2 H2=>∃Ej,dq g b (ds.drop (i+1)) Ej=some (E',fl)∧Frm X.K B' σ2 H2 Ej xs Xs,fun σ2 H2 ⟨Ej,ej,frj⟩=>⟨ds.length - (i+1),by omega,rfl,hlt,Ej,ej,frj⟩,fun x H2 y=>?_⟩
    refine ⟨B',Ei,xs,Xs,d,E3,yl x H2 y,Still.nil cl,e3,fun σ3 H3 fr3=>?_⟩
    refine ⟨B',E3,xs,Xs,E2,f2,fr3,cl,e2,?_⟩
    cases f2 with
    | nx=>exact fun σ4 H4 fr4=>⟨E2,ei,fr4⟩
    | ct=>exact fun σ4 H4 fr4=>⟨E2,ei,fr4⟩
    | bk=>cases ei;exact fun σ4 H4 fr4=>q _ _ (fr4.base hB)
    | rt r=>cases ei;exact fun σ4 v H4 fr4=>q _ _ _ (fr4.base hB)
  · have e0:i=ds.length:=by omega
    refine .inl ⟨stop e0,?_⟩
    rw [e0,List.drop_length] at ei
    cases ei
    exact q _ _ (Frm.base ⟨F,A,fri⟩ hB)
def aP:Sl→Bool
  | .sh d=>aK d
  | .ow ds=>a_ ds
  | .tx ps=>ps.all fun p=>match p with | .fl d=>aK d | .ol ds=>a_ ds
  | .od kvs=>kvs.all fun p=>a_ p.2
  | _=>false
def aq (n:Nat) (ds:List PyData):List Sl:=ds.map .sh++List.replicate (n - ds.length) .no
def bx (r:Sl):Option Sl:=if aP r then some r else match r with
  | .sh d=>some (.br d)
  | .ow ds=>some (.br (.list ds))
  | .tx ps=>some (.br (.tuple (ps.map Pt.val)))
  | .br d=>some (if aK d then .sh d else .br d)
  | _=>none
def bE (n:Nat) (g:bZ):List PyData→Option Sl:=fun ds=>(g (aq n ds)).bind fun a=>match a.2 with
  | .rt r=>bx r
  | .nx=>some (.sh .none)
  | _=>none
section
variable {K:PySem.W.Frag} {B F:Hp} {A:List Addr} {σ:fW} {H:Hp} {E:List Sl} {v:V} {r:Sl}
theorem DlOk.cold {F H:Hp} (sF:Same F H):∀{us:List (bG×V)} {kvs:List (bG×List PyData)} {A:List Addr},(∀p∈kvs,a_ p.2=true)→DlOk K F H us kvs A→DlOk K (tups H) H us kvs A
  | [],[],A,_,h=>h
  | p::us,q::kvs,A,c,h=>by
    obtain ⟨l,vs,A',rfl,rfl,hl,hr,k⟩:=h
    exact ⟨l,vs,A',rfl,rfl,hl,(hr.same sF).cold (c q (List.mem_cons_self ..)),DlOk.cold sF (fun p hp=>c p (List.mem_cons_of_mem _ hp)) k⟩
  | [],_::_,_,_,h=>False.elim h
  | _::_,[],_,_,h=>False.elim h
theorem PtsOk.cold {F H G:Hp} (sF:Same F H) (tG:∀{v:V} {d:PyData},Rp K F v d→aK d=true→Rp K G v d):∀{vs:List V} {ps:List Pt} {A:List Addr},(∀p∈ps,(match p with | .fl d=>aK d | .ol ds=>a_ ds)=true)→PtsOk K F H vs ps A→PtsOk K G H vs ps A
  | [],[],A,_,h=>h
  | v::vs, .fl d::ps,A,c,h=>⟨tG h.1 (c (.fl d) (List.mem_cons_self ..)),PtsOk.cold sF tG (fun p hp=>c p (List.mem_cons_of_mem _ hp)) h.2⟩
  | v::vs, .ol ds::ps,A,c,h=>by
    obtain ⟨l,us,A',rfl,rfl,hl,hr,q⟩:=h
    refine ⟨l,us,A',rfl,rfl,hl,?_,q.cold sF tG fun p hp=>c p (List.mem_cons_of_mem _ hp)⟩
    have cd:a_ ds=true:=c (.ol ds) (List.mem_cons_self ..)
    have key:∀{us:List V} {ds:List PyData},RpA K F us ds→a_ ds=true→RpA K G us ds:=fun {us ds} r c=>by
      induction us generalizing ds with
      | nil=>cases r;exact .nil
      | cons u us ih=>
        cases r with
        | cons r1 r2=>
          simp only [a_,Bool.and_eq_true] at c
          exact .cons (tG r1 c.1) (ih r2 c.2)
    exact key hr cd
  | [],_::_,_,_,h=>False.elim h
  | _::_,[],_,_,h=>False.elim h
theorem FrF.result (h:FrF K B F A σ H E [v] [r]) (c:aP r=true):Same B H∧jF K B H v r:=by
  refine ⟨h.bf.trans h.fh,?_⟩
  have nB:∀a,F a=none→B a=none:=fun a e=>h.bf.free e
  have cold:∀{v:V} {d:PyData},Rp K F v d→aK d=true→Rp K (tups H) v d:=fun r f=>(r.same h.fh).cold f
  obtain ⟨v',A1,ev,hs⟩:=h.ext (k:=0) rfl
  cases ev
  obtain ⟨o,C0,C1,C2,eA,eo,hp,_⟩:=h.sl.at (k:=0) (s:=r) rfl
  cases eo
  have sub:∀a∈C1,F a=none:=fun a ha=>h.fr a (by rw [eA];simp [ha])
  have nd:C1.Nodup:=by
    have:=h.nd
    rw [eA] at this
    exact (List.nodup_append.mp (List.nodup_append.mp this).2.1).1
  cases r with
  | sh d=>obtain ⟨_,w,ew,r⟩:=hp;cases ew;exact cold r c
  | ow ds=>
    obtain ⟨l,vs,el,rfl,hl,r⟩:=hp
    cases el
    exact ⟨l,vs,rfl,nB l (sub l (by simp)),hl,(r.same h.fh).cold c⟩
  | tx ps=>
    obtain ⟨t,vs,et,ht,r⟩:=hp
    cases et
    exact ⟨t,vs,C1,rfl,df (h.fh _ _ ht) rfl,nd,fun a ha=>nB a (sub a ha),r.cold h.fh cold (by simpa [aP,List.all_eq_true] using c)⟩
  | no=>cases c
  | od kvs=>
    obtain ⟨l,us,A',el,rfl,hl,r⟩:=hp
    cases el
    exact ⟨l,us,A',rfl,nd,fun a ha=>nB a (sub a ha),hl,r.cold h.fh (by simpa [aP,List.all_eq_true] using c)⟩
  | al i=>cases c
  | br d=>cases c
theorem FrF.resultO {r':Sl} (h:FrF K B F A σ H E [v] [r]) (c:bx r=some r'):Same B H∧jF K B H v r':=by
  unfold bx at c
  split at c
  · rename_i hc
    cases c
    exact h.result hc
  · refine ⟨h.bf.trans h.fh,?_⟩
    cases r with
    | sh d=>cases c;exact (h.look0 (d:=d) rfl).1
    | ow ds=>cases c;exact (h.look0 (d:= .list ds) rfl).1
    | tx ps=>cases c;exact (h.look0 (d:= .tuple (ps.map Pt.val)) rfl).1
    | br d=>
      have r:=(h.look0 (d:=d) rfl).1
      simp only at c
      split at c
      · rename_i hf
        cases c
        exact r.cold hf
      · cases c
        exact r
    | no=>cases c
    | od kvs=>cases c
    | al i=>cases c
theorem fc {N:List Str} {vs:List V} {ds:List PyData} (r:RpA K H vs ds) (hn:ds.length≤N.length):FrF K H H [] (L2.cF N vs) H (aq N.length ds) [] []:=by
  refine ⟨Same.refl _,Same.refl _,dL H,?_,List.nodup_nil,fun a ha=>(by cases ha),rfl,?_⟩
  · have l:=r.len
    unfold L2.cF aq
    rw [l]
    generalize N.length - ds.length=k
    have base:∀τ:fW,SAll (SlOk K H H τ) (List.replicate k none) (List.replicate k .no) []:=fun τ=>by
      induction k with
      | zero=>exact .nil
      | succ k ih=>exact .cons (A:=[]) rfl ih
    have key:∀(τ:fW) {us:List V} {es:List PyData},RpA K H us es→SAll (SlOk K H H τ) (us.map some++List.replicate k none) (es.map .sh++List.replicate k .no) []:=fun τ us es r=>by
      induction us generalizing es with
      | nil=>cases r;exact base τ
      | cons u us ih=>
        cases r with
        | cons r1 r2=>exact .cons (A:=[]) ⟨rfl,_,rfl,r1⟩ (ih _ r2)
    exact key _ r
  · intro s hs
    unfold aq at hs
    rcases List.mem_append.mp hs with hs | hs
    · obtain ⟨d,_,rfl⟩:=List.mem_map.mp hs
      rfl
    · rw [(List.mem_replicate.mp hs).2]
      rfl
end
def b7 (k n:Nat) (g:bZ):List PyData→Option Sl:=fun ds=>if ds.length=k then bE n g ds else none
theorem fJ {P:Program} {w:World} {K:PySem.W.Frag} {mg:Str→Option Value} {base:Heap} {x:Str} {st:Stmt} {N ps:List Str} {k a n:Nat} {g:bZ} (D:Def K mg x st ps) (S:FnScope N ps (af st)) (hpa:ps.length=a) (hNn:N.length=n) (hps:a≤n)
    (hbody:∀(f:Addr) (cdv:Value) (A:Around) (outer:List Env) (s:Shared) (H:Hp) (E:XK),Room k (A.deeper (PyProof.Rows.envOfC x (af st) s.heap.objs.size f cdv))→
      iZ (du iX P w K mg base N x (af st) f cdv A outer s H E).nox (aM st) g):Own P w K mg base (k+1) x ps (dh K (b7 a n g)):=by
  subst hpa hNn
  refine D.own S (fun vs H Q E h=>?_) (fun f cdv A outer s H vs Q E hr h=>?_)
  · obtain ⟨ds,r,e,rp,_⟩:=h
    unfold b7 at e
    split at e
    · rename_i hl
      rw [rp.len];exact hl
    · cases e
  obtain ⟨ds,r,e,rp,q⟩:=h
  unfold b7 at e
  split at e
  · rename_i hl
    refine ⟨_,hbody f cdv A outer s H E hr,?_⟩
    obtain ⟨⟨E',fl⟩,e1,e⟩:=Option.bind_eq_some_iff.mp e
    refine ⟨H,aq N.length ds,[],[],E',fl,⟨H,[],fc rp (by omega)⟩,rfl,e1,?_⟩
    cases fl with
    | nx=>
      cases e
      rintro σ' H' ⟨F',A',fr'⟩
      exact q _ _ (fr'.bf.trans fr'.fh) .non
    | bk=>cases e
    | ct=>cases e
    | rt r'=>
      rintro σ' v H' ⟨F',A',fr'⟩
      obtain ⟨s1,s2⟩:=fr'.resultO e
      exact q v H' s1 s2
  · cases e
theorem uw {P:Program} {w:World} {K:PySem.W.Frag} {mg:Str→Option Value} {base:Heap} {x:Str} {st:Stmt} {N ps:List Str} {k a n:Nat} {g:bZ} {f0:Addr} {fd:FuncData} (D:Fun K x x st f0 fd) (S:FnScope N ps (af st)) (hpa:ps.length=a) (hNn:N.length=n) (hps:a≤n)
    (hbody:∀(cdv:Value) (A:Around) (outer:List Env) (s:Shared) (H:Hp) (E:XK),Room k (A.deeper (PyProof.Rows.envOfC x (af st) s.heap.objs.size f0 cdv))→
      iZ (du iX P w K mg base N x (af st) f0 cdv A outer s H E).nox (aM st) g):FnOk P w K mg base iX (k+1) f0 fd ps (dh K (b7 a n g)):=by
  subst hpa hNn
  refine D.ok S (fun vs H Q E h=>?_) (fun cdv A outer s H vs Q E hr h=>?_)
  · obtain ⟨ds,r,e,rp,_⟩:=h
    unfold b7 at e
    split at e
    · rename_i hl
      rw [rp.len];exact hl
    · cases e
  obtain ⟨ds,r,e,rp,q⟩:=h
  unfold b7 at e
  split at e
  · rename_i hl
    refine ⟨_,hbody cdv A outer s H E hr,?_⟩
    obtain ⟨⟨E',fl⟩,e1,e⟩:=Option.bind_eq_some_iff.mp e
    refine ⟨H,aq N.length ds,[],[],E',fl,⟨H,[],fc rp (by omega)⟩,rfl,e1,?_⟩
    cases fl with
    | nx=>
      cases e
      rintro σ' H' ⟨F',A',fr'⟩
      exact q _ _ (fr'.bf.trans fr'.fh) .non
    | bk=>cases e
    | ct=>cases e
    | rt r'=>
      rintro σ' v H' ⟨F',A',fr'⟩
      obtain ⟨s1,s2⟩:=fr'.resultO e
      exact q v H' s1 s2
  · cases e
theorem gv {K:PySem.W.Frag} {H:Hp}:∀ns:List Int,RpA K H (ns.map V.int) (ns.map PyData.int)
  | []=> .nil
  | n::ns=> .cons (.int n) (gv ns)
theorem pW {K:PySem.W.Frag} {H:Hp} {a:Addr} {ns:List Int} {c:List PyData→Option Sl} (e:c [.list (ns.map .int)]=some (.sh (.bool true))) (h:SqL K H a (ns.map V.int)):dh K c [.ref a] H (fun v _=>v= .bl true) fun _ _ _=>False:=
  ⟨_,_,e, .cons (.lst h (gv ns)) .nil,fun v H' _ r=>by
    have r':Rp K (tups H') v (.bool true):=r
    cases r'
    rfl⟩
end PL
namespace PL
open PySem L2 Nh
def lA:PyData→Option bG
  | .int i=>some (.inl i)
  | .str x=>some (.inr x)
  | _=>none
theorem nt {d:PyData} {k:bG} (h:lA d=some k):d=pE k:=by
  cases d <;> simp [lA] at h <;> subst h <;> rfl
def gU:List (PyData×PyData)→Option (List bG)
  | []=>some []
  | p::r=>(lA p.1).bind fun k=>(gU r).map fun ks=>k::ks
def fK:List (bF×bF)→List Sl→Option (List (PyData×PyData)×List Sl)
  | [],E=>some ([],E)
  | p::r,E=>(p.1 E).bind fun a=>(frz a.2 a.1).bind fun ka=>(p.2 ka.2).bind fun b=>(frz b.2 b.1).bind fun vb=>(fK r vb.2).map fun c=>((ka.1,vb.1)::c.1,c.2)
def ip (ps:List (bF×bF)):bF:=fun E=>(fK ps E).bind fun a=>match gU a.1 with
  | some ks=>if decide ks.Nodup&&decide (ks.length≤15) then some (.sh (.dict a.1),a.2) else none
  | none=>none
def pX (K:PySem.W.Frag) (ps:List (bF×bF)):List (TE×TE):=ps.map fun p=>(rd K true p.1,rd K true p.2)
def iq:List (V×V)→List V
  | []=>[]
  | p::r=>iq r++[p.2,p.1]
def ir:List (PyData×PyData)→List Sl
  | []=>[]
  | p::r=>ir r++[.sh p.2, .sh p.1]
section
variable {X:Cx} {K:PySem.W.Frag} {B F:Hp} {σ:fW} {H:Hp} {E:List Sl} {xs:List V} {Xs:List Sl}
theorem oG {m:Bool} {f:bF} {Q:VK} (h:rd K true f σ H Q):rd K m f σ H Q:=by
  obtain ⟨B,E,xs,Xs,r,E',fr,c,e,q⟩:=h
  exact ⟨B,E,xs,Xs,r,E',fr,fun _=>c rfl,e,q⟩
theorem iu:∀(ps:List (bF×bF)) {H:Hp} {E:List Sl} {xs:List V} {Xs:List Sl} {r:List (PyData×PyData)} {E':List Sl} {Q:List (V×V)→Hp→Prop},Frm K B σ H E xs Xs→Calm Xs→fK ps E=some (r,E')→
    (∀vs H',vs.length=r.length→Frm K B σ H' E' (iq vs++xs) (ir r++Xs)→Q vs H')→gR (pX K ps) σ H Q
  | [],H,E,xs,Xs,r,E',Q,fr,c,e,q=>by
    cases e
    exact q [] H rfl fr
  | (f,g)::ps,H,E,xs,Xs,r,E',Q,fr,c,e,q=>by
    obtain ⟨⟨s1,E1⟩,e1,e⟩:=Option.bind_eq_some_iff.mp e
    obtain ⟨⟨d1,E2⟩,e2,e⟩:=Option.bind_eq_some_iff.mp e
    obtain ⟨⟨s3,E3⟩,e3,e⟩:=Option.bind_eq_some_iff.mp e
    obtain ⟨⟨d4,E4⟩,e4,e⟩:=Option.bind_eq_some_iff.mp e
    obtain ⟨⟨r5,E5⟩,e5,e⟩:=Option.map_eq_some_iff.mp e
    cases e
    refine ⟨B,E,xs,Xs,s1,E1,fr,fun _=>c,e1,fun x H1 ⟨F1,A1,fr1⟩=>?_⟩
    obtain ⟨F2,A2,fr2⟩:=fr1.frz0 e2
    refine ⟨B,E2,x::xs, .sh d1::Xs,s3,E3,⟨F2,A2,fr2⟩,fun _=>c.cons rfl,e3,fun y H2 ⟨F3,A3,fr3⟩=>?_⟩
    obtain ⟨F4,A4,fr4⟩:=fr3.frz0 e4
    refine iu ps ⟨F4,A4,fr4⟩ ((c.cons rfl).cons rfl) e5 fun vs H' l fr5=>q _ _ (by simp [l]) ?_
    simpa [iq,ir] using fr5
theorem FrF.unflat:∀{vs:List (V×V)} {r:List (PyData×PyData)} {A:List Addr} {xs:List V} {Xs:List Sl},vs.length=r.length→FrF K B F A σ H E (iq vs++xs) (ir r++Xs)→
    (∃A',FrF K B F A' σ H E xs Xs)∧Paired (fun p q=>Rp K F p.1 q.1∧Rp K F p.2 q.2) vs r
  | [],[],A,xs,Xs,_,h=>⟨⟨A,h⟩, .nil⟩
  | (x,y)::vs,(k,d)::r,A,xs,Xs,l,h=>by
    obtain ⟨⟨A',h1⟩,p⟩:=FrF.unflat (vs:=vs) (r:=r) (xs:=y::x::xs) (Xs:= .sh d:: .sh k::Xs) (by simpa using l) (by simpa [iq,ir] using h)
    obtain ⟨v1,C1,ev1,rfl,w1,ew1,r1⟩:=h1.ext (k:=0) rfl
    obtain ⟨v2,C2,ev2,rfl,w2,ew2,r2⟩:=h1.ext (k:=1) rfl
    cases ev1;cases ew1;cases ev2;cases ew2
    obtain ⟨A1,h2⟩:=h1.pop
    obtain ⟨A2,h3⟩:=h2.pop
    exact ⟨⟨A2,h3⟩, .cons ⟨r2,r1⟩ p⟩
  | [],_::_,_,_,_,l,_=>by simp at l
  | _::_,[],_,_,_,l,_=>by simp at l
theorem FrF.newd {p:Addr} {A:List Addr} (h:FrF K B F A σ H E xs Xs) (hp:H p=none):FrF K B F (p::A) σ (upd H p (.dK [])) E (.ref p::xs) (.od []::Xs):=by
  have g:Same H (upd H p (.dK [])):=cZ hp _
  have nA:=h.newA hp
  refine ⟨h.bf,h.fh.trans g,fun b o e=>?_, .cons (A:=[p]) ⟨p,[],[],rfl,rfl,aY,rfl⟩ (h.sl.mono fun o s C _ hC q=>q.stay (Same.refl _) (fun b hb=>ax fun z=>nA (z▸hC b hb)) fun _=>g),List.nodup_cons.mpr ⟨nA,h.nd⟩,fun a ha=>?_,by simp [h.len],h.pl⟩
  · obtain ⟨e1,e2⟩:=Option.filter_eq_some_iff.mp e
    by_cases hb:b=p
    · subst hb;rw [aY] at e1;cases e1;cases e2
    · rw [ax hb] at e1;exact h.tf b o (df e1 e2)
  · rcases List.mem_cons.mp ha with z | z
    · subst z;exact h.fh.free hp
    · exact h.fr a z
theorem FrF.filld {v:V} {us:List (bG×V)} {r:List (PyData×PyData)} {A:List Addr} (h:FrF K B F A σ H E (v::xs) (.od []::Xs)) (c:Calm Xs) (hr:RpK K F us r):
    ∃p,v= .ref p∧H p=some (.dK [])∧Frm K B σ (upd H p (.dK us)) E (.ref p::xs) (.sh (.dict r)::Xs):=by
  obtain ⟨bf,fh,tf,sl,nd,fr,len,pl⟩:=h
  generalize hT:List.map some (v::xs)++σ=T at sl
  generalize hS:(Sl.od []::Xs)++E=S at sl
  cases sl with
  | nil=>cases hS
  | cons q0 r0=>
    injection hT with h1 hT
    injection hS with h2 hS
    subst h1 h2 hT hS
    obtain ⟨p,us0,A0,ep,rfl,hp,k0⟩:=q0
    cases ep
    cases us0 with
    | cons _ _=>exact False.elim k0
    | nil=>
    have eA:A0=[]:=k0
    subst eA
    have Fp:F p=none:=fr p (by simp)
    have gF:Same F (upd F p (.dK us)):=cZ Fp _
    refine ⟨p,rfl,hp,upd F p (.dK us),_,bf.trans gF,fun b o e=>?_,fun b o e=>?_, .cons (A:=[]) ⟨rfl,_,rfl, .dct (.inl aY) (hr.same gF)⟩ (r0.mono fun o s C hs hC qq=>qq.stay gF (fun b hb=>ax fun z=>?_) fun z=>?_),(List.nodup_append.mp nd).2.1,fun a ha=>?_,by simpa using len,pl⟩
    · by_cases hb:b=p
      · subst hb;rw [aY] at e ⊢;exact e
      · rw [ax hb] at e ⊢;exact fh _ _ e
    · obtain ⟨e1,e2⟩:=Option.filter_eq_some_iff.mp e
      by_cases hb:b=p
      · subst hb;rw [aY] at e1;cases e1;cases e2
      · rw [ax hb] at e1 ⊢;exact tf b o (df e1 e2)
    · have:=hC b hb
      rw [z] at this
      exact (List.nodup_cons.mp nd).1 this
    · rcases List.mem_append.mp hs with hs | hs
      · rw [c s hs] at z;cases z
      · have:=pl s hs
        cases s <;> simp [Sl.isAl,Sl.isBr] at this z
    · have hb:a≠p:=fun z=>(List.nodup_cons.mp nd).1 (z▸ha)
      rw [ax hb]
      exact fr a (List.mem_append_right _ (by simpa using ha))
theorem gw {k:bG}:∀{kvs:List (bG×V)},¬k∈kvs.map (·.1)→eM kvs k=none
  | [],_=>rfl
  | p::r,h=>by
    rw [eN fun e=>h (by simp [e])]
    exact gw fun m=>h (by simp at m ⊢;exact .inr m)
theorem gx:∀(more kvs:List (bG×V)),((kvs++more).map (·.1)).Nodup→dz kvs more=kvs++more
  | [],kvs,_=>by simp [dz]
  | p::r,kvs,h=>by
    have hn:¬p.1∈kvs.map (·.1):=fun m=>by
      rw [List.map_append,List.map_cons] at h
      exact (List.nodup_append.mp h).2.2 _ m _ (by simp) rfl
    have e:dv kvs p.1 p.2=kvs++[p]:=lu p.2 (gw hn)
    show dz (dv kvs p.1 p.2) r=_
    rw [e,gx r (kvs++[p]) (by simpa using h)]
    simp
theorem pY {v:V} {k:bG} (h:Rp K H v (pE k)):v=kV k:=by
  cases k with
  | inl i=>cases h;rfl
  | inr x=>cases h;rfl
theorem oH:∀{vs:List (V×V)} {r:List (PyData×PyData)} {ks:List bG},Paired (fun p q=>Rp K F p.1 q.1∧Rp K F p.2 q.2) vs r→gU r=some ks→
    ∃us:List (bG×V),vs=us.map (fun kv=>(kV kv.1,kv.2))∧us.map (·.1)=ks∧RpK K F us r
  | _,_,ks, .nil,e=>by cases e;exact ⟨[],rfl,rfl, .nil⟩
  | _,_,ks, .cons (a:=(x,y)) (b:=(kd,d)) h t,e=>by
    obtain ⟨k,e1,e⟩:=Option.bind_eq_some_iff.mp e
    obtain ⟨ks',e2,e⟩:=Option.map_eq_some_iff.mp e
    subst e
    obtain ⟨us,rfl,e3,hr⟩:=oH t e2
    have ek:=nt e1
    simp only at ek h
    subst ek
    obtain rfl:=pY h.1
    exact ⟨(k,y)::us,rfl,by simp [e3], .cons h.2 hr⟩
theorem nu {ps:List (bF×bF)} {Q:VK} (z:rd K true (ip ps) σ H Q):oF (pX K ps) σ H Q:=by
  obtain ⟨B,E,xs,Xs,res,E',fr,c,e,q⟩:=z
  obtain ⟨⟨r,E1⟩,e1,e⟩:=Option.bind_eq_some_iff.mp e
  simp only at e
  split at e
  · rename_i ks ek
    split at e
    · rename_i hc
      cases e
      simp only [Bool.and_eq_true,decide_eq_true_eq] at hc
      intro p hp
      obtain ⟨F,A,fr⟩:=fr
      refine iu ps ⟨_,_,fr.newd hp⟩ ((c rfl).cons rfl) e1 fun vs H' l ⟨F1,A1,fr1⟩=>?_
      obtain ⟨⟨A2,fr2⟩,pr⟩:=fr1.unflat l
      obtain ⟨us,ev,ek',hr⟩:=oH pr ek
      obtain ⟨p',ep,hp0,fr3⟩:=fr2.filld (c rfl) hr
      cases ep
      refine ⟨hp0,us,ev,?_,?_⟩
      · have:us.length=ks.length:=by rw [←ek',List.length_map]
        omega
      · rw [gx us [] (by simpa [ek'] using hc.1),List.nil_append]
        exact q _ _ fr3
    · cases e
  · cases e
end
section
variable {X:Cx} {pos apos cpos:Pos} {o e f:Expr} {m m1 m2:Bool}
def PX (X:Cx) (pos:Pos) (keys:List (Option Expr)) (values:List Expr) (ps:List (bF×bF)):Prop:=rS X pos keys values (pX X.K ps)
theorem pZ:PX X pos [] [] []:=ni
theorem nv {k v:Expr} {ks:List (Option Expr)} {vs:List Expr} {fk fv:bF} {ps:List (bF×bF)} (hk:EX X k m1 fk) (hv:EX X v m2 fv) (hr:PX X pos ks vs ps):PX X pos (some k::ks) (v::vs) ((fk,fv)::ps):=
  lw (ba hk fun _ _ _ h=>oG h) (ba hv fun _ _ _ h=>oG h) hr
theorem nw {keys:List (Option Expr)} {values:List Expr} {ps:List (bF×bF)} (h:PX X pos keys values ps) (hall:keys.all (·.isSome)=true:=by rfl) (hl:keys.length=values.length:=by rfl) (h0:keys≠[]:=by simp) (h15:keys.length≤15:=by decide):
    EX X (.Dict keys values pos) true (ip ps):=ba (nj h hall hl h0 h15) fun _ _ _ z=>nu z
end
end PL
namespace PL
open PySem L2 Nh
theorem cA {α:Type} (xs:List α) (k:Nat):atI xs (k:Int)=xs[k]? :=by
  unfold atI rE
  rw [if_pos (by omega)]
  split
  · simp
  · rw [List.getElem?_eq_none (by omega)];rfl
theorem jG {α:Type} (a:α) (l:List α):atI (a::l) 0=some a:=cA (a::l) 0
theorem oI {α:Type} (a b:α) (l:List α):atI (a::b::l) 1=some b:=cA (a::b::l) 1
theorem lB {α:Type} {xs:List α} {i:Int} (h:0≤i):atI xs i=xs[i.toNat]? :=by
  have e:i=((i.toNat:Nat):Int):=by omega
  rw [e,cA,Int.toNat_natCast]
theorem gy:∀{a:List PyData},(∀d∈a,aK d=true)→a_ a=true
  | [],_=>rfl
  | x::a,h=>by simp [a_,h x (List.mem_cons_self ..),gy fun d hd=>h d (List.mem_cons_of_mem _ hd)]
theorem gz {α:Type} {f:α→PyData} (h:∀a,aK (f a)=true) (l:List α):a_ (l.map f)=true:=gy fun d hd=>by
  obtain ⟨a,_,rfl⟩:=List.mem_map.mp hd
  exact h a
theorem ny (p:Pc):aK (cf p)=true:=rfl
theorem iv (c:List Pc):a_ (c.map cf)=true:=gz ny c
theorem kc (l:List Int):a_ (l.map PyData.int)=true:=gz (fun _=>rfl) l
def cutL {α:Type} (l:List α) (lo hi:Option Int):List α:=(l.drop (HT.fT l.length 0 lo)).take (HT.fT l.length l.length hi - HT.fT l.length 0 lo)
theorem iw {α:Type} (f:α→PyData) (l:List α) (lo hi:Option Int):ii (l.map f) lo hi=(cutL l lo hi).map f:=by
  unfold ii cutL
  rw [List.length_map,List.map_take,List.map_drop]
theorem ix {α:Type} {l:List α} {lo hi:Option Int} {x:α} (h:x∈cutL l lo hi):x∈l:=List.mem_of_mem_drop (List.mem_of_mem_take h)
theorem ke (lo:Int) (n:Nat):gS lo (n+1)= .int lo::gS (lo+1) n:=by
  unfold gS
  rw [List.range_succ_eq_map,List.map_cons,List.map_map]
  simp only [Int.natCast_zero,Int.add_zero]
  congr 1
  refine List.map_congr_left fun k _=>?_
  show PyData.int (lo+((k+1:Nat):Int))=PyData.int (lo+1+(k:Int))
  congr 1
  omega
end PL
namespace L2
open PySem PySem.Spec PyProof.Rows
def sP (x:Str):It:=⟨fun i _=>i < x.cps.toList.length,fun i H v H'=>H'=H∧∃c,x.cps.toList[i]? =some c∧v= .str ⟨#[c]⟩,fun i _=>i=x.cps.toList.length⟩
theorem lD {P:Program} {w:World} {K:PySem.W.Frag} {tg:Expr} {it:Addr} {T:String} {x:Str} {t:Tok} (hT:T="str_ascii_iterator"∨T="str_iterator"):Turn P w K tg (sP x) [it] it (fun i h=>h.IsStrIter it T x t i) where
  mem:=by simp
  obj:=fun i h st b hb=>by
    have e:b=it:=by simpa using hb
    subst e
    obtain ⟨o,e,c,d⟩:=st
    exact ⟨o,e,fun v z=>by rw [d] at z;cases z⟩
  keep:=fun i h h' st k=>let ⟨o,ho,r⟩:=st;⟨o,k it (by simp) o ho,r⟩
  item:=by
    intro X hP hw hK hc i pins s σ H E I hf st hg
    subst hP hw hK
    obtain ⟨f0,f1,f2,f3,f4,f5⟩:=hf it (by simp)
    have hi:i < x.cps.toList.length:=hg
    have hx:x.cps[i]? =some (x.cps.toList[i]'hi):=by simp at hi;simp [hi]
    have fin:∀(h':Heap),h'.IsStrIter it T x t (i+1)→Heap.SameBut it s.heap h'→∃u,some (Value.str ⟨#[x.cps.toList[i]'hi]⟩ s.toks)=some u∧
        wpAny (model X.prog X.w) X.A (letOwnedTupleGo tg (.ref it) u) (fun _ s2=>∃v H',Inv X pins σ H' s2∧RelV v u∧(sP x).yld i H v H'∧s2.heap.IsStrIter it T x t (i+1)∧∀b∈[it],H' b=none) E {s with heap:=h',toks:=s.toks+1}:=fun h' st' sb=>by
      have I1:Inv X pins σ H {s with heap:=h',toks:=s.toks+1}:=I.turned (t':=s.toks+1) (fun b o hb e=>(sb.2 b hb).trans e) f0 f1 f3 f4 f5
      obtain ⟨o,e,c,d⟩:=id st'
      exact ⟨_,rfl,jo (s:={s with heap:=h',toks:=s.toks+1}) e c d (by rcases hT with rfl | rfl <;> decide) ⟨.str ⟨#[x.cps.toList[i]'hi]⟩,H,I1,⟨_,rfl⟩,⟨rfl,_,List.getElem?_eq_getElem hi,rfl⟩,st',fun b hb=>(hf b hb).1⟩⟩
    rcases hT with rfl | rfl
    · exact wpAny_pyNext_ascii_item st hx fun h' st' sb=>fin h' st' sb
    · exact wpAny_pyNext_wide_item st hx fun h' st' sb=>fin h' st' sb
  done:=by
    intro X hP hw hK hc i pins s σ H E I hf st hg
    subst hP hw hK
    obtain ⟨f0,f1,f2,f3,f4,f5⟩:=hf it (by simp)
    have hi:i=x.cps.toList.length:=hg
    have hx:x.cps[i]? =none:=by simp at hi;simp [hi]
    rcases hT with rfl | rfl
    · exact wpAny_pyNext_ascii_end (I.ok.hd hc) st hx fun h' eb=>⟨rfl,I.turned (t':=s.toks) (fun b o hb e=>eb b o hb e) f0 f1 f3 f4 f5⟩
    · exact wpAny_pyNext_wide_end (I.ok.hd hc) st hx fun h' eb=>⟨rfl,I.turned (t':=s.toks) (fun b o hb e=>eb b o hb e) f0 f1 f3 f4 f5⟩
  self:=fun _ _ _ _ _ st h=>by
    rcases hT with rfl | rfl
    · exact wpAny_pyIter_striter_ascii st h
    · exact wpAny_pyIter_striter_wide st h
def tO (tl:TE):TI:=fun σ H R=>tl σ H fun v H1=>∃x,v= .str x∧R (sP x) H1
theorem p0 {X:Cx} {tg l:Expr} {tl:TE} (hl:PE X l tl):PI X tg l (tO tl):=by
  intro pins s σ H R I h
  refine ce (hl pins s σ H _ I h) fun v s1 ⟨y,H1,I1,r1,q1⟩=>?_
  obtain ⟨x,e,q⟩:=q1
  subst e
  obtain ⟨t,rfl⟩:=r1
  refine wpAny_pyIter_strU ?_
  refine ⟨s1.heap.objs.size,[s1.heap.objs.size],fun i h=>h.IsStrIter s1.heap.objs.size (strIterType x) x t i,_,H1,rfl,I1.kept (t':=s1.toks) fun b o e=>Heap.get?_push_of_some _ e,lD (t:=t) ?_,⟨_,Heap.get?_push_size _ rfl,rfl,rfl⟩,fun b hb=>?_,q⟩
  · unfold strIterType
    split
    · exact .inl rfl
    · exact .inr rfl
  · have e:b=s1.heap.objs.size:=by simpa using hb
    subst e
    exact I1.fpOk (Nat.le_refl _) (I1.hok.fresh (Nat.le_refl _))
theorem PI.or {X:Cx} {tg l:Expr} {a b:TI} (h1:PI X tg l a) (h2:PI X tg l b):PI X tg l (fun σ H R=>a σ H R∨b σ H R):=by
  intro pins s σ H R I h
  rcases h with h | h
  · exact h1 pins s σ H R I h
  · exact h2 pins s σ H R I h
end L2
namespace PL
open PySem L2 Nh
def gV (x:Str):List PyData:=x.cps.toList.map fun c=> .str ⟨#[c]⟩
def fZ (f:bF):hO:=fun E=>(f E).bind fun a=>(frz a.2 a.1).bind fun b=>match b.1 with
  | .list ds=>some (ds,b.2)
  | .tuple ds=>some (ds,b.2)
  | .str x=>some (gV x,b.2)
  | _=>none
section
variable {X:Cx} {K:PySem.W.Frag} {B:Hp}
theorem lE {x:Str}:ly K B (sP x) (gV x):=fun {B' F A σ H E xs Xs} i sB fr=>by
  refine ⟨fun d ed=>?_,fun e=>by show i=x.cps.toList.length;rw [e];simp [gV]⟩
  unfold gV at ed
  rw [List.getElem?_map] at ed
  obtain ⟨c,ec,rfl⟩:=Option.map_eq_some_iff.mp ed
  refine ⟨(List.getElem?_eq_some_iff.mp ec).1,fun z H2 ⟨e1,c',e2,e3⟩=>?_⟩
  rw [ec] at e2;cases e2
  subst e1 e3
  exact ⟨F,A,fr.push ⟨rfl,_,rfl, .str _⟩⟩
theorem lG {a:Addr} {vs:List V} {ds:List PyData} (h:SqT K B a vs) (r:RpA K B vs ds):ly K B (tm K a) ds:=fun {B' F A σ H E xs Xs} i sB fr=>by
  have hH:=fr.fh.tup (fr.bf.tup (sB.tup h))
  refine ⟨fun d ed=>?_,fun e=>⟨vs,hH,by rw [e,r.len];exact Nat.le_refl _⟩⟩
  obtain ⟨v,ev,rv⟩:=r.get ed
  refine ⟨⟨vs,v,hH,ev⟩,fun x H2 ⟨e2,y⟩=>?_⟩
  subst e2
  have:=y vs hH
  rw [ev] at this
  cases this
  exact ⟨F,A,fr.push ⟨rfl,_,rfl,rv.same (sB.trans fr.bf)⟩⟩
theorem ja {tg e:Expr} {m:Bool} {f:bF} (he:EX X e m f):IX X tg e m (fZ f):=lz (PI.or (mG he) (PI.or (o9 he) (p0 he))) fun σ H R z=>by
  obtain ⟨B,E,xs,Xs,ds,E',fr,cl,e,q⟩:=z
  obtain ⟨⟨s,E1⟩,e1,e⟩:=Option.bind_eq_some_iff.mp e
  obtain ⟨⟨d,E2⟩,e2,e⟩:=Option.bind_eq_some_iff.mp e
  have key:∀(v:V) (H1:Hp),Frm X.K B σ H1 E1 (v::xs) (s::Xs)→∃F2 A2 A3,Rp X.K F2 v d∧Same B F2∧FrF X.K F2 F2 A3 σ H1 E2 xs Xs∧FrF X.K B F2 A2 σ H1 E2 (v::xs) (.sh d::Xs):=fun v H1 ⟨F,A,fr1⟩=>by
    obtain ⟨F2,A2,fr2⟩:=fr1.frz0 e2
    obtain ⟨v',A1,ev,rfl,w,ew,r⟩:=fr2.ext (k:=0) rfl
    cases ev;cases ew
    obtain ⟨A3,fr3⟩:=fr2.pop
    exact ⟨F2,A2,A3,r,fr2.bf,fr3.raise,fr2⟩
  simp only at e
  split at e
  · cases e
    refine .inl ⟨B,E,xs,Xs,s,E1,fr,cl,e1,fun v H1 fr1=>?_⟩
    obtain ⟨F2,A2,A3,r,sb,fr3,fr2⟩:=key v H1 fr1
    cases r with
    | lst h1 h2=>exact ⟨_,rfl,⟨_,fr2.fh.seq h1⟩,q F2 _ _ sb ⟨F2,A3,fr3⟩ (j_ h1 h2)⟩
  · cases e
    refine .inr (.inl ⟨B,E,xs,Xs,s,E1,fr,cl,e1,fun v H1 fr1=>?_⟩)
    obtain ⟨F2,A2,A3,r,sb,fr3,fr2⟩:=key v H1 fr1
    cases r with
    | tup h1 h2=>exact ⟨_,rfl,⟨_,fr2.fh.tup h1⟩,q F2 _ _ sb ⟨F2,A3,fr3⟩ (lG h1 h2)⟩
  · cases e
    refine .inr (.inr ⟨B,E,xs,Xs,s,E1,fr,cl,e1,fun v H1 fr1=>?_⟩)
    obtain ⟨F2,A2,A3,r,sb,fr3,fr2⟩:=key v H1 fr1
    cases r
    exact ⟨_,rfl,q F2 _ _ sb ⟨F2,A3,fr3⟩ lE⟩
  · cases e
end
end PL
namespace PL
open PySem L2 Nh
inductive Cm where
  | lt | le | gt | ge
def Cm.op:Cm→CmpOp
  | .lt=> .Lt
  | .le=> .LtE
  | .gt=> .Gt
  | .ge=> .GtE
def Cm.i:Cm→Int→Int→Bool
  | .lt,i,j=>decide (i < j)
  | .le,i,j=>decide (i≤j)
  | .gt,i,j=>decide (j < i)
  | .ge,i,j=>decide (j≤i)
def Cm.s:Cm→List Nat→List Nat→Bool
  | .lt,i,j=>decide (i < j)
  | .le,i,j=> !decide (j < i)
  | .gt,i,j=>decide (j < i)
  | .ge,i,j=> !decide (i < j)
def bP (c:Cm):PyData→PyData→Option PyData
  | .int i, .int j=>some (.bool (c.i i j))
  | .str x, .str y=>some (.bool (c.s x.cps.toList y.cps.toList))
  | _,_=>none
def ug (c:Cm):R2:=fun x y H Q=>(∃i j,x= .int i∧y= .int j∧Q (.bl (c.i i j)) H)∨(∃i j,x= .str i∧y= .str j∧Q (.bl (c.s i.cps.toList j.cps.toList)) H)
section
variable {X:Cx} {a b c:Expr} {m1 m2 m3:Bool} {f g h:bF} {pos:Pos} {K:PySem.W.Frag}
theorem iy (c:Cm):OpR X (compareOp c.op) (ug c):=by
  cases c with
  | lt=>exact OpR.or rm jV
  | le=>exact OpR.or rn (fun pins s σ H x y v u Q I rx ry h=>by
      obtain ⟨i,j,rfl,rfl,q⟩:=h
      obtain ⟨t,rfl⟩:=rx
      obtain ⟨t',rfl⟩:=ry
      exact PySem.P.le_str (aH I q rfl))
  | gt=>exact OpR.or rq (fun pins s σ H x y v u Q I rx ry h=>by
      obtain ⟨i,j,rfl,rfl,q⟩:=h
      obtain ⟨t,rfl⟩:=rx
      obtain ⟨t',rfl⟩:=ry
      exact PySem.P.gt_str (aH I q rfl))
  | ge=>exact OpR.or rB (fun pins s σ H x y v u Q I rx ry h=>by
      obtain ⟨i,j,rfl,rfl,q⟩:=h
      obtain ⟨t,rfl⟩:=rx
      obtain ⟨t',rfl⟩:=ry
      exact PySem.P.ge_str (aH I q rfl))
theorem iz (c:Cm):fX K (ug c) (bP c):=fun d1 d2 d v1 v2 H Q e r1 r2=>by
  unfold bP at e
  split at e
  · cases e;cases r1;cases r2
    exact ⟨_,rfl,fun q=> .inl ⟨_,_,rfl,rfl,q⟩⟩
  · cases e;cases r1;cases r2
    exact ⟨_,rfl,fun q=> .inr ⟨_,_,rfl,rfl,q⟩⟩
  · cases e
theorem kf (c:Cm) (b:Expr):behindInMarks c.op b=false:=by cases c <;> exact eT _
theorem lH (c:Cm) (ha:EX X a m1 f) (hb:EX X b m2 g):TX X (.Compare a [c.op] [b] pos) (m1||m2) (cT (ad (bR (bP c)) m2 f g)):=gO (iy c) (dZ (iz c)) ha hb (kf c b)
theorem rW (c1 c2:Cm) (ha:EX X a m1 f) (hb:EX X b m2 g) (hc:EX X c m3 h) (hm:lastMarks [c1.op,c2.op] [b,c]=false:=by with_unfolding_all rfl):EX X (.Compare a [c1.op,c2.op] [b,c] pos) (m1||(m2||m3)) (bp (bP c1) (bP c2) m2 m3 f g h):=lq (iy c1) (iy c2) (iz c1) (iz c2) ha hb hc hm
theorem rX (c1 c2:Cm) (ha:EX X a m1 f) (hb:EX X b m2 g) (hc:EX X c m3 h) (hm:lastMarks [c1.op,c2.op] [b,c]=false:=by with_unfolding_all rfl):TX X (.Compare a [c1.op,c2.op] [b,c] pos) (m1||(m2||m3)) (cT (bp (bP c1) (bP c2) m2 m3 f g h)):=ls (iy c1) (iy c2) (iz c1) (iz c2) ha hb hc hm
def isInt:PyData→Option Int
  | .int x=>some x
  | _=>none
def gW:List PyData→Option (List Str)
  | []=>some []
  | .str x::ds=>(gW ds).map fun xs=>x::xs
  | _::_=>none
def gX:List PyData→Option (List Int)
  | []=>some []
  | .int x::ds=>(gX ds).map fun xs=>x::xs
  | _::_=>none
theorem eV:∀{ds:List PyData} {xs:List Str},gW ds=some xs→ds=xs.map .str
  | [],xs,h=>by cases h;rfl
  | d::ds,xs,h=>by
    cases d with
    | str x=>
      obtain ⟨ys,e,rfl⟩:=Option.map_eq_some_iff.mp h
      rw [eV e];rfl
    | _=>cases h
theorem eW:∀{ds:List PyData} {xs:List Int},gX ds=some xs→ds=xs.map .int
  | [],xs,h=>by cases h;rfl
  | d::ds,xs,h=>by
    cases d with
    | int x=>
      obtain ⟨ys,e,rfl⟩:=Option.map_eq_some_iff.mp h
      rw [eW e];rfl
    | _=>cases h
theorem fL {H:Hp}:∀{vs:List V} {xs:List Str},RpA K H vs (xs.map .str)→vs=xs.map .str
  | [],[],_=>rfl
  | v::vs,x::xs, .cons h r=>by cases h;rw [fL r];rfl
theorem fM {H:Hp}:∀{vs:List V} {xs:List Int},RpA K H vs (xs.map .int)→vs=xs.map .int
  | [],[],_=>rfl
  | v::vs,x::xs, .cons h r=>by cases h;rw [fM r];rfl
def oJ:PyData→PyData→Option Bool
  | .str x, .str y=>some (!(Builtin.Str.occurrences y x 0 y.length 1).isEmpty)
  | .str x, .list ds=>(gW ds).map fun xs=>xs.contains x
  | .str x, .tuple ds=>(gW ds).map fun xs=>xs.contains x
  | .int x, .list ds=>(gX ds).map fun xs=>xs.contains x
  | .int x, .tuple ds=>(gX ds).map fun xs=>xs.contains x
  | _,_=>none
def rY (K:PySem.W.Frag) (neg:Bool):R2:=fun x y H Q=>(∃i j,x= .str i∧y= .str j∧Q (.bl (if neg then !(!(Builtin.Str.occurrences j i 0 j.length 1).isEmpty) else !(Builtin.Str.occurrences j i 0 j.length 1).isEmpty)) H)∨ud K neg x y H Q
theorem iA (x:Str) (xs:List Str):qL (.str x) (xs.map .str)=xs.contains x:=by
  induction xs with
  | nil=>rfl
  | cons y xs ih=>
    rw [List.contains_cons,←ih]
    show (mt (.str y) (.str x)||qL (.str x) (xs.map .str))=_
    congr 1
    show (y == x)=(x == y)
    exact BEq.comm
theorem iB (x:Int) (xs:List Int):qL (.int x) (xs.map .int)=xs.contains x:=by
  induction xs with
  | nil=>rfl
  | cons y xs ih=>
    rw [List.contains_cons,←ih]
    show (mt (.int y) (.int x)||qL (.int x) (xs.map .int))=_
    congr 1
    show (y == x)=(x == y)
    exact BEq.comm
theorem p3 (neg:Bool):fX K (rY K neg) (fun d1 d2=>(oJ d1 d2).map fun b=> .bool (if neg then !b else b)):=fun d1 d2 d v1 v2 H Q e r1 r2=>by
  obtain ⟨b,e',rfl⟩:=Option.map_eq_some_iff.mp e
  clear e
  have e:=e'
  clear e'
  refine ⟨_,rfl,fun q=>?_⟩
  have hs:∀xs:List Str,(xs.map V.str).all cS=true:=fun xs=>by simp [List.all_eq_true,cS]
  have hi:∀xs:List Int,(xs.map V.int).all cS=true:=fun xs=>by simp [List.all_eq_true,cS]
  unfold oJ at e
  split at e
  · cases e;cases r1;cases r2
    exact .inl ⟨_,_,rfl,rfl,q⟩
  · obtain ⟨xs,ex,rfl⟩:=Option.map_eq_some_iff.mp e
    cases r1
    cases r2 with
    | lst h1 h2=>
      rw [eV ex] at h2
      rw [fL h2] at h1
      exact .inr ⟨_,_,rfl, .inl h1,rfl,hs _,by rw [iA];exact q⟩
  · obtain ⟨xs,ex,rfl⟩:=Option.map_eq_some_iff.mp e
    cases r1
    cases r2 with
    | tup h1 h2=>
      rw [eV ex] at h2
      rw [fL h2] at h1
      exact .inr ⟨_,_,rfl, .inr h1,rfl,hs _,by rw [iA];exact q⟩
  · obtain ⟨xs,ex,rfl⟩:=Option.map_eq_some_iff.mp e
    cases r1
    cases r2 with
    | lst h1 h2=>
      rw [eW ex] at h2
      rw [fM h2] at h1
      exact .inr ⟨_,_,rfl, .inl h1,rfl,hi _,by rw [iB];exact q⟩
  · obtain ⟨xs,ex,rfl⟩:=Option.map_eq_some_iff.mp e
    cases r1
    cases r2 with
    | tup h1 h2=>
      rw [eW ex] at h2
      rw [fM h2] at h1
      exact .inr ⟨_,_,rfl, .inr h1,rfl,hi _,by rw [iB];exact q⟩
  · cases e
def oK (neg:Bool):P2:=bR fun d1 d2=>(oJ d1 d2).map fun b=> .bool (if neg then !b else b)
theorem p4:OpR X (compareOp .In) (rY X.K false):=OpR.or jW j1
theorem rZ (ha:EX X a m1 f) (hb:EX X b m2 g) (hm:behindInMarks .In b=false:=by with_unfolding_all rfl):EX X (.Compare a [.In] [b] pos) (m1||m2) (ad (oK false) m2 f g):=i3 p4 (dZ (p3 false)) ha hb hm
end
theorem eO {X:Cx} {st:Stmt}:SX X st (fun _=>none):=dY kL fun D σ H z=>by
  obtain ⟨B,E,xs,Xs,E',fl,fr,cl,e,q⟩:=z
  cases e
def jb:bZ:=fun _=>none
end PL
namespace PL
open PySem L2 Nh
theorem p5 {X:Cx}:SlR X (fun x lo hi H Q=>∃z,x= .str z∧z.length≤sizeLine∧Q (.str (Txt.slice z lo hi)) H):=by
  intro pins s σ H x v vl vu lo hi sl Q I rx hs pl pu h
  obtain ⟨z,rfl,hz,q⟩:=h
  obtain ⟨t,rfl⟩:=rx
  cases pl with
  | none=>
    cases pu with
    | none=>exact ⟨"str",_,PySem.F.slot_str_getitem.lookup,typeIs_str _ _ _,wpAny_getItem_str_slice (l:=none) (u:=none) (st:=none) hs rfl (post_val_or_str ⟨Nat.le_trans (Txt.slice_le z _ _) hz,fun t' k=>⟨.str _,H,I.tok _,⟨_,rfl⟩,q⟩⟩)⟩
    | int j uj=>exact ⟨"str",_,PySem.F.slot_str_getitem.lookup,typeIs_str _ _ _,wpAny_getItem_str_slice (l:=none) (u:=some (j,uj)) (st:=none) hs rfl (post_val_or_str ⟨Nat.le_trans (Txt.slice_le z _ _) hz,fun t' k=>⟨.str _,H,I.tok _,⟨_,rfl⟩,q⟩⟩)⟩
  | int i ui=>
    cases pu with
    | none=>exact ⟨"str",_,PySem.F.slot_str_getitem.lookup,typeIs_str _ _ _,wpAny_getItem_str_slice (l:=some (i,ui)) (u:=none) (st:=none) hs rfl (post_val_or_str ⟨Nat.le_trans (Txt.slice_le z _ _) hz,fun t' k=>⟨.str _,H,I.tok _,⟨_,rfl⟩,q⟩⟩)⟩
    | int j uj=>exact ⟨"str",_,PySem.F.slot_str_getitem.lookup,typeIs_str _ _ _,wpAny_getItem_str_slice (l:=some (i,ui)) (u:=some (j,uj)) (st:=none) hs rfl (post_val_or_str ⟨Nat.le_trans (Txt.slice_le z _ _) hz,fun t' k=>⟨.str _,H,I.tok _,⟨_,rfl⟩,q⟩⟩)⟩
def lI (m2:Bool) (f:bF) (lo hi:pQ):bF:=fun E=>(f E).bind fun a=>if m2&&a.1.isBr then none else (lo a.2).bind fun b=>(hi b.2).bind fun c=>match look c.2 a.1 with
  | some (.list ds)=>if !ck c.2 a.1||a_ (ii ds b.1 c.1) then some (.ow (ii ds b.1 c.1),c.2) else none
  | some (.str z)=>if z.length≤1000000 then some (.sh (.str (Txt.slice z b.1 c.1)),c.2) else none
  | _=>none
theorem p6 {X:Cx} {e:Expr} {lo hi:Option Expr} {m1 m2 m3:Bool} {f:bF} {g h:pQ} {pos p2:Pos} (he:EX X e m1 f) (hl:OX X lo m2 g) (hh:OX X hi m3 h):EX X (.Subscript e (.Slice lo hi none p2) pos) (m1||(m2||m3)) (lI (m2||m3) f g h):=by
  refine ba (kW (SlR.or mS p5) he hl hh) fun σ H Q z=>?_
  obtain ⟨B,E,xs,Xs,res,E',fr,cl,e,q⟩:=z
  obtain ⟨⟨s,E1⟩,e1,e⟩:=Option.bind_eq_some_iff.mp e
  by_cases hb:((m2||m3)&&s.isBr)=true
  · rw [if_pos hb] at e;cases e
  rw [if_neg hb] at e
  have n1:(m2||m3)=true→s.isBr=false:=fun z=>by
    cases hs:s.isBr with
    | false=>rfl
    | true=>exact absurd (by rw [z,hs];rfl) hb
  obtain ⟨⟨l,E2⟩,e2,e⟩:=Option.bind_eq_some_iff.mp e
  obtain ⟨⟨u,E3⟩,e3,e⟩:=Option.bind_eq_some_iff.mp e
  refine ⟨B,E,xs,Xs,s,E1,fr,fun z=>cl (by simp [z]),e1,fun v1 H1 fr1=>?_⟩
  refine ⟨B,E1,v1::xs,s::Xs,l,E2,fr1,fun z=>Calm.cons (cl (by simp [z])) (n1 (by simp [z])),e2,fun H2 fr2=>?_⟩
  refine ⟨B,E2,v1::xs,s::Xs,u,E3,fr2,fun z=>Calm.cons (cl (by simp [z])) (n1 (by simp [z])),e3,fun H3 ⟨F,A,fr3⟩=>?_⟩
  simp only at e
  split at e
  · rename_i ds ld
    split at e
    · rename_i hc
      cases e
      obtain ⟨v,ev,r,f0⟩:=fr3.look (k:=0) rfl ld
      cases ev
      obtain ⟨A',fr4⟩:=fr3.pop
      cases hh:ck E' s with
      | false=>
        obtain ⟨a,vs,rfl,h1,h2⟩:=f0 hh
        exact .inl ⟨a,vs,rfl,h1,fun p hp=>q _ _ ⟨F,_,fr4.newl (h2.cut l u) hp⟩⟩
      | true=>
        rw [hh] at hc
        cases r with
        | lst h1 h2=>exact .inl ⟨_,_,rfl,h1,fun p hp=>q _ _ ⟨F,_,fr4.newl (fr3.coldA (h2.cut l u) (by simpa using hc)) hp⟩⟩
    · cases e
  · rename_i z ld
    split at e
    · rename_i hc
      cases e
      have r:=(fr3.look0 ld).1
      cases r
      obtain ⟨A',fr4⟩:=fr3.pop
      exact .inr ⟨_,rfl,dg hc,q _ _ ⟨F,A',fr4.push ⟨rfl,_,rfl, .str _⟩⟩⟩
    · cases e
  · cases e
structure Bn (mg:Str→Option Value):Prop where
  len:mg "len"=none
  range:mg "range"=none
  abs:mg "abs"=none
  min:mg "min"=none
  max:mg "max"=none
  reversed:mg "reversed"=none
  enumerate:mg "enumerate"=none
  isinstance:mg "isinstance"=none
  list:mg "list"=none
  tuple:mg "tuple"=none
  str:mg "str"=none
  int:mg "int"=none
  bool:mg "bool"=none
  sorted:mg "sorted"=none
  zip:mg "zip"=none
  sum:mg "sum"=none
  any:mg "any"=none
  all:mg "all"=none
  set:mg "set"=none
  dict:mg "dict"=none
theorem r8 {K:PySem.W.Frag} {h:Heap} {mg:Str→Option Value} (X:K.In h) (G:h.Ns mainGlobals mg)
    (z1:PySem.W.nsIn K mainGlobals "len"=some none) (z2:PySem.W.nsIn K mainGlobals "range"=some none) (z3:PySem.W.nsIn K mainGlobals "abs"=some none) (z4:PySem.W.nsIn K mainGlobals "min"=some none) (z5:PySem.W.nsIn K mainGlobals "max"=some none) (z6:PySem.W.nsIn K mainGlobals "reversed"=some none) (z7:PySem.W.nsIn K mainGlobals "enumerate"=some none) (z8:PySem.W.nsIn K mainGlobals "isinstance"=some none) (z9:PySem.W.nsIn K mainGlobals "list"=some none) (z10:PySem.W.nsIn K mainGlobals "tuple"=some none) (z11:PySem.W.nsIn K mainGlobals "str"=some none) (z12:PySem.W.nsIn K mainGlobals "int"=some none) (z13:PySem.W.nsIn K mainGlobals "bool"=some none) (z14:PySem.W.nsIn K mainGlobals "sorted"=some none) (z15:PySem.W.nsIn K mainGlobals "zip"=some none) (z16:PySem.W.nsIn K mainGlobals "sum"=some none) (z17:PySem.W.nsIn K mainGlobals "any"=some none) (z18:PySem.W.nsIn K mainGlobals "all"=some none) (z19:PySem.W.nsIn K mainGlobals "set"=some none) (z20:PySem.W.nsIn K mainGlobals "dict"=some none):Bn mg:=
  ⟨PySem.W.mg_none_of X G z1,PySem.W.mg_none_of X G z2,PySem.W.mg_none_of X G z3,PySem.W.mg_none_of X G z4,PySem.W.mg_none_of X G z5,PySem.W.mg_none_of X G z6,PySem.W.mg_none_of X G z7,PySem.W.mg_none_of X G z8,PySem.W.mg_none_of X G z9,PySem.W.mg_none_of X G z10,PySem.W.mg_none_of X G z11,PySem.W.mg_none_of X G z12,PySem.W.mg_none_of X G z13,PySem.W.mg_none_of X G z14,PySem.W.mg_none_of X G z15,PySem.W.mg_none_of X G z16,PySem.W.mg_none_of X G z17,PySem.W.mg_none_of X G z18,PySem.W.mg_none_of X G z19,PySem.W.mg_none_of X G z20⟩
end PL
namespace PL
open PySem L2 Nh
section
variable {K:PySem.W.Frag} {F H:Hp}
theorem PtsOk.append:∀{us:List V} {ts:List Pt} {A:List Addr} {us':List V} {ts':List Pt} {A':List Addr},PtsOk K F H us ts A→PtsOk K F H us' ts' A'→PtsOk K F H (us++us') (ts++ts') (A++A')
  | [],[],A,_,_,_,h,h'=>by rw [show A=[] from h];exact h'
  | v::vs, .fl d::ps,A,_,_,_,h,h'=>⟨h.1,PtsOk.append h.2 h'⟩
  | v::vs, .ol ds::ps,A,_,_,_,h,h'=>by
    obtain ⟨l,us,A1,rfl,rfl,hl,hr,q⟩:=h
    exact ⟨l,us,_,rfl,rfl,hl,hr,q.append h'⟩
  | [],_::_,_,_,_,_,h,_=>False.elim h
  | _::_,[],_,_,_,_,h,_=>False.elim h
theorem PtsOk.rev:∀{us:List V} {ts:List Pt} {A:List Addr},PtsOk K F H us ts A→PtsOk K F H us.reverse ts.reverse A.reverse
  | [],[],A,h=>by rw [show A=[] from h];exact rfl
  | v::vs, .fl d::ps,A,h=>by
    rw [List.reverse_cons,List.reverse_cons,←List.append_nil A.reverse]
    exact (PtsOk.rev h.2).append (us':=[v]) (ts':=[.fl d]) (A':=[]) ⟨h.1,rfl⟩
  | v::vs, .ol ds::ps,A,h=>by
    obtain ⟨l,us,A1,rfl,rfl,hl,hr,q⟩:=h
    rw [List.reverse_cons,List.reverse_cons,List.reverse_cons]
    exact q.rev.append (us':=[.ref l]) (ts':=[.ol ds]) (A':=[l]) ⟨l,us,[],rfl,rfl,hl,hr,rfl⟩
  | [],_::_,_,h=>False.elim h
  | _::_,[],_,h=>False.elim h
theorem PtsOk.len:∀{us:List V} {ts:List Pt} {A:List Addr},PtsOk K F H us ts A→us.length=ts.length
  | [],[],A,_=>rfl
  | v::vs, .fl d::ps,A,h=>congrArg (· +1) h.2.len
  | v::vs, .ol ds::ps,A,h=>by
    obtain ⟨l,us,A1,rfl,rfl,hl,hr,q⟩:=h
    exact congrArg (· +1) q.len
  | [],_::_,_,h=>False.elim h
  | _::_,[],_,h=>False.elim h
end
abbrev uQ:=List Sl→Option (List Pt×List Sl)
end PL
namespace PL
open PySem PySem.Spec L2 Nh PyProof.Rows
def ux (i:Int):Prop:= -1000000≤i∧i≤1000000
instance (i:Int):Decidable (ux i):=inferInstanceAs (Decidable (_∧_))
end PL
namespace PL
open PySem L2 Nh
def dM:List PyData→Option (List Bool)
  | []=>some []
  | .bool b::ds=>(dM ds).map (b:: ·)
  | _=>none
theorem fN {K:PySem.W.Frag} {H:Hp}:∀{vs:List V} {ds:List PyData} {bs:List Bool},RpA K H vs ds→dM ds=some bs→vs=bs.map V.bl
  | _,_,bs, .nil,e=>by cases e;rfl
  | _,_,bs, .cons (d:=d) h t,e=>by
    cases d <;> simp [dM] at e
    obtain ⟨cs,e,rfl⟩:=e
    cases h
    rw [fN t e]
    rfl
section
variable {X:Cx} {e:Expr} {es:List Expr} {m1:Bool} {g:ie} {p pos:Pos}
theorem dI:∀{ns:List Int} {us:List Value},Vals (ns.map V.int) us→us.length=ns.length∧∀(i:Nat) (v:Value),us[i]? =some v→∃t,v=Value.int (ns.getD i 0) t
  | [],_, .nil=>⟨rfl,fun i v h=>by simp at h⟩
  | n::ns,_, .cons h t=>by
    obtain ⟨tk,rfl⟩:=h
    obtain ⟨h1,h2⟩:=dI t
    refine ⟨by simp [h1],fun i v h=>?_⟩
    cases i with
    | zero=>simp at h;subst h;exact ⟨tk,rfl⟩
    | succ i=>simpa using h2 i v (by simpa using h)
end
end PL
namespace PL
open PySem L2 Nh
def fO (g:bF):bF:=fun E=>(g E).bind fun a=>match look a.2 a.1 with
  | some (.list ds)=>if !ck a.2 a.1||a_ ds then some (.sh (.tuple ds),a.2) else none
  | _=>none
section
variable {X:Cx} {e:Expr} {m1:Bool} {f:bF} {p pos:Pos}
theorem lJ (hg:Gl X "tuple") (hm:X.mg "tuple"=none) (ha:EX X e m1 f) (he:starEach [e] X.env=[(false,eval e X.env)]:=by rfl):EX X (.Call (.Name "tuple" p) [e] [] pos) m1 (fO f):=by
  refine ba (gm fV hg hm PyProof.Rows.boot_tuple (bN ha cM he) (by decide) (by decide) he rfl) fun σ H Q z=>?_
  obtain ⟨B,E,xs,Xs,res,E',fr,cl,e,q⟩:=z
  obtain ⟨⟨s,E1⟩,e1,e⟩:=Option.bind_eq_some_iff.mp e
  refine ⟨B,E,xs,Xs,s,E1,fr,cl,e1,fun v1 H1 ⟨F,A,fr1⟩=>?_⟩
  obtain ⟨A',fr2⟩:=fr1.pop
  simp only at e
  split at e
  · rename_i ds ld
    split at e
    · rename_i hc
      cases e
      obtain ⟨a,vs,ev,h1,h2⟩:=fr1.items (k:=0) rfl ld hc
      cases ev
      exact ⟨a,vs,rfl, .inl ⟨h1,fun l hl=>q _ _ ⟨_,_,fr2.newt h2 hl⟩⟩⟩
    · cases e
  · cases e
end
end PL
namespace Nh
open PySem L2
theorem NailsOk.stp {r:List Pc} {p:Pc} (h:NailsOk r) (hp:p.1 < 128):NailsOk (NH.stp r p):=by
  cases r with
  | nil=>
    show NailsOk (if p.2=0 then [] else [p])
    split
    · exact h
    · intro q hq;rw [List.mem_singleton.mp hq];exact hp
  | cons x r=>
    rw [NH.eI]
    intro q hq
    rcases List.mem_append.mp hq with h1 | h1
    · unfold NH.oq at h1
      split at h1
      · split at h1
        · cases h1
        · rw [List.mem_singleton.mp h1];exact hp
      · split at h1
        · rw [List.mem_singleton.mp h1];exact h x (List.mem_cons_self ..)
        · rcases List.mem_cons.mp h1 with h2 | h2
          · rw [h2];exact hp
          · rw [List.mem_singleton.mp h2];exact h x (List.mem_cons_self ..)
    · exact h q (List.mem_cons_of_mem _ h1)
theorem NailsOk.foldl:∀(c:List Pc) {r:List Pc},NailsOk r→NailsOk c→NailsOk (c.foldl NH.stp r)
  | [],_,h,_=>h
  | p::c,_,h,hc=>NailsOk.foldl c (h.stp (hc p (List.mem_cons_self ..))) fun q hq=>hc q (List.mem_cons_of_mem _ hq)
theorem NailsOk.take {c:List Pc} (h:NailsOk c) (i:Nat):NailsOk (c.take i):=fun p hp=>h p (List.mem_of_mem_take hp)
theorem NailsOk.drop {c:List Pc} (h:NailsOk c) (i:Nat):NailsOk (c.drop i):=fun p hp=>h p (List.mem_of_mem_drop hp)
theorem NailsOk.reverse {c:List Pc} (h:NailsOk c):NailsOk c.reverse:=fun p hp=>h p (List.mem_reverse.mp hp)
theorem NailsOk.append {c d:List Pc} (h:NailsOk c) (h':NailsOk d):NailsOk (c++d):=fun p hp=>(List.mem_append.mp hp).elim (h p) (h' p)
end Nh
namespace Nh
open PySem L2 PL
theorem NailsOk.rep {c:List Pc} (h:NailsOk c) (k:Nat):NailsOk (List.replicate k c).flatten:=fun p hp=>by
  obtain ⟨l,hl,hpl⟩:=List.mem_flatten.mp hp
  rw [(List.mem_replicate.mp hl).2] at hpl
  exact h p hpl
theorem NailsOk.cutL {c:List Pc} (h:NailsOk c) (lo hi:Option Int):NailsOk (cutL c lo hi):=fun p hp=>h p (ix hp)
def l4 (i:Int):Nat:=[97,98,99,122].getD i.toNat 97
theorem r9:∀j,j < 26→(Str.ofString "abcdefghijklmnopqrstuvwxyz").cps.toList[j]? =some (97+j):=by decide+kernel
theorem nz:∀j,j < 4→(Str.ofString "abcz").cps.toList[j]? =some ([97,98,99,122].getD j 97):=by decide+kernel
theorem gY (v:Int):atI (Str.ofString "abcz").cps.toList (v % 4)=some (l4 (v % 4)):=by
  have h0:=Int.emod_nonneg v (show (4:Int)≠0 by decide)
  have h1:=Int.emod_lt_of_pos v (show (0:Int) < 4 by decide)
  rw [lB h0]
  exact nz _ (by omega)
theorem r_ (v:Int):atI (Str.ofString "abcdefghijklmnopqrstuvwxyz").cps.toList (v % 26)=some (97+(v % 26).toNat):=by
  have h0:=Int.emod_nonneg v (show (26:Int)≠0 by decide)
  have h1:=Int.emod_lt_of_pos v (show (0:Int) < 26 by decide)
  rw [lB h0]
  exact r9 _ (by omega)
theorem eP:(Str.ofString "abcz").length≤1000000:=by decide+kernel
theorem lK:(Str.ofString "abcdefghijklmnopqrstuvwxyz").length≤1000000:=by decide+kernel
theorem gZ {i j:Int} (h1: -(2 ^ 64) < j) (h2:j < 2 ^ 64):cG i j=true:=by
  simp only [cG,Bool.or_eq_true,decide_eq_true_eq]
  exact .inl (.inr ⟨h1,h2⟩)
theorem g9 {i j:Int} (h1: -(2 ^ 64) < i) (h2:i < 2 ^ 64):cG i j=true:=by
  simp only [cG,Bool.or_eq_true,decide_eq_true_eq]
  exact .inl (.inl ⟨h1,h2⟩)
theorem bj (i j:Int):i6 (.int i) (.int j)=some (decide (i=j)):=rfl
theorem g_ (i j:Str):i6 (.str i) (.str j)=some (decide (i=j)):=rfl
theorem lL (i j:Bool):i6 (.bool i) (.bool j)=some (decide (i=j)):=rfl
theorem lM {c d:List Pc} (hc:NailsOk c) (hd:NailsOk d):i6 (.list (c.map cf)) (.list (d.map cf))=some (decide (c=d)):=by
  have e:i6 (.list (c.map cf)) (.list (d.map cf))=(if SeqAt.shaped (dR c)&&SeqAt.shaped (dR d) then some (PyData.eqv (dR c) (dR d)) else none):=rfl
  rw [e,e6 hc,e6 hd,la]
  rfl
end Nh
namespace L2
open PySem PySem.Spec PyProof.Rows
def jH (K:PySem.W.Frag) (h:Heap):Prop:=∀b q,fj K b=some q→h.get? b=some (PySem.W.tabObj #[])∧(∃c,PySem.W.CodeHd h c b)∧K.lookup b=none
def bM (K:PySem.W.Frag) (a:Addr) (so:Option HO):Hp:=fun b=>match fj K b with
  | some q=>some (.tbl q)
  | none=>if b=a then so else none
theorem jc {K:PySem.W.Frag} {a b:Addr} {so:Option HO} {q:Str} (e:fj K b=some q):bM K a so b=some (.tbl q):=by unfold bM;rw [e]
theorem kg {K:PySem.W.Frag} {a:Addr} {so:Option HO} (e:fj K a=none):bM K a so a=so:=by unfold bM;rw [e];exact if_pos rfl
theorem cB {K:PySem.W.Frag} {a b:Addr} {so:Option HO} {u:HO} (e:bM K a so b=some u):(∃q,fj K b=some q∧u= .tbl q)∨(b=a∧so=some u):=by
  unfold bM at e
  split at e
  · rename_i q h;cases e;exact .inl ⟨q,h,rfl⟩
  · by_cases hb:b=a
    · rw [if_pos hb] at e;exact .inr ⟨hb,e⟩
    · rw [if_neg hb] at e;cases e
section
variable {P:Program} {w:World} {K:PySem.W.Frag} {mg mb:Str→Option Value} {CX:jY} {k:Nat} {fa a:Addr} {fd:FuncData} {x:Str} {sp:Sp} {s₁:Shared} {vs:List Value} {ns:List Int}
theorem nC (KX:K.In s₁.heap) (hns:s₁.heap.Ns mainGlobals mg) (hb:s₁.heap.Ns builtinsNs mb) (hbb:∀x:Str,x≠"__name__"→mb x=bootBuiltins x) (hlim:s₁.heap.NoLimit) (hg:s₁.gens=#[]) (hbm:∃bm ob,mg "__builtins__"=some (.ref bm)∧bm≠builtinsNs∧s₁.heap.get? bm=some ob∧ob.cls= .type "module"∧ob.dict=some builtinsNs∧ob.data= .plain) (hT:jH K s₁.heap)
    (ha:s₁.heap.get? a=some {cls:= .type "list",data:= .seq vs.toArray}) (hi:IntsAre vs ns) (hl:ns.length≤sizeLine) (hr:Room k callerA)
    (F:∀base:Heap,K.In base→base.Ns mainGlobals mg→FnOk P w K mg base CX k fa fd [x] sp) (hbind:∀(s:Shared) (u:Value),BindsTo s fd ⟨[u],[]⟩ [(x,u)])
    (hsp:∀H:Hp,SqL K H a (ns.map V.int)→sp [.ref a] H (fun v _=>v= .bl true) fun _ _ _=>False)
    (hCX:∀H e s',CX [] H s₁ (fun _ _ _=>False) e s'→False):
    codeAny (model P w) callerA (.call (.ref fa) ⟨[.ref a],[]⟩) (fun r s'=>r= .ok (.ret (.bool true))∧OldK s₁.heap s'.heap∧s'.os=s₁.os∧AllBare s'.gens) s₁:=by
  have rv:=dI hi
  have lenV:=hi.length
  have tabA:fj K a=none:=by
    cases q:fj K a with
    | none=>rfl
    | some z=>
      have e:=(hT a z q).1
      rw [ha] at e
      cases e
  have main:∀so:Option HO,(so=none∨(so=some (.frz {cls:= .type "list",data:= .seq vs.toArray} (.lst (ns.map V.int)))∧K.lookup a=none))→SqL K (bM K a so) a (ns.map V.int)→
      codeAny (model P w) callerA (.call (.ref fa) ⟨[.ref a],[]⟩) (fun r s'=>r= .ok (.ret (.bool true))∧OldK s₁.heap s'.heap∧s'.os=s₁.os∧AllBare s'.gens) s₁:=by
    intro so hso hS
    have hok:HOk P w (bM K a so) s₁.heap:=fun b u e=>by
      rcases cB e with ⟨q,e1,rfl⟩ | ⟨rfl,e1⟩
      · exact ObjOk.tbl0 (hT b q e1).1
      · rcases hso with z | ⟨z,_⟩
        · rw [z] at e1;cases e1
        · rw [z] at e1;cases e1
          exact ⟨ha,by rw [List.length_map];exact hl,vs,_,rv,ha⟩
    have free:∀{b:Addr} {o:Obj} {es:Array DictEntry} {ep:Nat},s₁.heap.get? b=some o→o.data= .dict es ep→bM K a so b=none:=fun {b o es ep} e d=>by
      cases q:bM K a so b with
      | none=>rfl
      | some u=>
        rcases cB q with ⟨z,e1,_⟩ | ⟨rfl,_⟩
        · rw [(hT b z e1).1] at e;cases e;cases d
        · rw [ha] at e;cases e;cases d
    have nsK:∀{b:Addr} {m:Str→Option Value},s₁.heap.Ns b m→(hW s₁.heap (bM K a so)).Ns b m:=fun {b m} ⟨o,es,ep,e,d,r⟩=>⟨o,es,ep,fi e (free e d),d,r⟩
    have kin:K.In (hW s₁.heap (bM K a so)):=fun b o e=>fi (KX b o e) (by
      cases q:bM K a so b with
      | none=>rfl
      | some u=>
        rcases cB q with ⟨z,e1,_⟩ | ⟨rfl,e1⟩
        · rw [(hT b z e1).2.2] at e;cases e
        · rcases hso with z | ⟨_,z⟩
          · rw [z] at e1;cases e1
          · rw [z] at e;cases e)
    have bmK:∃bm ob,mg "__builtins__"=some (.ref bm)∧bm≠builtinsNs∧(hW s₁.heap (bM K a so)).get? bm=some ob∧ob.cls= .type "module"∧ob.dict=some builtinsNs∧ob.data= .plain:=by
      obtain ⟨bm,ob,c1,c2,c3,c4,c5⟩:=hbm
      refine ⟨bm,ob,c1,c2,fi c3 ?_,c4,c5⟩
      cases q:bM K a so bm with
      | none=>rfl
      | some u=>
        rcases cB q with ⟨z,e1,_⟩ | ⟨rfl,_⟩
        · rw [(hT bm z e1).1] at c3;cases c3;cases c4
        · rw [ha] at c3
          cases c3
          injection c4 with c6
          exact absurd c6 (by decide)
    have e0:Env0 P w K mg (hW s₁.heap (bM K a so)) callerA [] s₁ (bM K a so):=
      ⟨rfl,⟨kin,nsK hns,⟨mb,nsK hb,hbb⟩,let ⟨mc,h1,h2⟩:=hlim;⟨mc,nsK h1,h2⟩,bmK⟩,fun b o e=>my e,Nat.le_of_eq (jP _ _),trivial,fun b hb=>absurd (show b∈([]:List Addr) from hb) (by simp),hok, .of_eq hg,fun b q e=>jc e⟩
    refine codeAny_mono ((F _ kin (nsK hns)).run callerA [] s₁ _ ⟨[.ref a],[]⟩ [.ref a] [.ref a] _ _ hr e0 (hbind s₁ (.ref a)) (.cons rfl .nil) (hsp _ hS)) fun r s' h=>?_
    cases r with
    | error e=>exact (hCX _ e s' h).elim
    | ok fl=>
      cases fl with
      | next=>exact False.elim h
      | brk=>exact False.elim h
      | cont=>exact False.elim h
      | ret u=>
        obtain ⟨v,H',os,bare,un,hok',r',q⟩:=h
        have q':v= .bl true:=q
        subst q'
        obtain rfl:u=Value.bool true:=r'
        have nofs:∀b,b∉eG ([]:List Env):=fun b z=>absurd (show b∈([]:List Addr) from z) (by simp)
        have step:∀b o,s₁.heap.get? b=some o→asItWas s₁.heap s'.heap b o∧∃o',s'.heap.get? b=some o':=fun b o e=>by
          cases q:bM K a so b with
          | none=>exact ⟨.inl (un.keep b o e q (nofs b) (by simp)),_,un.keep b o e q (nofs b) (by simp)⟩
          | some u=>
            rcases cB q with ⟨z,e1,rfl⟩ | ⟨rfl,e1⟩
            · obtain ⟨t1,⟨c,t2⟩,_⟩:=hT b z e1
              obtain ⟨ps,p1,_⟩:=hok' b _ (un.tbls b z q)
              rw [t1] at e
              cases e
              exact ⟨.inr (.inl ⟨(t2.tab t1).isCodeTable,rfl,#[],ps,rfl,by simpa using p1⟩),_,p1⟩
            · rcases hso with z | ⟨z,_⟩
              · rw [z] at e1;cases e1
              · rw [z] at e1;cases e1
                have z2:=un.frzs b _ _ q
                obtain ⟨e2,_⟩:=hok' b _ z2
                rw [ha] at e;cases e
                exact ⟨.inl e2,_,e2⟩
        exact ⟨rfl,⟨fun b o e=>(step b o e).1,fun b o e=>(step b o e).2⟩,os,bare⟩
  cases hk:K.lookup a with
  | some o=>
    have e:=KX a o hk
    rw [ha] at e
    cases e
    exact main none (.inl rfl) (.inr ⟨_,vs.toArray,_,hk,rfl,rfl,rfl,by rw [List.size_toArray,lenV];exact hl,by simpa using rv⟩)
  | none=>exact main _ (.inr ⟨rfl,hk⟩) (.inl (.inr ⟨_,kg tabA⟩))
end
theorem lN {l:PySem.W.OpenLaw} {n k:Nat} {q:Program} {loose:List Str} {XP:(Str→Option Value)→Heap→Prop} {YP:World→Heap→Prop} {d:DefRec} {K:Params→PySem.W.Frag} {CX:World→jY} {sp:World→Sp} {x:Str}
    (hn:l.most=some n) (hn2:n≤sizeLine) (hdf:d.params.defaults=[]) (hr:Room k callerA)
    (hY:∀(w:World) (h:Heap),YP w h→(K w.params).In h∧jH (K w.params) h)
    (F:∀(w:World) (mg:Str→Option Value) (fa:Addr) (h:Heap),(K w.params).In h→h.Ns mainGlobals mg→mg d.name=some (.ref fa)→
      ∃fd:FuncData,(∀(s:Shared) (u:Value),BindsTo s fd ⟨[u],[]⟩ [(x,u)])∧
        ∀base:Heap,(K w.params).In base→base.Ns mainGlobals mg→FnOk l.prog w (K w.params) mg base (CX w) k fa fd [x] (sp w))
    (hsp:∀(w:World) (H:Hp) (a:Addr) (ns:List Int),ns.length≤n→SqL (K w.params) H a (ns.map V.int)→sp w [.ref a] H (fun v _=>v= .bl true) fun _ _ _=>False)
    (hCX:∀(w:World) (H:Hp) (s:Shared) (e:Value) (s':Shared),CX w [] H s (fun _ _ _=>False) e s'→False):
    PySem.W.WalkO q loose XP YP l.row.toRowW d [] (fun f vs=>PySem.call f vs):=by
  refine Att.h9 hn hdf fun w s₀ s₁ mg mb fa o pm cd doc a vs ns G Y ho hd hcd hmg hobj hints hlen hg=>?_
  obtain ⟨KX,KT⟩:=hY w _ Y
  obtain ⟨fd,hb,hF⟩:=F w mg fa _ KX G.T.g hmg
  exact nC KX G.T.g G.T.b G.T.builtins G.T.nolimit hg G.T.bmain KT hobj hints (Nat.le_trans hlen hn2) hr hF hb (fun H hS=>hsp w H a ns hlen hS) fun H e s'=>hCX w H s₁ e s'
theorem jd {K:PySem.W.Frag} {h:Heap} (e:PySem.W.nsIn K mainGlobals "in_told_order"=some none):jH K h:=fun b q z=>by
  unfold fj qR at z
  rw [e] at z
  cases z
end L2
namespace NH
variable {α:Type} [DecidableEq α]
end NH
namespace NH
variable {α:Type} [DecidableEq α]
end NH
namespace Nh
open PySem L2 PL
def CordOk (c:List Pc):Prop:=∀p∈c,p.1 < 128∧p.2.natAbs < 2 ^ 100
theorem CordOk.n {c:List Pc} (h:CordOk c):NailsOk c:=fun p hp=>(h p hp).1
theorem CordOk.append {c d:List Pc} (h:CordOk c) (h':CordOk d):CordOk (c++d):=fun p hp=>(List.mem_append.mp hp).elim (h p) (h' p)
theorem CordOk.cutL {c:List Pc} (h:CordOk c) (lo hi:Option Int):CordOk (cutL c lo hi):=fun p hp=>h p (ix hp)
end Nh
namespace PL
open PySem PySem.Spec PyProof.Rows L2 Nh PySem.W PySem.Calls Builtin Builtin.ObjectAttr Builtin.Getset_descriptor
structure ExCls (K:Frag) (C:Addr):Prop where
  cls:∃cd,clsIn K C=some cd
  ga:findIn K (.ref C) "__getattribute__"=some (some (.builtin "BaseException.__getattribute__"))
  gt:findIn K (.ref C) "__getattr__"=some none
  ca:findIn K (.ref C) "__class__"=some (some (.builtin "object.__class__"))
  mb:mroIn K C (.type "BaseException")=some true
  mo:mroIn K C (.type "object")=some true
section
variable {K:Frag} {a C:Addr} {M:Model} {h:Heap}
theorem eX (p:c0 a C h):Looks M h (typeOf (.ref a)) (.ref C):=by
  obtain ⟨o,h1,h2⟩:=p
  exact h2▸(Looks.ld h1).andThen .now
theorem nD {prog:Program} {w:World} {A:Around} {R:Result→Shared→Prop} {s:Shared} {tp:Value} (Z:ExCls K C) (X:K.In s.heap) (I:c0 a C s.heap) (h:R (.ok (.ret (.ref C))) s):
    codeAny (model prog w) A (.call (.builtin "getset_descriptor.__get__") ⟨[.builtin "object.__class__", .ref a,tp],[]⟩) R s:=by
  obtain ⟨hh,g,dr,t,os⟩:=s
  have L0:=eX (M:=model prog w) I
  have L1:=looks_mroIn (M:=model prog w) X Z.mo
  refine codeAny_call_builtin KF.slot_gs.plain KF.entry_gs (KF.slot_gs.check _ _ _ _ _ _ _ _ KF.type_class (KF.args_gs _ _ _) ?_)
  unfold Builtin.«getset_descriptor.__get__» descrGet
  rw [dga_obj]
  refine wpAny_bind (wpAny_pure ?_)
  unfold descrGetter descrCheckInstance descrNameAndClass isInstance
  simp only [KF.owner_class]
  repeat lk
  refine ⟨Code.quiet_builtin _ (by decide+kernel),codeAny_builtin KF.entry_class ?_⟩
  unfold Builtin.«object.__class__» shownTypeOf
  repeat lk
  exact h
theorem kh {prog:Program} {w:World} {A:Around} {E:Value→Shared→Prop} {Q:Fin→Shared→Prop} {s:Shared} {tk:Tok} (Z:ExCls K C) (X:K.In s.heap) (I:c0 a C s.heap) (h:Q (.done (.ret (.ref C))) s):
    wpAny (model prog w) A (Builtin.«object.__getattribute__» ⟨[.ref a, .str "__class__" tk],[]⟩) Q E s:=by
  obtain ⟨hh,g,dr,t,os⟩:=s
  have L0:=eX (M:=model prog w) I
  have L1:=looks_findIn (M:=model prog w) X Z.ca
  have hT5:(⟨hh,g,dr,t,os⟩:Shared).TypeIs (.builtin "object.__class__") "getset_descriptor":=F.typeOf_object_class
  have f5:=F.typeOf_object_class
  have f6:=F.slot_gs_get.lookup
  have f7:=F.slot_gs_set.lookup
  repeat (any_goals (first | assumption | with_reducible refine L0.at ?_ | with_reducible refine L1.at ?_ | wp_step))
  refine nD Z X I ?_
  repeat (any_goals (first | assumption | wp_step))
theorem ki {A:Around} {E:Value→Shared→Prop} {nameV:Value} {Q:Unit→Shared→Prop} {s:Shared} (Z:ExCls K C) (X:K.In s.heap) (I:c0 a C s.heap) (hq:Q () s):wpAny M A (checkBuiltinCall "BaseException.__getattribute__" ⟨[.ref a,nameV],[]⟩) Q E s:=by
  obtain ⟨hh,g,dr,t,os⟩:=s
  have L0:=eX (M:=M) I
  have L1:=looks_mroIn (M:=M) X Z.mb
  have hk:builtinKind "BaseException.__getattribute__"=some .slot:=by decide+kernel
  have hsplit:splitId "BaseException.__getattribute__"=some ("BaseException","__getattribute__"):=by decide+kernel
  have ha:=F.args_bexc_ga (.ref a) nameV
  simp only [checkBuiltinCall,hk,hsplit]
  refine wpAny_bind ?_
  unfold isInstance
  repeat (first | with_reducible refine L0.at ?_ | with_reducible refine L1.at ?_ | wp_step)
  exact hq
theorem p7 {prog:Program} {w:World} {A:Around} {E:Value→Shared→Prop} {Q:Value→Shared→Prop} {s:Shared} {tk:Tok} {fill expr:Bool} (Z:ExCls K C) (X:K.In s.heap) (I:c0 a C s.heap) (hq:Q (.ref C) s):
    wpAny (model prog w) A (getAttrBy (.ref a) (.str "__class__" tk) fill expr) Q E s:=by
  obtain ⟨hh,g,dr,t,os⟩:=s
  have L0:=eX (M:=model prog w) I
  have L1:=looks_findIn (M:=model prog w) X Z.ga
  have L2:=looks_findIn (M:=model prog w) X Z.gt
  have f3:=F.attr_ValueError.ga.bind (.ref a)
  have hx0:(expr&&onTheHeap (Value.builtin "BaseException.__getattribute__"))=false:=by cases expr <;> rfl
  have hx2:(Value.builtin "BaseException.__getattribute__" == Value.builtin "object.__getattribute__")=false:=by decide+kernel
  have hx1:(onTheHeap (Value.ref C)&&Value.builtin "BaseException.__getattribute__" == Value.builtin "object.__getattribute__")=false:=by rw [hx2];rfl
  repeat (any_goals (first | assumption | with_reducible refine L0.at ?_ | with_reducible refine L1.at ?_ | with_reducible refine L2.at ?_ | wp_step))
  refine codeAny_call_builtin F.attr_ValueError.ga.plain F.entry_bexc_ga (ki Z X I (kh Z X I ?_))
  repeat (any_goals (first | assumption | wp_step))
theorem lO {prog:Program} {w:World} {A:Around} {E:Value→Shared→Prop} {Q:Option Value→Shared→Prop} {s:Shared} (Z:ExCls K C) (X:K.In s.heap) (I:c0 a C s.heap) (hq:Q (some (.ref C)) {s with toks:=s.toks+1}):
    wpAny (model prog w) A (getAttr? (.ref a) "__class__") Q E s:=by
  obtain ⟨hh,g,dr,t,os⟩:=s
  unfold getAttr?
  repeat (any_goals (first | assumption | with_reducible apply p7 (s:=⟨hh,g,dr,t+1,os⟩) Z X I | wp_step))
theorem lP (Z:ExCls K C):KitX K (.ref a) (.ref C) (c0 a C) where
  ty:=fun _ _ _ I=>eX I
  it:=fun _ _ X _=>by
    obtain ⟨cdD,hcD⟩:=Z.cls
    unfold clsIn at hcD
    split at hcD
    · rename_i c' d' cd' sl' ho
      intro A' Q' E' s' k q
      unfold isType loadHead
      exact wpAny_bind (wpAny_loadPart (k _ _ (X _ _ ho)) (wpAny_pure q))
    · cases hcD
  ne:=fun h tp dd its n sl X htp=>by
    obtain ⟨cdD,hcD⟩:=Z.cls
    refine Bool.eq_false_iff.mpr fun q=>?_
    have e:C=tp:=Value.ref.inj (beq_iff_eq.mp q)
    subst e
    unfold clsIn at hcD
    split at hcD
    · rename_i c' d' cd' sl' ho
      have z:=(X _ _ ho).symm.trans htp
      cases z
    · cases hcD
  ca:=fun X I k=>lO Z X I k
end
end PL
namespace PL
open PySem PySem.Spec PyProof.Rows L2 Nh
structure UnB (fs:List Addr) (H H':Hp) (h B h':Heap):Prop where
  keep:∀b o,h.get? b=some o→H b=none→b∉fs→B.get? b=some o
  slot:∀b o,h.get? b=some o→H b=none→b∈fs→∃sl,h'.get? b=some {o with slots:=sl}
  free:∀b o,h.get? b=some o→H b=none→H' b=none
  there:∀b o,h.get? b=some o→b∉fs→∃o',B.get? b=some o'
  tups:∀b xs,H b=some (.tup xs)→H' b=some (.tup xs)
  frzs:∀b o u,H b=some (.frz o u)→H' b=some (.frz o u)
  tbls:∀b ps,H b=some (.tbl ps)→H' b=some (.tbl ps)
theorem UnB.un {fs:List Addr} {H H':Hp} {h B h':Heap} (u:UnB fs H H' h B h') (st:B.StaysIn h') (hf:∀b∈fs,H b=none):Un fs [] H H' h h':=
  ⟨fun b o e n hb _=>st b o (u.keep b o e n hb),fun b o e n hb _=>u.slot b o e n hb,fun b o e n _=>u.free b o e n,fun b o e _=>by
    by_cases hb:b∈fs
    · obtain ⟨sl,z⟩:=u.slot b o e (hf b hb) hb
      exact ⟨_,z⟩
    · obtain ⟨o',z⟩:=u.there b o e hb
      exact ⟨o',st b o' z⟩,u.tups,u.frzs,u.tbls⟩
theorem UnB.on {l:List Env} {H H':Hp} {h B h' h2:Heap} (u:UnB (eG l) H H' h B h') (ff:h'.FunFrames B l) (k:h'.UpToSlots h2):UnB (eG l) H H' h B h2:=
  ⟨u.keep,fun b o e n hb=>by
    obtain ⟨sl,z⟩:=u.slot b o e n hb
    obtain ⟨_,o',ho',hd⟩:=ff.mem hb
    rw [z] at ho'
    cases ho'
    obtain ⟨sl2,z2⟩:=k b _ z hd
    exact ⟨sl2,z2⟩,u.free,u.there,u.tups,u.frzs,u.tbls⟩
theorem UnB.out {X:Cx} {pins:List (Addr×Obj)} {σ:L2.St} {H H':Hp} {s:Shared} {B h':Heap} (I:Inv X pins σ H s) (hx:X.ex=[]) (u:UnB (eG X.stack) H H' s.heap B h'):UnB X.fs X.H₀ H' X.s₀.heap B h':=by
  have nx:∀b:Addr,b∉X.ex:=fun b z=>by rw [hx] at z;cases z
  have ne:∀b o,X.s₀.heap.get? b=some o→b≠X.env.locals:=fun b o e=>Nat.ne_of_lt (Nat.lt_of_lt_of_le (Heap.lt_size e) I.ok.above)
  have nf:∀b o,X.s₀.heap.get? b=some o→b∉X.fs→b∉eG X.stack:=fun b o e hb z=>(List.mem_cons.mp (I.stkSub b z)).elim (ne b o e) hb
  refine ⟨fun b o e n hb=>u.keep b o (I.base.keep b o e n hb (nx b)) (I.base.free b o e n (nx b)) (nf b o e hb),fun b o e n hb=>?_,fun b o e n=>?_,fun b o e hb=>?_,fun b xs e=>u.tups b xs (I.base.tups b xs e),fun b o v e=>u.frzs b o v (I.base.frzs b o v e),fun b ps e=>u.tbls b ps (I.base.tbls b ps e)⟩
  · obtain ⟨sl,z⟩:=I.base.slot b o e n hb (nx b)
    have hb':b∈eG X.stack:=by
      rcases I.ok.stk with q | ⟨q,hf⟩
      · rw [q];exact hb
      · rw [q];unfold eG;rw [List.filterMap_cons,hf];exact List.mem_cons_of_mem _ hb
    obtain ⟨sl2,z2⟩:=u.slot b _ z (I.base.free b o e n (nx b)) hb'
    exact ⟨sl2,z2⟩
  · obtain ⟨o',z⟩:=I.base.there b o e (nx b)
    exact u.free b o' z (I.base.free b o e n (nx b))
  · obtain ⟨o',z⟩:=I.base.there b o e (nx b)
    exact u.there b o' z (nf b o e hb)
theorem iC {P:Program} {w:World} {H:Hp} {h:Heap} {a:Addr} {o:HO} (x:ObjOk P w H h a o):∃u,h.get? a=some u:=by
  cases o with
  | lst xs=>obtain ⟨_,_,_,_,e⟩:=x;exact ⟨_,e⟩
  | tup xs=>obtain ⟨_,_,_,o,e,_⟩:=x;exact ⟨_,e⟩
  | dK kvs=>obtain ⟨_,_,_,_,o,_,_,e,_⟩:=x;exact ⟨_,e⟩
  | dT kvs=>obtain ⟨_,_,_,_,o,_,_,e,_⟩:=x;exact ⟨_,e⟩
  | set S n=>obtain ⟨o,_,_,_,e,_⟩:=x;exact ⟨_,e⟩
  | ins C dx fs=>obtain ⟨_,_,_,e,_⟩:=x;exact ⟨_,e⟩
  | own y=>obtain ⟨_,e⟩:=x;exact ⟨_,e⟩
  | xd fs=>obtain ⟨_,⟨_,_,_,e,_⟩,_⟩:=x;exact ⟨_,e⟩
  | rng lo hi=>obtain ⟨_,_,_,e⟩:=x;exact ⟨_,e⟩
  | frz ob u=>obtain ⟨e,_⟩:=x;exact ⟨_,e⟩
  | tbl q=>obtain ⟨_,e,_⟩:=x;exact ⟨_,e⟩
  | met f y=>exact ⟨_,(show h.get? a=some _ from x)⟩
  | ext φ=>obtain ⟨_,⟨_,e⟩,_⟩:=x;exact ⟨_,e⟩
def oM (P:Program) (w:World):jY:=fun outer H s E e s'=>∃H' ea C a0 B,e= .ref ea∧E (.ref C) none H'∧s'.os=s.os∧AllBare s'.gens∧Heap.FlyingW B outer ea (.ref C) a0 s'.heap∧HOk P w H' B∧UnB (eG outer) H H' s.heap B s'.heap
def lQ (X:Cx) (C:Addr) (pins:List (Addr×Obj)) (σ:L2.St) (H:Hp):Prop:=∀s h' ea vs,Inv X pins σ H s→Heap.MadeExcOf s.heap h' ea (.ref C) vs→X.xe (.ref ea) {s with heap:=h'}
def nE (X:Cx) (C:Addr) (pins:List (Addr×Obj)) (σ:L2.St) (H':Hp):Prop:=∀H s ea s' a0 B,Inv X pins σ H s→s'.os=s.os→AllBare s'.gens→Heap.FlyingW B X.stack ea (.ref C) a0 s'.heap→HOk X.prog X.w H' B→UnB (eG X.stack) H H' s.heap B s'.heap→X.xe (.ref ea) s'
def lR (X:Cx) (C:Addr) (pins:List (Addr×Obj)) (σ:L2.St) (H':Hp):Prop:=∀H s ea s' a0 B,Inv X pins σ H s→s'.os=s.os→AllBare s'.gens→Heap.HeldW B X.stack ea (.ref C) a0 X.env.locals s'.heap→HOk X.prog X.w H' B→UnB (eG X.stack) H H' s.heap B s'.heap→X.xe (.ref ea) s'
theorem iD {M:Model} {A:Around} {E:Value→Shared→Prop} {s:Shared} {base:Heap} {env:Env} {outer:List Env} {L e:Addr} {cls a0:Value} {Q:Unit→Shared→Prop} (hf:env.frame=some L) (hh:Heap.HeldW base (env::outer) e cls a0 L s.heap)
    (hQ:∀h',Heap.FlyingW base outer e cls a0 h'→s.heap.UpToSlots h'→Q () {s with heap:=h'}):wpAny M A (leaving env (.ref e)) Q E s:=by
  unfold leaving
  refine wpAny_bind (wpAny_noteFrame_againW hf hh.2.2.2 ?_)
  refine wpAny_landsW hh fun h' hfl k=>?_
  obtain ⟨k1,k2,⟨_,_,k3⟩,k4⟩:=hfl
  exact hQ h' ⟨k1,k2,k3,k4⟩ k
section
variable {P:Program} {w:World} {K:PySem.W.Frag} {mg:Str→Option Value} {base:Heap} {N:List Str} {qual:Str} {scope:Scope} {f:Addr} {cd:Value} {A:Around} {outer:List Env} {s:Shared} {H H':Hp} {E:XK} {C:Addr} {pins:List (Addr×Obj)} {σ:L2.St}
theorem nG (hE:E (.ref C) none H'):lQ (du (oM P w) P w K mg base N qual scope f cd A outer s H E) C pins σ H':=by
  intro s1 h' ea vs I hx
  show wpAny (model P w) _ (leaving _ (.ref ea)) _ _ _
  have st:=I.stack
  have hin:∀env∈(du (oM P w) P w K mg base N qual scope f cd A outer s H E).stack,∀b,env.frame=some b→b∈eG (du (oM P w) P w K mg base N qual scope f cd A outer s H E).stack:=fun env he b hb=>List.mem_filterMap.mpr ⟨env,he,hb⟩
  refine wpAny_leaves_madeW (base:=PySem.W.hideAll s1.heap (eG (du (oM P w) P w K mg base N qual scope f cd A outer s H E).stack)) (h:=s1.heap) I.ok.frames rfl (fun b o q=>PySem.W.of_hideAll _ q) (PySem.W.funFrames_hide st hin) hx fun h2 t x1 x2 x3 x4=>?_
  refine ⟨H',ea,C,_,_,rfl,hE,I.os,I.bare,x1,fun a o e=>?_,?_⟩
  · refine (I.hok a o e).stay (fun b u hb q=>PySem.W.hideAll_get _ q fun z=>?_) (fun _ q=>q) fun _ _ q=>q
    have n:=I.stkFree b z
    rcases hb with rfl | hb
    · rw [n] at e;cases e
    · rw [n] at hb;cases hb
  · refine UnB.out I rfl ⟨fun b o e n hb=>PySem.W.hideAll_get _ e hb,fun b o e n hb=>?_,fun _ _ _ n=>n,fun b o e hb=>⟨o,PySem.W.hideAll_get _ e hb⟩,fun _ _ e=>e,fun _ _ _ e=>e,fun _ _ e=>e⟩
    obtain ⟨_,o',ho',hd⟩:=st.mem hb
    rw [e] at ho'
    cases ho'
    exact x4 b o (hx.keeps b o e) hd
theorem p8 (hE:E (.ref C) none H'):nE (du (oM P w) P w K mg base N qual scope f cd A outer s H E) C pins σ H':=by
  intro H1 s1 ea s' a0 B I os bare fl hok u
  show wpAny (model P w) _ (leaving _ (.ref ea)) _ _ _
  refine wpAny_leaves_onW I.ok.frames rfl fl fun h2 x1 x2=>?_
  exact ⟨H',ea,C,a0,B,rfl,hE,os.trans I.os,bare,x1,hok,UnB.out I rfl (u.on fl.2.2.1 x2)⟩
theorem nH (hE:E (.ref C) none H'):lR (du (oM P w) P w K mg base N qual scope f cd A outer s H E) C pins σ H':=by
  intro H1 s1 ea s' a0 B I os bare fl hok u
  show wpAny (model P w) _ (leaving _ (.ref ea)) _ _ _
  refine iD rfl fl fun h2 x1 x2=>?_
  exact ⟨H',ea,C,a0,B,rfl,hE,os.trans I.os,bare,x1,hok,UnB.out I rfl (u.on fl.2.2.1 x2)⟩
end
abbrev fP:=List Sl→Option (Str×List Sl)
def mv (X:Cx) (mk al:Bool) (body:List Stmt) (r:fP):Prop:=∀pins s σ H B E n E',Inv X pins σ H s→Frm X.K B σ H E [] []→r E=some (n,E')→
  (∀pins',(al=false→pins'=pins)→∀σ' C H',PySem.W.nsIn X.K mainGlobals n=some (some (.ref C))→Frm X.K B σ' H' E' [] []→(mk=true→lQ X C pins' σ' H')∧nE X C pins' σ' H'∧(al=true→lR X C pins' σ' H'))→wpAny (model X.prog X.w) X.A (execs body X.env) (fun _ _=>False) X.xe s
def RX (X:Cx) (mk al:Bool) (st:Stmt) (r:fP):Prop:=∀pins s σ H B E n E',Inv X pins σ H s→Frm X.K B σ H E [] []→r E=some (n,E')→
  (∀pins',(al=false→pins'=pins)→∀σ' C H',PySem.W.nsIn X.K mainGlobals n=some (some (.ref C))→Frm X.K B σ' H' E' [] []→(mk=true→lQ X C pins' σ' H')∧nE X C pins' σ' H'∧(al=true→lR X C pins' σ' H'))→wpAny (model X.prog X.w) X.A (exec st X.env) (fun _ _=>False) X.xe s
def lS (g:bZ) (r:fP):fP:=fun E=>match g E with
  | some (E', .nx)=>r E'
  | _=>none
def iQ (t:iP) (r:fP):fP:=fun E=>match t E with
  | some (true,E')=>r E'
  | _=>none
def kG (r q:fP):fP:=fun E=>match r E with
  | some x=>some x
  | none=>q E
def dt (n:Str):fP:=fun E=>some (n,E)
section
variable {X:Cx} {mk al:Bool} {st:Stmt} {bO a b:List Stmt} {g:bZ} {r:fP} {c:Expr} {m:Bool} {t:iP} {pos:Pos}
theorem dN (h:RX X mk al st r):mv X mk al (st::bO) r:=fun pins s σ H B E n E' I fr e k=>
  wpAny_execs_cons (wpAny_mono (h pins s σ H B E n E' I fr e k) (fun _ _ z=>z.elim) fun _ _ z=>z)
theorem p9 (h1:SX X.nox st g) (h2:mv X mk al bO r):mv X mk al (st::bO) (lS g r):=fun pins s σ H B E n E' I fr e k=>by
  unfold lS at e
  split at e
  · rename_i E1 eg
    have q:=h1 pins s σ H {nx:=fun σ' H'=>Frm X.K B σ' H' E1 [] [],bk:=fun _ _=>False,ct:=fun _ _=>False,rt:=fun _ _=>False} (I.wish _) ⟨B,E,[],[],E1, .nx,fr,rfl,eg,fun σ' H' f=>f⟩
    refine wpAny_execs_cons (wpAny_mono q (fun f s1 z=>?_) fun _ _ z=>z.elim)
    cases f with
    | next=>obtain ⟨σ',H',I',fr'⟩:=z;exact h2 pins s1 σ' H' B E1 n E' I'.unwish fr' e k
    | brk=>obtain ⟨_,_,_,z⟩:=z;exact z.elim
    | cont=>obtain ⟨_,_,_,z⟩:=z;exact z.elim
    | ret u=>obtain ⟨_,_,_,_,_,z⟩:=z;exact z.elim
  · cases e
theorem oN (hc:TX X.nox c m t) (h:mv X mk al a r):RX X mk al (.If c a b pos) (iQ t r):=fun pins s σ H B E n E' I fr e k=>by
  unfold iQ at e
  split at e
  · rename_i E1 et
    have q:=hc pins s σ H (fun bb H1=>bb=true∧Frm X.K B σ H1 E1 [] []) (I.wish _) ⟨B,E,[],[],true,E1,fr,fun _=>Calm.nil rfl,et,fun H1 f=>⟨rfl,f⟩⟩
    refine wpAny_If (wpAny_mono q (fun bb s1 z=>?_) fun _ _ z=>z.elim)
    obtain ⟨H1,I1,rfl,fr1⟩:=z
    exact h pins s1 σ H1 B E1 n E' I1.unwish fr1 e k
  · cases e
theorem sd {q:fP} (h1:mv X mk al a r) (h2:mv X mk al a q):mv X mk al a (kG r q):=fun pins s σ H B E n E' I fr e k=>by
  unfold kG at e
  split at e
  · rename_i x ex
    cases e
    exact h1 pins s σ H B E n E' I fr ex k
  · exact h2 pins s σ H B E n E' I fr e k
end
end PL
namespace PL
open PySem PySem.Spec PyProof.Rows L2 Nh
abbrev uh:List Value:=[.type "ValueError", .type "Exception", .type "BaseException", .type "object"]
structure XC (K:PySem.W.Frag) (mg:Str→Option Value) (x:Str) (C:Addr):Prop where
  ns:PySem.W.nsIn K mainGlobals x=some (some (.ref C))
  mg:mg x=some (.ref C)
  ex:PySem.W.excIn K C uh "ValueError.__new__"=true
  cls:ExCls K C
theorem p_ {K:PySem.W.Frag} {h:Heap} {mg:Str→Option Value} {x:Str} {C:Addr} {bmB:List Value} {newId:String} (X:K.In h) (m:mg x=some (.ref C)) (q:PySem.W.excIn K C bmB newId=true):OwnCls x C bmB newId mg h:=by
  refine ⟨m,?_⟩
  unfold PySem.W.excIn at q
  split at q
  · rename_i dd cd sl ho
    split at q
    · rename_i C' bm k0 k1 k2 k3 n k5 hm hs
      simp only [Bool.and_eq_true,beq_iff_eq,Bool.not_eq_true'] at q
      obtain ⟨⟨⟨⟨⟨rfl,rfl⟩,hdel⟩,ht⟩,hok⟩,hni⟩:=q
      obtain ⟨nm,bs,mro,ns,qn,hd,sn,sub,ab,col,del⟩:=cd
      dsimp only at hm hdel hok hni
      subst hm hdel
      have hsl:sl=#[k0,k1,k2,k3,some (.builtin n),k5]:=by
        obtain ⟨l⟩:=sl
        simp only at hs
        rw [hs]
      subst hsl
      exact ⟨bm,ns,nm,qn,bs,hd,sn,sub,ab,col,dd,k0,k1,k2,k3,k5,_,X _ _ ho, .of_isNs (PySem.W.isNs_of_in X hok),PySem.W.nsMap_none_of_in X hok hni,PySem.W.tail_of_in X ht⟩
    · cases q
  · cases q
section
variable {X:Cx} {mk al:Bool} {x:Str} {C:Addr} {np p cpos pos:Pos}
theorem iE {tx:Str} {j:Nat} (hcalm:X.calm=true) (hg:Gl X x) (Z:XC X.K X.mg x C) (hd:(x == ("__debug__":Str))=false:=by decide)
    (he:starEach [.Constant (.str tx) j p] X.env=[(false,eval (.Constant (.str tx) j p) X.env)]:=by rfl):
    RX X true al (.Raise (some (.Call (.Name x np) [.Constant (.str tx) j p] [] cpos)) none pos) (dt x):=fun pins s σ H B E n E' I fr e k=>by
  cases e
  obtain ⟨tl,N,nm,q,bs,hdct,sn,sub,ab,col,dd,k0,k1,k2,k3,k5,mN,hC,hN,hni,T⟩:=(p_ I.ok.mod.kin Z.mg Z.ex).obj
  refine wpAny_Raise_call_subT (C:=C) (nm:=nm) (q:=q) (N:=N) (bs:=bs) (bm:=tl) (hdct:=hdct) (sn:=sn) (sub:=sub) (ab:=ab) (col:=col) (dd:=dd) (k0:=k0) (k1:=k1) (k2:=k2) (k3:=k3) (k5:=k5)
    PySem.F.excBase_ValueError (mN:=mN) (T.hasType PySem.F.excBase_ValueError.hasBase) (I.ok.hd hcalm) (by rw [he];rfl) hni (dG I hg Z.mg ⟨rfl,?_⟩ hd)
  have q1:=bN (X:=X) (kJ (x:=tx) (j:=j) (pos:=p)) cM he cpos pins s σ H (fun vs H1=>vs=[.str tx]∧H1=H) I ⟨rfl,rfl⟩
  rw [he] at q1 ⊢
  refine Calls.evalArgs_plain (ce q1 fun vs s2 ⟨us,H2,I2,r,eu,eH⟩=>?_)
  subst eu eH
  have fin:=(k pins (fun _=>rfl) σ C H2 Z.ns fr).1 rfl
  exact ⟨rfl,by rw [←r.length];exact Nat.le_of_ble_eq_true rfl,I2.bk _ _ hC,hN.keeps I2.bk,T.keeps I2.bk,fun h' ea hm=>fin s2 h' ea vs I2 hm⟩
end
def se (K:PySem.W.Frag) (r:List PyData→Option Str):Sp:=fun vs H _ E=>∃ds n,r ds=some n∧RpA K H vs ds∧∀C H',PySem.W.nsIn K mainGlobals n=some (some (.ref C))→Same H H'→E (.ref C) none H'
structure OwnR (P:Program) (w:World) (K:PySem.W.Frag) (mg:Str→Option Value) (base:Heap) (k:Nat) (x:Str) (ps:List Str) (sp:Sp):Prop where
  ex:∃(f:Addr) (fd:FuncData),FnOk P w K mg base (oM P w) k f fd ps sp∧Binds K fd ps []∧mg x=some (.ref f)∧PySem.W.keepIn K (.ref f)=true
def fQ (r:List PyData→Option Str) (g:ie):fP:=fun E=>(g E).bind fun a=>(aB a.2 a.1).bind fun ds=>(r ds).map fun n=>(n,a.2)
section
variable {X:Cx} {k:Nat} {x:Str} {ps:List Str} {r:List PyData→Option Str} {p pos cpos:Pos} {e:Expr} {es:List Expr} {m:Bool} {g:ie}
theorem kj (D:OwnR X.prog X.w X.K X.mg X.base k x ps (se X.K r)) (hr:Room k X.A) (hg:Gl X x) (ha:AX X.nox (e::es) m g) (hdb:(x == ("__debug__":Str))=false) (he:starEach (e::es) X.env=(false,eval e X.env)::starEach es X.env) (hpl:(backTo pos (starEach es X.env)).any (·.1)=false)
    {pins:List (Addr×Obj)} {s:Shared} {σ:L2.St} {H B:Hp} {E E':List Sl} {n:Str} (I:Inv X pins σ H s) (fr:Frm X.K B σ H E [] []) (ee:fQ r g E=some (n,E')) (k:∀C H',PySem.W.nsIn X.K mainGlobals n=some (some (.ref C))→Frm X.K B σ H' E' [] []→nE X C pins σ H'):
    wpAny (model X.prog X.w) X.A (eval (.Call (.Name x p) (e::es) [] pos) X.env) (fun _ _=>False) X.xe s:=by
  obtain ⟨f,fd,F,b,mx,kp⟩:=D.ex
  obtain ⟨⟨rs,E1⟩,e1,ee⟩:=Option.bind_eq_some_iff.mp ee
  obtain ⟨ds,e2,ee⟩:=Option.bind_eq_some_iff.mp ee
  obtain ⟨n',e3,ee⟩:=Option.map_eq_some_iff.mp ee
  cases ee
  refine wpAny_Call_Name_kw (dG I hg mx ?_ hdb)
  have q1:=ha pos pins s σ H (fun vs H1=>vs.length=rs.length∧Frm X.K B σ H1 E1 (vs.reverse++[]) (rs.reverse++[])) (I.wish _) ⟨B,E,[],[],rs,E1,fr,fun _=>Calm.nil rfl,e1,fun vs H1 hl f=>⟨hl,f⟩⟩
  refine PySem.W.callWith_K (h₀:=X.base) I.ok.mod.kin kp (wpAny_mono q1 (fun us s1 ⟨vs,H1,I1,rv,hl,F1,A1,fr1⟩=>⟨I1.kIn,?_⟩) fun _ _ z=>z.elim) he hpl
  have I1:=I1.unwish
  obtain ⟨r1,A',fr2⟩:=fr1.looks hl e2
  have hlen:(us++[]).length=ps.length:=by
    rw [List.append_nil,←rv.length]
    exact F.len vs H1 (fun _ _=>False) (fun _ _ _=>True) ⟨ds,n,e3,r1,fun _ _ _ _=>trivial⟩
  have bd:=b s1 us I1.kIn hlen
  rw [List.append_nil] at bd
  refine wpAny_call (codeAny_mono (F.run X.A X.stack s1 H1 ⟨us,[]⟩ us vs (fun _ _=>False) (fun c _ H'=>∃C,c= .ref C∧PySem.W.nsIn X.K mainGlobals n=some (some (.ref C))∧Same H1 H') hr I1.env0 bd rv ⟨ds,n,e3,r1,fun C H' z g=>⟨C,rfl,z,g⟩⟩) fun rr s' hq=>?_)
  cases rr with
  | error er=>
    obtain ⟨H',ea,C,a0,B',rfl,⟨C',eC,ns,g⟩,os,bare,fl,hok,u⟩:=hq
    cases eC
    exact k C H' ns ⟨_,_,fr2.grow g⟩ H1 s1 ea s' a0 B' I1 os bare fl hok u
  | ok fl=>
    cases fl with
    | ret u=>obtain ⟨_,_,_,_,_,_,_,z⟩:=hq;exact z
    | next=>exact False.elim hq
    | brk=>exact False.elim hq
    | cont=>exact False.elim hq
theorem qa {y:Str} {pos':Pos} (D:OwnR X.prog X.w X.K X.mg X.base k x ps (se X.K r)) (hr:Room k X.A) (hg:Gl X x) (ha:AX X.nox (e::es) m g) (hs:swapsWith (.Call (.Name x p) (e::es) [] cpos) (some (.Name y pos')) pos.line X.env=pure false:=by rfl) (hdb:(x == ("__debug__":Str))=false:=by decide) (he:starEach (e::es) X.env=(false,eval e X.env)::starEach es X.env:=by rfl) (hpl:(backTo cpos (starEach es X.env)).any (·.1)=false:=by rfl) {mk al:Bool}:
    RX X mk al (.Assign [.Name y pos'] (.Call (.Name x p) (e::es) [] cpos) pos) (fQ r g):=fun pins s σ H B E n E' I fr ee k=>
  wpAny_Assign_Name (ce (kj D hr hg ha hdb he hpl I fr ee fun C H' z f=>(k pins (fun _=>rfl) σ C H' z f).2.1) fun _ _ z=>z.elim) hs
end
def kl (k n:Nat) (r:fP):List PyData→Option Str:=fun ds=>if ds.length=k then (r (aq n ds)).map (·.1) else none
theorem tP {P:Program} {w:World} {K:PySem.W.Frag} {mg:Str→Option Value} {base:Heap} {x:Str} {st:Stmt} {N ps:List Str} {k a n:Nat} {r:fP} {mk al:Bool} (D:Def K mg x st ps) (S:FnScope N ps (af st)) (hpa:ps.length=a) (hNn:N.length=n) (hps:a≤n)
    (hbody:∀(f:Addr) (cdv:Value) (A:Around) (outer:List Env) (s:Shared) (H:Hp) (E:XK),Room k (A.deeper (PyProof.Rows.envOfC x (af st) s.heap.objs.size f cdv))→
      mv (du (oM P w) P w K mg base N x (af st) f cdv A outer s H E) mk al (aM st) r):OwnR P w K mg base (k+1) x ps (se K (kl a n r)):=by
  subst hpa hNn
  obtain ⟨f,fd,F,mx,b⟩:=D.ex
  have kp:=F.kp
  obtain ⟨oc,od,kV,doc,pm,an,cdv,ct,osl,rfl,lk,hcd⟩:=F.ex
  refine ⟨f,_,oo lk hcd S (fun vs H Q E h=>?_) fun A outer s H vs Q E hr h=>?_,b,mx,kp⟩
  · obtain ⟨ds,n,e,rp,_⟩:=h
    unfold kl at e
    split at e
    · rename_i hl
      rw [rp.len];exact hl
    · cases e
  obtain ⟨ds,n,e,rp,q⟩:=h
  unfold kl at e
  split at e
  · rename_i hl
    obtain ⟨⟨n',E'⟩,er,z⟩:=Option.map_eq_some_iff.mp e
    cases z
    refine ⟨fun D σ H'=>σ=cF N vs∧H'=H,fun pins s1 σ H1 D I z=>?_,rfl,rfl⟩
    obtain ⟨rfl,rfl⟩:=z
    refine ce (hbody f cdv A outer s H1 E hr pins s1 _ H1 H1 (aq N.length ds) n' E' I ⟨H1,[],fc rp (by omega)⟩ er fun _ _ σ' C H' ns ⟨F',A',fr'⟩=>?_) fun _ _ z=>z.elim
    have hE:=q C H' ns (fr'.bf.trans fr'.fh)
    exact ⟨fun _=>nG hE,p8 hE,fun _=>nH hE⟩
  · cases e
end PL
namespace PL
open PySem PySem.Spec PyProof.Rows L2 Nh
abbrev hX (X:Cx) (ea:Addr):Cx:={X with A:=X.A.mark (some (.ref ea)),calm:=false,xe:=fun _ _=>False}
section
variable {X:Cx} {pins:List (Addr×Obj)} {σ:L2.St} {H:Hp} {s:Shared} {ea:Addr}
theorem jI (I:Inv X pins σ H s):Inv (hX X ea) pins σ H s:=
  let ok:=I.ok
  ⟨⟨ok.mod,ok.kind,ok.glob,ok.blt,ok.above,ok.inj,ok.has,ok.cab,fun z=>(nomatch z),ok.frames,ok.stk,ok.exf,ok.bs,ok.bsz,ok.noex,ok.exfs,ok.funs,ok.frf,ok.tab⟩,I.os,I.bare,I.base,I.loc,I.cell,I.free,I.freeC,I.pin,I.hok,I.len⟩
theorem lT (I:Inv (hX X ea) pins σ H s) (ok:X.Ok):Inv X pins σ H s:=⟨ok,I.os,I.bare,I.base,I.loc,I.cell,I.free,I.freeC,I.pin,I.hok,I.len⟩
theorem km {a:Addr} {o:HO} (I:Inv X pins σ H s) (hn:H a=none) (h0:X.s₀.heap.get? a=none) (hL:X.env.locals≠a) (hc:∀x c,X.env.cells.lookup x=some c→c≠a) (hp:∀p∈X.pn++pins,p.1≠a) (ok:ObjOk X.prog X.w (upd H a o) s.heap a o):Inv X pins σ (upd H a o) s:=by
  have ne:∀b u,H b=some u→b≠a:=fun b u e=>bH e hn
  refine ⟨I.ok,I.os,I.bare,⟨I.base.keep,I.base.slot,fun b u e n hx=>?_,I.base.there,fun b xs e=>?_,fun b u v e=>?_,fun b q e=>?_⟩,I.loc,I.cell,?_,fun x c e=>?_,fun p q=>?_,fun b u e=>?_,I.len⟩
  · rw [ax (fun z=>by rw [z,h0] at e;cases e)];exact I.base.free b u e n hx
  · have z:=I.base.tups b xs e
    rw [ax (ne _ _ z)];exact z
  · have z:=I.base.frzs b u v e
    rw [ax (ne _ _ z)];exact z
  · have z:=I.base.tbls b q e
    rw [ax (ne _ _ z)];exact z
  · rw [ax hL];exact I.free
  · rw [ax (hc x c e)];exact I.freeC x c e
  · obtain ⟨e1,e2,e3⟩:=I.pin p q
    exact ⟨e1,by rw [ax (hp p q)];exact e2,e3⟩
  · by_cases hb:b=a
    · subst hb;rw [aY] at e;cases e;exact ok
    · rw [ax hb] at e
      refine (I.hok b u e).stay (fun c w' _ q=>q) (fun c q=>?_) fun c xs q=>?_
      · rw [ax (ne _ _ q)];exact q
      · rw [ax (ne _ _ q)];exact q
theorem lU {M:Model} {A:Around} {E:Value→Shared→Prop} {i:Nat} {x:Str} {pos:Pos} {Q:Unit→Shared→Prop} (I:Inv X pins σ H s) (hN:X.N.Nodup) (hi:X.N[i]? =some x) (hk:X.env.scope.names.lookup x=some .local)
    (h:∀s',Inv X pins (σ.set i none) H s'→Q () s'):wpAny M A (do bindName X.env x .none;unbindBehindTheSuite X.env x pos) Q E s:=by
  obtain ⟨m,hn,hl⟩:=id I.loc
  have hcls:(X.env.scope.kind == .class||(X.env.scope.kind == .module&&X.env.locals != X.env.globals))=false:=by rw [I.ok.kind];rfl
  have hiσ:i < σ.length:=by rw [I.len];exact (List.getElem?_eq_some_iff.mp hi).1
  have cne:=I.cne
  refine wpAny_nameGoes_keeps hk hn hcls fun h' v hn' hs=>?_
  obtain ⟨oL,_,_,hoL,_⟩:=id hn
  refine h _ ⟨I.ok,I.os,I.bare,⟨fun b o e n hb hx=>?_,fun b o e n hb hx=>?_,I.base.free,fun b o e hx=>?_,I.base.tups,I.base.frzs,I.base.tbls⟩,⟨_,hn',fun j y v' e1 e2 e3=>?_⟩,fun y c e=>?_,I.free,I.freeC,fun p hp=>?_,fun b ob e=>?_,by simpa using I.len⟩
  · exact (hs.2 b (Nat.ne_of_lt (Nat.lt_of_lt_of_le (Heap.lt_size e) I.ok.above))).trans (I.base.keep b o e n hb hx)
  · obtain ⟨sl,e1⟩:=I.base.slot b o e n hb hx
    exact ⟨sl,(hs.2 b (Nat.ne_of_lt (Nat.lt_of_lt_of_le (Heap.lt_size e) I.ok.above))).trans e1⟩
  · obtain ⟨o',e1⟩:=I.base.there b o e hx
    exact ⟨o',(hs.2 b (Nat.ne_of_lt (Nat.lt_of_lt_of_le (Heap.lt_size e) I.ok.above))).trans e1⟩
  · by_cases hj:j=i
    · subst hj
      rw [List.getElem?_set_self hiσ] at e2
      cases e2
    · rw [List.getElem?_set_ne (Ne.symm hj)] at e2
      obtain ⟨u',r',q⟩:=hl j y v' e1 e2 e3
      refine ⟨u',r',?_⟩
      rcases q with ⟨k,e⟩ | ⟨k,c,e,z⟩
      · refine .inl ⟨k,?_⟩
        have:y≠x:=fun e=>hj (fm hN e1 (e▸hi))
        simp [this,e]
      · exact .inr ⟨k,c,e,z.sameBut hs (cne y c e)⟩
  · obtain ⟨w',z⟩:=I.cell y c e
    exact ⟨w',z.sameBut hs (cne y c e)⟩
  · obtain ⟨e,n,ne,nf,d⟩:=I.pin p hp
    exact ⟨(hs.2 p.1 ne).trans e,n,ne,nf,d⟩
  · refine (I.hok b ob e).stay (fun c w' hc q=>(hs.2 c ?_).trans q) (fun _ q=>q) fun _ _ q=>q
    rintro rfl
    rcases hc with rfl | hc
    · rw [I.free] at e;cases e
    · rw [I.free] at hc;cases hc
end
abbrev kn (n:Str):PyData:= .dict [(.none, .str n)]
def lV (ok:List Str) (i:Nat) (r:fP) (g h:bZ):bZ:=fun E=>match r E with
  | none=>g E
  | some (n,E')=>if n∈ok∧i < E'.length then match h (E'.set i (.sh (kn n))) with
    | some (E2, .rt s)=>some (E2, .rt s)
    | _=>none
    else none
theorem nI {X:Cx} {body:List Stmt} {cn en:Str} {CH:Addr} {np hpos pos:Pos} {b₀:Stmt} {suite:List Stmt} {ok:List Str} {i:Nat} {r:fP} {g hs:bZ} (hx:X.xe=fun _ _=>False) (hN:X.N.Nodup) (hex:X.ex=[]) (hst:X.stack=X.env::X.outer) (hfr:X.env.frame=some X.env.locals) (hg:Gl X cn) (hm:X.mg cn=some (.ref CH))
    (hok:∀n∈ok,∀C,PySem.W.nsIn X.K mainGlobals n=some (some (.ref C))→PySem.W.exmOne X.K (.ref C) (.ref CH)=some true) (hb:iZ X body g) (hr:∀W,mv (X.wish W) false false body r) (hh:∀ea,iZ (hX X ea) (b₀::suite) hs)
    (hi:X.N[i]? =some en:=by rfl) (hk:X.env.scope.names.lookup en=some .local:=by rfl) (hdb:(cn == ("__debug__":Str))=false:=by decide):
    SX X (.Try body [.ExceptHandler (some (.Name cn np)) (some en) (b₀::suite) hpos] [] [] pos) (lV ok i r g hs):=by
  intro pins s σ H D I hw
  obtain ⟨B,E,xs,Xs,E2,fl,fr,cl,e,q⟩:=hw
  subst cl
  have hxs:xs=[]:=by obtain ⟨_,_,f⟩:=fr;simpa using f.len
  subst hxs
  unfold lV at e
  split at e
  · have q:=hb pins s σ H D I ⟨B,E,[],[],E2,fl,fr,rfl,e,q⟩
    rw [hx] at q
    refine wpAny_Try_except (wpAny_mono q (fun f s1 z=>?_) fun _ _ z=>z.elim)
    cases f with
    | next=>exact wpAny_execs_nil z
    | brk=>exact z
    | cont=>exact z
    | ret u=>exact z
  · rename_i n E' er
    split at e
    rotate_left
    · cases e
    rename_i hc
    split at e
    rotate_left
    · cases e
    rename_i E3 sv eh
    cases e
    refine wpAny_Try_except (wpAny_mono (hr (fun e s₁=>wpAny (model X.prog X.w) X.A (noteFrame e X.env) (fun _ s₂=>wpAny (model X.prog X.w) X.A (setFlight e none) (fun _ s₃=>wpAny (model X.prog X.w) X.A (handleBy e X.env [.ExceptHandler (some (.Name cn np)) (some en) (b₀::suite) hpos]) (SP X pins D) X.xe s₃) X.xe s₂) X.xe s₁) pins s σ H B E n E' (I.wish _) fr er fun pp hp σ' C H' ns fr'=>⟨fun z=>(nomatch z),?_,fun z=>(nomatch z)⟩) (fun _ _ z=>z.elim) fun _ _ z=>z)
    cases hp rfl
    intro H1 s1 ea s' a0 Bb I1 os bare fly hokB u
    have I1:Inv X pins σ' H1 s1:=I1.unwish
    have ff:s'.heap.FunFrames Bb X.stack:=fly.2.2.1
    have fly':Heap.FlyingW Bb (X.env::X.outer) ea (.ref C) a0 s'.heap:=hst▸fly
    have invAt:∀h5,Bb.StaysIn h5→s'.heap.UpToSlots h5→Inv X pins σ' H' {s' with heap:=h5}:=fun h5 st k=>by
      have u2:UnB (eG X.stack) H1 H' s1.heap Bb h5:=u.on ff k
      exact I1.call' (s':={s' with heap:=h5}) os (u2.un st I1.stkFree) (hokB.kept fun b o e=>st b o e) bare fun b z=>(nomatch z)
    refine wpAny_looks_onW (by rw [I1.ok.frames,hst]) hfr fly' fun h4 held4 k4=>?_
    refine wpAny_landsW held4 fun h5 fly5 k5=>?_
    have I5:=invAt h5 fly5.1 (k4.trans k5)
    obtain ⟨ob,hob,hobc⟩:=fly5.there
    have Z5:c0 ea C h5:=⟨ob,hob,hobc⟩
    refine wpAny_handleBy_cons (codeAny_handlers_test (dG (X:=hX X ea) (jI I5) hg hm ?_ hdb)) (by intro q;cases q)
    refine (PySem.W.exm_one (I5.kIn) (eX Z5) (hok n hc.1 C ns)).here ?_
    refine codeAny_handlers_suite_as ?_
    refine lands_againW fly5 fun h6 fly6 k6=>?_
    have I6:=invAt h6 fly6.1 ((k4.trans k5).trans k6)
    obtain ⟨oe,vs,hoe,hoec,hoed,_⟩:=fly6.first
    have nB:Bb.get? ea=none:=fly6.2.1
    have old:∀b o,s1.heap.get? b=some o→b≠ea:=fun b o eb z=>by
      subst z
      by_cases hf:b∈eG X.stack
      · obtain ⟨_,o',ho',hd⟩:=(show h6.FunFrames Bb X.stack from hst▸fly6.2.2.1).mem hf
        rw [hoe] at ho'
        cases ho'
        exact hd vs hoed
      · obtain ⟨o',ho'⟩:=u.there b o eb hf
        rw [nB] at ho'
        cases ho'
    have hn6:H' ea=none:=by
      cases q:H' ea with
      | none=>rfl
      | some o=>
        obtain ⟨z,e⟩:=iC (hokB ea o q)
        rw [nB] at e
        cases e
    have I7:Inv X pins σ' (upd H' ea (.ext (c0 ea C))) {s' with heap:=h6}:=by
      refine km I6 hn6 ?_ ?_ (fun x c e=>?_) (fun p hp=>?_) ?_
      · cases q:X.s₀.heap.get? ea with
        | none=>rfl
        | some o=>
          obtain ⟨o',z⟩:=I1.base.there ea o q (by rw [hex];exact fun z=>(nomatch z))
          exact absurd rfl (old ea o' z)
      · obtain ⟨_,⟨o,_,_,ho,_⟩,_⟩:=I1.loc
        exact old _ o ho
      · obtain ⟨v,o,ho,_⟩:=I1.cell x c e
        exact old _ o ho
      · exact old _ _ (I1.pin p hp).1
      · exact ⟨⟨oe,hoe,hoec⟩,⟨oe,hoe⟩,fun h1 h2 ⟨o,z,c⟩ k=>⟨o,k o z,c⟩⟩
    refine fo (X:=X) I7 hN hi (.inl hk) (v:= .ref ea) rfl (fun s8 I8=>?_) (.inr hk)
    have g:Same H' (upd H' ea (.ext (c0 ea C))):=fun b o e=>by rw [ax (bH e hn6)];exact e
    obtain ⟨F',A',fr1⟩:=fr'
    have fr2:=fr1.grow g
    have nA:ea∉A':=fun z=>by
      rcases fr1.mutA ea z with ⟨_,w⟩ | ⟨_,w⟩ <;> rw [hn6] at w <;> cases w
    have fr3:=fr2.push (v:= .ref ea) (s:= .sh (kn n)) ⟨rfl,_,rfl, .exc (by show (if ea∈A' then none else _)=_;rw [if_neg nA];exact aY) ns⟩
    obtain ⟨A3,fr4⟩:=fr3.store rfl (fun _ z=>(nomatch z)) hc.2
    have q8:=hh ea pins s8 _ _ {nx:=fun _ _=>False,bk:=fun _ _=>False,ct:=fun _ _=>False,rt:=fun v H9=>∃σ9,Frm X.K B σ9 H9 E2 [v] [sv]} (jI I8) ⟨B,_,[],[],E2, .rt sv,⟨_,A3,fr4⟩,rfl,eh,fun σ9 v H9 f=>⟨σ9,f⟩⟩
    refine wpAny_mono q8 (fun f s9 z=>?_) fun _ _ z=>z.elim
    cases f with
    | next=>obtain ⟨_,_,_,z⟩:=z;exact z.elim
    | brk=>obtain ⟨_,_,_,z⟩:=z;exact z.elim
    | cont=>obtain ⟨_,_,_,z⟩:=z;exact z.elim
    | ret uu=>
      obtain ⟨v,σ9,H9,I9,rv,σx,fx⟩:=z
      have I9:Inv X pins σ9 H9 s9:=lT I9 I.ok
      exact lU I9 hN hi hk fun s10 I10=>⟨v,_,H9,I10,rv,q _ v H9 fx⟩
end PL
namespace PL
open PySem PySem.Spec PyProof.Rows L2 Nh
def XT (K:PySem.W.Frag) (c:Value) (tab:List (Str×Bool)):Prop:=∀n b C,tab.lookup n=some b→PySem.W.nsIn K mainGlobals n=some (some (.ref C))→ExCls K C∧PySem.W.kitOne K (.ref C) c=some b
theorem cO {K:PySem.W.Frag} {c:Value}:XT K c []:=fun _ _ _ e=>nomatch e
theorem ci {K:PySem.W.Frag} {c:Value} {n:Str} {C:Addr} {b:Bool} {tab:List (Str×Bool)} (ns:PySem.W.nsIn K mainGlobals n=some (some (.ref C))) (Z:ExCls K C) (k:PySem.W.kitOne K (.ref C) c=some b) (h:XT K c tab):XT K c ((n,b)::tab):=fun n' b' C' e ns'=>by
  rw [List.lookup_cons] at e
  split at e
  · rename_i q
    rw [beq_iff_eq] at q
    subst q
    rw [ns] at ns'
    cases ns'
    cases e
    exact ⟨Z,k⟩
  · exact h n' b' C' e ns'
def dC (tab:List (Str×Bool)):PyData→Option PyData
  | .dict [(.none, .str n)]=>(tab.lookup n).map .bool
  | _=>none
theorem qb {K:PySem.W.Frag} {H:Hp} {v:V} {n:Str} (r:Rp K H v (.dict [(.none, .str n)])):∃a C,v= .ref a∧H a=some (.ext (c0 a C))∧PySem.W.nsIn K mainGlobals n=some (some (.ref C)):=by
  generalize e:PyData.dict [(PyData.none,PyData.str n)]=d at r
  cases r with
  | exc h1 h2=>cases e;exact ⟨_,_,rfl,h1,h2⟩
  | dct h1 h2=>
    cases h2 with
    | nil=>cases e
    | @cons k x us d kvs a b=>cases k <;> cases e
  | _=>cases e
section
variable {X:Cx} {e:Expr} {m1:Bool} {f:bF} {p p2 pos:Pos}
theorem ko {c:Value} {vc:V} {tab:List (Str×Bool)} (rc:∀u,RelV vc u→u=c) (T:XT X.K c tab):CallR X (.builtin "isinstance") (fun xs H Q=>∃x d r,xs=[x,vc]∧Rp X.K H x d∧dC tab d=some r∧∀b,r= .bool b→Q (.bl b) H):=by
  intro pins s σ H xs us Q I r h
  obtain ⟨x,d,r',rfl,rp,hd,q⟩:=h
  obtain ⟨u,w',rfl,ru,rw'⟩:=r.two
  cases rc w' rw'
  unfold dC at hd
  split at hd
  · rename_i n
    obtain ⟨b,eb,z⟩:=Option.map_eq_some_iff.mp hd
    obtain ⟨a,C,rfl,ha,ns⟩:=qb rp
    obtain ⟨Z,k⟩:=T n b C eb ns
    cases (show u=Value.ref a from ru)
    exact PySem.W.kia_one (lP Z) I.kIn (show c0 a C s.heap from (I.hok a _ ha).1) k (fun z=>nomatch z) fun tk=>⟨.bl b,H,I.tok _,rfl,q b z.symm⟩
  · cases hd
theorem jJ {c:Value} {vc:V} {tab:List (Str×Bool)} (rc:∀u,RelV vc u→u=c) (T:XT X.K c tab) (hg:Gl X "isinstance") (hm:X.mg "isinstance"=none) (ha:EX X e m1 f) {x:Str} (h2:PE X (.Name x p2) (tC vc))
    (he:starEach [e, .Name x p2] X.env=(false,eval e X.env)::starEach [.Name x p2] X.env) (he2:starEach [.Name x p2] X.env=[(false,eval (.Name x p2) X.env)]) (hpl:(backTo pos (starEach [.Name x p2] X.env)).any (·.1)=false):
    EX X (.Call (.Name "isinstance" p) [e, .Name x p2] [] pos) m1 (bI (dC tab) f):=by
  refine ba (fw (ko rc T) hg hm PyProof.Rows.boot_isinstance (bN ha (bN h2 cM he2) he) (by decide) (by decide) he hpl) fun σ H Q z=>?_
  obtain ⟨B,E,xs,Xs,res,E',fr,cl,e,q⟩:=z
  obtain ⟨⟨s,E1⟩,e1,e⟩:=Option.bind_eq_some_iff.mp e
  obtain ⟨d1,e2,e⟩:=Option.bind_eq_some_iff.mp e
  obtain ⟨d2,e3,e⟩:=Option.map_eq_some_iff.mp e
  cases e
  refine ⟨B,E,xs,Xs,s,E1,fr,cl,e1,fun v1 H1 ⟨F,A,fr1⟩=>?_⟩
  obtain ⟨A',fr2⟩:=fr1.pop
  exact ⟨v1,d1,d2,rfl,(fr1.look0 e2).1,e3,fun b z=>q _ _ ⟨F,A',fr2.push ⟨rfl,_,rfl,z▸ .bl b⟩⟩⟩
theorem cz {C:Addr} {tab:List (Str×Bool)} (hg:Gl X "isinstance") (hm:X.mg "isinstance"=none) (ha:EX X e m1 f) {x:Str} (hgx:Gl X x) (hmx:X.mg x=some (.ref C)) (T:XT X.K (.ref C) tab) (hdx:(x == ("__debug__":Str))=false:=by decide)
    (he:starEach [e, .Name x p2] X.env=(false,eval e X.env)::starEach [.Name x p2] X.env:=by rfl) (he2:starEach [.Name x p2] X.env=[(false,eval (.Name x p2) X.env)]:=by rfl) (hpl:(backTo pos (starEach [.Name x p2] X.env)).any (·.1)=false:=by rfl):
    EX X (.Call (.Name "isinstance" p) [e, .Name x p2] [] pos) m1 (bI (dC tab) f):=jJ (vc:= .ref C) (fun _ z=>z) T hg hm ha (mB (v:= .ref C) hgx hmx rfl hdx) he he2 hpl
theorem nJ {t:String} {tab:List (Str×Bool)} (hg:Gl X "isinstance") (hm:X.mg "isinstance"=none) (ha:EX X e m1 f) {x:Str} (hgx:Gl X x) (hmx:X.mg x=none) (hbx:bootBuiltins x=some (.type t)) (T:XT X.K (.type t) tab) (hnx:x≠"__name__":=by decide) (hdx:(x == ("__debug__":Str))=false:=by decide)
    (he:starEach [e, .Name x p2] X.env=(false,eval e X.env)::starEach [.Name x p2] X.env:=by rfl) (he2:starEach [.Name x p2] X.env=[(false,eval (.Name x p2) X.env)]:=by rfl) (hpl:(backTo pos (starEach [.Name x p2] X.env)).any (·.1)=false:=by rfl):
    EX X (.Call (.Name "isinstance" p) [e, .Name x p2] [] pos) m1 (bI (dC tab) f):=jJ (vc:= .ty t) (fun _ z=>z) T hg hm ha (jm (v:= .ty t) hgx hmx hbx rfl hnx hdx) he he2 hpl
end
structure RoomH (k:Nat) (A:Around):Prop where
  dp:A.depth+3*k+5 < recursionLimit
  un:A.units+16*k+200 < cLine
theorem RoomH.mono {j k:Nat} {A:Around} (r:RoomH k A) (h:j≤k):RoomH j A:=⟨by have:=r.dp;omega,by have:=r.un;omega⟩
theorem RoomH.deeper {k:Nat} {A:Around} (r:RoomH (k+1) A) (env:Env):RoomH k (A.deeper env):=
  ⟨by have:=r.dp;show A.depth+1+3*k+5 < _;omega,by have:=r.un;show A.units+3+16*k+200 < _;omega⟩
theorem RoomH.depth {k:Nat} {A:Around} (r:RoomH k A):A.depth < recursionLimit:=by have:=r.dp;omega
theorem RoomH.units {k:Nat} {A:Around} (r:RoomH k A):A.units+64 < cLine:=by have:=r.un;omega
theorem Room.mark {k:Nat} {A:Around} (r:Room k A) (v:Option Value):RoomH k (A.mark v):=⟨r.dp,r.un⟩
abbrev sQ (P:Program) (w:World) (K:PySem.W.Frag) (mg:Str→Option Value) (base:Heap) (N:List Str) (qual:Str) (scope:Scope) (f:Addr) (cd:Value) (A:Around) (outer:List Env) (s:Shared) (H:Hp) (E:XK):Cx:={du iX P w K mg base N qual scope f cd A outer s H E with calm:=false,xe:=fun _ _=>False}
structure FnOkH (P:Program) (w:World) (K:PySem.W.Frag) (mg:Str→Option Value) (base:Heap) (k:Nat) (f:Addr) (fd:FuncData) (ps:List Str) (sp:Sp):Prop where
  len:∀vs H Q E,sp vs H Q E→vs.length=ps.length
  run:∀(A:Around) (outer:List Env) (s:Shared) (H:Hp) (args:Args) (us:List Value) (vs:List V) (Q:VK) (E:XK),RoomH k A→Env0 P w K mg base A outer s H→BindsTo s fd args (ps.zip us)→Vals vs us→sp vs H Q E→
    codeAny (model P w) A (.call (.ref f) args) (CR iX outer P w H s Q E) s
structure OwnH (P:Program) (w:World) (K:PySem.W.Frag) (mg:Str→Option Value) (base:Heap) (k:Nat) (x:Str) (ps:List Str) (sp:Sp):Prop where
  ex:∃(f:Addr) (fd:FuncData),FnOkH P w K mg base k f fd ps sp∧Binds K fd ps []∧mg x=some (.ref f)∧PySem.W.keepIn K (.ref f)=true
theorem qc {P:Program} {w:World} {K:PySem.W.Frag} {mg:Str→Option Value} {base:Heap} {k:Nat} {f:Addr} {name qual:Str} {params:Arguments} {body:List Stmt} {scope:Scope} {dV kV doc pm cdv ct oc:Value} {an od:Option Addr}
    {osl:Array (Option Value)} {N ps:List Str} {sp:Sp} (lk:K.lookup f=some ⟨oc,od, .func (PySem.W.fnOf name qual params body scope dV kV doc pm an cdv ct),osl⟩) (hcd:PySem.W.codeIn K cdv qual=true) (S:FnScope N ps scope)
    (len:∀vs H Q E,sp vs H Q E→vs.length=ps.length)
    (hbody:∀(A:Around) (outer:List Env) (s:Shared) (H:Hp) (vs:List V) (Q:VK) (E:XK),RoomH k (A.deeper (envOfC qual scope s.heap.objs.size f cdv))→sp vs H Q E→
      ∃t,PSs (sQ P w K mg base N qual scope f cdv A outer s H E) body t∧t {nx:=fun _ H'=>Q .non H',rt:=Q} (cF N vs) H):
    FnOkH P w K mg base (k+1) f (PySem.W.fnOf name qual params body scope dV kV doc pm an cdv ct) ps sp:=by
  refine ⟨len,fun A outer s H args us vs Q E hr e0 hb r hsp=>?_⟩
  have hl:=len _ _ _ _ hsp
  have KX:K.In s.heap:=e0.mod.kin.keeps fun b o e=>(e0.bs b o e).1
  have lim:s.heap.NoLimit:=e0.mod.nolimit.keeps fun b o e=>(e0.bs b o e).1
  have hkind:∀y∈ps.zip us,scope.names.lookup y.1=some .local∨(scope.names.lookup y.1=some .cell∧((cellsFrom (s.heap.objs.size+1) scope.names []).lookup y.1).isSome=true):=fun ⟨n,v⟩ hy=>by
    rcases S.par n (List.of_mem_zip hy).1 with q | q
    · exact .inl q
    · exact .inr ⟨q,PySem.W.cellsFrom_some _ _ _ (.inl q)⟩
  refine codeAny_call_function hr.depth (KX _ _ lk) rfl S.co S.gen rfl (PySem.W.codeRec_of KX hcd) (hb _ _ _ _ ?_)
  refine wpAny_newFunctionEnv_cells S.kind hkind fun env he s1 x=>?_
  subst he
  refine ⟨lim.keeps x.toInCall.keep,codeAny_func ?_⟩
  obtain ⟨t,ht,hq⟩:=hbody A outer s H vs Q E (hr.deeper _) hsp
  have I0:Inv (du iX P w K mg base N qual scope f cdv {A with handled:=none} outer s H E) [] (cF N vs) H s1:=gk S rfl ⟨e0.frames,e0.mod,e0.bs,e0.bsz,e0.funs,e0.frf,e0.hok,e0.bare,e0.tab⟩ hl r x
  have I:Inv (sQ P w K mg base N qual scope f cdv A outer s H E) [] (cF N vs) H s1:=
    let ok:=I0.ok
    ⟨⟨ok.mod,ok.kind,ok.glob,ok.blt,ok.above,ok.inj,ok.has,ok.cab,fun z=>(nomatch z),Around.frames_deeper e0.frames,ok.stk,ok.exf,ok.bs,ok.bsz,ok.noex,ok.exfs,ok.funs,ok.frf,ok.tab⟩,I0.os,I0.bare,I0.base,I0.loc,I0.cell,I0.free,I0.freeC,I0.pin,I0.hok,I0.len⟩
  refine wpAny_mono (ht [] s1 (cF N vs) H _ I hq) (fun fl s' hs=>?_) fun e s' hs=>hs.elim
  have fin:∀{σ':L2.St} {H':Hp} {v:V} {u:Value},Inv (sQ P w K mg base N qual scope f cdv A outer s H E) [] σ' H' s'→RelV v u→Q v H'→CE outer P w H s Q u s':=
    fun {σ' H' v u} J rv q=>⟨v,H',J.os,J.bare,J.base,J.hok,rv,q⟩
  cases fl with
  | ret u=>
    obtain ⟨v,σ',H',J,rv,q⟩:=hs
    exact fin J rv q
  | next=>
    obtain ⟨σ',H',J,q⟩:=hs
    exact fin (v:=V.non) (u:=Value.none) J rfl q
  | brk=>
    obtain ⟨_,_,_,q⟩:=hs
    exact False.elim q
  | cont=>
    obtain ⟨_,_,_,q⟩:=hs
    exact False.elim q
theorem tQ {P:Program} {w:World} {K:PySem.W.Frag} {mg:Str→Option Value} {base:Heap} {x:Str} {st:Stmt} {N ps:List Str} {k a n:Nat} {g:bZ} (D:Def K mg x st ps) (S:FnScope N ps (af st)) (hpa:ps.length=a) (hNn:N.length=n) (hps:a≤n)
    (hbody:∀(f:Addr) (cdv:Value) (A:Around) (outer:List Env) (s:Shared) (H:Hp) (E:XK),RoomH k (A.deeper (PyProof.Rows.envOfC x (af st) s.heap.objs.size f cdv))→
      iZ (sQ P w K mg base N x (af st) f cdv A outer s H E) (aM st) g):OwnH P w K mg base (k+1) x ps (dh K (b7 a n g)):=by
  subst hpa hNn
  obtain ⟨f,fd,F,mx,b⟩:=D.ex
  have kp:=F.kp
  obtain ⟨oc,od,kV,doc,pm,an,cdv,ct,osl,rfl,lk,hcd⟩:=F.ex
  refine ⟨f,_,qc lk hcd S (fun vs H Q E h=>?_) fun A outer s H vs Q E hr h=>?_,b,mx,kp⟩
  · obtain ⟨ds,r,e,rp,_⟩:=h
    unfold b7 at e
    split at e
    · rename_i hl
      rw [rp.len];exact hl
    · cases e
  obtain ⟨ds,r,e,rp,q⟩:=h
  unfold b7 at e
  split at e
  · rename_i hl
    refine ⟨_,hbody f cdv A outer s H E hr,?_⟩
    obtain ⟨⟨E',fl⟩,e1,e⟩:=Option.bind_eq_some_iff.mp e
    refine ⟨H,aq N.length ds,[],[],E',fl,⟨H,[],fc rp (by omega)⟩,rfl,e1,?_⟩
    cases fl with
    | nx=>
      cases e
      rintro σ' H' ⟨F',A',fr'⟩
      exact q _ _ (fr'.bf.trans fr'.fh) .non
    | bk=>cases e
    | ct=>cases e
    | rt r'=>
      rintro σ' v H' ⟨F',A',fr'⟩
      obtain ⟨s1,s2⟩:=fr'.resultO e
      exact q v H' s1 s2
  · cases e
theorem nK {X:Cx} {k:Nat} {x:Str} {ps:List Str} {c:List PyData→Option Sl} {p pos:Pos} {e:Expr} {es:List Expr} {m:Bool} {g:ie} (D:OwnH X.prog X.w X.K X.mg X.base k x ps (dh X.K c)) (hr:RoomH k X.A) (hg:Gl X x) (ha:AX X (e::es) m g)
    (hdb:(x == ("__debug__":Str))=false:=by decide) (he:starEach (e::es) X.env=(false,eval e X.env)::starEach es X.env:=by rfl) (hpl:(backTo pos (starEach es X.env)).any (·.1)=false:=by rfl):
    EX X (.Call (.Name x p) (e::es) [] pos) m (aw c g):=by
  obtain ⟨f,fd,F,b,mx,kp⟩:=D.ex
  have hc:PE X (.Call (.Name x p) (e::es) [] pos) (kU (dh X.K c) [] E0 (ra X.K m g)):=by
    intro pins s σ H Q I h
    refine wpAny_Call_Name_kw (dG I hg mx ?_ hdb)
    refine PySem.W.callWith_K (h₀:=X.base) I.ok.mod.kin kp (ce (ha pos pins s σ H _ I h) fun us s1 ⟨vs,H1,I1,r,q⟩=>⟨I1.kIn,?_⟩) he hpl
    have q:dh X.K c (vs++[]) H1 Q E0:=q
    rw [List.append_nil] at q
    have hlen:(us++[]).length=ps.length:=by rw [List.append_nil,←r.length];exact F.len _ _ _ _ q
    have bd:=b s1 us I1.kIn hlen
    rw [List.append_nil] at bd
    refine wpAny_call (codeAny_mono (F.run X.A X.stack s1 H1 ⟨us,[]⟩ us vs Q E0 hr I1.env0 bd r q) fun rr s' hq=>?_)
    cases rr with
    | error e=>exact False.elim hq
    | ok fl=>
      cases fl with
      | ret u=>exact I1.after hq
      | next=>exact False.elim hq
      | brk=>exact False.elim hq
      | cont=>exact False.elim hq
  refine ba hc fun σ H Q z=>?_
  obtain ⟨B,E,xs,Xs,res,E',fr,cl,e,q⟩:=z
  obtain ⟨⟨rs,E1⟩,e1,e⟩:=Option.bind_eq_some_iff.mp e
  obtain ⟨ds,e2,e⟩:=Option.bind_eq_some_iff.mp e
  obtain ⟨r,e3,e⟩:=Option.map_eq_some_iff.mp e
  cases e
  refine ⟨B,E,xs,Xs,rs,E1,fr,cl,e1,fun vs H1 hl ⟨F,A,fr1⟩=>?_⟩
  obtain ⟨r1,A',fr2⟩:=fr1.looks hl e2
  exact ⟨ds,res,e3,by rw [List.append_nil];exact r1,fun v H' g q'=>q v H' (fr2.told g q')⟩
end PL
namespace PL
open PySem PySem.Spec PyProof.Rows L2 Nh
section
variable {M:Model} {A:Around} {E:Value→Shared→Prop} {s:Shared}
theorem je {base h:Heap} {env:Env} {outer:List Env} {L e:Addr} {cls:Value} {args:List Value} {Q:Unit→Shared→Prop}
    (hfr:A.frames=some (env::outer)) (hf:env.frame=some L) (hkb:base.StaysIn h) (hl:h.FunFrames base (env::outer)) (hx:Heap.MadeExcOf h s.heap e cls args)
    (hQ:∀h' t,Heap.HeldW base (env::outer) e cls (.ref t) L h'→s.heap.UpToSlots h'→Q () {s with heap:=h'}):wpAny M A (noteFrame (.ref e) env) Q E s:=by
  obtain ⟨t,he,htn,ht⟩:=hx.there
  have hen:base.get? e=none:=by
    cases hq:base.get? e with
    | none=>rfl
    | some o'=>have:=hkb e o' hq;rw [hx.new] at this;cases this
  have h1:(#[Value.ref t, .none, .none, .none, .bool false, .none]:Array Value)[1]? =some Value.none:=rfl
  unfold noteFrame
  simp only [hf]
  refine wpAny_bind (wpAny_field he rfl h1 ?_)
  rw [if_neg (show ¬((Value.none != Value.none)=true) from by decide)]
  exact wpAny_entryW (a0:= .ref t) hfr (hl.of_keeps fun b o hb _=>⟨o,hx.keeps b o hb,rfl⟩) hf he (fun b o hb=>hx.keeps b o (hkb b o hb)) hen rfl (by simp) rfl fun h' ⟨x1,x2,x3,x4⟩=>hQ h' t ⟨x1,hen,x2,x3⟩ x4
theorem kq {base:Heap} {env:Env} {l:List Env} {L e:Addr} {cls a0:Value} (hf:env.frame=some L) (hh:Heap.HeldW base l e cls a0 L s.heap)
    (hE:∀h',Heap.HeldW base l e cls a0 L h'→s.heap.UpToSlots h'→E (.ref e) {s with heap:=h'}):cameBackBy M A env E (.ref e) s:=by
  obtain ⟨hkb,hen,hl,oe,vs,T,oT,ts,he,hcls,hd,h1,hnT,hTe,hT,hdT,h3⟩:=hh
  have hsz3:3 < ts.size:=(Array.getElem?_eq_some_iff.mp h3).1
  have other:∀b,b≠T→(s.heap.update T (Obj.mapFields (·.setIfInBounds 3 ((some L).elim Value.none fun f=>rawInt f)))).get? b=s.heap.get? b:=
    fun b hb=>Heap.get?_update_other _ _ (Ne.symm hb)
  have noRecord:∀b o,s.heap.get? b=some o→(∀vs,o.data≠ .fields vs)→b≠T:=fun b o hb hnf q=>by
    rw [q,hT] at hb;injection hb with hb;subst hb;exact hnf ts hdT
  unfold cameBackBy
  refine wpAny_bind (wpAny_field he hd h1 ?_)
  rw [if_neg (show ¬((Value.ref T == Value.none)=true) from by simp)]
  rw [hf]
  unfold setFlight
  refine wpAny_bind (wpAny_field he hd h1 ?_)
  rw [if_pos (show (Value.ref T != Value.none)=true from by simp)]
  refine wpAny_setField hT hdT hsz3 (hE _ ⟨fun b o hbo=>(other b fun q=>by rw [q,hnT] at hbo;cases hbo).trans (hkb b o hbo),hen,
    hl.of_keeps fun b o hb hnf=>⟨o,(other b (noRecord b o hb hnf)).trans hb,rfl⟩,?_⟩ fun b o hb hnf=>⟨o.slots,(other b (noRecord b o hb hnf)).trans hb⟩)
  exact ⟨oe,vs,T,_,_,(other e (Ne.symm hTe)).trans he,hcls,hd,h1,hnT,hTe,Heap.get?_update_self _ hT (Obj.isFreed_of_fields (Obj.data_mapFields hdT _)),Obj.data_mapFields hdT _,by simp [hsz3]⟩
end
def da (g:j9) (b:bZ) (r:fP):List PyData→fP
  | []=>fun _=>none
  | d::ds=>fun E=>(g d E).bind fun E1=>match r E1 with
    | some x=>some x
    | none=>match b E1 with
      | some (E2, .nx)=>da g b r ds E2
      | some (E2, .ct)=>da g b r ds E2
      | _=>none
def nL (it:hO) (g:j9) (b:bZ) (r:fP):fP:=fun E=>(it E).bind fun a=>da g b r a.1 a.2
def lW (X:Cx) (mk:Bool) (n:Str) (B:Hp) (E':List Sl) (e:Value) (s':Shared):Prop:=∃pins σ C H' ea,e= .ref ea∧PySem.W.nsIn X.K mainGlobals n=some (some (.ref C))∧Frm X.K B σ H' E' [] []∧
  ((mk=true∧∃s h' vs,Inv X pins σ H' s∧Heap.MadeExcOf s.heap h' ea (.ref C) vs∧s'={s with heap:=h'})∨
   (∃H s a0 Bb,Inv X pins σ H s∧s'.os=s.os∧AllBare s'.gens∧Heap.FlyingW Bb X.stack ea (.ref C) a0 s'.heap∧HOk X.prog X.w H' Bb∧UnB (eG X.stack) H H' s.heap Bb s'.heap)∨
   (∃H s a0 Bb,Inv X pins σ H s∧s'.os=s.os∧AllBare s'.gens∧Heap.HeldW Bb X.stack ea (.ref C) a0 X.env.locals s'.heap∧HOk X.prog X.w H' Bb∧UnB (eG X.stack) H H' s.heap Bb s'.heap))
theorem lX {X:Cx} {mk:Bool} {n:Str} {B:Hp} {E':List Sl} (hst:X.stack=X.env::X.outer) (hfr:X.env.frame=some X.env.locals):PassesOwn (model X.prog X.w) X.A X.env (lW X mk n B E'):=by
  intro e s' h
  obtain ⟨pins,σ,C,H',ea,rfl,ns,fr,h⟩:=h
  have came:∀(s1:Shared) (H:Hp) (s:Shared) (a0:Value) (Bb:Heap),Inv X pins σ H s→s1.os=s.os→AllBare s1.gens→Heap.HeldW Bb X.stack ea (.ref C) a0 X.env.locals s1.heap→HOk X.prog X.w H' Bb→UnB (eG X.stack) H H' s.heap Bb s1.heap→cameBackBy (model X.prog X.w) X.A X.env (lW X mk n B E') (.ref ea) s1:=fun s1 H s a0 Bb I os bare hh hok u=>
    kq hfr hh fun h2 x1 x2=>⟨pins,σ,C,H',ea,rfl,ns,fr, .inr (.inr ⟨H,s,a0,Bb,I,os,bare,x1,hok,u.on hh.2.2.1 x2⟩)⟩
  show wpAny _ _ (noteFrame _ _) _ _ _
  rcases h with ⟨hm,s,h',vs,I,hx,rfl⟩ | ⟨H,s,a0,Bb,I,os,bare,fl,hok,u⟩ | ⟨H,s,a0,Bb,I,os,bare,hh,hok,u⟩
  · have st:=I.stack
    have hin:∀env∈X.stack,∀b,env.frame=some b→b∈eG X.stack:=fun env he b hb=>List.mem_filterMap.mpr ⟨env,he,hb⟩
    have ff:=PySem.W.funFrames_hide st hin
    refine je (base:=PySem.W.hideAll s.heap (eG X.stack)) (h:=s.heap) (outer:=X.outer) (by rw [I.ok.frames,hst]) hfr (fun b o q=>PySem.W.of_hideAll _ q) (hst▸ff) hx fun h2 t x1 x2=>?_
    refine came {s with heap:=h2} H' s (.ref t) _ I rfl I.bare (hst▸x1) (fun a o e=>?_) ⟨fun b o e n hb=>PySem.W.hideAll_get _ e hb,fun b o e n hb=>?_,fun _ _ _ n=>n,fun b o e hb=>⟨o,PySem.W.hideAll_get _ e hb⟩,fun _ _ e=>e,fun _ _ _ e=>e,fun _ _ e=>e⟩
    · refine (I.hok a o e).stay (fun b u hb q=>PySem.W.hideAll_get _ q fun z=>?_) (fun _ q=>q) fun _ _ q=>q
      have n:=I.stkFree b z
      rcases hb with rfl | hb
      · rw [n] at e;cases e
      · rw [n] at hb;cases hb
    · obtain ⟨_,o',ho',hd⟩:=st.mem hb
      rw [e] at ho'
      cases ho'
      exact x2 b o (hx.keeps b o e) hd
  · refine wpAny_looks_onW (outer:=X.outer) (by rw [I.ok.frames,hst]) hfr (hst▸fl) fun h2 x1 x2=>?_
    exact came {s' with heap:=h2} H s a0 Bb I os bare (hst▸x1) hok (u.on fl.2.2.1 x2)
  · exact wpAny_noteFrame_againW hfr hh.2.2.2 (came s' H s a0 Bb I os bare hh hok u)
theorem qd {X:Cx} {mk:Bool} {tg iter:Expr} {body:List Stmt} {m:Bool} {it:hO} {g:j9} {b:bZ} {r:fP} {pos:Pos} (hst:X.stack=X.env::X.outer) (hfr:X.env.frame=some X.env.locals) (hc:X.calm=true) (hi:∀W,IX (X.wish W) tg iter m it) (hg:∀W,GX (X.wish W) tg g) (hb:iZ X.nox body b) (hr:∀W,mv (X.wish W) mk true body r)
    (hs:∀x,foldedSetIterable iter X.env x=pure x:=by intro _;rfl):RX X mk true (.For tg iter body [] pos) (nL it g b r):=fun pins s σ H B E n E' I fr e k=>by
  obtain ⟨⟨ds,E1⟩,e1,e⟩:=Option.bind_eq_some_iff.mp e
  have hbW:PSs (X.wish (lW X mk n B E')) body (rs X.K b):=fun pins s σ H D I hw=>
    wpAny_mono (hb pins s σ H D (I.unwish.wish _) hw) (fun _ _ q=>SP.unwish (X:=X) q |> fun z=>by
      rename_i f s'
      cases f with
      | next=>obtain ⟨σ',H',I,q⟩:=z;exact ⟨σ',H',I.wish _,q⟩
      | brk=>obtain ⟨σ',H',I,q⟩:=z;exact ⟨σ',H',I.wish _,q⟩
      | cont=>obtain ⟨σ',H',I,q⟩:=z;exact ⟨σ',H',I.wish _,q⟩
      | ret u=>obtain ⟨v,σ',H',I,r,q⟩:=z;exact ⟨v,σ',H',I.wish _,r,q⟩) fun _ _ z=>z.elim
  have hbody:PSs (X.wish (lW X mk n B E')) body (fun D σ H=>rs X.K b D σ H∨∃B' Ei,Same B B'∧Frm X.K B' σ H Ei [] []∧r Ei=some (n,E')):=fun pins s σ H D I hw=>by
    rcases hw with hw | ⟨B',Ei,sb,fri,er⟩
    · exact hbW pins s σ H D I hw
    · refine wpAny_mono (hr _ pins s σ H B' Ei n E' I fri er fun pp _ σ' C H' ns fr'=>⟨fun hm=>?_,?_,fun _=>?_⟩) (fun _ _ z=>z.elim) fun _ _ z=>z
      · exact fun s h' ea vs I hx=>⟨pp,σ',C,H',ea,rfl,ns,fr'.base sb, .inl ⟨hm,s,h',vs,I.unwish,hx,rfl⟩⟩
      · exact fun H s ea s' a0 Bb I os bare fl hok u=>⟨pp,σ',C,H',ea,rfl,ns,fr'.base sb, .inr (.inl ⟨H,s,a0,Bb,I.unwish,os,bare,fl,hok,u⟩)⟩
      · exact fun H s ea s' a0 Bb I os bare fl hok u=>⟨pp,σ',C,H',ea,rfl,ns,fr'.base sb, .inr (.inr ⟨H,s,a0,Bb,I.unwish,os,bare,fl,hok,u⟩)⟩
  have q:=kN (X:=X.wish (lW X mk n B E')) (pos:=pos) (lX hst hfr) hc (hi _) (hg _) hbody hs pins s σ H {nx:=fun _ _=>False,bk:=fun _ _=>False,ct:=fun _ _=>False,rt:=fun _ _=>False} (I.wish _) (by
    refine ⟨B,E,[],[],ds,E1,fr,fun _=>Calm.nil rfl,e1,fun B' J H1 hB fr1 ok=>?_⟩
    refine ⟨fun i mm σ' H'=>mm=ds.length - i∧i≤ds.length∧∃Ei,da g b r (ds.drop i) Ei=some (n,E')∧Frm X.K B' σ' H' Ei [] [],⟨ds.length,by simp,Nat.zero_le _,E1,by simpa using e,fr1⟩,?_⟩
    rintro i mm σ' H' ⟨rfl,hi,Ei,ei,F,A,fri⟩
    obtain ⟨go,stop⟩:=ok i (Same.refl _) fri
    by_cases hlt:i < ds.length
    · obtain ⟨d,ed⟩:∃d,ds[i]? =some d:=⟨ds[i],List.getElem?_eq_getElem hlt⟩
      obtain ⟨g1,yl⟩:=go d ed
      have edr:ds.drop i=d::ds.drop (i+1):=by
        rw [List.drop_eq_getElem_cons hlt]
        congr 1
        exact Option.some.inj ((List.getElem?_eq_getElem hlt).symm.trans ed)
      rw [edr] at ei
      obtain ⟨E3,e3,ei⟩:=Option.bind_eq_some_iff.mp ei
      refine .inr ⟨g1,fun σ2 H2=>∃Ej,da g b r (ds.drop (i+1)) Ej=some (n,E')∧Frm X.K B' σ2 H2 Ej [] [],fun σ2 H2 ⟨Ej,ej,frj⟩=>⟨ds.length - (i+1),by omega,rfl,hlt,Ej,ej,frj⟩,fun x H2 y=>?_⟩
      refine ⟨B',Ei,[],[],d,E3,yl x H2 y,Still.nil rfl,e3,fun σ3 H3 fr3=>?_⟩
      split at ei
      · rename_i x er
        cases ei
        exact .inr ⟨B',E3,hB,fr3,er⟩
      · split at ei
        · rename_i E2 eb
          exact .inl ⟨B',E3,[],[],E2, .nx,fr3,rfl,eb,fun σ4 H4 fr4=>⟨E2,ei,fr4⟩⟩
        · rename_i E2 eb
          exact .inl ⟨B',E3,[],[],E2, .ct,fr3,rfl,eb,fun σ4 H4 fr4=>⟨E2,ei,fr4⟩⟩
        · cases ei
    · have e0:i=ds.length:=by omega
      rw [e0,List.drop_length] at ei
      cases ei)
  refine wpAny_mono q (fun f s1 z=>?_) fun e1 s1 z=>?_
  · cases f with
    | next=>obtain ⟨_,_,_,z⟩:=z;exact z
    | brk=>obtain ⟨_,_,_,z⟩:=z;exact z
    | cont=>obtain ⟨_,_,_,z⟩:=z;exact z
    | ret u=>obtain ⟨_,_,_,_,_,z⟩:=z;exact z
  · obtain ⟨pp,σ',C,H',ea,rfl,ns,fr',z⟩:=z
    obtain ⟨k1,k2,k3⟩:=k pp (fun h=>nomatch h) σ' C H' ns fr'
    rcases z with ⟨hm,s2,h2,vs,I2,hx,rfl⟩ | ⟨H2,s2,a0,Bb,I2,os,bare,fl,hok,u⟩ | ⟨H2,s2,a0,Bb,I2,os,bare,fl,hok,u⟩
    · exact k1 hm s2 h2 ea vs I2 hx
    · exact k2 H2 s2 ea s1 a0 Bb I2 os bare fl hok u
    · exact k3 rfl H2 s2 ea s1 a0 Bb I2 os bare fl hok u
end PL
namespace PL
open PySem PySem.Spec PyProof.Rows L2 Nh
theorem hG:∀{bs:List Bool} {us:List Value},Vals (bs.map .bl) us→us=bs.map Value.bool
  | [],_,h=>by cases h;rfl
  | b::bs,_,h=>by
    cases h with
    | cons r t=>
      have e:=hG t
      cases r
      rw [e]
      rfl
theorem iF (b:Bool):ju (.bl true) (.bool b)=b:=by cases b <;> rfl
def nM:V→List V→Hp→VK→Prop:=fun x vs H Q=>∃(l:Addr) (bs:List Bool),x= .ref l∧vs=[.bl true]∧H l=some (.lst (bs.map V.bl))∧Q (.int ((bs.countP id:Nat):Int)) H
def nN:V→List V→Hp→VK→Prop:=fun x vs H Q=>∃(l:Addr) (bs:List Bool),x= .ref l∧vs=[.bl true]∧H l=some (.lst (bs.map V.bl))∧bs.findIdx id < bs.length∧bs.length≤1000∧Q (.int ((bs.findIdx id:Nat):Int)) H
section
variable {X:Cx}
theorem kr:MtR X "list.count" nM:=by
  intro pins s σ H x vs v us Q I rx rv h
  obtain ⟨l,bs,rfl,rfl,hH,q⟩:=h
  cases rx
  obtain ⟨u,rfl,ru⟩:=rv.one
  obtain ⟨z,its,n,r,hl,e⟩:=I.lstM hH
  have ei:=hG r
  refine call_meets F.slot_list_count ⟨_,e,rfl⟩ F.entry_list_count (F.args_list_count_2 _ _) (SeqAt.list_countAt l its.toArray n none #[] u (ju (.bl true))) ⟨e,fun y hy=>dw ru rfl r (by simp [List.all_eq_true,cS]) y (by simpa using hy),?_⟩
  refine ⟨.int _,H,I.tok _,⟨_,rfl⟩,?_⟩
  have k:its.toArray.toList.countP (ju (.bl true))=bs.countP id:=by
    rw [List.toList_toArray,ei,List.countP_map]
    congr 1
    funext b
    exact iF b
  rw [k]
  exact q
theorem kt:MtR X "list.index" nN:=by
  intro pins s σ H x vs v us Q I rx rv h
  obtain ⟨l,bs,rfl,rfl,hH,hj,hl0,q⟩:=h
  cases rx
  obtain ⟨u,rfl,ru⟩:=rv.one
  obtain ⟨z,its,n,r,hl,e⟩:=I.lstM hH
  have ei:=hG r
  have hlen:its.length=bs.length:=by rw [ei,List.length_map]
  have at_:∀m (hm:m < its.toArray.size),ju (.bl true) its.toArray[m]=bs[m]'(by simpa [hlen] using hm):=fun m hm=>by
    subst ei
    simp only [List.getElem_toArray,List.getElem_map]
    exact iF _
  refine call_meets F.slot_list_index ⟨_,e,rfl⟩ F.entry_list_index (F.args_list_index_2 _ _) (SeqAt.list_indexAt l its.toArray n none #[] u (ju (.bl true)) (bs.findIdx id) (by simpa [hlen] using hj) (by omega) ?_ fun m hm h2=>?_) ⟨e,fun y hy=>dw ru rfl r (by simp [List.all_eq_true,cS]) y (by simpa using hy),?_⟩
  · rw [at_]
    exact List.findIdx_getElem (w:=hj)
  · rw [at_]
    simpa using List.not_of_lt_findIdx h2
  · exact ⟨.int _,H,I.tok _,⟨_,rfl⟩,q⟩
end
def fe (i:Nat):bF:=fun E=>match E[i]? with
  | some (.ow ds)=>(dM ds).map fun bs=>(.sh (.int ((bs.countP id:Nat):Int)),E)
  | _=>none
def fg (i:Nat):bF:=fun E=>match E[i]? with
  | some (.ow ds)=>(dM ds).bind fun bs=>if bs.findIdx id < bs.length∧bs.length≤1000 then some (.sh (.int ((bs.findIdx id:Nat):Int)),E) else none
  | _=>none
section
variable {X:Cx} {x:Str} {p p2 apos cpos:Pos} {j:Nat}
theorem ku (i:Nat) (hN:X.N[i]? =some x:=by rfl) (hv:jk X.env.scope x:=by first | exact Or.inl rfl | exact Or.inr (Or.inl rfl) | exact Or.inr (Or.inr rfl)) (hd:(x == ("__debug__":Str))=false:=by decide) (hcd:(x == ("__classdict__":Str))=false:=by decide)
    (hs:starEach [.Constant (.bool true) j p2] X.env=[(false,eval (.Constant (.bool true) j p2) X.env)]:=by rfl) (hbase:attributeBase (.Name x p) "count" X.env (eval (.Name x p) X.env)=eval (.Name x p) X.env:=by rfl)
    (hfew:((backTo cpos (starEach [.Constant (.bool true) j p2] X.env)).all (fun x=> !x.1)&&(backToKw cpos (keywordEach [] X.env)).all (fun x=>x.1.isSome)
      &&decide (([Expr.Constant (.bool true) j p2]:List Expr).length+([]:List Keyword).length+(if ([]:List Keyword).isEmpty then 0 else 1) < 30))=true:=by rfl) (hline:(apos.endLine == cpos.line)=true:=by rfl):
    EX X (.Call (.Attribute (.Name x p) "count" apos) [.Constant (.bool true) j p2] [] cpos) false (fe i):=by
  refine ba (jv PySem.F.plainAttrs_list PySem.F.slot_list_count PySem.F.type_list_count kr (fq hN hv hd hcd) (bN kI cM hs) hbase hfew hline hs rfl) fun σ H Q z=>?_
  obtain ⟨B,E,xs,Xs,res,E',⟨F,A,fr⟩,cl,e,q⟩:=z
  unfold fe at e
  split at e
  · rename_i ds ei
    obtain ⟨bs,eb,e⟩:=Option.map_eq_some_iff.mp e
    cases e
    obtain ⟨o,A1,eo,l,vs,rfl,rfl,hl0,r⟩:=fr.var ei
    have z:=fN r eb
    subst z
    exact ⟨_,eo, .inl ⟨rfl,_,SqL.of hl0⟩,l,bs,rfl,rfl,hl0,q _ _ ⟨F,A,fr.push ⟨rfl,_,rfl, .int _⟩⟩⟩
  · cases e
theorem kw (i:Nat) (hN:X.N[i]? =some x:=by rfl) (hv:jk X.env.scope x:=by first | exact Or.inl rfl | exact Or.inr (Or.inl rfl) | exact Or.inr (Or.inr rfl)) (hd:(x == ("__debug__":Str))=false:=by decide) (hcd:(x == ("__classdict__":Str))=false:=by decide)
    (hs:starEach [.Constant (.bool true) j p2] X.env=[(false,eval (.Constant (.bool true) j p2) X.env)]:=by rfl) (hbase:attributeBase (.Name x p) "index" X.env (eval (.Name x p) X.env)=eval (.Name x p) X.env:=by rfl)
    (hfew:((backTo cpos (starEach [.Constant (.bool true) j p2] X.env)).all (fun x=> !x.1)&&(backToKw cpos (keywordEach [] X.env)).all (fun x=>x.1.isSome)
      &&decide (([Expr.Constant (.bool true) j p2]:List Expr).length+([]:List Keyword).length+(if ([]:List Keyword).isEmpty then 0 else 1) < 30))=true:=by rfl) (hline:(apos.endLine == cpos.line)=true:=by rfl):
    EX X (.Call (.Attribute (.Name x p) "index" apos) [.Constant (.bool true) j p2] [] cpos) false (fg i):=by
  refine ba (jv PySem.F.plainAttrs_list PySem.F.slot_list_index PySem.F.type_list_index kt (fq hN hv hd hcd) (bN kI cM hs) hbase hfew hline hs rfl) fun σ H Q z=>?_
  obtain ⟨B,E,xs,Xs,res,E',⟨F,A,fr⟩,cl,e,q⟩:=z
  unfold fg at e
  split at e
  · rename_i ds ei
    obtain ⟨bs,eb,e⟩:=Option.bind_eq_some_iff.mp e
    split at e
    · rename_i hc
      cases e
      obtain ⟨o,A1,eo,l,vs,rfl,rfl,hl0,r⟩:=fr.var ei
      have z:=fN r eb
      subst z
      exact ⟨_,eo, .inl ⟨rfl,_,SqL.of hl0⟩,l,bs,rfl,rfl,hl0,hc.1,hc.2,q _ _ ⟨F,A,fr.push ⟨rfl,_,rfl, .int _⟩⟩⟩
    · cases e
  · cases e
end
def sR:bF:=fun E=>some (.sh (.dict []),E)
theorem sf {X:Cx} {pos:Pos}:EX X (.Dict [] [] pos) false sR:=by
  refine ba lv fun σ H Q z=>?_
  obtain ⟨B,E,xs,Xs,res,E',⟨F,A,fr⟩,c,e,q⟩:=z
  cases e
  intro p hp
  have fr2:=fr.grow (cZ hp (.dK []))
  exact q _ _ ⟨_,_,fr2.push ⟨rfl,_,rfl, .dct (.inl (by show (if p∈A then none else _)=_;rw [if_neg (fr.newA hp)];exact aY)) .nil⟩⟩
end PL
namespace L2
open PySem PySem.Spec PyProof.Rows
def nO:V→List V→Hp→VK→Prop:=fun x vs H Q=>∃l xs z y,x= .ref l∧vs=[.int z,y]∧H l=some (.lst xs)∧xs.length < 1000001∧0≤z∧z.toNat≤xs.length∧Q .non (upd H l (.lst (xs.take z.toNat++y::xs.drop z.toNat)))
theorem nP (a:List Value) (k:Nat) (y:Value):(a.toArray.extract 0 k).push y++a.toArray.extract k=(a.take k++y::a.drop k).toArray:=by
  apply Array.ext'
  simp only [List.extract_toArray,List.push_toArray,List.append_toArray,List.extract_eq_take_drop,List.drop_zero,List.size_toArray,Nat.sub_zero]
  rw [List.take_of_length_le (l:=List.drop k a) (by rw [List.length_drop];omega),List.append_assoc,List.singleton_append]
theorem kx {X:Cx}:uf X "list.insert" nO:=by
  intro pins s σ H x vs v us Q I rx rv h
  obtain ⟨l,xs,z,y,rfl,rfl,hH,hz,h0,hk,q⟩:=h
  cases rx
  obtain ⟨u,w,rfl,ru,rw'⟩:=rv.two
  obtain ⟨t,rfl⟩:=ru
  obtain ⟨zz,its,n,r,hl,e⟩:=I.lstM hH
  have sl:(1000002:Nat)≤sizeLine:=by rw [sizeLine_eq];decide
  have fit:Builtin.List.listFitsIndex z=true:=fitsIndex_both (by omega) (by omega)
  refine call_meets F.slot_list_insert ⟨_,e,rfl⟩ F.entry_list_insert (F.args_list_insert_3 _ _ _) (AutoSeq1.list_insert_list_int_val_1 l its.toArray n z t w (by simp [fit]) (by rw [List.size_toArray];omega)) ⟨e,?_⟩
  refine ⟨.non,_,I.lset (its':=its.take z.toNat++w::its.drop z.toNat) hH e ?_ ((r.take _).append (.cons rw' (r.drop _))) ?_,rfl,q⟩
  · have e1:(if z < 0 then (z+(its.toArray.size:Int)).toNat else min z.toNat its.toArray.size)=z.toNat:=by
      rw [if_neg (by omega),List.size_toArray]
      omega
    show (its.toArray.extract 0 (if z < 0 then (z+(its.toArray.size:Int)).toNat else min z.toNat its.toArray.size)).push w++its.toArray.extract (if z < 0 then (z+(its.toArray.size:Int)).toNat else min z.toNat its.toArray.size)=_
    rw [e1]
    exact nP its _ w
  · rw [List.length_append,List.length_cons,List.length_take,List.length_drop]
    omega
end L2
namespace PL
open PySem L2 Nh
def jK:Expr→Bool
  | .Starred .. =>false
  | _=>true
theorem nQ {e:Expr} {es:List Expr} {env:Env} (h:jK e=true):starEach (e::es) env=(false,eval e env)::starEach es env:=by
  cases e <;> first | rfl | cases h
theorem ah {X:Cx} {e:Expr} {es:List Expr} {m1 m2:Bool} {f:bF} {d:hO} (ha:EX X e m1 f) (hr:DX X es m2 d) (hs:jK e=true:=by rfl):DX X (e::es) (m1||m2) (aj f d):=aJ ha hr (nQ hs)
section
variable {K:PySem.W.Frag} {B F:Hp} {A:List Addr} {σ:fW} {H:Hp} {E:List Sl}
theorem FrF.putB {i:Nat} {ds:List PyData} (h:FrF K B F A σ H E [] []) (e:E[i]? =some (.ow ds)):
    ∃l vs,σ[i]? =some (some (.ref l))∧H l=some (.lst vs)∧RpA K F vs ds∧F l=none∧∀vs' ds',RpA K (upd H l (.lst vs')) vs' ds'→FrF K B (upd H l (.lst vs')) [] σ (upd H l (.lst vs')) (PL.frzAll (E.set i (.ow ds'))) [] []:=by
  have hs:=h.sl
  simp only [List.map_nil,List.nil_append] at hs
  obtain ⟨o,A0,A1,A2,eA,eo,hp,put⟩:=hs.at e
  obtain ⟨l,vs,rfl,rfl,hl,r⟩:=hp
  have hlA:l∈A:=by rw [eA];simp
  have lF:F l=none:=h.fr l hlA
  refine ⟨l,vs,eo,hl,r,lF,fun vs' ds' r'=>?_⟩
  have nl:∀b,b∈A0∨b∈A2→b≠l:=fun b hb z=>by
    subst z
    have nd:=h.nd
    rw [eA] at nd
    rcases hb with hb | hb
    · exact (List.nodup_append.mp nd).2.2 b hb b (by simp) rfl
    · exact (List.nodup_append.mp (List.nodup_append.mp nd).2.1).2.2 b (by simp) b hb rfl
  have FH:Same F (upd H l (.lst vs')):=fun b o q=>by
    rw [ax (fun z=>by rw [z,lF] at q;cases q)]
    exact h.fh _ _ q
  have z:=put (fun o s C=>SlOk K F (upd H l (.lst vs')) σ o s C∨o=some (.ref l)∧s= .ow ds') (some (.ref l)) (.ow ds') [l] (.inr ⟨rfl,rfl⟩) fun o s C hs hC q=> .inl (q.stay (Same.refl _) (fun b hb=>ax (nl b (hC b hb))) fun z=>by
    have:=h.pl s hs
    cases s <;> simp [Sl.isAl,Sl.isBr] at this z)
  have e2:σ.set i (some (V.ref l))=σ:=List.ext_getElem? fun j=>by
    by_cases hj:i=j
    · subst hj
      rw [List.getElem?_set_self',eo];rfl
    · rw [List.getElem?_set_ne hj]
  rw [e2] at z
  refine ⟨h.bf.trans FH,Same.refl _,dL _,?_,List.nodup_nil,fun a ha=>(by cases ha),rfl,fun s hs=>?_⟩
  · have key:∀{os:List (Option V)} {ss:List Sl} {C:List Addr},SAll (fun o s C=>SlOk K F (upd H l (.lst vs')) σ o s C∨o=some (.ref l)∧s= .ow ds') os ss C→SAll (SlOk K (upd H l (.lst vs')) (upd H l (.lst vs')) σ) os (PL.frzAll ss) []:=fun {os ss C} r=>by
      induction r with
      | nil=>exact .nil
      | cons q _ ih=>
        refine .cons (A:=[]) ?_ ih
        rcases q with q | ⟨rfl,rfl⟩
        · unfold cU
          split
          · rename_i d e
            obtain ⟨v,rfl,r,_⟩:=q.val FH e
            exact ⟨rfl,v,rfl,r⟩
          · exact rfl
        · exact ⟨rfl,_,rfl, .lst (SqL.of aY) r'⟩
    exact key z
  · obtain ⟨t,_,rfl⟩:=List.mem_map.mp hs
    unfold cU
    split <;> rfl
end
def qe:PyData→Bool
  | .tuple _=>true
  | _=>false
def dO (i:Nat) (f g:bF):bZ:=fun E=>match E[i]? with
  | some (.ow _)=>(f E).bind fun a=>match a.1 with
    | .sh (.int z)=>(g a.2).bind fun b=>match b.2[i]? with
      | some (.ow ds)=>if ds.length < 1000000∧0≤z∧z.toNat≤ds.length then
          match b.1 with
          | .sh d=>some (b.2.set i (.ow (ds.take z.toNat++d::ds.drop z.toNat)), .nx)
          | .br (.list (.str s::es))=>if a_ es&&ds.all qe then some (frzAll (b.2.set i (.ow (ds.take z.toNat++ .list (.str s::es)::ds.drop z.toNat))), .nx) else none
          | _=>none
        else none
      | _=>none
    | _=>none
  | _=>none
section
variable {X:Cx} {e e0:Expr} {m1 m2:Bool} {f g:bF} {x:Str} {p apos cpos pos:Pos}
theorem ky (i:Nat) (h0:EX X e0 m1 f) (he:EX X e m2 g) (hN:X.N[i]? =some x:=by rfl) (hv:jk X.env.scope x:=by first | exact Or.inl rfl | exact Or.inr (Or.inl rfl) | exact Or.inr (Or.inr rfl)) (hd:(x == ("__debug__":Str))=false:=by decide) (hcd:(x == ("__classdict__":Str))=false:=by decide)
    (hs1:starEach [e] X.env=[(false,eval e X.env)]:=by rfl) (hs:starEach [e0,e] X.env=(false,eval e0 X.env)::starEach [e] X.env:=by rfl) (hbase:attributeBase (.Name x p) "insert" X.env (eval (.Name x p) X.env)=eval (.Name x p) X.env:=by rfl)
    (hfew:((backTo cpos (starEach [e0,e] X.env)).all (fun x=> !x.1)&&(backToKw cpos (keywordEach [] X.env)).all (fun x=>x.1.isSome)
      &&decide (([e0,e]:List Expr).length+([]:List Keyword).length+(if ([]:List Keyword).isEmpty then 0 else 1) < 30))=true:=by rfl) (hline:(apos.endLine == cpos.line)=true:=by rfl) (hbk:((backTo cpos (starEach [e] X.env)).any fun x=>x.1)=false:=by rfl)
    (hsw:swapsWith (.Call (.Attribute (.Name x p) "insert" apos) [e0,e] [] cpos) none pos.line X.env=pure false:=by rfl):
    SX X (.Expr (.Call (.Attribute (.Name x p) "insert" apos) [e0,e] [] cpos) pos) (dO i f g):=by
  refine dY (jn (jv PySem.F.plainAttrs_list PySem.F.slot_list_insert PySem.F.type_list_insert kx (fq hN hv hd hcd) (bN h0 (bN he cM hs1) hs) hbase hfew hline hs hbk) hsw) fun D σ H z=>?_
  obtain ⟨B,E,xs,Xs,E',fl,⟨F,A,fr⟩,cl,e,q⟩:=z
  subst cl
  have hx:xs=[]:=by simpa using fr.len
  subst hx
  unfold dO at e
  split at e
  · rename_i ds0 ei
    obtain ⟨⟨s,E1⟩,e1,e⟩:=Option.bind_eq_some_iff.mp e
    simp only at e
    split at e
    · rename_i z
      obtain ⟨⟨s2,E2⟩,e2,e⟩:=Option.bind_eq_some_iff.mp e
      simp only at e
      split at e
      · rename_i ds ei2
        split at e
        · rename_i hc
          obtain ⟨hl,z0,zl⟩:=hc
          obtain ⟨o,A1,eo,l,vs,rfl,rfl,hl0,_⟩:=fr.var ei
          refine ⟨_,eo, .inl ⟨rfl,_,SqL.of hl0⟩,B,E,[],[],_,E1,⟨F,A,fr⟩,fun _=>Calm.nil rfl,e1,fun v1 H1 fr1=>?_⟩
          refine ⟨B,E1,[v1],[_],s2,E2,fr1,fun _=>Calm.cons (Calm.nil rfl) rfl,e2,fun v H2 ⟨F2,A2,fr2⟩=>?_⟩
          obtain ⟨v',A5,ev,rfl,w,ew,rz⟩:=fr2.ext (k:=1) rfl
          cases ev;cases ew
          cases rz
          obtain ⟨A6,fr4⟩:=fr2.pop
          obtain ⟨A7,fr5⟩:=fr4.pop
          split at e
          · rename_i d s0
            cases e
            obtain ⟨v',A4,ev,rfl,w,ew,rv⟩:=fr2.ext (k:=0) rfl
            cases ev;cases ew
            obtain ⟨l',vs',eo',hl',r',put⟩:=fr5.mut ei2 (Calm.nil rfl)
            rw [eo] at eo'
            cases eo'
            have ll:=r'.len
            have fr6:=put (vs'.take z.toNat++v::vs'.drop z.toNat) (ds.take z.toNat++d::ds.drop z.toNat) ((r'.take _).append (.cons rv (r'.drop _)))
            exact ⟨l,vs',z,v,rfl,rfl,hl',by omega,z0,by omega,q _ _ ⟨_,_,fr6⟩⟩
          · rename_i sx es s0
            split at e
            · rename_i hf
              cases e
              rw [Bool.and_eq_true] at hf
              obtain ⟨v',A4,ev,rfl,w,ew,rv⟩:=fr2.ext (k:=0) rfl
              cases ev;cases ew
              obtain ⟨l',vs',eo',hl',r',lF,put⟩:=fr5.putB ei2
              rw [eo] at eo'
              cases eo'
              have ll:=r'.len
              have rv':Rp X.K (upd H2 l (.lst (vs'.take z.toNat++v::vs'.drop z.toNat))) v (.list (.str sx::es)):=by
                generalize vs'.take z.toNat++v::vs'.drop z.toNat=us'
                cases rv with
                | lst h1 h2=>
                  rename_i a us
                  have tu:Same (tups H2) (upd H2 l (.lst us')):=fun b o q=>by
                    have q':=dL H2 b o q
                    rw [ax (fun zz=>by
                      subst zz
                      have:=(Option.filter_eq_some_iff.mp q).2
                      rw [hl'] at q'
                      cases q'
                      cases this)]
                    exact q'
                  have h3:=(h2.cold (by simp [a_,aK,hf.1])).same tu
                  refine .lst ?_ h3
                  have ne:∀us'',H2 l=some (.lst us'')→us''=us→False:=fun us'' k1 k2=>by
                    rw [hl'] at k1
                    cases k1
                    subst k2
                    cases h2 with
                    | cons k3 _=>
                      cases k3
                      cases r' with
                      | cons k4 _=>cases k4;simp [qe] at hf
                  rcases h1 with (h1 | ⟨o,h1⟩) | h1
                  · refine .inl (.inl ?_)
                    rw [ax (fun zz=>ne us (by rw [←zz];exact h1) rfl)]
                    exact h1
                  · refine .inl (.inr ⟨o,?_⟩)
                    rw [ax (fun zz=>by rw [zz,hl'] at h1;cases h1)]
                    exact h1
                  · exact .inr h1
              have FH:Same F2 (upd H2 l (.lst (vs'.take z.toNat++v::vs'.drop z.toNat))):=fun b o q=>by
                rw [ax (fun z=>by rw [z,lF] at q;cases q)]
                exact fr5.fh _ _ q
              have fr6:=put (vs'.take z.toNat++v::vs'.drop z.toNat) (ds.take z.toNat++ .list (.str sx::es)::ds.drop z.toNat) (((r'.same FH).take _).append (.cons rv' ((r'.same FH).drop _)))
              exact ⟨l,vs',z,v,rfl,rfl,hl',by omega,z0,by omega,q _ _ ⟨_,_,fr6⟩⟩
            · cases e
          · cases e
        · cases e
      · cases e
    · cases e
  · cases e
end
end PL
namespace Nhk01
open PySem L2 Nh PL
def d9:List (Str×Bool):=[("NoCord",true)]
def dD:List (Str×Bool):=[("NoCord",false)]
def d_:List (Str×Bool):=[("NoCord",false)]
def ef:List (Str×Bool):=[("NoCord",false)]
def em:List (Str×Bool):=[("NoCord",false)]
def ey:List (Str×Bool):=[("NoCord",false)]
def eB:List (Str×Bool):=[("NoCord",false)]
def dl:List (Str×Bool):=[("NoCord",false)]
def dE:List (Str×Bool):=[("NoCord",false)]
def dF:List (Str×Bool):=[("NoCord",false)]
def cP:List (Str×Bool):=[("NoCord",true)]
def be:bZ:=(aG (aN (bI (aW .str) (ac 0)) (aN (ad cH false (bh bq (ae false (ac 0) au)) (pC (.int 1))) (bp (bP .le) (bP .le) false false (pC (.str "a")) (ac 0) (pC (.str "z"))))))
def ak:List PyData→Option Sl:=b7 1 1 be
def b6:bZ:=(aG (aN (bI (aW .int) (ac 0)) (bI i5 (bI (aW .bool) (ac 0)))))
def aQ:List PyData→Option Sl:=b7 1 1 b6
def bz:bZ:=(aG (aN (bI (aW .tuple) (ac 0)) (aN (ad cH false (bh bq (ae false (ac 0) au)) (pC (.int 2))) (aN (aw ak (ae false (ad dn false (ac 0) (pC (.int 0))) au)) (aw aQ (ae false (ad dn false (ac 0) (pC (.int 1))) au))))))
def am:List PyData→Option Sl:=b7 1 1 bz
def ar:j9:=(dk 1)
def aA:bZ:=(bv (bn (bX (aw am (ae false (ac 1) au))))
  jb
  aO)
def cJ:bZ:=(aF (bv (bn (bX (bI (aW .list) (ac 0))))
  jb
  aO)
  (fY (fZ (ac 0)) ar
  aA))
def bA:List PyData→Option Sl:=b7 1 2 cJ
def aR:fP:=(kG (iQ (bn (bX (bI (aW .list) (ac 0)))) (dt "NoCord"))
  (lS (bv (bn (bX (bI (aW .list) (ac 0))))
  jb
  aO)
  (nL (fZ (ac 0)) ar aA (iQ (bn (bX (aw am (ae false (ac 1) au)))) (dt "NoCord")))))
def ai:List PyData→Option Str:=kl 1 2 aR
def eQ:bZ:=(aF (bv (cT (ad (bR (bP .lt)) false (ac 1) (bh bq (ae false (ac 0) au))))
  (aG (ad dn false (ac 0) (ac 1)))
  aO)
  (aG (pC (.int 0))))
def b8:List PyData→Option Sl:=b7 2 2 eQ
def dP:bZ:=(aF (aL 2 (ad bC false (ad bW false (ad bW false (ad eK false (ad bC false (ac 0) (ad cN false (pC (.int 10)) (pC (.int 40)))) (ad bW false (pC (.int 62089911)) (ad eK false (pC (.int 2)) (ac 1)))) (ad eK false (pC (.int 982451653)) (ac 1))) (pC (.int 17))) (pC (.int 4294967291))))
  (aG (ad bC false (ad eK false (ac 2) (ad bW false (ad bW false (ad aZ false (ac 2) (pC (.int 1024))) (ad eK false (pC (.int 2)) (ac 1))) (pC (.int 1)))) (pC (.int 4294967279)))))
def cp:List PyData→Option Sl:=b7 2 3 dP
def aU:j9:=(dk 5)
def aV:bZ:=(aF (aL 6 (ac 1))
  (aF (bv (eL (cT (ad (bR (bP .lt)) false (bh i8 (ae false (ac 0) au)) (ad cN false (pC (.int 10)) (pC (.int 18))))) (cT (bp (bP .lt) (bP .lt) false false (bI i4 (pC (.int 28))) (ac 1) (pC (.int 28)))))
  (aL 6 (aw cp (ae false (ac 0) (ae false (ac 5) au))))
  aO)
  (aF (gu (di 4 (cc (aj (ad dn false (pC (.str "abcz")) (ad bC false (ac 6) (pC (.int 4)))) (aj (ad eJ false (ad bC false (ad aZ false (ac 6) (pC (.int 4))) (pC (.int 7))) (pC (.int 3))) bg)))))
  (aL 1 (ad aZ false (ac 1) (pC (.int 28)))))))
def cj:bZ:=(aF (aL 1 (ad aZ false (ac 0) (pC (.int 5))))
  (aF (bv (cT (ad cH false (ad bC false (ac 0) (pC (.int 5))) (pC (.int 2))))
  (aF (aL 2 (ad dn false (pC (.str "abcdefghijklmnopqrstuvwxyz")) (ad bC false (ac 1) (pC (.int 26)))))
  (aG (bY (aj (cc (aj (ac 2) (aj (ad eJ false (ad bC false (ad aZ false (ac 1) (pC (.int 26))) (ad eJ false (ad eK false (pC (.int 2)) (ad cN false (pC (.int 10)) (pC (.int 30)))) (pC (.int 1)))) (ad eJ false (ad cN false (pC (.int 10)) (pC (.int 30))) (pC (.int 1)))) bg))) bg))))
  aO)
  (aF (aL 3 (ad bC false (ac 1) (pC (.int 13))))
  (aF (aL 1 (ad aZ false (ac 1) (pC (.int 13))))
  (aF (aL 4 (bY bg))
  (aF (fY (gT (ae false (ac 3) au)) aU
  aV)
  (aG (ac 4))))))))
def aI:List PyData→Option Sl:=b7 1 7 cj
def dm:bZ:=(aF (aL 1 (bY (aj (bI (dC d9) (ac 0)) (aj (bI (dC dD) (ac 0)) (aj (bI (dC d_) (ac 0)) (aj (bI (dC ef) (ac 0)) bg))))))
  (aF (aL 1 (ad bW false (ac 1) (bY (aj (bI (dC em) (ac 0)) (aj (bI (dC ey) (ac 0)) (aj (bI (dC eB) (ac 0)) bg))))))
  (aF (aL 1 (ad bW false (ac 1) (bY (aj (bI (dC dl) (ac 0)) (aj (bI (dC dE) (ac 0)) (aj (bI (dC dF) (ac 0)) bg))))))
  (aF (bv (eL (bn (bX (bI (dC cP) (ac 0)))) (cT (ad i7 false (fe 1) (pC (.int 1)))))
  (aG (pC (.str "other")))
  aO)
  (aF (aL 2 (bY (aj (pC (.str "cord")) (aj (pC (.str "nails")) (aj (pC (.str "rule")) (aj (pC (.str "text")) (aj (pC (.str "move")) (aj (pC (.str "line")) (aj (pC (.str "name")) (aj (pC (.str "number")) (aj (pC (.str "many")) (aj (pC (.str "long")) bg))))))))))))
  (aG (ad dn false (ac 2) (fg 1))))))))
def b9:List PyData→Option Sl:=b7 1 3 dm
def bw:bZ:=(aF (aL 1 (pC (.str " abcdefghijklmnopqrstuvwxyz!\"#$&'()*+,-./0123456789:;<=>?@")))
  (aF (aL 1 (ad bW false (ac 1) (pC (.str "ABCDEFGHIJKLMNOPQRSTUVWXYZ[\\]^_`{|}~\n\t"))))
  (aF (aL 2 (ad aZ false (ac 0) (pC (.int 6))))
  (aF (bv (cT (ad (bR (bP .lt)) false (ad bC false (ac 0) (pC (.int 6))) (pC (.int 2))))
  (aG (ad dn false (ac 1) (ad bC false (ac 2) (bh bq (ae false (ac 1) au)))))
  aO)
  (aF (bv (cT (ad cH false (ad bC false (ac 0) (pC (.int 6))) (pC (.int 2))))
  (aG (ad bW false (ad dn false (ac 1) (ad bC false (ac 2) (bh bq (ae false (ac 1) au)))) (ad dn false (ac 1) (ad bC false (ad aZ false (ac 2) (pC (.int 99))) (bh bq (ae false (ac 1) au))))))
  aO)
  (aF (bv (cT (ad cH false (ad bC false (ac 0) (pC (.int 6))) (pC (.int 3))))
  (aG (ad dn false (bY (aj (ad bC false (ac 2) (ad cN false (pC (.int 10)) (pC (.int 30)))) (aj (pC (.bool true)) (aj (pC (.bool false)) (aj (pC .none) (aj (pC (.str "")) bg)))))) (ad bC false (ac 2) (pC (.int 5)))))
  aO)
  (aF (bv (cT (ad cH false (ad bC false (ac 0) (pC (.int 6))) (pC (.int 4))))
  (aG (bY (aj (ad dn false (pC (.str "abcdefghijklmnopqrstuvwxyz")) (ad bC false (ac 2) (pC (.int 26)))) bg)))
  aO)
  (aG (ad dn false (bY (aj (cc (aj (pC (.str "a")) bg)) (aj sR (aj (cc (aj (pC (.str "a")) (aj (pC (.int 1)) bg))) (aj (ip (((pC (.str "a")),(pC (.int 1)))::[])) (aj (bY bg) (aj (cc bg) bg))))))) (ad bC false (ac 2) (pC (.int 6))))))))))))
def av:List PyData→Option Sl:=b7 1 3 bw
def bL:bZ:=(aF (aL 1 (ad aZ false (ac 0) (pC (.int 12))))
  (aF (aL 2 (ad eJ false (ad bC false (ac 1) (ad eK false (pC (.int 2)) (ad cN false (pC (.int 10)) (pC (.int 30))))) (ad cN false (pC (.int 10)) (pC (.int 30)))))
  (aF (aL 3 (bY (aj (bY (aj (pC (.str "a")) (aj (ac 2) bg))) (aj (cc (aj (pC (.str "a")) (aj (ac 2) (aj (pC (.int 1)) bg)))) (aj (cc (aj (pC (.str "a")) bg)) (aj (cc (aj (pC (.str "A")) (aj (ac 2) bg))) (aj (cc (aj (pC (.str "")) (aj (ac 2) bg))) (aj (cc (aj (pC (.str "ab")) (aj (ac 2) bg))) (aj (cc (aj (ac 2) (aj (pC (.str "a")) bg))) bg)))))))))
  (aF (aL 3 (ad bW false (ac 3) (bY (aj (cc (aj (pC (.str "a")) (aj (pC (.bool true)) bg))) (aj (cc (aj (pC (.str "a")) (aj (pC .none) bg))) (aj (cc (aj (pC (.str "a")) (aj (pC (.str "1")) bg))) (aj (cc (aj (pC .none) (aj (ac 2) bg))) (aj (pC (.str "a1")) bg))))))))
  (aG (ad dn false (ac 3) (ad bC false (ac 0) (pC (.int 12)))))))))
def ay:List PyData→Option Sl:=b7 1 4 bL
def cQ:bZ:=(aF (aL 1 (pC (.str "none")))
  (aF (lV ["NoCord"] 2 (fQ ai (ae false (ac 0) au)) (aL 1 (aw bA (ae false (ac 0) au))) (aG (aw b9 (ae false (ac 2) au))))
  (aG (ac 1))))
def ap:List PyData→Option Sl:=b7 1 3 cQ
def cC:bZ:=(aF (aL 1 (aw av (ae false (ac 0) au)))
  (aF (aL 2 (aw ak (ae false (ac 1) au)))
  (aF (aL 3 (aN (bI (aW .str) (ac 1)) (aN (ad cH false (bh bq (ae false (ac 1) au)) (pC (.int 1))) (ad (oK false) false (ac 1) (pC (.str "abcdefghijklmnopqrstuvwxyz"))))))
  (aF (bv (eL (bn (bX (bI (aW .bool) (ac 2)))) (cT (ad i7 false (ac 2) (ac 3))))
  (aG (pC (.bool false)))
  aO)
  (aF (bv (gs (bn (bX (bI (aW .list) (ac 1)))) (cT (ad i7 false (aw ap (ae false (ac 1) au)) (pC (.str "cord")))))
  (aG (pC (.bool false)))
  aO)
  (aF (aL 4 (aw aI (ae false (ad aZ false (ac 0) (pC (.int 7))) au)))
  (aF (bv (eL (cT (ad (bR (e_ true)) false (aw ap (ae false (ac 4) au)) (pC .none))) (cT (ad i7 false (ac 4) (aw aI (ae false (ad aZ false (ac 0) (pC (.int 7))) au)))))
  (aG (pC (.bool false)))
  aO)
  (aF (aL 5 (dB (ac 4)))
  (aF (dO 5 (ad bC false (ad aZ false (ac 0) (pC (.int 11))) (ad bW false (bh bq (ae false (ac 4) au)) (pC (.int 1)))) (aw ay (ae false (ad aZ false (ac 0) (pC (.int 13))) au)))
  (aF (aL 6 (dB (ac 5)))
  (aG (aN (ad cH false (aw ap (ae false (ac 5) au)) (pC (.str "cord"))) (aN (ad cH false (ac 5) (ac 6)) (ad cH false (aw ap (ae false (fO (ac 4)) au)) (pC (.str "cord"))))))))))))))))
def bT:List PyData→Option Sl:=b7 1 7 cC
def db:j9:=(dk 1)
def dc:bZ:=(bv (bn (bX (aw bT (ae false (ac 1) au))))
  (aG (pC (.bool false)))
  aO)
def iG:bZ:=(aF (fY (fZ (ad bW false (lI false (ac 0) il (im (pC (.int 63)))) (bY (aj (ad bW false (aw b8 (ae false (ac 0) (ae false (pC (.int 0)) au))) (pC (.int 6))) bg)))) db
  dc)
  (aG (ad (bR (e_ false)) false (aw ap (ae false (bY bg) au)) (pC .none))))
def eD:List PyData→Option Sl:=b7 1 2 iG
end Nhk01
namespace Nhk01
open PySem L2 Nh PL
def kz (i:Nat):Stmt:=PySem.Challenge.pw_nailhang_k01_nails_and_cords.main.body.getD i (.Pass ⟨0,0,0,0⟩)
structure XF (K:PySem.W.Frag) (mg:Str→Option Value):Prop where
  c_NoCord:∃C,mg "NoCord"=some (.ref C)∧XT K (.ref C) d9∧XC K mg "NoCord" C
  c_NoNails:∃C,mg "NoNails"=some (.ref C)∧XT K (.ref C) dD
  c_NoRule:∃C,mg "NoRule"=some (.ref C)∧XT K (.ref C) d_
  c_NoText:∃C,mg "NoText"=some (.ref C)∧XT K (.ref C) ef
  c_NoMove:∃C,mg "NoMove"=some (.ref C)∧XT K (.ref C) em
  c_NoLine:∃C,mg "NoLine"=some (.ref C)∧XT K (.ref C) ey
  c_NoName:∃C,mg "NoName"=some (.ref C)∧XT K (.ref C) eB
  c_NoNumber:∃C,mg "NoNumber"=some (.ref C)∧XT K (.ref C) dl
  c_TooMany:∃C,mg "TooMany"=some (.ref C)∧XT K (.ref C) dE
  c_TooLong:∃C,mg "TooLong"=some (.ref C)∧XT K (.ref C) dF
  v_ValueError:mg "ValueError"=none∧XT K (.type "ValueError") cP
  e_HangError:∃C,mg "HangError"=some (.ref C)∧∀n∈[("NoCord":Str)],∀D,PySem.W.nsIn K mainGlobals n=some (some (.ref D))→PySem.W.exmOne K (.ref D) (.ref C)=some true
section
variable {P:Program} {w:World} {K:PySem.W.Frag} {mg:Str→Option Value} {base:Heap}
abbrev cK:Stmt:=kz 13
theorem jf:FnScope ["thing"] ["thing"] (af cK):=⟨rfl,rfl,rfl,by decide+kernel,rfl,by decide+kernel,by decide+kernel⟩
theorem jg (D:Def K mg "is_nail" cK ["thing"]) (B:Bn mg):Own P w K mg base 1 "is_nail" ["thing"] (dh K ak):=by
  delta ak
  refine fJ (g:=be) D jf rfl rfl (by decide) fun f cdv A outer s H E hr=>?_
  delta be
  exact (aC (bi (cV (cY .str (by rfl) (by exact B.isinstance) (aa 0) (by rfl) (by exact B.str) PyProof.Rows.boot_str) (cV (gr hr.units (dA (by rfl) (by exact B.len) (aD (aa 0) aS)) ag) (fF (rW .le .le aE (aa 0) aE))))))
abbrev cq:Stmt:=kz 14
theorem iH:FnScope ["thing"] ["thing"] (af cq):=⟨rfl,rfl,rfl,by decide+kernel,rfl,by decide+kernel,by decide+kernel⟩
theorem iI (D:Def K mg "is_whole" cq ["thing"]) (B:Bn mg):Own P w K mg base 1 "is_whole" ["thing"] (dh K aQ):=by
  delta aQ
  refine fJ (g:=b6) D iH rfl rfl (by decide) fun f cdv A outer s H E hr=>?_
  delta b6
  exact (aC (bi (cV (cY .int (by rfl) (by exact B.isinstance) (aa 0) (by rfl) (by exact B.int) PyProof.Rows.boot_int) (fF (pH (cY .bool (by rfl) (by exact B.isinstance) (aa 0) (by rfl) (by exact B.bool) PyProof.Rows.boot_bool))))))
abbrev cr:Stmt:=kz 15
theorem iJ:FnScope ["thing"] ["thing"] (af cr):=⟨rfl,rfl,rfl,by decide+kernel,rfl,by decide+kernel,by decide+kernel⟩
theorem iK (D:Def K mg "is_piece" cr ["thing"]) (B:Bn mg) (D_is_nail:Own P w K mg base 1 "is_nail" ["thing"] (dh K ak)) (D_is_whole:Own P w K mg base 1 "is_whole" ["thing"] (dh K aQ)):Own P w K mg base 2 "is_piece" ["thing"] (dh K am):=by
  delta am
  refine fJ (g:=bz) D iJ rfl rfl (by decide) fun f cdv A outer s H E hr=>?_
  delta bz
  exact (aC (bi (cV (cY .tuple (by rfl) (by exact B.isinstance) (aa 0) (by rfl) (by exact B.tuple) PyProof.Rows.boot_tuple) (cV (gr hr.units (dA (by rfl) (by exact B.len) (aD (aa 0) aS)) ag) (cV (bJ D_is_nail (hr.mono (by decide)) (by rfl) (aD (c_ (aa 0) ag) aS)) (fF (bJ D_is_whole (hr.mono (by decide)) (by rfl) (aD (c_ (aa 0) ag) aS))))))))
abbrev bK:Stmt:=kz 16
theorem sc_check_cord:FnScope ["thing","piece"] ["thing"] (af bK):=⟨rfl,rfl,rfl,by decide+kernel,rfl,by decide+kernel,by decide+kernel⟩
theorem f_ (D:Def K mg "check_cord" bK ["thing"]) (B:Bn mg) (D_is_piece:Own P w K mg base 2 "is_piece" ["thing"] (dh K am)) (XX:XF K mg):Own P w K mg base 3 "check_cord" ["thing"] (dh K bA):=by
  obtain ⟨C_NoCord,m_NoCord,t_NoCord,z_NoCord⟩:=XX.c_NoCord
  delta bA
  refine fJ (g:=cJ) D sc_check_cord rfl rfl (by decide) fun f cdv A outer s H E hr=>?_
  delta cJ
  exact (ao (cI (cW (cX (cY .list (by rfl) (by exact B.isinstance) (aa 0) (by rfl) (by exact B.list) PyProof.Rows.boot_list)))
  (aC eO)
  bD)
  (aC (i_ PassesOwn.never (by rfl) (ja (aa 0)) (by delta ar;exact (fb 1 sc_check_cord.nd))
  (by delta aA;exact (aC (cI (cW (cX (bJ D_is_piece (hr.mono (by decide)) (by rfl) (aD (aa 1) aS))))
  (aC eO)
  bD))))))
theorem fR (D:Def K mg "check_cord" bK ["thing"]) (B:Bn mg) (D_is_piece:Own P w K mg base 2 "is_piece" ["thing"] (dh K am)) (XX:XF K mg):OwnR P w K mg base 3 "check_cord" ["thing"] (se K ai):=by
  obtain ⟨C_NoCord,m_NoCord,t_NoCord,z_NoCord⟩:=XX.c_NoCord
  delta ai
  refine tP (mk:=true) (al:=true) (r:=aR) D sc_check_cord rfl rfl (by decide) fun f cdv A outer s H E hr=>?_
  delta aR
  exact (sd (dN (oN (cW (cX (cY .list (by rfl) (by exact B.isinstance) (aa 0) (by rfl) (by exact B.list) PyProof.Rows.boot_list))) (dN (iE (by rfl) (by rfl) z_NoCord))))
  (p9 (cI (cW (cX (cY .list (by rfl) (by exact B.isinstance) (aa 0) (by rfl) (by exact B.list) PyProof.Rows.boot_list)))
  (aC eO)
  bD)
  (dN (qd rfl rfl (by rfl) (fun W=>(ja (aa 0))) (fun W=>by delta ar;exact (fb 1 sc_check_cord.nd)) (by delta aA;exact (aC (cI (cW (cX (bJ D_is_piece (hr.mono (by decide)) (by rfl) (aD (aa 1) aS))))
  (aC eO)
  bD))) (fun W=>(dN (oN (cW (cX (bJ D_is_piece (hr.mono (by decide)) (by rfl) (aD (aa 1) aS)))) (dN (iE (by rfl) (by rfl) z_NoCord)))))))))
abbrev de:Stmt:=kz 18
theorem kA:FnScope ["_law_script","_law_k"] ["_law_script","_law_k"] (af de):=⟨rfl,rfl,rfl,by decide+kernel,rfl,by decide+kernel,by decide+kernel⟩
theorem kB (D:Def K mg "_law_at" de ["_law_script","_law_k"]) (B:Bn mg):Own P w K mg base 1 "_law_at" ["_law_script","_law_k"] (dh K b8):=by
  delta b8
  refine fJ (g:=eQ) D kA rfl rfl (by decide) fun f cdv A outer s H E hr=>?_
  delta eQ
  exact (ao (cI (lH .lt (aa 1) (dA (by rfl) (by exact B.len) (aD (aa 0) aS)))
  (aC (bi (c_ (aa 0) (aa 1))))
  bD)
  (aC (bi ag)))
abbrev cL:Stmt:=kz 19
theorem sc_law_mix:FnScope ["_law_cell","_law_k","_law_one"] ["_law_cell","_law_k"] (af cL):=⟨rfl,rfl,rfl,by decide+kernel,rfl,by decide+kernel,by decide+kernel⟩
theorem jh (D:Def K mg "_law_mix" cL ["_law_cell","_law_k"]) (B:Bn mg):Own P w K mg base 1 "_law_mix" ["_law_cell","_law_k"] (dh K cp):=by
  delta cp
  refine fJ (g:=dP) D sc_law_mix rfl rfl (by decide) fun f cdv A outer s H E hr=>?_
  delta dP
  exact (ao (aX 2 sc_law_mix.nd (bo (cm (cm (d5 (bo (aa 0) (d8 ag ag)) (cm ag (d5 ag (aa 1)))) (d5 ag (aa 1))) ag) ag))
  (aC (bi (bo (d5 (aa 2) (cm (cm (bS (aa 2) ag) (d5 ag (aa 1))) ag)) ag))))
abbrev bU:Stmt:=kz 20
theorem sc_law_pieces:FnScope ["_law_cell","_law_rest","_law_nail","_law_many","_law_found","_law_k","_law_value"] ["_law_cell"] (af bU):=⟨rfl,rfl,rfl,by decide+kernel,rfl,by decide+kernel,by decide+kernel⟩
theorem gb (D:Def K mg "_law_pieces" bU ["_law_cell"]) (B:Bn mg) (D_law_mix:Own P w K mg base 1 "_law_mix" ["_law_cell","_law_k"] (dh K cp)):Own P w K mg base 2 "_law_pieces" ["_law_cell"] (dh K aI):=by
  delta aI
  refine fJ (g:=cj) D sc_law_pieces rfl rfl (by decide) fun f cdv A outer s H E hr=>?_
  delta cj
  exact (ao (aX 1 sc_law_pieces.nd (bS (aa 0) ag))
  (ao (cI (jB hr.units (bo (aa 0) ag) ag)
  (ao (aX 2 sc_law_pieces.nd (c_ aE (bo (aa 1) ag)))
  (aC (bi (b5 (aJ (b4 (aJ (aa 2) (aJ (fE (bo (bS (aa 1) ag) (fE (d5 ag (d8 ag ag)) ag)) (fE (d8 ag ag) ag)) aT))) aT)))))
  bD)
  (ao (aX 3 sc_law_pieces.nd (bo (aa 1) ag))
  (ao (aX 1 sc_law_pieces.nd (bS (aa 1) ag))
  (ao (aX 4 sc_law_pieces.nd (b5 aT))
  (ao (i_ PassesOwn.never (by rfl) (kb (by rfl) (by exact B.range) (aD (aa 3) aS)) (by delta aU;exact (fb 5 sc_law_pieces.nd))
  (by delta aV;exact (ao (aX 6 sc_law_pieces.nd (aa 1))
  (ao (cI (lr (jD (lH .lt (pT (by rfl) (by exact B.abs) (aD (aa 0) aS)) (d8 ag ag)) (gQ (rX .lt .lt (pG ag) (aa 1) ag))))
  (aC (aX 6 sc_law_pieces.nd (bJ D_law_mix (hr.mono (by decide)) (by rfl) (aD (aa 0) (aD (aa 5) aS)))))
  bD)
  (ao (nr (j8 4 (b4 (aJ (c_ aE (bo (aa 6) ag)) (aJ (fE (bo (bS (aa 6) ag) ag) ag) aT)))))
  (aC (aX 1 sc_law_pieces.nd (bS (aa 1) ag))))))))
  (aC (bi (aa 4)))))))))
abbrev cu:Stmt:=kz 21
theorem sc_law_word:FnScope ["_law_e","_law_kinds","_law_words"] ["_law_e"] (af cu):=⟨rfl,rfl,rfl,by decide+kernel,rfl,by decide+kernel,by decide+kernel⟩
theorem iL (D:Def K mg "_law_word" cu ["_law_e"]) (B:Bn mg) (XX:XF K mg):OwnH P w K mg base 1 "_law_word" ["_law_e"] (dh K b9):=by
  obtain ⟨C_NoCord,m_NoCord,t_NoCord,z_NoCord⟩:=XX.c_NoCord
  obtain ⟨C_NoNails,m_NoNails,t_NoNails⟩:=XX.c_NoNails
  obtain ⟨C_NoRule,m_NoRule,t_NoRule⟩:=XX.c_NoRule
  obtain ⟨C_NoText,m_NoText,t_NoText⟩:=XX.c_NoText
  obtain ⟨C_NoMove,m_NoMove,t_NoMove⟩:=XX.c_NoMove
  obtain ⟨C_NoLine,m_NoLine,t_NoLine⟩:=XX.c_NoLine
  obtain ⟨C_NoName,m_NoName,t_NoName⟩:=XX.c_NoName
  obtain ⟨C_NoNumber,m_NoNumber,t_NoNumber⟩:=XX.c_NoNumber
  obtain ⟨C_TooMany,m_TooMany,t_TooMany⟩:=XX.c_TooMany
  obtain ⟨C_TooLong,m_TooLong,t_TooLong⟩:=XX.c_TooLong
  obtain ⟨v_ValueError,t_ValueError⟩:=XX.v_ValueError
  delta b9
  refine tQ (g:=dm) D sc_law_word rfl rfl (by decide) fun f cdv A outer s H E hr=>?_
  delta dm
  exact (ao (aX 1 sc_law_word.nd (b5 (aJ (cz (by rfl) (by exact B.isinstance) (aa 0) (by rfl) (by exact m_NoCord) t_NoCord) (aJ (cz (by rfl) (by exact B.isinstance) (aa 0) (by rfl) (by exact m_NoNails) t_NoNails) (aJ (cz (by rfl) (by exact B.isinstance) (aa 0) (by rfl) (by exact m_NoRule) t_NoRule) (aJ (cz (by rfl) (by exact B.isinstance) (aa 0) (by rfl) (by exact m_NoText) t_NoText) aT))))))
  (ao (aX 1 sc_law_word.nd (cm (aa 1) (b5 (aJ (cz (by rfl) (by exact B.isinstance) (aa 0) (by rfl) (by exact m_NoMove) t_NoMove) (aJ (cz (by rfl) (by exact B.isinstance) (aa 0) (by rfl) (by exact m_NoLine) t_NoLine) (aJ (cz (by rfl) (by exact B.isinstance) (aa 0) (by rfl) (by exact m_NoName) t_NoName) aT))))))
  (ao (aX 1 sc_law_word.nd (cm (aa 1) (b5 (aJ (cz (by rfl) (by exact B.isinstance) (aa 0) (by rfl) (by exact m_NoNumber) t_NoNumber) (aJ (cz (by rfl) (by exact B.isinstance) (aa 0) (by rfl) (by exact m_TooMany) t_TooMany) (aJ (cz (by rfl) (by exact B.isinstance) (aa 0) (by rfl) (by exact m_TooLong) t_TooLong) aT))))))
  (ao (cI (lr (jD (cW (cX (nJ (by rfl) (by exact B.isinstance) (aa 0) (by rfl) (by exact v_ValueError) PyProof.Rows.Boot.«ValueError» t_ValueError))) (gQ (jC hr.units (ku 1) ag))))
  (aC (bi aE))
  bD)
  (ao (aX 2 sc_law_word.nd (b5 (aJ aE (aJ aE (aJ aE (aJ aE (aJ aE (aJ aE (aJ aE (aJ aE (aJ aE (aJ aE aT))))))))))))
  (aC (bi (c_ (aa 2) (kw 1)))))))))
abbrev b_:Stmt:=kz 22
theorem sc_law_thing:FnScope ["_law_cell","_law_signs","_law_rest"] ["_law_cell"] (af b_):=⟨rfl,rfl,rfl,by decide+kernel,rfl,by decide+kernel,by decide+kernel⟩
theorem hI (D:Def K mg "_law_thing" b_ ["_law_cell"]) (B:Bn mg):Own P w K mg base 1 "_law_thing" ["_law_cell"] (dh K av):=by
  delta av
  refine fJ (g:=bw) D sc_law_thing rfl rfl (by decide) fun f cdv A outer s H E hr=>?_
  delta bw
  suffices q:∀X:L2.Cx,X.N.Nodup→X.N[0]? =some ("_law_cell":Str)→X.N[1]? =some ("_law_signs":Str)→X.N[2]? =some ("_law_rest":Str)→jk X.env.scope ("_law_cell":Str)→jk X.env.scope ("_law_signs":Str)→jk X.env.scope ("_law_rest":Str)→kH X.env.scope ("_law_signs":Str)→kH X.env.scope ("_law_rest":Str)→(X.fn ("_law_signs":Str)=true∨X.env.scope.names.lookup ("_law_signs":Str)=some .local)→(X.fn ("_law_rest":Str)=true∨X.env.scope.names.lookup ("_law_rest":Str)=some .local)→Gl X "len"→X.mg "len"=none→X.A.units+64 < cLine→iZ X _ _ from q _ sc_law_thing.nd rfl rfl rfl (by first | exact Or.inl rfl | exact Or.inr (Or.inl rfl) | exact Or.inr (Or.inr rfl)) (by first | exact Or.inl rfl | exact Or.inr (Or.inl rfl) | exact Or.inr (Or.inr rfl)) (by first | exact Or.inl rfl | exact Or.inr (Or.inl rfl) | exact Or.inr (Or.inr rfl)) (by first | exact Or.inl rfl | exact Or.inr rfl) (by first | exact Or.inl rfl | exact Or.inr rfl) (by first | exact .inl rfl | exact .inr rfl) (by first | exact .inl rfl | exact .inr rfl) (by rfl) (by exact B.len) hr.units
  intro X nd n0 n1 n2 v0 v1 v2 l1 l2 f1 f2 gl ml hu
  exact (ao (aX (hi:=n1) (hx:=l1) (hf:=f1) 1 nd aE)
  (ao (aX (hi:=n1) (hx:=l1) (hf:=f1) 1 nd (cm (aa 1 n1 v1) aE))
  (ao (aX (hi:=n2) (hx:=l2) (hf:=f2) 2 nd (bS (aa 0 n0 v0) ag))
  (ao (cI (lH .lt (bo (aa 0 n0 v0) ag) ag)
  (aC (bi (c_ (aa 1 n1 v1) (bo (aa 2 n2 v2) (dA gl ml (aD (aa 1 n1 v1) aS))))))
  bD)
  (ao (cI (jB hu (bo (aa 0 n0 v0) ag) ag)
  (aC (bi (cm (c_ (aa 1 n1 v1) (bo (aa 2 n2 v2) (dA gl ml (aD (aa 1 n1 v1) aS)))) (c_ (aa 1 n1 v1) (bo (bS (aa 2 n2 v2) ag) (dA gl ml (aD (aa 1 n1 v1) aS)))))))
  bD)
  (ao (cI (jB hu (bo (aa 0 n0 v0) ag) ag)
  (aC (bi (c_ (b5 (ah (bo (aa 2 n2 v2) (d8 ag ag)) (ah fB (ah fB (ah fD (ah aE aT)))))) (bo (aa 2 n2 v2) ag))))
  bD)
  (ao (cI (jB hu (bo (aa 0 n0 v0) ag) ag)
  (aC (bi (b5 (ah (c_ aE (bo (aa 2 n2 v2) ag)) aT))))
  bD)
  (by
    refine aC ?_
    refine bi (m:=true) ?_
    refine c_ (m1:=true) (m2:=false) ?_ ?_
    · refine b5 (m1:=true) ?_
      refine ah (m1:=false) (m2:=true) ?_ ?_
      · exact b4 (ah aE aT)
      refine ah (m1:=false) (m2:=true) ?_ ?_
      · exact sf
      refine ah (m1:=false) (m2:=true) ?_ ?_
      · exact b4 (ah aE (ah ag aT))
      refine ah (m1:=true) (m2:=false) ?_ ?_
      · exact nw (nv aE ag pZ)
      refine ah (m1:=false) (m2:=false) ?_ ?_
      · exact b5 aT
      refine ah (m1:=false) (m2:=false) ?_ ?_
      · exact b4 aT
      exact aT
    · exact bo (aa 2 n2 v2) ag))))))))
abbrev bt:Stmt:=kz 23
theorem sc_law_odd_piece:FnScope ["_law_cell","_law_rest","_law_number","_law_some"] ["_law_cell"] (af bt):=⟨rfl,rfl,rfl,by decide+kernel,rfl,by decide+kernel,by decide+kernel⟩
theorem eY (D:Def K mg "_law_odd_piece" bt ["_law_cell"]) (B:Bn mg):Own P w K mg base 1 "_law_odd_piece" ["_law_cell"] (dh K ay):=by
  delta ay
  refine fJ (g:=bL) D sc_law_odd_piece rfl rfl (by decide) fun f cdv A outer s H E hr=>?_
  delta bL
  suffices q:∀X:L2.Cx,X.N.Nodup→X.N[0]? =some ("_law_cell":Str)→X.N[1]? =some ("_law_rest":Str)→X.N[2]? =some ("_law_number":Str)→X.N[3]? =some ("_law_some":Str)→jk X.env.scope ("_law_cell":Str)→jk X.env.scope ("_law_rest":Str)→jk X.env.scope ("_law_number":Str)→jk X.env.scope ("_law_some":Str)→kH X.env.scope ("_law_rest":Str)→kH X.env.scope ("_law_number":Str)→kH X.env.scope ("_law_some":Str)→(X.fn ("_law_rest":Str)=true∨X.env.scope.names.lookup ("_law_rest":Str)=some .local)→(X.fn ("_law_number":Str)=true∨X.env.scope.names.lookup ("_law_number":Str)=some .local)→(X.fn ("_law_some":Str)=true∨X.env.scope.names.lookup ("_law_some":Str)=some .local)→iZ X _ _ from q _ sc_law_odd_piece.nd rfl rfl rfl rfl (by first | exact Or.inl rfl | exact Or.inr (Or.inl rfl) | exact Or.inr (Or.inr rfl)) (by first | exact Or.inl rfl | exact Or.inr (Or.inl rfl) | exact Or.inr (Or.inr rfl)) (by first | exact Or.inl rfl | exact Or.inr (Or.inl rfl) | exact Or.inr (Or.inr rfl)) (by first | exact Or.inl rfl | exact Or.inr (Or.inl rfl) | exact Or.inr (Or.inr rfl)) (by first | exact Or.inl rfl | exact Or.inr rfl) (by first | exact Or.inl rfl | exact Or.inr rfl) (by first | exact Or.inl rfl | exact Or.inr rfl) (by first | exact .inl rfl | exact .inr rfl) (by first | exact .inl rfl | exact .inr rfl) (by first | exact .inl rfl | exact .inr rfl)
  intro X nd n0 n1 n2 n3 v0 v1 v2 v3 l1 l2 l3 f1 f2 f3
  exact (ao (aX (hi:=n1) (hx:=l1) (hf:=f1) 1 nd (bS (aa 0 n0 v0) ag))
  (ao (aX (hi:=n2) (hx:=l2) (hf:=f2) 2 nd (fE (bo (aa 1 n1 v1) (d5 ag (d8 ag ag))) (d8 ag ag)))
  (ao (aX (hi:=n3) (hx:=l3) (hf:=f3) 3 nd (b5 (ah (b5 (ah aE (ah (aa 2 n2 v2) aT))) (ah (b4 (ah aE (ah (aa 2 n2 v2) (ah ag aT)))) (ah (b4 (ah aE aT)) (ah (b4 (ah aE (ah (aa 2 n2 v2) aT))) (ah (b4 (ah aE (ah (aa 2 n2 v2) aT))) (ah (b4 (ah aE (ah (aa 2 n2 v2) aT))) (ah (b4 (ah (aa 2 n2 v2) (ah aE aT))) aT)))))))))
  (ao (aX (hi:=n3) (hx:=l3) (hf:=f3) 3 nd (cm (aa 3 n3 v3) (b5 (ah (b4 (ah aE (ah fB aT))) (ah (b4 (ah aE (ah fD aT))) (ah (b4 (ah aE (ah aE aT))) (ah (b4 (ah fD (ah (aa 2 n2 v2) aT))) (ah aE aT))))))))
  (aC (bi (c_ (aa 3 n3 v3) (bo (aa 0 n0 v0) ag))))))))
abbrev cw:Stmt:=kz 24
theorem sc_law_said:FnScope ["_law_thing_here","_law_found","_law_e"] ["_law_thing_here"] (af cw):=⟨rfl,rfl,rfl,by decide+kernel,rfl,by decide+kernel,by decide+kernel⟩
theorem iM (D:Def K mg "_law_said" cw ["_law_thing_here"]) (B:Bn mg) (D_check_cord:Own P w K mg base 3 "check_cord" ["thing"] (dh K bA)) (R_check_cord:OwnR P w K mg base 3 "check_cord" ["thing"] (se K ai)) (D_law_word:OwnH P w K mg base 1 "_law_word" ["_law_e"] (dh K b9)) (XX:XF K mg):Own P w K mg base 4 "_law_said" ["_law_thing_here"] (dh K ap):=by
  obtain ⟨C_HangError,m_HangError,e_HangError⟩:=XX.e_HangError
  delta ap
  refine fJ (g:=cQ) D sc_law_said rfl rfl (by decide) fun f cdv A outer s H E hr=>?_
  delta cQ
  exact (ao (aX 1 sc_law_said.nd aE)
  (ao (nI rfl sc_law_said.nd rfl rfl rfl (by rfl) (by exact m_HangError) e_HangError (aC (aX 1 sc_law_said.nd (bJ D_check_cord (hr.mono (by decide)) (by rfl) (aD (aa 0) aS)))) (fun W=>(dN (qa R_check_cord (hr.mono (by decide)) (by rfl) (aD (aa 0) aS)))) (fun ea=>(aC (bi (nK D_law_word ((Room.mark hr _).mono (by decide)) (by rfl) (aD (aa 2) aS))))))
  (aC (bi (aa 1)))))
abbrev cb:Stmt:=kz 25
theorem sc_law_right:FnScope ["_law_cell","_law_thing_here","_law_found","_law_due","_law_cord","_law_spoiled","_law_kept"] ["_law_cell"] (af cb):=⟨rfl,rfl,rfl,by decide+kernel,rfl,by decide+kernel,by decide+kernel⟩
theorem hJ (D:Def K mg "_law_right" cb ["_law_cell"]) (B:Bn mg) (D_law_thing:Own P w K mg base 1 "_law_thing" ["_law_cell"] (dh K av)) (D_is_nail:Own P w K mg base 1 "is_nail" ["thing"] (dh K ak)) (D_law_said:Own P w K mg base 4 "_law_said" ["_law_thing_here"] (dh K ap)) (D_law_pieces:Own P w K mg base 2 "_law_pieces" ["_law_cell"] (dh K aI)) (D_law_odd_piece:Own P w K mg base 1 "_law_odd_piece" ["_law_cell"] (dh K ay)):Own P w K mg base 5 "_law_right" ["_law_cell"] (dh K bT):=by
  delta bT
  refine fJ (g:=cC) D sc_law_right rfl rfl (by decide) fun f cdv A outer s H E hr=>?_
  delta cC
  exact (ao (aX 1 sc_law_right.nd (bJ D_law_thing (hr.mono (by decide)) (by rfl) (aD (aa 0) aS)))
  (ao (aX 2 sc_law_right.nd (bJ D_is_nail (hr.mono (by decide)) (by rfl) (aD (aa 1) aS)))
  (ao (aX 3 sc_law_right.nd (cV (cY .str (by rfl) (by exact B.isinstance) (aa 1) (by rfl) (by exact B.str) PyProof.Rows.boot_str) (cV (gr hr.units (dA (by rfl) (by exact B.len) (aD (aa 1) aS)) ag) (fF (rZ (aa 1) aE)))))
  (ao (cI (lr (jD (cW (cX (cY .bool (by rfl) (by exact B.isinstance) (aa 2) (by rfl) (by exact B.bool) PyProof.Rows.boot_bool))) (gQ (jC hr.units (aa 2) (aa 3)))))
  (aC (bi fB))
  bD)
  (ao (cI (lr (pL (cW (cX (cY .list (by rfl) (by exact B.isinstance) (aa 1) (by rfl) (by exact B.list) PyProof.Rows.boot_list))) (ng (jC hr.units (bJ D_law_said (hr.mono (by decide)) (by rfl) (aD (aa 1) aS)) aE))))
  (aC (bi fB))
  bD)
  (ao (aX 4 sc_law_right.nd (bJ D_law_pieces (hr.mono (by decide)) (by rfl) (aD (bS (aa 0) ag) aS)))
  (ao (cI (lr (jD (nb (bJ D_law_said (hr.mono (by decide)) (by rfl) (aD (aa 4) aS)) fD) (gQ (jC hr.units (aa 4) (bJ D_law_pieces (hr.mono (by decide)) (by rfl) (aD (bS (aa 0) ag) aS))))))
  (aC (bi fB))
  bD)
  (ao (aX 5 sc_law_right.nd (jE (by rfl) (by exact B.list) (aa 4)))
  (ao (ky 5 (bo (bS (aa 0) ag) (cm (dA (by rfl) (by exact B.len) (aD (aa 4) aS)) ag)) (bJ D_law_odd_piece (hr.mono (by decide)) (by rfl) (aD (bS (aa 0) ag) aS)))
  (ao (aX 6 sc_law_right.nd (jE (by rfl) (by exact B.list) (aa 5)))
  (aC (bi (cV (gr hr.units (bJ D_law_said (hr.mono (by decide)) (by rfl) (aD (aa 5) aS)) aE) (cV (gr hr.units (aa 5) (aa 6)) (fF (gr hr.units (bJ D_law_said (hr.mono (by decide)) (by rfl) (aD (lJ (by rfl) (by exact B.tuple) (aa 4)) aS)) aE))))))))))))))))
abbrev eR:Stmt:=kz 26
theorem sc_law:FnScope ["_law_script","_law_cell"] ["_law_script"] (af eR):=⟨rfl,rfl,rfl,by decide+kernel,rfl,by decide+kernel,by decide+kernel⟩
theorem qf {f0:Addr} {fd:FuncData} (D:Fun K "law" "law" eR f0 fd) (B:Bn mg) (D_law_at:Own P w K mg base 1 "_law_at" ["_law_script","_law_k"] (dh K b8)) (D_law_right:Own P w K mg base 5 "_law_right" ["_law_cell"] (dh K bT)) (D_law_said:Own P w K mg base 4 "_law_said" ["_law_thing_here"] (dh K ap)):FnOk P w K mg base iX 6 f0 fd ["_law_script"] (dh K eD):=by
  delta eD
  refine uw (g:=iG) D sc_law rfl rfl (by decide) fun cdv A outer s H E hr=>?_
  delta iG
  exact (ao (i_ PassesOwn.never (by rfl) (ja (cm (p6 (aa 0) nk (nn ag)) (b5 (aJ (cm (bJ D_law_at (hr.mono (by decide)) (by rfl) (aD (aa 0) (aD ag aS))) ag) aT)))) (by delta db;exact (fb 1 sc_law.nd))
  (by delta dc;exact (aC (cI (cW (cX (bJ D_law_right (hr.mono (by decide)) (by rfl) (aD (aa 1) aS))))
  (aC (bi fB))
  bD))))
  (aC (bi (pK (bJ D_law_said (hr.mono (by decide)) (by rfl) (aD (b5 aT) aS)) fD))))
end
end Nhk01
namespace Nhk01
open PySem L2 Nh PL
theorem kC (ns:List Int) (k:Nat):b8 [.list (ns.map .int), .int k]=some (.sh (.int (ns.getD k 0))):=by
  simp only [b8,b7,List.length_cons,List.length_nil,Nat.zero_add,Nat.reduceAdd,bE,eQ,aF,bv,cT,ad,ac,aq,List.map_cons,List.map_nil,Nat.sub_self,List.replicate,List.cons_append,List.nil_append,List.getElem?_cons_succ,List.getElem?_cons_zero,Sl.isBr,Bool.false_and,Bool.false_eq_true,bh,ae,au,Option.map_some,if_false,bq,bR,look,Sl.val,bP,Cm.i,Cm.s,Option.bind_some,aB,aG,dn,ck,bQ,aO,pC,bx,aP,if_true]
  by_cases h:k < ns.length
  · simp [h,cA,aK]
  · simp [h,List.getElem?_eq_none (Nat.le_of_not_lt h),aK]
theorem ji (cell:Int) (k:Nat) (h:k≤1000000):∃z:Int,cp [.int cell, .int k]=some (.sh (.int z)):=by
  have a1:∀i:Int,cG i (62089911+2*(k:Int))=true:=fun i=>gZ (by omega) (by omega)
  have a2:cG 982451653 (k:Int)=true:=gZ (by omega) (by omega)
  have a3:cG 2 (k:Int)=true:=gZ (by omega) (by omega)
  have a4:∀i j:Int,cG (i % 4294967291) j=true:=fun i j=>g9 (by have:=Int.emod_nonneg i (show (4294967291:Int)≠0 by decide);omega) (by have:=Int.emod_lt_of_pos i (show (0:Int) < 4294967291 by decide);omega)
  have d1:bV 1024=true:=by decide
  simp only [cp,b7,List.length_cons,List.length_nil,Nat.zero_add,Nat.reduceAdd,bE,dP,aF,aL,ad,ac,aq,List.map_cons,List.map_nil,Nat.reduceSub,List.replicate,List.cons_append,List.nil_append,List.getElem?_cons_zero,Sl.isBr,Bool.false_and,Bool.false_eq_true,pC,cN,bR,look,Sl.val,e9,Int.reducePow,Int.reduceNeg,Option.bind_some,if_false,Int.reduceLE,Int.reduceLT,and_self,decide_true,Int.reduceToNat,if_true,Option.map_some,bC,eK,ck,bQ,Bool.not_false,Bool.true_or,Bool.and_true,bW,List.getElem?_cons_succ,a3,a1,a2,PL.settle,frz,frzAll,Nat.reduceLT,List.set_cons_succ,List.set_cons_zero,aG,aZ,d1,a4,bx,aP,aK]
  exact ⟨_,rfl⟩
def az (a:Nat):Prop:=97≤a∧a < 123
abbrev AzOk (c:List Pc):Prop:=∀p∈c,az p.1
theorem lY:AzOk []:=fun p hp=>by cases hp
theorem AzOk.append {c e:List Pc} (h:AzOk c) (k:AzOk e):AzOk (c++e):=fun p hp=>(List.mem_append.mp hp).elim (h p) (k p)
theorem sg (i:Int):az (l4 i):=by
  unfold l4
  match i.toNat with
  | 0=>exact ⟨by decide,by decide⟩
  | 1=>exact ⟨by decide,by decide⟩
  | 2=>exact ⟨by decide,by decide⟩
  | 3=>exact ⟨by decide,by decide⟩
  | n+4=>exact (⟨by decide,by decide⟩:az 97)
theorem dU (cell:Int) (x2 x3:Sl):∀(n lo:Nat) (bO:Int) (c:List Pc) (a b:Sl),lo+n≤1000→c.length+n≤1000→AzOk c→
    ∃(rest':Int) (c':List Pc) (a' b':Sl),dq aU aV (gS lo n) [.sh (.int cell), .sh (.int bO),x2,x3, .ow (c.map cf),a,b]=some ([.sh (.int cell), .sh (.int rest'),x2,x3, .ow (c'.map cf),a',b'], .nx)∧c'.length=c.length+n∧AzOk c'
  | 0,lo,bO,c,a,b,_,_,hN=>⟨bO,c,a,b,rfl,rfl,hN⟩
  | n+1,lo,bO,c,a,b,h1,h2,hN=>by
    obtain ⟨z,ez⟩:=ji cell lo (by omega)
    have dd:bV 4=true∧bV 28=true:=by decide
    have step:∃v:Int,(aU (.int lo) [.sh (.int cell), .sh (.int bO),x2,x3, .ow (c.map cf),a,b]).bind aV=some ([.sh (.int cell), .sh (.int (bO / 28)),x2,x3, .ow ((c++[((l4 (v % 4),v / 4 % 7 - 3):Pc)]).map cf), .sh (.int lo), .sh (.int v)], .nx):=by
      have lb:c.length < 1000000:=by omega
      by_cases c1:(if cell < 0 then -cell else cell) < 1000000000000000000
      · refine ⟨z,?_⟩
        simp only [aU,dk,List.length_cons,List.length_nil,Nat.zero_add,Nat.reduceAdd,Nat.reduceLT,List.set_cons_succ,List.set_cons_zero,if_true,aV,cN,Int.reducePow,Int.reduceNeg,bC,eJ,aZ,Option.bind_some,aF,aL,ac,List.getElem?_cons_succ,List.getElem?_cons_zero,PL.settle,frz,frzAll,bv,eL,cT,ad,bh,ae,Sl.isBr,Bool.false_and,Bool.false_eq_true,au,Option.map_some,if_false,i8,pC,bR,look,Sl.val,e9,Int.reduceLE,Int.reduceLT,and_self,decide_true,Int.reduceToNat,bP,Cm.i,Cm.s,bp,bI,i4,Bool.or_false,aw,aO,gu,di,cc,aj,dn,ck,bQ,eP,bg,aB,c1,ez,gY,dd.1,Nat.reduceLeDiff,List.length_map,lb,dd.2,List.map_append,List.map_cons,cf,List.map_nil]
      · by_cases c2: -28 < bO
        · by_cases c3:bO < 28
          · refine ⟨z,?_⟩
            simp only [aU,dk,List.length_cons,List.length_nil,Nat.zero_add,Nat.reduceAdd,Nat.reduceLT,List.set_cons_succ,List.set_cons_zero,if_true,aV,cN,Int.reducePow,Int.reduceNeg,bC,eJ,aZ,Option.bind_some,aF,aL,ac,List.getElem?_cons_succ,List.getElem?_cons_zero,PL.settle,frz,frzAll,bv,eL,cT,ad,bh,ae,Sl.isBr,Bool.false_and,Bool.false_eq_true,au,Option.map_some,if_false,i8,pC,bR,look,Sl.val,e9,Int.reduceLE,Int.reduceLT,and_self,decide_true,Int.reduceToNat,bP,Cm.i,Cm.s,bp,bI,i4,Bool.or_false,aw,aO,gu,di,cc,aj,dn,ck,bQ,eP,bg,aB,c1,decide_false,c3,c2,ez,gY,dd.1,Nat.reduceLeDiff,List.length_map,lb,dd.2,List.map_append,List.map_cons,cf,List.map_nil]
          · refine ⟨bO,?_⟩
            simp only [aU,dk,List.length_cons,List.length_nil,Nat.zero_add,Nat.reduceAdd,Nat.reduceLT,List.set_cons_succ,List.set_cons_zero,if_true,aV,cN,Int.reducePow,Int.reduceNeg,bC,eJ,aZ,Option.bind_some,aF,aL,ac,List.getElem?_cons_succ,List.getElem?_cons_zero,PL.settle,frz,frzAll,bv,eL,cT,ad,bh,ae,Sl.isBr,Bool.false_and,Bool.false_eq_true,au,Option.map_some,if_false,i8,pC,bR,look,Sl.val,e9,Int.reduceLE,Int.reduceLT,and_self,decide_true,Int.reduceToNat,bP,Cm.i,Cm.s,bp,bI,i4,Bool.or_false,aw,aO,gu,di,cc,aj,dn,ck,bQ,eP,bg,aB,c1,decide_false,c3,c2,ez,gY,dd.1,Nat.reduceLeDiff,List.length_map,lb,dd.2,List.map_append,List.map_cons,cf,List.map_nil]
        · refine ⟨bO,?_⟩
          simp only [aU,dk,List.length_cons,List.length_nil,Nat.zero_add,Nat.reduceAdd,Nat.reduceLT,List.set_cons_succ,List.set_cons_zero,if_true,aV,cN,Int.reducePow,Int.reduceNeg,bC,eJ,aZ,Option.bind_some,aF,aL,ac,List.getElem?_cons_succ,List.getElem?_cons_zero,PL.settle,frz,frzAll,bv,eL,cT,ad,bh,ae,Sl.isBr,Bool.false_and,Bool.false_eq_true,au,Option.map_some,if_false,i8,pC,bR,look,Sl.val,e9,Int.reduceLE,Int.reduceLT,and_self,decide_true,Int.reduceToNat,bP,Cm.i,Cm.s,bp,bI,i4,Bool.or_false,aw,aO,gu,di,cc,aj,dn,ck,bQ,eP,bg,aB,c1,decide_false,c2,ez,gY,dd.1,Nat.reduceLeDiff,List.length_map,lb,dd.2,List.map_append,List.map_cons,cf,List.map_nil]
    obtain ⟨v,e⟩:=step
    obtain ⟨r',c',a',b',e2,l2,n2⟩:=dU cell x2 x3 n (lo+1) (bO / 28) (c++[((l4 (v % 4),v / 4 % 7 - 3):Pc)]) (.sh (.int lo)) (.sh (.int v)) (by omega) (by simp;omega) (hN.append fun p hp=>by rw [List.mem_singleton.mp hp];exact sg _)
    refine ⟨r',c',a',b',?_,by rw [l2];simp;omega,n2⟩
    rw [ke,dq,e]
    exact e2
theorem gc (cell:Int):∃c:List Pc,aI [.int cell]=some (.ow (c.map cf))∧c.length≤12∧AzOk c:=by
  have dd:bV 5=true∧bV 26=true∧bV 13=true:=by decide
  have mm:cG 2 1000000000000000000000000000000=true:=g9 (by decide) (by decide)
  by_cases c5:cell % 5=2
  · refine ⟨[((97+(cell / 5 % 26).toNat,cell / 5 / 26 % (2*10 ^ 30 - 1) - (10 ^ 30 - 1)):Pc)],?_,by simp,fun p hp=>?_⟩
    · simp only [aI,b7,List.length_cons,List.length_nil,Nat.zero_add,bE,cj,aF,aL,ad,ac,aq,List.map_cons,List.map_nil,Nat.reduceSub,List.replicate,List.cons_append,List.nil_append,List.getElem?_cons_zero,Sl.isBr,Bool.false_and,Bool.false_eq_true,pC,aZ,bR,look,Sl.val,e9,Option.bind_some,if_false,dd.1,if_true,Option.map_some,PL.settle,frz,frzAll,Nat.reduceAdd,Nat.reduceLT,List.set_cons_succ,List.set_cons_zero,bv,cT,bC,cH,dn,ck,bQ,lK,aG,bY,aj,cc,cN,Int.reducePow,Int.reduceNeg,Int.reduceLE,Int.reduceLT,and_self,decide_true,Int.reduceToNat,eK,Bool.not_false,Bool.true_or,Bool.and_true,mm,Int.reduceMul,eJ,Int.reduceSub,bg,aO,Nat.reduceLeDiff,fY,gT,ae,au,c5,bj,List.getElem?_cons_succ,r_,dd.2.1,bx,aP,a_,aK,cf]
    · rw [List.mem_singleton.mp hp]
      have:=Int.emod_lt_of_pos (cell / 5) (show (0:Int) < 26 by decide)
      have m0:=Int.emod_nonneg (cell / 5) (show (26:Int)≠0 by decide)
      refine ⟨?_,?_⟩
      · show 97≤97+(cell / 5 % 26).toNat
        omega
      · show 97+(cell / 5 % 26).toNat < 123
        omega
  · have m0:=Int.emod_nonneg (cell / 5) (show (13:Int)≠0 by decide)
    have m1:=Int.emod_lt_of_pos (cell / 5) (show (0:Int) < 13 by decide)
    obtain ⟨r',c',a',b',e,l,n⟩:=dU cell .no (.sh (.int (cell / 5 % 13))) (cell / 5 % 13).toNat 0 (cell / 5 / 13) [] .no .no (by omega) (by simp;omega) lY
    refine ⟨c',?_,by rw [l];simp;omega,n⟩
    have hb: -1000000≤cell / 5 % 13∧cell / 5 % 13≤1000000:=by omega
    simp only [List.map_nil,Int.natCast_zero] at e
    simp only [aI,b7,List.length_cons,List.length_nil,Nat.zero_add,bE,cj,aF,aL,ad,ac,aq,List.map_cons,List.map_nil,Nat.reduceSub,List.replicate,List.cons_append,List.nil_append,List.getElem?_cons_zero,Sl.isBr,Bool.false_and,Bool.false_eq_true,pC,aZ,bR,look,Sl.val,e9,Option.bind_some,if_false,dd.1,if_true,Option.map_some,PL.settle,frz,frzAll,Nat.reduceAdd,Nat.reduceLT,List.set_cons_succ,List.set_cons_zero,bv,cT,bC,cH,dn,ck,bQ,aG,bY,aj,cc,cN,eK,Bool.not_false,Bool.true_or,Bool.and_true,eJ,bg,aO,Nat.reduceLeDiff,fY,gT,ae,au,Int.reduceLT,decide_true,bj,c5,decide_false,List.getElem?_cons_succ,dd.2.2,aB,hb,and_self,e,bx,aP,iv]
theorem nR (w:List Nat) (a:Nat):(Builtin.Str.occurrences ⟨w.toArray⟩ ⟨#[a]⟩ 0 (⟨w.toArray⟩:Str).length 1).isEmpty= !decide (a∈w):=by
  have h:=PySem.StrLaws.found_one ⟨w.toArray⟩ a
  rw [List.toList_toArray] at h
  rw [←h,Bool.not_not]
theorem nS {a:Nat} (h:az a):decide ([a] < (Str.ofString "a").cps.toList)=false:=by
  have e:(Str.ofString "a").cps.toList=[97]:=by decide+kernel
  rw [e]
  refine decide_eq_false fun k=>?_
  have:a < 97:=by
    cases k with
    | rel k=>exact k
    | cons k=>cases k
  exact absurd this (Nat.not_lt.mpr h.1)
theorem nT {a:Nat} (h:az a):decide ((Str.ofString "z").cps.toList < [a])=false:=by
  have e:(Str.ofString "z").cps.toList=[122]:=by decide+kernel
  rw [e]
  refine decide_eq_false fun k=>?_
  have:122 < a:=by
    cases k with
    | rel k=>exact k
    | cons k=>cases k
  exact absurd this (Nat.not_lt.mpr (Nat.le_of_lt_succ h.2))
theorem eF {a:Nat} (h:az a):ak [.str ⟨#[a]⟩]=some (.sh (.bool true)):=by
  have l:(⟨#[a]⟩:Str).length=1:=rfl
  have t:(#[a]:Array Nat).toList=[a]:=rfl
  have lo:=nS h
  have hi:=nT h
  simp only [ak,b7,List.length_cons,List.length_nil,Nat.zero_add,bE,be,aG,aN,bI,ac,aq,List.map_cons,List.map_nil,Nat.sub_self,List.replicate,List.cons_append,List.nil_append,List.getElem?_cons_zero,look,Sl.val,aW,Ty.is,cR,Option.bind_some,Option.map_some,ad,bh,ae,Sl.isBr,Bool.false_and,Bool.false_eq_true,au,if_false,bq,pC,cH,bR,bp,Bool.or_false,bP,Cm.i,Cm.s,aB,l,Nat.reduceLeDiff,Int.cast_ofNat_Int,if_true,bj,decide_true,hi,Bool.not_false,lo,bx,aP,aK]
theorem lZ {a:Nat} (h:a < 97):decide ([a] < (Str.ofString "a").cps.toList)=true:=by
  have e:(Str.ofString "a").cps.toList=[97]:=by decide+kernel
  rw [e]
  exact decide_eq_true (List.Lex.rel h)
theorem l0 {a:Nat} (h:97≤a):decide ([a] < (Str.ofString "a").cps.toList)=false:=by
  have e:(Str.ofString "a").cps.toList=[97]:=by decide+kernel
  rw [e]
  refine decide_eq_false fun k=>?_
  have:a < 97:=by
    cases k with
    | rel k=>exact k
    | cons k=>cases k
  omega
theorem l_ {a:Nat} (h:122 < a):decide ((Str.ofString "z").cps.toList < [a])=true:=by
  have e:(Str.ofString "z").cps.toList=[122]:=by decide+kernel
  rw [e]
  exact decide_eq_true (List.Lex.rel h)
theorem dW {a:Nat} (h:¬az a):ak [.str ⟨#[a]⟩]=some (.sh (.bool false)):=by
  have l:(⟨#[a]⟩:Str).length=1:=rfl
  have t:(#[a]:Array Nat).toList=[a]:=rfl
  by_cases k:a < 97
  · have lo:=lZ k
    simp only [ak,b7,List.length_cons,List.length_nil,Nat.zero_add,bE,be,aG,aN,bI,ac,aq,List.map_cons,List.map_nil,Nat.sub_self,List.replicate,List.cons_append,List.nil_append,List.getElem?_cons_zero,look,Sl.val,aW,Ty.is,cR,Option.bind_some,Option.map_some,ad,bh,ae,Sl.isBr,Bool.false_and,Bool.false_eq_true,au,if_false,bq,pC,cH,bR,bp,Bool.or_false,bP,Cm.i,Cm.s,aB,l,Nat.reduceLeDiff,Int.cast_ofNat_Int,if_true,bj,decide_true,lo,Bool.not_true,bx,aP,aK]
  · have lo:=l0 (show 97≤a by omega)
    have hi:=l_ (show 122 < a by unfold az at h;omega)
    simp only [ak,b7,List.length_cons,List.length_nil,Nat.zero_add,bE,be,aG,aN,bI,ac,aq,List.map_cons,List.map_nil,Nat.sub_self,List.replicate,List.cons_append,List.nil_append,List.getElem?_cons_zero,look,Sl.val,aW,Ty.is,cR,Option.bind_some,Option.map_some,ad,bh,ae,Sl.isBr,Bool.false_and,Bool.false_eq_true,au,if_false,bq,pC,cH,bR,bp,Bool.or_false,bP,Cm.i,Cm.s,aB,l,Nat.reduceLeDiff,Int.cast_ofNat_Int,if_true,bj,decide_true,hi,Bool.not_true,lo,Bool.not_false,bx,aP,aK]
theorem jj (w:Str) (h:¬((w.length:Int)=1)) (l:w.length≤1000000):ak [.str w]=some (.sh (.bool false)):=by
  simp only [ak,b7,List.length_cons,List.length_nil,Nat.zero_add,bE,be,aG,aN,bI,ac,aq,List.map_cons,List.map_nil,Nat.sub_self,List.replicate,List.cons_append,List.nil_append,List.getElem?_cons_zero,look,Sl.val,aW,Ty.is,cR,Option.bind_some,Option.map_some,ad,bh,ae,Sl.isBr,Bool.false_and,Bool.false_eq_true,au,if_false,bq,pC,cH,bR,bp,Bool.or_false,bP,Cm.i,Cm.s,aB,l,if_true,bj,h,decide_false,bx,aP,aK]
theorem ma (z:Int):ak [.int z]=some (.sh (.bool false)):=by simp only [ak,b7,List.length_cons,List.length_nil,Nat.zero_add,bE,be,aG,aN,bI,ac,aq,List.map_cons,List.map_nil,Nat.sub_self,List.replicate,List.cons_append,List.nil_append,List.getElem?_cons_zero,look,Sl.val,aW,Ty.is,cR,Option.bind_some,Option.map_some,ad,bh,ae,Sl.isBr,Bool.false_and,Bool.false_eq_true,au,if_false,bq,pC,cH,bR,bp,Bool.or_false,bP,Cm.i,Cm.s,bx,aP,aK,if_true]
theorem nU (z:Bool):ak [.bool z]=some (.sh (.bool false)):=by simp only [ak,b7,List.length_cons,List.length_nil,Nat.zero_add,bE,be,aG,aN,bI,ac,aq,List.map_cons,List.map_nil,Nat.sub_self,List.replicate,List.cons_append,List.nil_append,List.getElem?_cons_zero,look,Sl.val,aW,Ty.is,cR,Option.bind_some,Option.map_some,ad,bh,ae,Sl.isBr,Bool.false_and,Bool.false_eq_true,au,if_false,bq,pC,cH,bR,bp,Bool.or_false,bP,Cm.i,Cm.s,bx,aP,aK,if_true]
theorem jL:ak [.none]=some (.sh (.bool false)):=by simp only [ak,b7,List.length_cons,List.length_nil,Nat.zero_add,bE,be,aG,aN,bI,ac,aq,List.map_cons,List.map_nil,Nat.sub_self,List.replicate,List.cons_append,List.nil_append,List.getElem?_cons_zero,look,Sl.val,aW,Ty.is,cR,Option.bind_some,Option.map_some,ad,bh,ae,Sl.isBr,Bool.false_and,Bool.false_eq_true,au,if_false,bq,pC,cH,bR,bp,Bool.or_false,bP,Cm.i,Cm.s,bx,aP,aK,if_true]
theorem jM (z:List PyData):ak [.list z]=some (.sh (.bool false)):=by simp only [ak,b7,List.length_cons,List.length_nil,Nat.zero_add,bE,be,aG,aN,bI,ac,aq,List.map_cons,List.map_nil,Nat.sub_self,List.replicate,List.cons_append,List.nil_append,List.getElem?_cons_zero,look,Sl.val,aW,Ty.is,cR,Option.bind_some,Option.map_some,ad,bh,ae,Sl.isBr,Bool.false_and,Bool.false_eq_true,au,if_false,bq,pC,cH,bR,bp,Bool.or_false,bP,Cm.i,Cm.s,bx,aP,aK,if_true]
theorem qg (z:List PyData):ak [.tuple z]=some (.sh (.bool false)):=by simp only [ak,b7,List.length_cons,List.length_nil,Nat.zero_add,bE,be,aG,aN,bI,ac,aq,List.map_cons,List.map_nil,Nat.sub_self,List.replicate,List.cons_append,List.nil_append,List.getElem?_cons_zero,look,Sl.val,aW,Ty.is,cR,Option.bind_some,Option.map_some,ad,bh,ae,Sl.isBr,Bool.false_and,Bool.false_eq_true,au,if_false,bq,pC,cH,bR,bp,Bool.or_false,bP,Cm.i,Cm.s,bx,aP,aK,if_true]
theorem si:ak [.dict []]=some (.sh (.bool false)):=by simp only [ak,b7,List.length_cons,List.length_nil,Nat.zero_add,bE,be,aG,aN,bI,ac,aq,List.map_cons,List.map_nil,Nat.sub_self,List.replicate,List.cons_append,List.nil_append,List.getElem?_cons_zero,look,Sl.val,aW,Ty.is,cR,Option.bind_some,Option.map_some,ad,bh,ae,Sl.isBr,Bool.false_and,Bool.false_eq_true,au,if_false,bq,pC,cH,bR,bp,Bool.or_false,bP,Cm.i,Cm.s,bx,aP,aK,if_true]
theorem sj:ak [.dict [(.str "a", .int 1)]]=some (.sh (.bool false)):=by simp only [ak,b7,List.length_cons,List.length_nil,Nat.zero_add,bE,be,aG,aN,bI,ac,aq,List.map_cons,List.map_nil,Nat.sub_self,List.replicate,List.cons_append,List.nil_append,List.getElem?_cons_zero,look,Sl.val,aW,Ty.is,cR,Option.bind_some,Option.map_some,ad,bh,ae,Sl.isBr,Bool.false_and,Bool.false_eq_true,au,if_false,bq,pC,cH,bR,bp,Bool.or_false,bP,Cm.i,Cm.s,bx,aP,aK,if_true]
theorem qh (z:Int):aQ [.int z]=some (.sh (.bool true)):=by simp only [aQ,b7,List.length_cons,List.length_nil,Nat.zero_add,bE,b6,aG,aN,bI,ac,aq,List.map_cons,List.map_nil,Nat.sub_self,List.replicate,List.cons_append,List.nil_append,List.getElem?_cons_zero,look,Sl.val,aW,Ty.is,cR,Option.bind_some,Option.map_some,i5,Bool.not_false,bx,aP,aK,if_true]
theorem nV (z:Bool):aQ [.bool z]=some (.sh (.bool false)):=by simp only [aQ,b7,List.length_cons,List.length_nil,Nat.zero_add,bE,b6,aG,aN,bI,ac,aq,List.map_cons,List.map_nil,Nat.sub_self,List.replicate,List.cons_append,List.nil_append,List.getElem?_cons_zero,look,Sl.val,aW,Ty.is,cR,Option.bind_some,Option.map_some,i5,Bool.not_true,bx,aP,aK,if_true]
theorem nW:aQ [.none]=some (.sh (.bool false)):=by simp only [aQ,b7,List.length_cons,List.length_nil,Nat.zero_add,bE,b6,aG,aN,bI,ac,aq,List.map_cons,List.map_nil,Nat.sub_self,List.replicate,List.cons_append,List.nil_append,List.getElem?_cons_zero,look,Sl.val,aW,Ty.is,cR,Option.bind_some,Option.map_some,i5,bx,aP,aK,if_true]
theorem qi (z:Str):aQ [.str z]=some (.sh (.bool false)):=by simp only [aQ,b7,List.length_cons,List.length_nil,Nat.zero_add,bE,b6,aG,aN,bI,ac,aq,List.map_cons,List.map_nil,Nat.sub_self,List.replicate,List.cons_append,List.nil_append,List.getElem?_cons_zero,look,Sl.val,aW,Ty.is,cR,Option.bind_some,Option.map_some,i5,bx,aP,aK,if_true]
theorem md {a:Nat} (h:az a) (z:Int):am [.tuple [.str ⟨#[a]⟩, .int z]]=some (.sh (.bool true)):=by
  simp only [am,b7,List.length_cons,List.length_nil,Nat.zero_add,bE,bz,aG,aN,bI,ac,aq,List.map_cons,List.map_nil,Nat.sub_self,List.replicate,List.cons_append,List.nil_append,List.getElem?_cons_zero,look,Sl.val,aW,Ty.is,cR,Option.bind_some,Option.map_some,ad,bh,ae,Sl.isBr,Bool.false_and,Bool.false_eq_true,au,if_false,bq,pC,cH,bR,aw,dn,ck,bQ,aB,Nat.reduceAdd,Int.cast_ofNat_Int,bj,decide_true,jG,eF h,oI,qh,bx,aP,aK,if_true]
theorem nX (z:List PyData):am [.list z]=some (.sh (.bool false)):=by simp only [am,b7,List.length_cons,List.length_nil,Nat.zero_add,bE,bz,aG,aN,bI,ac,aq,List.map_cons,List.map_nil,Nat.sub_self,List.replicate,List.cons_append,List.nil_append,List.getElem?_cons_zero,look,Sl.val,aW,Ty.is,cR,Option.bind_some,Option.map_some,ad,bh,ae,Sl.isBr,Bool.false_and,Bool.false_eq_true,au,if_false,bq,pC,cH,bR,aw,dn,ck,bQ,bx,aP,aK,if_true]
theorem qj (z:Str):am [.str z]=some (.sh (.bool false)):=by simp only [am,b7,List.length_cons,List.length_nil,Nat.zero_add,bE,bz,aG,aN,bI,ac,aq,List.map_cons,List.map_nil,Nat.sub_self,List.replicate,List.cons_append,List.nil_append,List.getElem?_cons_zero,look,Sl.val,aW,Ty.is,cR,Option.bind_some,Option.map_some,ad,bh,ae,Sl.isBr,Bool.false_and,Bool.false_eq_true,au,if_false,bq,pC,cH,bR,aw,dn,ck,bQ,bx,aP,aK,if_true]
theorem qk (d:PyData):am [.tuple [d]]=some (.sh (.bool false)):=by simp only [am,b7,List.length_cons,List.length_nil,Nat.zero_add,bE,bz,aG,aN,bI,ac,aq,List.map_cons,List.map_nil,Nat.sub_self,List.replicate,List.cons_append,List.nil_append,List.getElem?_cons_zero,look,Sl.val,aW,Ty.is,cR,Option.bind_some,Option.map_some,ad,bh,ae,Sl.isBr,Bool.false_and,Bool.false_eq_true,au,if_false,bq,pC,cH,bR,aw,dn,ck,bQ,aB,Int.cast_ofNat_Int,bj,Int.reduceEq,decide_false,bx,aP,aK,if_true]
theorem me (d e f:PyData):am [.tuple [d,e,f]]=some (.sh (.bool false)):=by simp only [am,b7,List.length_cons,List.length_nil,Nat.zero_add,bE,bz,aG,aN,bI,ac,aq,List.map_cons,List.map_nil,Nat.sub_self,List.replicate,List.cons_append,List.nil_append,List.getElem?_cons_zero,look,Sl.val,aW,Ty.is,cR,Option.bind_some,Option.map_some,ad,bh,ae,Sl.isBr,Bool.false_and,Bool.false_eq_true,au,if_false,bq,pC,cH,bR,aw,dn,ck,bQ,aB,Nat.reduceAdd,Int.cast_ofNat_Int,bj,Int.reduceEq,decide_false,bx,aP,aK,if_true]
theorem eS (d e:PyData) (hd:aK d=true) (h:ak [d]=some (.sh (.bool false))):am [.tuple [d,e]]=some (.sh (.bool false)):=by simp only [am,b7,List.length_cons,List.length_nil,Nat.zero_add,bE,bz,aG,aN,bI,ac,aq,List.map_cons,List.map_nil,Nat.sub_self,List.replicate,List.cons_append,List.nil_append,List.getElem?_cons_zero,look,Sl.val,aW,Ty.is,cR,Option.bind_some,Option.map_some,ad,bh,ae,Sl.isBr,Bool.false_and,Bool.false_eq_true,au,if_false,bq,pC,cH,bR,aw,dn,ck,bQ,aB,Nat.reduceAdd,Int.cast_ofNat_Int,bj,decide_true,jG,h,bx,aP,aK,if_true]
theorem mf {a:Nat} (h:az a) (e:PyData) (hd:aK e=true) (k:aQ [e]=some (.sh (.bool false))):am [.tuple [.str ⟨#[a]⟩,e]]=some (.sh (.bool false)):=by simp only [am,b7,List.length_cons,List.length_nil,Nat.zero_add,bE,bz,aG,aN,bI,ac,aq,List.map_cons,List.map_nil,Nat.sub_self,List.replicate,List.cons_append,List.nil_append,List.getElem?_cons_zero,look,Sl.val,aW,Ty.is,cR,Option.bind_some,Option.map_some,ad,bh,ae,Sl.isBr,Bool.false_and,Bool.false_eq_true,au,if_false,bq,pC,cH,bR,aw,dn,ck,bQ,aB,Nat.reduceAdd,Int.cast_ofNat_Int,bj,decide_true,jG,eF h,oI,k,bx,aP,aK,if_true]
theorem sk:List.lookup ("NoCord":Str) [(("NoCord":Str),false)]=some false:=by decide+kernel
theorem ql:List.lookup ("NoCord":Str) [(("NoCord":Str),true)]=some true:=by decide+kernel
theorem sm:(List.countP id [true,false,false,false,false,false,false,false,false,false]:Nat)=1:=by decide
theorem sq:List.findIdx id [true,false,false,false,false,false,false,false,false,false]=0:=by decide
theorem iN:b9 [kn "NoCord"]=some (.sh (.str "cord")):=by
  have d1:(0:Nat) < 10:=by decide
  simp only [b9,b7,kn,List.length_cons,List.length_nil,Nat.zero_add,bE,dm,aF,aL,bY,aj,bI,ac,aq,List.map_cons,List.map_nil,Nat.reduceSub,List.replicate,List.cons_append,List.nil_append,List.getElem?_cons_zero,look,Sl.val,dC,d9,Option.bind_some,ql,Option.map_some,frz,dD,d_,ef,bg,sk,Nat.reduceAdd,Nat.reduceLeDiff,if_true,PL.settle,frzAll,Nat.reduceLT,List.set_cons_succ,List.set_cons_zero,ad,Sl.isBr,Bool.false_and,Bool.false_eq_true,em,ey,eB,bW,ck,bQ,if_false,dl,dE,dF,bv,eL,bn,bX,cP,cT,fe,pC,i7,bR,aG,aO,fg,dn,List.getElem?_cons_succ,Option.any_some,Bool.not_false,Bool.true_or,Bool.and_true,decide_true,cE,Bool.not_true,dM,sm,Int.cast_ofNat_Int,bj,sq,and_self,jG,bx,aP,aK]
theorem bB (d:PyData) (e:ai [d]=some ("NoCord":Str)):ap [d]=some (.sh (.str "cord")):=by
  have r:fQ ai (ae false (ac 0) au) [.sh d, .sh (.str "none"), .no]=some (("NoCord":Str),([.sh d, .sh (.str "none"), .no]:List Sl)):=by
    simp only [fQ,ae,ac,List.getElem?_cons_zero,Sl.isBr,Bool.false_and,Bool.false_eq_true,au,Option.map_some,if_false,Option.bind_some,aB,look,Sl.val,e]
  have o:=iN
  simp only [kn] at o
  simp only [ap,b7,List.length_cons,List.length_nil,Nat.zero_add,bE,cQ,aF,aL,pC,aq,List.map_cons,List.map_nil,Nat.reduceSub,List.replicate,List.cons_append,List.nil_append,PL.settle,frz,frzAll,Option.bind_some,Nat.reduceAdd,Nat.reduceLT,List.set_cons_succ,List.set_cons_zero,if_true,lV,aw,ae,ac,Sl.isBr,Bool.false_and,Bool.false_eq_true,au,Option.map_some,if_false,List.mem_cons,List.not_mem_nil,or_false,aG,kn,r,true_and,List.getElem?_cons_succ,List.getElem?_cons_zero,aB,look,Sl.val,o,bx,aP,aK]
theorem iO (d:PyData) (e:ai [d]=none) (k:bA [d]=some (.sh .none)):ap [d]=some (.sh .none):=by
  have r:fQ ai (ae false (ac 0) au) [.sh d, .sh (.str "none"), .no]=none:=by
    simp only [fQ,ae,ac,List.getElem?_cons_zero,Sl.isBr,Bool.false_and,Bool.false_eq_true,au,Option.map_some,if_false,Option.bind_some,aB,look,Sl.val,e,Option.map_none]
  simp only [ap,b7,List.length_cons,List.length_nil,Nat.zero_add,bE,cQ,aF,aL,pC,aq,List.map_cons,List.map_nil,Nat.reduceSub,List.replicate,List.cons_append,List.nil_append,PL.settle,frz,frzAll,Option.bind_some,Nat.reduceAdd,Nat.reduceLT,List.set_cons_succ,List.set_cons_zero,if_true,lV,aw,ae,ac,Sl.isBr,Bool.false_and,Bool.false_eq_true,au,Option.map_some,if_false,aG,r,List.getElem?_cons_zero,aB,look,Sl.val,k,List.getElem?_cons_succ,bx,aP,aK]
theorem nY:ai [.none]=some ("NoCord":Str):=by simp only [ai,kl,List.length_cons,List.length_nil,Nat.zero_add,aR,kG,iQ,bn,bX,bI,ac,aq,List.map_cons,List.map_nil,Nat.reduceSub,List.replicate,List.cons_append,List.nil_append,List.getElem?_cons_zero,look,Sl.val,aW,Ty.is,cR,Option.bind_some,Option.map_some,cE,Bool.not_false,dt,if_true]
theorem qm (z:Int):ai [.int z]=some ("NoCord":Str):=by simp only [ai,kl,List.length_cons,List.length_nil,Nat.zero_add,aR,kG,iQ,bn,bX,bI,ac,aq,List.map_cons,List.map_nil,Nat.reduceSub,List.replicate,List.cons_append,List.nil_append,List.getElem?_cons_zero,look,Sl.val,aW,Ty.is,cR,Option.bind_some,Option.map_some,cE,Bool.not_false,dt,if_true]
theorem nZ (z:Bool):ai [.bool z]=some ("NoCord":Str):=by simp only [ai,kl,List.length_cons,List.length_nil,Nat.zero_add,aR,kG,iQ,bn,bX,bI,ac,aq,List.map_cons,List.map_nil,Nat.reduceSub,List.replicate,List.cons_append,List.nil_append,List.getElem?_cons_zero,look,Sl.val,aW,Ty.is,cR,Option.bind_some,Option.map_some,cE,Bool.not_false,dt,if_true]
theorem mh (z:Str):ai [.str z]=some ("NoCord":Str):=by simp only [ai,kl,List.length_cons,List.length_nil,Nat.zero_add,aR,kG,iQ,bn,bX,bI,ac,aq,List.map_cons,List.map_nil,Nat.reduceSub,List.replicate,List.cons_append,List.nil_append,List.getElem?_cons_zero,look,Sl.val,aW,Ty.is,cR,Option.bind_some,Option.map_some,cE,Bool.not_false,dt,if_true]
theorem mi (z:List PyData):ai [.tuple z]=some ("NoCord":Str):=by simp only [ai,kl,List.length_cons,List.length_nil,Nat.zero_add,aR,kG,iQ,bn,bX,bI,ac,aq,List.map_cons,List.map_nil,Nat.reduceSub,List.replicate,List.cons_append,List.nil_append,List.getElem?_cons_zero,look,Sl.val,aW,Ty.is,cR,Option.bind_some,Option.map_some,cE,Bool.not_false,dt,if_true]
theorem sr:ai [.dict []]=some ("NoCord":Str):=by simp only [ai,kl,List.length_cons,List.length_nil,Nat.zero_add,aR,kG,iQ,bn,bX,bI,ac,aq,List.map_cons,List.map_nil,Nat.reduceSub,List.replicate,List.cons_append,List.nil_append,List.getElem?_cons_zero,look,Sl.val,aW,Ty.is,cR,Option.bind_some,Option.map_some,cE,Bool.not_false,dt,if_true]
theorem su:ai [.dict [(.str "a", .int 1)]]=some ("NoCord":Str):=by simp only [ai,kl,List.length_cons,List.length_nil,Nat.zero_add,aR,kG,iQ,bn,bX,bI,ac,aq,List.map_cons,List.map_nil,Nat.reduceSub,List.replicate,List.cons_append,List.nil_append,List.getElem?_cons_zero,look,Sl.val,aW,Ty.is,cR,Option.bind_some,Option.map_some,cE,Bool.not_false,dt,if_true]
abbrev mw:fP:=iQ (bn (bX (aw am (ae false (ac 1) au)))) (dt "NoCord")
theorem sw (x0 a:Sl) (d:PyData) (n:am [d]=some (.sh (.bool true))) (ds:List PyData):da ar aA mw (d::ds) [x0,a]=da ar aA mw ds [x0, .sh d]:=by
  have e:ar d [x0,a]=some [x0, .sh d]:=rfl
  rw [da]
  show (ar d [x0,a]).bind _=_
  rw [e,Option.bind_some]
  simp only [mw,iQ,bn,bX,aw,ae,ac,List.getElem?_cons_succ,List.getElem?_cons_zero,Sl.isBr,Bool.false_and,Bool.false_eq_true,au,Option.map_some,if_false,Option.bind_some,aB,look,Sl.val,n,cE,Bool.not_true,aA,bv,aO]
theorem mj (x0 a:Sl) (d:PyData) (n:am [d]=some (.sh (.bool false))) (ds:List PyData):da ar aA mw (d::ds) [x0,a]=some (("NoCord":Str),([x0, .sh d]:List Sl)):=by
  have e:ar d [x0,a]=some [x0, .sh d]:=rfl
  rw [da]
  show (ar d [x0,a]).bind _=_
  rw [e,Option.bind_some]
  simp only [mw,iQ,bn,bX,aw,ae,ac,List.getElem?_cons_succ,List.getElem?_cons_zero,Sl.isBr,Bool.false_and,Bool.false_eq_true,au,Option.map_some,if_false,Option.bind_some,aB,look,Sl.val,n,cE,Bool.not_false,dt]
theorem oO (x0:Sl) (ds:List PyData):∀(c:List Pc) (a:Sl),AzOk c→∃a',da ar aA mw (c.map cf++ds) [x0,a]=da ar aA mw ds [x0,a']:=by
  intro c
  induction c with
  | nil=>exact fun a _=>⟨a,rfl⟩
  | cons p c ih=>
    intro a h
    obtain ⟨a',k⟩:=ih (.sh (cf p)) fun z hz=>h z (List.mem_cons_of_mem _ hz)
    refine ⟨a',?_⟩
    rw [List.map_cons,List.cons_append,sw x0 a (cf p) (md (h p (List.mem_cons_self ..)) p.2)]
    exact k
theorem sy (x0 a:Sl) (d:PyData) (n:am [d]=some (.sh (.bool true))):(ar d [x0,a]).bind aA=some ([x0, .sh d], .nx):=by
  have e:ar d [x0,a]=some [x0, .sh d]:=rfl
  rw [e,Option.bind_some]
  simp only [aA,bv,bn,bX,aw,ae,ac,List.getElem?_cons_succ,List.getElem?_cons_zero,Sl.isBr,Bool.false_and,Bool.false_eq_true,au,Option.map_some,if_false,Option.bind_some,aB,look,Sl.val,n,cE,Bool.not_true,aO]
theorem sA (x0:Sl):∀(c:List Pc) (a:Sl),AzOk c→∃a',dq ar aA (c.map cf) [x0,a]=some ([x0,a'], .nx):=by
  intro c
  induction c with
  | nil=>exact fun a _=>⟨a,rfl⟩
  | cons p c ih=>
    intro a h
    obtain ⟨a',k⟩:=ih (.sh (cf p)) fun z hz=>h z (List.mem_cons_of_mem _ hz)
    refine ⟨a',?_⟩
    rw [List.map_cons,dq,sy x0 a (cf p) (md (h p (List.mem_cons_self ..)) p.2)]
    exact k
theorem qo {c:List Pc} (h:AzOk c):ai [.list (c.map cf)]=none:=by
  obtain ⟨a,e⟩:=oO (.sh (.list (c.map cf))) [] c .no h
  rw [List.append_nil] at e
  have z:∀E,da ar aA mw [] E=none:=fun _=>rfl
  rw [z] at e
  simp only [mw,ai,kl,List.length_cons,List.length_nil,Nat.zero_add,aR,kG,iQ,bn,bX,bI,ac,aq,List.map_cons,List.map_nil,Nat.reduceSub,List.replicate,List.cons_append,List.nil_append,List.getElem?_cons_zero,look,Sl.val,aW,Ty.is,cR,Option.bind_some,Option.map_some,cE,Bool.not_true,lS,bv,aO,Bool.false_eq_true,if_false,nL,fZ,frz,if_true] at e ⊢
  rw [e]
  rfl
theorem qp {c:List Pc} (h:AzOk c) (d:PyData) (n:am [d]=some (.sh (.bool false))) (es:List PyData):ai [.list (c.map cf++d::es)]=some ("NoCord":Str):=by
  obtain ⟨a,e⟩:=oO (.sh (.list (c.map cf++d::es))) (d::es) c .no h
  rw [mj _ a d n] at e
  simp only [mw,ai,kl,List.length_cons,List.length_nil,Nat.zero_add,aR,kG,iQ,bn,bX,bI,ac,aq,List.map_cons,List.map_nil,Nat.reduceSub,List.replicate,List.cons_append,List.nil_append,List.getElem?_cons_zero,look,Sl.val,aW,Ty.is,cR,Option.bind_some,Option.map_some,cE,Bool.not_true,lS,bv,aO,Bool.false_eq_true,if_false,nL,fZ,frz,if_true] at e ⊢
  rw [e]
  rfl
theorem qr {c:List Pc} (h:AzOk c):bA [.list (c.map cf)]=some (.sh .none):=by
  obtain ⟨a,e⟩:=sA (.sh (.list (c.map cf))) c .no h
  simp only [bA,b7,List.length_cons,List.length_nil,Nat.zero_add,bE,cJ,aF,bv,bn,bX,bI,ac,aq,List.map_cons,List.map_nil,Nat.reduceSub,List.replicate,List.cons_append,List.nil_append,List.getElem?_cons_zero,look,Sl.val,aW,Ty.is,cR,Option.bind_some,Option.map_some,cE,Bool.not_true,aO,Bool.false_eq_true,if_false,fY,fZ,frz,e,bx,aP,if_true]
theorem mn {c:List Pc} (h:AzOk c):ap [.list (c.map cf)]=some (.sh .none):=iO _ (qo h) (qr h)
theorem uy:(Str.ofString "a")=⟨#[97]⟩:=by decide+kernel
theorem uz:(Str.ofString "A")=⟨#[65]⟩:=by decide+kernel
theorem tR:az 97:=⟨by decide,by decide⟩
theorem qu (e:PyData) (hd:aK e=true) (k:aQ [e]=some (.sh (.bool false))):am [.tuple [.str "a",e]]=some (.sh (.bool false)):=by
  have h:=mf tR e hd k
  rw [←uy] at h
  exact h
theorem tS:ak [.str "A"]=some (.sh (.bool false)):=by
  have h:=dW (a:=65) (fun h=>absurd h.1 (by decide))
  rw [←uz] at h
  exact h
theorem tU:ak [.str ""]=some (.sh (.bool false)):=jj _ (by decide+kernel) (by decide+kernel)
theorem sC:ak [.str "ab"]=some (.sh (.bool false)):=jj _ (by decide+kernel) (by decide+kernel)
abbrev qN (n:Int):List PyData:=[.list [.str "a", .int n], .tuple [.str "a", .int n, .int 1], .tuple [.str "a"], .tuple [.str "A", .int n], .tuple [.str "", .int n], .tuple [.str "ab", .int n], .tuple [.int n, .str "a"], .tuple [.str "a", .bool true], .tuple [.str "a", .none], .tuple [.str "a", .str "1"], .tuple [.none, .int n], .str "a1"]
abbrev qO (d:PyData):Prop:=d.canLay0=true∧d.depth≤1∧d.eqv d=true
theorem n5:∀{S:List PyData},(∀d∈S,qO d)→PyData.canLayAll0 S=true∧PyData.depthAll S≤1∧PyData.eqvAll S S=true:=by
  intro S
  induction S with
  | nil=>exact fun _=>⟨by simp [PyData.canLayAll0],by simp [PyData.depthAll],by simp [PyData.eqvAll]⟩
  | cons d S ih=>
    intro h
    obtain ⟨a,b,c⟩:=ih fun e he=>h e (List.mem_cons_of_mem _ he)
    obtain ⟨x,y,z⟩:=h d (List.mem_cons_self ..)
    refine ⟨?_,?_,?_⟩
    · simp only [PyData.canLayAll0,a,x,Bool.and_self]
    · simp only [PyData.depthAll]
      omega
    · simp only [PyData.eqvAll,c,z,Bool.and_self]
theorem n6 {S:List PyData} (h:∀d∈S,qO d):i6 (.list S) (.list S)=some true:=by
  obtain ⟨a,b,c⟩:=n5 h
  have e:i6 (.list S) (.list S)=(if SeqAt.shaped (.list S)&&SeqAt.shaped (.list S) then some (PyData.eqv (.list S) (.list S)) else none):=rfl
  have sh:SeqAt.shaped (.list S)=true:=by
    unfold SeqAt.shaped
    simp only [PyData.canLay0,PyData.depth,a,Bool.true_and]
    exact decide_eq_true (by omega)
  rw [e,sh]
  simp only [PyData.eqv,c]
  rfl
theorem qv {p:Pc} (h:az p.1):qO (cf p):=by
  refine ⟨ot (by unfold az at h;omega),by simp [cf,PyData.depth,PyData.depthAll],?_⟩
  rw [k_]
  exact decide_eq_true rfl
theorem tV:PyData.strOk (Str.ofString "a")=true:=by decide+kernel
theorem tW:PyData.strOk (Str.ofString "A")=true:=by decide+kernel
theorem tX:PyData.strOk (Str.ofString "")=true:=by decide+kernel
theorem sD:PyData.strOk (Str.ofString "ab")=true:=by decide+kernel
theorem tY:PyData.strOk (Str.ofString "1")=true:=by decide+kernel
theorem sE:PyData.strOk (Str.ofString "a1")=true:=by decide+kernel
theorem sG (n:Int):∀d∈qN n,qO d:=by
  intro d hd
  simp only [qN,List.mem_cons,List.not_mem_nil,or_false] at hd
  rcases hd with rfl | rfl | rfl | rfl | rfl | rfl | rfl | rfl | rfl | rfl | rfl | rfl <;> exact ⟨by simp only [PyData.canLay0,PyData.canLayAll0,tV,tW,tX,sD,tY,sE,Bool.and_self],by simp [PyData.depth,PyData.depthAll],by simp [PyData.eqv,PyData.eqvAll]⟩
theorem sH (n:Int):∀i,i < 12→∃d,(qN n)[i]? =some d∧am [d]=some (.sh (.bool false))∧(aK d=true∨d= .list [.str "a", .int n])
  | 0,_=>⟨_,rfl,nX _, .inr rfl⟩
  | 1,_=>⟨_,rfl,me _ _ _, .inl rfl⟩
  | 2,_=>⟨_,rfl,qk _, .inl rfl⟩
  | 3,_=>⟨_,rfl,eS _ _ rfl tS, .inl rfl⟩
  | 4,_=>⟨_,rfl,eS _ _ rfl tU, .inl rfl⟩
  | 5,_=>⟨_,rfl,eS _ _ rfl sC, .inl rfl⟩
  | 6,_=>⟨_,rfl,eS _ _ rfl (ma n), .inl rfl⟩
  | 7,_=>⟨_,rfl,qu _ rfl (nV true), .inl rfl⟩
  | 8,_=>⟨_,rfl,qu _ rfl nW, .inl rfl⟩
  | 9,_=>⟨_,rfl,qu _ rfl (qi _), .inl rfl⟩
  | 10,_=>⟨_,rfl,eS _ _ rfl jL, .inl rfl⟩
  | 11,_=>⟨_,rfl,qj _, .inl rfl⟩
  | k+12,h=>absurd h (by omega)
theorem sI (z n:Int) (d:PyData) (ea:atI (qN n) (z % 12)=some d) (hn:z / 12 % 2000000000000000000000000000000 - 1000000000000000000000000000000=n) (d12:bV 12=true) (mm:cG 2 1000000000000000000000000000000=true) (hf:aK d=true):ay [.int z]=some (.sh d):=by
  simp only [ay,b7,List.length_cons,List.length_nil,Nat.zero_add,bE,bL,aF,aL,ad,ac,aq,List.map_cons,List.map_nil,Nat.reduceSub,List.replicate,List.cons_append,List.nil_append,List.getElem?_cons_zero,Sl.isBr,Bool.false_and,Bool.false_eq_true,pC,aZ,bR,look,Sl.val,e9,Option.bind_some,if_false,d12,if_true,Option.map_some,PL.settle,frz,frzAll,Nat.reduceAdd,Nat.reduceLT,List.set_cons_succ,List.set_cons_zero,cN,Int.reducePow,Int.reduceNeg,Int.reduceLE,Int.reduceLT,and_self,decide_true,Int.reduceToNat,eK,ck,bQ,Bool.not_false,Bool.true_or,Bool.and_true,mm,Int.reduceMul,bC,eJ,bY,aj,bg,cc,Nat.reduceLeDiff,bW,aG,dn,List.getElem?_cons_succ,hn,Option.any_some,ea,bx,aP,hf]
theorem qw (z n:Int) (ea:atI (qN n) (z % 12)=some (.list [.str "a", .int n])) (hn:z / 12 % 2000000000000000000000000000000 - 1000000000000000000000000000000=n) (d12:bV 12=true) (mm:cG 2 1000000000000000000000000000000=true):ay [.int z]=some (.br (.list [.str "a", .int n])):=by
  simp only [ay,b7,List.length_cons,List.length_nil,Nat.zero_add,bE,bL,aF,aL,ad,ac,aq,List.map_cons,List.map_nil,Nat.reduceSub,List.replicate,List.cons_append,List.nil_append,List.getElem?_cons_zero,Sl.isBr,Bool.false_and,Bool.false_eq_true,pC,aZ,bR,look,Sl.val,e9,Option.bind_some,if_false,d12,if_true,Option.map_some,PL.settle,frz,frzAll,Nat.reduceAdd,Nat.reduceLT,List.set_cons_succ,List.set_cons_zero,cN,Int.reducePow,Int.reduceNeg,Int.reduceLE,Int.reduceLT,and_self,decide_true,Int.reduceToNat,eK,ck,bQ,Bool.not_false,Bool.true_or,Bool.and_true,mm,Int.reduceMul,bC,eJ,bY,aj,bg,cc,Nat.reduceLeDiff,bW,aG,dn,List.getElem?_cons_succ,hn,Option.any_some,ea,bx,aP,aK]
theorem qx (z:Int):∃d,qO d∧am [d]=some (.sh (.bool false))∧((aK d=true∧ay [.int z]=some (.sh d))∨∃n:Int,d= .list [.str "a", .int n]∧ay [.int z]=some (.br d)):=by
  have m0:=Int.emod_nonneg z (show (12:Int)≠0 by decide)
  have m1:=Int.emod_lt_of_pos z (show (0:Int) < 12 by decide)
  have mm:cG 2 1000000000000000000000000000000=true:=g9 (by decide) (by decide)
  obtain ⟨k,hk⟩:=Int.eq_ofNat_of_zero_le m0
  obtain ⟨d,e,p,f⟩:=sH (z / 12 % 2000000000000000000000000000000 - 1000000000000000000000000000000) k (by omega)
  have ea:atI (qN (z / 12 % 2000000000000000000000000000000 - 1000000000000000000000000000000)) (z % 12)=some d:=by
    rw [hk]
    exact (cA _ k).trans e
  refine ⟨d,sG _ d (List.mem_of_getElem? e),p,?_⟩
  rcases f with f | f
  · exact .inl ⟨f,sI z _ d ea rfl (by decide) mm f⟩
  · subst f
    exact .inr ⟨_,rfl,qw z _ ea rfl (by decide) mm⟩
theorem kD:(Str.ofString "abcdefghijklmnopqrstuvwxyz")=(⟨(List.range' 97 26).toArray⟩:Str):=by decide+kernel
inductive Kd:PyData→Prop where
  | one (a:Nat):Kd (.str ⟨#[a]⟩)
  | str (w:Str) (h:¬((w.length:Int)=1)) (l:w.length≤1000000):Kd (.str w)
  | int (z:Int):Kd (.int z)
  | bool (z:Bool):Kd (.bool z)
  | none:Kd .none
  | tup (ds:List PyData):Kd (.tuple ds)
  | d0:Kd (.dict [])
  | d1:Kd (.dict [(.str "a", .int 1)])
  | lst (ds:List PyData):Kd (.list ds)
abbrev sgA:Str:=Str.ofString " abcdefghijklmnopqrstuvwxyz!\"#$&'()*+,-./0123456789:;<=>?@"
abbrev sgB:Str:=Str.ofString "ABCDEFGHIJKLMNOPQRSTUVWXYZ[\\]^_`{|}~\n\t"
theorem eZ:(sgA++sgB).length=96:=by decide+kernel
theorem dQ:sgA.length+sgB.length=96:=by decide+kernel
theorem oP (z:Int):∃c,atI (sgA++sgB).cps.toList (z % 96)=some c:=by
  have m0:=Int.emod_nonneg z (show (96:Int)≠0 by decide)
  have m1:=Int.emod_lt_of_pos z (show (0:Int) < 96 by decide)
  obtain ⟨k,hk⟩:=Int.eq_ofNat_of_zero_le m0
  have l:(sgA++sgB).cps.toList.length=96:=by decide+kernel
  obtain ⟨c,e⟩:∃c,(sgA++sgB).cps.toList[k]? =some c:=⟨_,List.getElem?_eq_getElem (show k < (sgA++sgB).cps.toList.length by rw [l];omega)⟩
  refine ⟨c,?_⟩
  rw [hk]
  exact (cA _ k).trans e
theorem tZ (n:Int):∀i,i < 5→∃d,[PyData.int n, .bool true, .bool false, .none, .str ""][i]? =some d∧aK d=true∧Kd d
  | 0,_=>⟨_,rfl,rfl, .int _⟩
  | 1,_=>⟨_,rfl,rfl, .bool _⟩
  | 2,_=>⟨_,rfl,rfl, .bool _⟩
  | 3,_=>⟨_,rfl,rfl, .none⟩
  | 4,_=>⟨_,rfl,rfl, .str _ (by decide+kernel) (by decide+kernel)⟩
  | k+5,h=>absurd h (by omega)
theorem t0:∀i,i < 6→∃d,[PyData.tuple [.str "a"], .dict [], .tuple [.str "a", .int 1], .dict [(.str "a", .int 1)], .list [], .tuple []][i]? =some d∧Kd d
  | 0,_=>⟨_,rfl, .tup _⟩
  | 1,_=>⟨_,rfl, .d0⟩
  | 2,_=>⟨_,rfl, .tup _⟩
  | 3,_=>⟨_,rfl, .d1⟩
  | 4,_=>⟨_,rfl, .lst _⟩
  | 5,_=>⟨_,rfl, .tup _⟩
  | k+6,h=>absurd h (by omega)
theorem uA (n z:Int):∃d,atI [PyData.int n, .bool true, .bool false, .none, .str ""] (z % 5)=some d∧aK d=true∧Kd d:=by
  have m0:=Int.emod_nonneg z (show (5:Int)≠0 by decide)
  have m1:=Int.emod_lt_of_pos z (show (0:Int) < 5 by decide)
  obtain ⟨k,hk⟩:=Int.eq_ofNat_of_zero_le m0
  obtain ⟨d,e,r⟩:=tZ n k (by omega)
  refine ⟨d,?_,r⟩
  rw [hk]
  exact (cA _ k).trans e
theorem uB (z:Int):∃d,atI [PyData.tuple [.str "a"], .dict [], .tuple [.str "a", .int 1], .dict [(.str "a", .int 1)], .list [], .tuple []] (z % 6)=some d∧Kd d:=by
  have m0:=Int.emod_nonneg z (show (6:Int)≠0 by decide)
  have m1:=Int.emod_lt_of_pos z (show (0:Int) < 6 by decide)
  obtain ⟨k,hk⟩:=Int.eq_ofNat_of_zero_le m0
  obtain ⟨d,e,r⟩:=t0 k (by omega)
  refine ⟨d,?_,r⟩
  rw [hk]
  exact (cA _ k).trans e
theorem qy (z r:Int) (c:Nat) (d6:bV 6=true) (hr:z % 6=r) (h:r < 2) (ec:atI (sgA++sgB).cps.toList (z / 6 % 96)=some c):av [.int z]=some (.sh (.str ⟨#[c]⟩)):=by
  simp only [av,b7,List.length_cons,List.length_nil,Nat.zero_add,bE,bw,aF,aL,pC,aq,List.map_cons,List.map_nil,Nat.reduceSub,List.replicate,List.cons_append,List.nil_append,PL.settle,frz,frzAll,Option.bind_some,Nat.reduceAdd,Nat.reduceLT,List.set_cons_succ,List.set_cons_zero,if_true,ad,ac,Sl.isBr,Bool.false_and,Bool.false_eq_true,bW,look,Sl.val,ck,bQ,Bool.not_false,Bool.true_or,Bool.and_true,if_false,aZ,bR,e9,bv,cT,bC,bP,Cm.i,Cm.s,aG,bh,ae,au,Option.map_some,bq,dn,aO,cH,bY,aj,cN,Int.reducePow,Int.reduceNeg,Int.reduceLE,Int.reduceLT,and_self,decide_true,Int.reduceToNat,bg,cc,Nat.reduceLeDiff,List.getElem?_cons_succ,List.getElem?_cons_zero,dQ,d6,hr,h,aB,eZ,Int.cast_ofNat_Int,ec,bx,aP,aK]
theorem qz (z:Int) (c e:Nat) (d6:bV 6=true) (d99:bV 99=true) (hr:z % 6=2) (ec:atI (sgA++sgB).cps.toList (z / 6 % 96)=some c) (ee:atI (sgA++sgB).cps.toList (z / 6 / 99 % 96)=some e) (l1:(⟨#[c]⟩:Str).length=1) (l2:(⟨#[e]⟩:Str).length=1):av [.int z]=some (.sh (.str (⟨#[c]⟩++⟨#[e]⟩))):=by
  simp only [av,b7,List.length_cons,List.length_nil,Nat.zero_add,bE,bw,aF,aL,pC,aq,List.map_cons,List.map_nil,Nat.reduceSub,List.replicate,List.cons_append,List.nil_append,PL.settle,frz,frzAll,Option.bind_some,Nat.reduceAdd,Nat.reduceLT,List.set_cons_succ,List.set_cons_zero,if_true,ad,ac,Sl.isBr,Bool.false_and,Bool.false_eq_true,bW,look,Sl.val,ck,bQ,Bool.not_false,Bool.true_or,Bool.and_true,if_false,aZ,bR,e9,bv,cT,bC,bP,Cm.i,Cm.s,aG,bh,ae,au,Option.map_some,bq,dn,aO,cH,bY,aj,cN,Int.reducePow,Int.reduceNeg,Int.reduceLE,Int.reduceLT,and_self,decide_true,Int.reduceToNat,bg,cc,Nat.reduceLeDiff,List.getElem?_cons_succ,List.getElem?_cons_zero,dQ,d6,hr,decide_false,aB,eZ,Int.cast_ofNat_Int,ec,bj,d99,ee,l1,l2,bx,aP,aK]
theorem qA (z:Int) (d:PyData) (d6:bV 6=true) (hr:z % 6=3) (hf:aK d=true) (ec:atI [PyData.int (z / 6 % 1000000000000000000000000000000), .bool true, .bool false, .none, .str ""] (z / 6 % 5)=some d):av [.int z]=some (.sh d):=by
  simp only [av,b7,List.length_cons,List.length_nil,Nat.zero_add,bE,bw,aF,aL,pC,aq,List.map_cons,List.map_nil,Nat.reduceSub,List.replicate,List.cons_append,List.nil_append,PL.settle,frz,frzAll,Option.bind_some,Nat.reduceAdd,Nat.reduceLT,List.set_cons_succ,List.set_cons_zero,if_true,ad,ac,Sl.isBr,Bool.false_and,Bool.false_eq_true,bW,look,Sl.val,ck,bQ,Bool.not_false,Bool.true_or,Bool.and_true,if_false,aZ,bR,e9,bv,cT,bC,bP,Cm.i,Cm.s,aG,bh,ae,au,Option.map_some,bq,dn,aO,cH,bY,aj,cN,Int.reducePow,Int.reduceNeg,Int.reduceLE,Int.reduceLT,and_self,decide_true,Int.reduceToNat,bg,cc,Nat.reduceLeDiff,List.getElem?_cons_succ,List.getElem?_cons_zero,dQ,d6,hr,decide_false,aB,eZ,Int.cast_ofNat_Int,bj,Int.reduceEq,ec,bx,aP,hf]
theorem qB (z:Int) (d6:bV 6=true) (hr:z % 6=4):av [.int z]=some (.ow [.str ⟨#[97+(z / 6 % 26).toNat]⟩]):=by
  simp only [av,b7,List.length_cons,List.length_nil,Nat.zero_add,bE,bw,aF,aL,pC,aq,List.map_cons,List.map_nil,Nat.reduceSub,List.replicate,List.cons_append,List.nil_append,PL.settle,frz,frzAll,Option.bind_some,Nat.reduceAdd,Nat.reduceLT,List.set_cons_succ,List.set_cons_zero,if_true,ad,ac,Sl.isBr,Bool.false_and,Bool.false_eq_true,bW,look,Sl.val,ck,bQ,Bool.not_false,Bool.true_or,Bool.and_true,if_false,aZ,bR,e9,bv,cT,bC,bP,Cm.i,Cm.s,aG,bh,ae,au,Option.map_some,bq,dn,aO,cH,bY,aj,cN,Int.reducePow,Int.reduceNeg,Int.reduceLE,Int.reduceLT,and_self,decide_true,Int.reduceToNat,bg,lK,cc,Nat.reduceLeDiff,List.getElem?_cons_succ,List.getElem?_cons_zero,dQ,d6,hr,decide_false,aB,eZ,Int.cast_ofNat_Int,bj,Int.reduceEq,r_,bx,aP,a_,aK]
theorem qD (z r:Int) (d:PyData) (d6:bV 6=true) (hr:z % 6=r) (n2:¬(r < 2)) (n2':¬(r=2)) (n3:¬(r=3)) (n4:¬(r=4)) (ks:List bG) (k1:gU [(PyData.str "a",PyData.int 1)]=some ks) (k2:ks.Nodup) (k3:ks.length≤15) (ec:atI [PyData.tuple [.str "a"], .dict [], .tuple [.str "a", .int 1], .dict [(.str "a", .int 1)], .list [], .tuple []] (z / 6 % 6)=some d):∃s,av [.int z]=some s∧(s= .sh d∨s= .br d):=by
  by_cases hf:aK d=true
  · refine ⟨.sh d,?_, .inl rfl⟩
    simp only [av,b7,List.length_cons,List.length_nil,Nat.zero_add,bE,bw,aF,aL,pC,aq,List.map_cons,List.map_nil,Nat.reduceSub,List.replicate,List.cons_append,List.nil_append,PL.settle,frz,frzAll,Option.bind_some,Nat.reduceAdd,Nat.reduceLT,List.set_cons_succ,List.set_cons_zero,if_true,ad,ac,Sl.isBr,Bool.false_and,Bool.false_eq_true,bW,look,Sl.val,ck,bQ,Bool.not_false,Bool.true_or,Bool.and_true,if_false,aZ,bR,e9,bv,cT,bC,bP,Cm.i,Cm.s,aG,bh,ae,au,Option.map_some,bq,dn,aO,cH,bY,aj,cN,Int.reducePow,Int.reduceNeg,Int.reduceLE,Int.reduceLT,and_self,decide_true,Int.reduceToNat,bg,cc,Nat.reduceLeDiff,sR,ip,fK,k1,k2,k3,List.getElem?_cons_succ,List.getElem?_cons_zero,dQ,d6,hr,n2,decide_false,aB,eZ,Int.cast_ofNat_Int,bj,n2',n3,n4,ec,bx,aP,hf]
  · refine ⟨.br d,?_, .inr rfl⟩
    simp only [av,b7,List.length_cons,List.length_nil,Nat.zero_add,bE,bw,aF,aL,pC,aq,List.map_cons,List.map_nil,Nat.reduceSub,List.replicate,List.cons_append,List.nil_append,PL.settle,frz,frzAll,Option.bind_some,Nat.reduceAdd,Nat.reduceLT,List.set_cons_succ,List.set_cons_zero,if_true,ad,ac,Sl.isBr,Bool.false_and,Bool.false_eq_true,bW,look,Sl.val,ck,bQ,Bool.not_false,Bool.true_or,Bool.and_true,if_false,aZ,bR,e9,bv,cT,bC,bP,Cm.i,Cm.s,aG,bh,ae,au,Option.map_some,bq,dn,aO,cH,bY,aj,cN,Int.reducePow,Int.reduceNeg,Int.reduceLE,Int.reduceLT,and_self,decide_true,Int.reduceToNat,bg,cc,Nat.reduceLeDiff,sR,ip,fK,k1,k2,k3,List.getElem?_cons_succ,List.getElem?_cons_zero,dQ,d6,hr,n2,decide_false,aB,eZ,Int.cast_ofNat_Int,bj,n2',n3,n4,ec,bx,aP,hf]
theorem mq (z:Int):∃d s,av [.int z]=some s∧Kd d∧(s= .sh d∨s= .br d∨∃ds,d= .list ds∧s= .ow ds):=by
  have m0:=Int.emod_nonneg z (show (6:Int)≠0 by decide)
  have m1:=Int.emod_lt_of_pos z (show (0:Int) < 6 by decide)
  obtain ⟨c,ec⟩:=oP (z / 6)
  obtain ⟨e,ee⟩:=oP (z / 6 / 99)
  by_cases h0:z % 6 < 2
  · exact ⟨_,_,qy z _ c (by decide) rfl h0 ec, .one c, .inl rfl⟩
  by_cases h2:z % 6=2
  · refine ⟨_,_,qz z c e (by decide) (by decide) h2 ec ee rfl rfl, .str _ ?_ ?_, .inl rfl⟩
    · have:(⟨#[c]⟩++⟨#[e]⟩:Str).length=2:=rfl
      rw [this]
      decide
    · have:(⟨#[c]⟩++⟨#[e]⟩:Str).length=2:=rfl
      rw [this]
      decide
  by_cases h3:z % 6=3
  · obtain ⟨d,e1,f,k⟩:=uA (z / 6 % 1000000000000000000000000000000) (z / 6)
    exact ⟨d,_,qA z d (by decide) h3 f e1,k, .inl rfl⟩
  by_cases h4:z % 6=4
  · exact ⟨_,_,qB z (by decide) h4, .lst _, .inr (.inr ⟨_,rfl,rfl⟩)⟩
  · obtain ⟨d,e1,k⟩:=uB (z / 6)
    obtain ⟨s,es,hs⟩:=qD z _ d (by decide) rfl h0 h2 h3 h4 _ rfl (List.pairwise_singleton _ _) (by simp) e1
    exact ⟨d,s,es,k,hs.elim .inl fun x=> .inr (.inl x)⟩
def n8:bZ:=(aL 1 (aw av (ae false (ac 0) au)))
def qE:bZ:=(aL 2 (aw ak (ae false (ac 1) au)))
def kE:bZ:=(aL 3 (aN (bI (aW .str) (ac 1)) (aN (ad cH false (bh bq (ae false (ac 1) au)) (pC (.int 1))) (ad (oK false) false (ac 1) (pC (.str "abcdefghijklmnopqrstuvwxyz"))))))
def t3:bZ:=(bv (eL (bn (bX (bI (aW .bool) (ac 2)))) (cT (ad i7 false (ac 2) (ac 3))))
  (aG (pC (.bool false)))
  aO)
def n9:bZ:=(bv (gs (bn (bX (bI (aW .list) (ac 1)))) (cT (ad i7 false (aw ap (ae false (ac 1) au)) (pC (.str "cord")))))
  (aG (pC (.bool false)))
  aO)
def t4:bZ:=(aL 4 (aw aI (ae false (ad aZ false (ac 0) (pC (.int 7))) au)))
def t5:bZ:=(bv (eL (cT (ad (bR (e_ true)) false (aw ap (ae false (ac 4) au)) (pC .none))) (cT (ad i7 false (ac 4) (aw aI (ae false (ad aZ false (ac 0) (pC (.int 7))) au)))))
  (aG (pC (.bool false)))
  aO)
def t6:bZ:=(aL 5 (dB (ac 4)))
def sJ:bZ:=(dO 5 (ad bC false (ad aZ false (ac 0) (pC (.int 11))) (ad bW false (bh bq (ae false (ac 4) au)) (pC (.int 1)))) (aw ay (ae false (ad aZ false (ac 0) (pC (.int 13))) au)))
def sK:bZ:=(aL 6 (dB (ac 5)))
def mr:bZ:=(aG (aN (ad cH false (aw ap (ae false (ac 5) au)) (pC (.str "cord"))) (aN (ad cH false (ac 5) (ac 6)) (ad cH false (aw ap (ae false (fO (ac 4)) au)) (pC (.str "cord"))))))
theorem fS:cC=(aF n8 (aF qE (aF kE (aF t3 (aF n9 (aF t4 (aF t5 (aF t6 (aF sJ (aF sK mr)))))))))):=rfl
def uk:bZ:=(fY (fZ (ad bW false (lI false (ac 0) il (im (pC (.int 63)))) (bY (aj (ad bW false (aw b8 (ae false (ac 0) (ae false (pC (.int 0)) au))) (pC (.int 6))) bg)))) db
  dc)
def ul:bZ:=(aG (ad (bR (e_ false)) false (aw ap (ae false (bY bg) au)) (pC .none)))
theorem ms:iG=(aF uk ul):=rfl
abbrev um (d:PyData):Prop:=(∃i,d= .int i)∨(∃i,d= .bool i)∨d= .none∨(∃i,d= .tuple i)∨d= .dict []∨d= .dict [(.str "a", .int 1)]
section
variable (z:Int) (d:PyData) (b:Bool) (ds:List PyData) (x1 x2 x3:Sl)
theorem uC (e:av [.int z]=some (.sh d)):n8 [.sh (.int z), .no, .no, .no, .no, .no, .no]=some ([.sh (.int z), .sh d, .no, .no, .no, .no, .no], .nx):=by
  simp only [n8,aL,aw,ae,ac,List.getElem?_cons_zero,Sl.isBr,Bool.false_and,Bool.false_eq_true,au,Option.map_some,if_false,Option.bind_some,aB,look,Sl.val,e,PL.settle,frz,frzAll,List.length_cons,List.length_nil,Nat.zero_add,Nat.reduceAdd,Nat.reduceLT,List.set_cons_succ,List.set_cons_zero,if_true]
theorem uD (e:av [.int z]=some (.br d)):n8 [.sh (.int z), .no, .no, .no, .no, .no, .no]=some ([.sh (.int z), .sh d, .no, .no, .no, .no, .no], .nx):=by
  by_cases hf:aK d=true
  · simp only [n8,aL,aw,ae,ac,List.getElem?_cons_zero,Sl.isBr,Bool.false_and,Bool.false_eq_true,au,Option.map_some,if_false,Option.bind_some,aB,look,Sl.val,e,PL.settle,frz,frzAll,hf,List.map_cons,cU,List.map_nil,if_true,List.length_cons,List.length_nil,Nat.zero_add,Nat.reduceAdd,Nat.reduceLT,List.set_cons_succ,List.set_cons_zero]
  · simp only [n8,aL,aw,ae,ac,List.getElem?_cons_zero,Sl.isBr,Bool.false_and,Bool.false_eq_true,au,Option.map_some,if_false,Option.bind_some,aB,look,Sl.val,e,PL.settle,frz,frzAll,hf,List.map_cons,cU,List.map_nil,List.length_cons,List.length_nil,Nat.zero_add,Nat.reduceAdd,Nat.reduceLT,List.set_cons_succ,List.set_cons_zero,if_true]
theorem uE (e:av [.int z]=some (.ow ds)):n8 [.sh (.int z), .no, .no, .no, .no, .no, .no]=some ([.sh (.int z), .ow ds, .no, .no, .no, .no, .no], .nx):=by
  simp only [n8,aL,aw,ae,ac,List.getElem?_cons_zero,Sl.isBr,Bool.false_and,Bool.false_eq_true,au,Option.map_some,if_false,Option.bind_some,aB,look,Sl.val,e,PL.settle,frz,frzAll,List.length_cons,List.length_nil,Nat.zero_add,Nat.reduceAdd,Nat.reduceLT,List.set_cons_succ,List.set_cons_zero,if_true]
theorem n_ (e:ak [d]=some (.sh (.bool b))):qE [.sh (.int z), .sh d, .no, .no, .no, .no, .no]=some ([.sh (.int z), .sh d, .sh (.bool b), .no, .no, .no, .no], .nx):=by
  simp only [qE,aL,aw,ae,ac,List.getElem?_cons_succ,List.getElem?_cons_zero,Sl.isBr,Bool.false_and,Bool.false_eq_true,au,Option.map_some,if_false,Option.bind_some,aB,look,Sl.val,e,PL.settle,frz,frzAll,List.length_cons,List.length_nil,Nat.zero_add,Nat.reduceAdd,Nat.reduceLT,List.set_cons_succ,List.set_cons_zero,if_true]
theorem uF (e:ak [.list ds]=some (.sh (.bool b))):qE [.sh (.int z), .ow ds, .no, .no, .no, .no, .no]=some ([.sh (.int z), .ow ds, .sh (.bool b), .no, .no, .no, .no], .nx):=by
  simp only [qE,aL,aw,ae,ac,List.getElem?_cons_succ,List.getElem?_cons_zero,Sl.isBr,Bool.false_and,Bool.false_eq_true,au,Option.map_some,if_false,Option.bind_some,aB,look,Sl.val,e,PL.settle,frz,frzAll,List.length_cons,List.length_nil,Nat.zero_add,Nat.reduceAdd,Nat.reduceLT,List.set_cons_succ,List.set_cons_zero,if_true]
theorem qP (h:um d):kE [.sh (.int z), .sh d,x2, .no, .no, .no, .no]=some ([.sh (.int z), .sh d,x2, .sh (.bool false), .no, .no, .no], .nx):=by
  rcases h with ⟨i,rfl⟩ | ⟨i,rfl⟩ | rfl | ⟨i,rfl⟩ | rfl | rfl <;> simp only [kE,aL,aN,bI,ac,List.getElem?_cons_succ,List.getElem?_cons_zero,look,Sl.val,aW,Ty.is,cR,Option.bind_some,Option.map_some,ad,bh,ae,Sl.isBr,Bool.false_and,Bool.false_eq_true,au,if_false,bq,pC,cH,bR,oK,oJ,PL.settle,frz,frzAll,List.length_cons,List.length_nil,Nat.zero_add,Nat.reduceAdd,Nat.reduceLT,List.set_cons_succ,List.set_cons_zero,if_true]
theorem uG:kE [.sh (.int z), .sh (.list ds),x2, .no, .no, .no, .no]=some ([.sh (.int z), .sh (.list ds),x2, .sh (.bool false), .no, .no, .no], .nx):=by
  simp only [kE,aL,aN,bI,ac,List.getElem?_cons_succ,List.getElem?_cons_zero,look,Sl.val,aW,Ty.is,cR,Option.bind_some,Option.map_some,ad,bh,ae,Sl.isBr,Bool.false_and,Bool.false_eq_true,au,if_false,bq,pC,cH,bR,oK,oJ,PL.settle,frz,frzAll,List.length_cons,List.length_nil,Nat.zero_add,Nat.reduceAdd,Nat.reduceLT,List.set_cons_succ,List.set_cons_zero,if_true]
theorem uH:kE [.sh (.int z), .ow ds,x2, .no, .no, .no, .no]=some ([.sh (.int z), .ow ds,x2, .sh (.bool false), .no, .no, .no], .nx):=by
  simp only [kE,aL,aN,bI,ac,List.getElem?_cons_succ,List.getElem?_cons_zero,look,Sl.val,aW,Ty.is,cR,Option.bind_some,Option.map_some,ad,bh,ae,Sl.isBr,Bool.false_and,Bool.false_eq_true,au,if_false,bq,pC,cH,bR,oK,oJ,PL.settle,frz,frzAll,List.length_cons,List.length_nil,Nat.zero_add,Nat.reduceAdd,Nat.reduceLT,List.set_cons_succ,List.set_cons_zero,if_true]
theorem uI (w:Str) (h:¬((w.length:Int)=1)) (l:w.length≤1000000):kE [.sh (.int z), .sh (.str w),x2, .no, .no, .no, .no]=some ([.sh (.int z), .sh (.str w),x2, .sh (.bool false), .no, .no, .no], .nx):=by
  simp only [kE,aL,aN,bI,ac,List.getElem?_cons_succ,List.getElem?_cons_zero,look,Sl.val,aW,Ty.is,cR,Option.bind_some,Option.map_some,ad,bh,ae,Sl.isBr,Bool.false_and,Bool.false_eq_true,au,if_false,bq,pC,cH,bR,oK,oJ,aB,l,if_true,bj,h,decide_false,PL.settle,frz,frzAll,List.length_cons,List.length_nil,Nat.zero_add,Nat.reduceAdd,Nat.reduceLT,List.set_cons_succ,List.set_cons_zero]
theorem uJ (a:Nat):kE [.sh (.int z), .sh (.str ⟨#[a]⟩),x2, .no, .no, .no, .no]=some ([.sh (.int z), .sh (.str ⟨#[a]⟩),x2, .sh (.bool (decide (a∈List.range' 97 26))), .no, .no, .no], .nx):=by
  have l:(⟨#[a]⟩:Str).length=1:=rfl
  have l26:(⟨(List.range' 97 26).toArray⟩:Str).length≤1000000:=by decide+kernel
  have o:=nR (List.range' 97 26) a
  simp only [kE,aL,aN,bI,ac,List.getElem?_cons_succ,List.getElem?_cons_zero,look,Sl.val,aW,Ty.is,cR,Option.bind_some,Option.map_some,ad,bh,ae,Sl.isBr,Bool.false_and,Bool.false_eq_true,au,if_false,bq,pC,cH,bR,kD,oK,oJ,aB,l,Nat.reduceLeDiff,Int.cast_ofNat_Int,if_true,bj,decide_true,o,Bool.not_not,PL.settle,frz,frzAll,List.length_cons,List.length_nil,Nat.zero_add,Nat.reduceAdd,Nat.reduceLT,List.set_cons_succ,List.set_cons_zero]
theorem r3:t3 [.sh (.int z),x1, .sh (.bool b), .sh (.bool b), .no, .no, .no]=some ([.sh (.int z),x1, .sh (.bool b), .sh (.bool b), .no, .no, .no], .nx):=by
  cases b <;> simp only [t3,bv,eL,bn,bX,bI,ac,List.getElem?_cons_succ,List.getElem?_cons_zero,look,Sl.val,aW,Ty.is,cR,Option.bind_some,Option.map_some,cE,Bool.not_true,cT,ad,Sl.isBr,Bool.false_and,Bool.false_eq_true,i7,bR,if_false,lL,decide_true,aG,pC,aO]
theorem uK:n9 [.sh (.int z), .sh (.list ds),x2,x3, .no, .no, .no]=some ([.sh (.int z), .sh (.list ds),x2,x3, .no, .no, .no], .nx):=by
  simp only [n9,bv,gs,bn,bX,bI,ac,List.getElem?_cons_succ,List.getElem?_cons_zero,look,Sl.val,aW,Ty.is,cR,Option.bind_some,Option.map_some,cE,Bool.not_true,cT,ad,aw,ae,Sl.isBr,Bool.false_and,Bool.false_eq_true,au,if_false,pC,i7,bR,aB,aG,aO]
theorem uL:n9 [.sh (.int z), .ow ds,x2,x3, .no, .no, .no]=some ([.sh (.int z), .ow ds,x2,x3, .no, .no, .no], .nx):=by
  simp only [n9,bv,gs,bn,bX,bI,ac,List.getElem?_cons_succ,List.getElem?_cons_zero,look,Sl.val,aW,Ty.is,cR,Option.bind_some,Option.map_some,cE,Bool.not_true,cT,ad,aw,ae,Sl.isBr,Bool.false_and,Bool.false_eq_true,au,if_false,pC,i7,bR,aB,aG,aO]
theorem oQ (h:(∃w,d= .str w)∨um d) (s:ap [d]=some (.sh (.str "cord"))):n9 [.sh (.int z), .sh d,x2,x3, .no, .no, .no]=some ([.sh (.int z), .sh d,x2,x3, .no, .no, .no], .nx):=by
  rcases h with ⟨i,rfl⟩ | ⟨i,rfl⟩ | ⟨i,rfl⟩ | rfl | ⟨i,rfl⟩ | rfl | rfl <;> simp only [n9,bv,gs,bn,bX,bI,ac,List.getElem?_cons_succ,List.getElem?_cons_zero,look,Sl.val,aW,Ty.is,cR,Option.bind_some,Option.map_some,cE,Bool.not_false,cT,ad,aw,ae,Sl.isBr,Bool.false_and,Bool.false_eq_true,au,if_false,pC,i7,bR,aB,s,g_,decide_true,Bool.not_true,if_true,aG,aO]
end
section
variable (z:Int) (d:PyData) (C S:List PyData) (x1 x2 x3 x4 x5:Sl)
theorem r5 (d7:bV 7=true) (e:aI [.int (z / 7)]=some (.ow C)):t4 [.sh (.int z),x1,x2,x3, .no, .no, .no]=some ([.sh (.int z),x1,x2,x3, .ow C, .no, .no], .nx):=by
  simp only [t4,aL,aw,ae,ad,ac,List.getElem?_cons_zero,Sl.isBr,Bool.false_and,Bool.false_eq_true,pC,aZ,bR,look,Sl.val,e9,Option.bind_some,if_false,d7,if_true,Option.map_some,au,aB,e,PL.settle,frz,frzAll,List.length_cons,List.length_nil,Nat.zero_add,Nat.reduceAdd,Nat.reduceLT,List.set_cons_succ,List.set_cons_zero]
theorem r6 (d7:bV 7=true) (e:aI [.int (z / 7)]=some (.ow C)) (s:ap [.list C]=some (.sh .none)) (q:i6 (.list C) (.list C)=some true):t5 [.sh (.int z),x1,x2,x3, .ow C, .no, .no]=some ([.sh (.int z),x1,x2,x3, .ow C, .no, .no], .nx):=by
  simp only [t5,bv,eL,cT,ad,aw,ae,ac,List.getElem?_cons_succ,List.getElem?_cons_zero,Sl.isBr,Bool.false_and,Bool.false_eq_true,au,Option.map_some,if_false,Option.bind_some,aB,look,Sl.val,s,pC,bR,e_,Bool.not_true,aZ,e9,i7,d7,if_true,e,q,aG,aO]
theorem r7 (hf:a_ C=true):t6 [.sh (.int z),x1,x2,x3, .ow C, .no, .no]=some ([.sh (.int z),x1,x2,x3, .ow C, .ow C, .no], .nx):=by
  simp only [t6,aL,dB,ac,List.getElem?_cons_succ,List.getElem?_cons_zero,look,Sl.val,ck,bQ,Option.bind_some,Option.any_some,Bool.not_false,hf,Bool.or_true,if_true,PL.settle,frz,frzAll,List.length_cons,List.length_nil,Nat.zero_add,Nat.reduceAdd,Nat.reduceLT,List.set_cons_succ,List.set_cons_zero]
theorem uM (j N:Int) (hC:C.length < 1000000) (d11:bV 11=true) (d13:bV 13=true) (hN:(C.length:Int)+1=N) (n0:0 < N) (hj:z / 11 % N=j) (j0:0≤j) (jl:j.toNat≤C.length) (e:ay [.int (z / 13)]=some (.sh d)):sJ [.sh (.int z),x1,x2,x3, .ow C, .ow C, .no]=some ([.sh (.int z),x1,x2,x3, .ow C, .ow (C.take j.toNat++d::C.drop j.toNat), .no], .nx):=by
  simp only [sJ,dO,List.getElem?_cons_succ,List.getElem?_cons_zero,ad,ac,Sl.isBr,Bool.false_and,Bool.false_eq_true,pC,aZ,bR,look,Sl.val,e9,Option.bind_some,if_false,d11,if_true,Option.map_some,bh,ae,au,bq,bW,ck,bQ,Bool.not_false,Bool.true_or,Bool.and_true,bC,aB,hN,n0,decide_true,hj,aw,frzAll,d13,e,j0,hC,jl,and_self,List.set_cons_succ,List.set_cons_zero]
theorem uN (j N n:Int) (hC:C.length < 1000000) (d11:bV 11=true) (d13:bV 13=true) (hN:(C.length:Int)+1=N) (n0:0 < N) (hj:z / 11 % N=j) (j0:0≤j) (jl:j.toNat≤C.length) (ht:C.all qe=true) (e:ay [.int (z / 13)]=some (.br (.list [.str "a", .int n]))):sJ [.sh (.int z),x1,x2,x3, .ow C, .ow C, .no]=some ([.sh (.int z),cU x1,cU x2,cU x3, .sh (.list C), .sh (.list (C.take j.toNat++ .list [.str "a", .int n]::C.drop j.toNat)), .no], .nx):=by
  have f1:cU (.sh (.int z))= .sh (.int z):=rfl
  have f2:∀D,cU (.ow D)= .sh (.list D):=fun _=>rfl
  have f3:cU .no= .no:=rfl
  have e0:∀E:List Sl,frzAll E=E.map cU:=fun _=>rfl
  simp only [sJ,dO,List.getElem?_cons_succ,List.getElem?_cons_zero,ad,ac,Sl.isBr,Bool.false_and,Bool.false_eq_true,pC,aZ,bR,look,Sl.val,e9,Option.bind_some,if_false,d11,if_true,Option.map_some,bh,ae,au,bq,bW,ck,bQ,bC,aB,hN,n0,decide_true,hj,aw,e0,d13,e,j0,hC,jl,and_self,a_,aK,Bool.and_self,ht,List.set_cons_succ,List.set_cons_zero,List.map_cons,f1,f2,f3,List.map_nil]
theorem uO:sK [.sh (.int z),x1,x2,x3,x4, .ow S, .no]=some ([.sh (.int z),x1,x2,x3,x4, .ow S, .ow S], .nx):=by
  simp only [sK,aL,dB,ac,List.getElem?_cons_succ,List.getElem?_cons_zero,look,Sl.val,ck,bQ,Option.bind_some,Option.any_some,Bool.not_false,Bool.true_or,if_true,PL.settle,frz,frzAll,List.length_cons,List.length_nil,Nat.zero_add,Nat.reduceAdd,Nat.reduceLT,List.set_cons_succ,List.set_cons_zero]
theorem uP:sK [.sh (.int z),x1,x2,x3,x4, .sh (.list S), .no]=some ([.sh (.int z),x1,x2,x3,x4, .sh (.list S), .ow S], .nx):=by
  simp only [sK,aL,dB,ac,List.getElem?_cons_succ,List.getElem?_cons_zero,look,Sl.val,ck,bQ,Option.bind_some,Bool.not_false,Bool.true_or,if_true,PL.settle,frz,frzAll,List.length_cons,List.length_nil,Nat.zero_add,Nat.reduceAdd,Nat.reduceLT,List.set_cons_succ,List.set_cons_zero]
theorem t7 (s:ap [.list S]=some (.sh (.str "cord"))) (t:ap [.tuple C]=some (.sh (.str "cord"))) (q:i6 (.list S) (.list S)=some true) (hf:a_ C=true):mr [.sh (.int z),x1,x2,x3, .ow C, .ow S, .ow S]=some ([.sh (.int z),x1,x2,x3, .ow C, .ow S, .ow S], .rt (.sh (.bool true))):=by
  simp only [mr,aG,aN,ad,aw,ae,ac,List.getElem?_cons_succ,List.getElem?_cons_zero,Sl.isBr,Bool.false_and,Bool.false_eq_true,au,Option.map_some,if_false,Option.bind_some,aB,look,Sl.val,s,pC,cH,bR,g_,decide_true,fO,ck,bQ,q,Option.any_some,Bool.not_false,hf,Bool.or_true,if_true,t]
theorem t8 (s:ap [.list S]=some (.sh (.str "cord"))) (t:ap [.tuple C]=some (.sh (.str "cord"))) (q:i6 (.list S) (.list S)=some true) (hf:a_ C=true):mr [.sh (.int z),x1,x2,x3, .sh (.list C), .sh (.list S), .ow S]=some ([.sh (.int z),x1,x2,x3, .sh (.list C), .sh (.list S), .ow S], .rt (.sh (.bool true))):=by
  simp only [mr,aG,aN,ad,aw,ae,ac,List.getElem?_cons_succ,List.getElem?_cons_zero,Sl.isBr,Bool.false_and,Bool.false_eq_true,au,Option.map_some,if_false,Option.bind_some,aB,look,Sl.val,s,pC,cH,bR,g_,decide_true,fO,ck,bQ,q,Bool.not_false,hf,Bool.or_true,if_true,t]
end
theorem cy {f g:bZ} {E E1:List Sl} (h:f E=some (E1, .nx)):aF f g E=g E1:=by
  unfold aF
  rw [h]
  rfl
theorem qF {it:hO} {tg:j9} {body:bZ} {E E1 E2:List Sl} {ds:List PyData} (h:it E=some (ds,E1)) (l:dq tg body ds E1=some (E2, .nx)):fY it tg body E=some (E2, .nx):=by
  unfold fY
  rw [h,Option.bind_some,l]
theorem qG (a:Nat):ak [.str ⟨#[a]⟩]=some (.sh (.bool (decide (a∈List.range' 97 26)))):=by
  by_cases h:az a
  · rw [eF h,decide_eq_true (List.mem_range'_1.mpr (show 97≤a∧a < 97+26 from h))]
  · rw [dW h,decide_eq_false (fun k=>h (show 97≤a∧a < 97+26 from List.mem_range'_1.mp k))]
theorem rA (z:Int) (d:PyData) (k:Kd d):∃b,qE [.sh (.int z), .sh d, .no, .no, .no, .no, .no]=some ([.sh (.int z), .sh d, .sh (.bool b), .no, .no, .no, .no], .nx)∧kE [.sh (.int z), .sh d, .sh (.bool b), .no, .no, .no, .no]=some ([.sh (.int z), .sh d, .sh (.bool b), .sh (.bool b), .no, .no, .no], .nx)∧n9 [.sh (.int z), .sh d, .sh (.bool b), .sh (.bool b), .no, .no, .no]=some ([.sh (.int z), .sh d, .sh (.bool b), .sh (.bool b), .no, .no, .no], .nx):=by
  cases k with
  | one a=>exact ⟨_,n_ z _ _ (qG a),uJ z _ a,oQ z _ _ _ (.inl ⟨_,rfl⟩) (bB _ (mh _))⟩
  | str w h l=>exact ⟨false,n_ z _ _ (jj w h l),uI z _ w h l,oQ z _ _ _ (.inl ⟨_,rfl⟩) (bB _ (mh _))⟩
  | int i=>exact ⟨false,n_ z _ _ (ma i),qP z _ _ (.inl ⟨_,rfl⟩),oQ z _ _ _ (.inr (.inl ⟨_,rfl⟩)) (bB _ (qm i))⟩
  | bool i=>exact ⟨false,n_ z _ _ (nU i),qP z _ _ (.inr (.inl ⟨_,rfl⟩)),oQ z _ _ _ (.inr (.inr (.inl ⟨_,rfl⟩))) (bB _ (nZ i))⟩
  | none=>exact ⟨false,n_ z _ _ jL,qP z _ _ (.inr (.inr (.inl rfl))),oQ z _ _ _ (.inr (.inr (.inr (.inl rfl)))) (bB _ nY)⟩
  | tup i=>exact ⟨false,n_ z _ _ (qg i),qP z _ _ (.inr (.inr (.inr (.inl ⟨_,rfl⟩)))),oQ z _ _ _ (.inr (.inr (.inr (.inr (.inl ⟨_,rfl⟩))))) (bB _ (mi i))⟩
  | d0=>exact ⟨false,n_ z _ _ si,qP z _ _ (.inr (.inr (.inr (.inr (.inl rfl))))),oQ z _ _ _ (.inr (.inr (.inr (.inr (.inr (.inl rfl)))))) (bB _ sr)⟩
  | d1=>exact ⟨false,n_ z _ _ sj,qP z _ _ (.inr (.inr (.inr (.inr (.inr rfl))))),oQ z _ _ _ (.inr (.inr (.inr (.inr (.inr (.inr rfl)))))) (bB _ su)⟩
  | lst ds=>exact ⟨false,n_ z _ _ (jM ds),uG z ds _,uK z ds _ _⟩
theorem hM (z:Int):bT [.int z]=some (.sh (.bool true)):=by
  obtain ⟨d,s,es,kd,hs⟩:=mq z
  obtain ⟨s1,b,g0,g1,g2,g4⟩:∃s1 b,n8 [.sh (.int z), .no, .no, .no, .no, .no, .no]=some ([.sh (.int z),s1, .no, .no, .no, .no, .no], .nx)∧qE [.sh (.int z),s1, .no, .no, .no, .no, .no]=some ([.sh (.int z),s1, .sh (.bool b), .no, .no, .no, .no], .nx)∧kE [.sh (.int z),s1, .sh (.bool b), .no, .no, .no, .no]=some ([.sh (.int z),s1, .sh (.bool b), .sh (.bool b), .no, .no, .no], .nx)∧n9 [.sh (.int z),s1, .sh (.bool b), .sh (.bool b), .no, .no, .no]=some ([.sh (.int z),s1, .sh (.bool b), .sh (.bool b), .no, .no, .no], .nx):=by
    obtain ⟨b,k⟩:=rA z d kd
    rcases hs with rfl | rfl | ⟨ds,rfl,rfl⟩
    · exact ⟨_,b,uC z d es,k⟩
    · exact ⟨_,b,uD z d es,k⟩
    · exact ⟨_,false,uE z ds es,uF z false ds (jM ds),uH z ds _,uL z ds _ _⟩
  obtain ⟨c,ec,lc,ha⟩:=gc (z / 7)
  obtain ⟨e,le,pe,ho⟩:=qx (z / 13)
  have fC:=iv c
  have lC:(c.map cf).length=c.length:=List.length_map ..
  have nc:NailsOk c:=fun p hp=>by
    have:=(ha p hp).2
    omega
  have qC:=lM nc nc
  rw [decide_eq_true rfl] at qC
  have g3:=r3 z b s1
  have g5:=r5 z (c.map cf) s1 (.sh (.bool b)) (.sh (.bool b)) (by decide) ec
  have g6:=r6 z (c.map cf) s1 (.sh (.bool b)) (.sh (.bool b)) (by decide) ec (mn ha) qC
  have g7:=r7 z (c.map cf) s1 (.sh (.bool b)) (.sh (.bool b)) fC
  have m0:=Int.emod_nonneg (z / 11) (show (((c.map cf).length:Int)+1)≠0 by omega)
  have m1:=Int.emod_lt_of_pos (z / 11) (show (0:Int) < ((c.map cf).length:Int)+1 by omega)
  have tT:ap [.tuple (c.map cf)]=some (.sh (.str "cord")):=bB _ (mi _)
  have sS:∀k:Nat,ap [.list ((c.map cf).take k++e::(c.map cf).drop k)]=some (.sh (.str "cord")):=fun k=>by
    rw [←List.map_take]
    exact bB _ (qp (fun p hp=>ha p (List.mem_of_mem_take hp)) e pe _)
  have qS:∀k:Nat,i6 (.list ((c.map cf).take k++e::(c.map cf).drop k)) (.list ((c.map cf).take k++e::(c.map cf).drop k))=some true:=fun k=>n6 fun x hx=>by
    have mp:∀y∈c.map cf,qO y:=fun y hy=>by
      obtain ⟨p,hp,rfl⟩:=List.mem_map.mp hy
      exact qv (ha p hp)
    rcases List.mem_append.mp hx with hx | hx
    · exact mp x (List.mem_of_mem_take hx)
    · rcases List.mem_cons.mp hx with rfl | hx
      · exact le
      · exact mp x (List.mem_of_mem_drop hx)
  have all:∃E,cC [.sh (.int z), .no, .no, .no, .no, .no, .no]=some (E, .rt (.sh (.bool true))):=by
    rw [fS,cy g0,cy g1,cy g2,cy g3,cy g4,cy g5,cy g6,cy g7]
    rcases ho with ⟨_,eo⟩ | ⟨n,rfl,eo⟩
    · have g8:=uM z e (c.map cf) s1 (.sh (.bool b)) (.sh (.bool b)) _ _ (by omega) (by decide) (by decide) rfl (by omega) rfl m0 (by omega) eo
      rw [cy g8,cy (uO z _ s1 _ _ _)]
      exact ⟨_,t7 z _ _ s1 _ _ (sS _) tT (qS _) fC⟩
    · have g8:=uN z (c.map cf) s1 (.sh (.bool b)) (.sh (.bool b)) _ _ n (by omega) (by decide) (by decide) rfl (by omega) rfl m0 (by omega) (List.all_eq_true.mpr fun x hx=>by obtain ⟨p,_,rfl⟩:=List.mem_map.mp hx;rfl) eo
      rw [cy g8,cy (uP z _ _ _ _ _)]
      exact ⟨_,t8 z _ _ _ _ _ (sS _) tT (qS _) fC⟩
  obtain ⟨E,all⟩:=all
  simp only [bT,b7,List.length_cons,List.length_nil,Nat.zero_add,bE,aq,List.map_cons,List.map_nil,Nat.reduceSub,List.replicate,List.cons_append,List.nil_append,all,bx,aP,Option.bind_some,aK,if_true]
theorem kF (ns:List Int):ii (ns.map PyData.int) none (some 63)++[PyData.int (ns.getD 0 0+6)]=((cutL ns none (some 63))++[ns.getD 0 0+6]).map .int:=by
  rw [iw];simp
theorem qH (x0 a:Sl) (z:Int):(db (.int z) [x0,a]).bind dc=some ([x0, .sh (.int z)], .nx):=by
  have e:db (.int z) [x0,a]=some [x0, .sh (.int z)]:=rfl
  have k:=hM z
  rw [e,Option.bind_some]
  simp only [dc,bv,bn,bX,aw,ae,ac,List.getElem?_cons_succ,List.getElem?_cons_zero,Sl.isBr,Bool.false_and,Bool.false_eq_true,au,Option.map_some,if_false,Option.bind_some,aB,look,Sl.val,k,cE,Bool.not_true,aG,pC,aO]
theorem qI (x0:Sl):∀(w:List Int) (a:Sl),∃a',dq db dc (w.map .int) [x0,a]=some ([x0,a'], .nx):=by
  intro w
  induction w with
  | nil=>exact fun a=>⟨a,rfl⟩
  | cons z w ih=>
    intro a
    obtain ⟨a',k⟩:=ih (.sh (.int z))
    refine ⟨a',?_⟩
    rw [List.map_cons,dq,qH x0 a z]
    exact k
theorem oa (ns:List Int) (hl:ns.length≤63):(cutL ns none (some 63)).length≤63:=by
  unfold cutL
  simp
  omega
theorem qJ (ns:List Int) (hl:ns.length≤63):eD [.list (ns.map .int)]=some (.sh (.bool true)):=by
  have a0:=kC ns 0
  rw [show ((0:Nat):Int)=0 from rfl] at a0
  have lc:=oa ns hl
  have s0:=mn lY
  rw [List.map_nil] at s0
  obtain ⟨a',lp⟩:=qI (.sh (.list (ns.map .int))) ((cutL ns none (some 63))++[ns.getD 0 0+6]) .no
  rw [←kF] at lp
  have i0:fZ (ad bW false (lI false (ac 0) il (im (pC (.int 63)))) (bY (aj (ad bW false (aw b8 (ae false (ac 0) (ae false (pC (.int 0)) au))) (pC (.int 6))) bg))) [.sh (.list (ns.map .int)), .no]=some (ii (ns.map PyData.int) none (some 63)++[PyData.int (ns.getD 0 0+6)],[.sh (.list (ns.map .int)), .no]):=by
    have cl3:(List.map PyData.int (cutL ns none (some 63))).length≤999999:=by
      rw [List.length_map]
      omega
    simp only [fZ,ad,lI,ac,List.getElem?_cons_zero,Sl.isBr,Bool.false_and,Bool.false_eq_true,il,im,pC,look,Sl.val,Option.bind_some,ck,bQ,if_false,Bool.not_false,iw,kc,Bool.or_true,if_true,bY,aj,aw,ae,au,Option.map_some,bW,Bool.true_or,Bool.and_true,frz,bg,aB,a0,List.length_cons,List.length_nil,Nat.zero_add,Nat.reduceLeDiff,cl3,decide_true]
  have g0:uk _=_:=qF i0 lp
  have all:iG [.sh (.list (ns.map .int)), .no]=some ([.sh (.list (ns.map .int)),a'], .rt (.sh (.bool true))):=by
    rw [ms,cy g0]
    simp only [ul,aG,ad,aw,ae,bY,bg,Option.bind_some,List.length_nil,Nat.reduceLeDiff,if_true,Sl.isBr,Bool.false_and,Bool.false_eq_true,au,Option.map_some,if_false,aB,look,Sl.val,s0,pC,bR,e_,Bool.not_false]
  simp only [eD,b7,List.length_cons,List.length_nil,Nat.zero_add,bE,aq,List.map_cons,List.map_nil,Nat.reduceSub,List.replicate,List.cons_append,List.nil_append,all,bx,aP,Option.bind_some,aK,if_true]
end Nhk01
namespace Nhk01
open PySem L2 Nh PL
theorem gd {fd:FuncData} {xs:List Str} (h:∀a0,bindArgs fd ⟨[a0],[]⟩=pure (xs.zip [a0])):∀us:List Value,us.length=1→bindArgs fd ⟨us,[]⟩=pure (xs.zip us)
  | [a0],_=>h a0
theorem sL {fd:FuncData} {xs:List Str} (h:∀a0 a1,bindArgs fd ⟨[a0,a1],[]⟩=pure (xs.zip [a0,a1])):∀us:List Value,us.length=2→bindArgs fd ⟨us,[]⟩=pure (xs.zip us)
  | [a0,a1],_=>h a0 a1
theorem qK {l:PySem.W.OpenLaw} {w:World} {K:PySem.W.Frag} {h:Heap} {mg:Str→Option Value} {fa f1 f2 f3 f4 f5 f6 f7 f8 f9 f10 f11 f12 f13:Addr} (X:K.In h) (G:h.Ns mainGlobals mg) (hfa:mg "law"=some (.ref fa))
    {od1 od2 od3 od4 od5 od6 od7 od8 od9 od10 od11 od12 od13 an1 an2 an3 an4 an5 an6 an7 an8 an9 an10 an11 an12 an13:Option Addr} {sl1 sl2 sl3 sl4 sl5 sl6 sl7 sl8 sl9 sl10 sl11 sl12 sl13:Array (Option Value)} {oc1 kV1 dc1 pm1 cd1 ct1 oc2 kV2 dc2 pm2 cd2 ct2 oc3 kV3 dc3 pm3 cd3 ct3 oc4 kV4 dc4 pm4 cd4 ct4 oc5 kV5 dc5 pm5 cd5 ct5 oc6 kV6 dc6 pm6 cd6 ct6 oc7 kV7 dc7 pm7 cd7 ct7 oc8 kV8 dc8 pm8 cd8 ct8 oc9 kV9 dc9 pm9 cd9 ct9 oc10 kV10 dc10 pm10 cd10 ct10 oc11 kV11 dc11 pm11 cd11 ct11 oc12 kV12 dc12 pm12 cd12 ct12 oc13 kV13 dc13 pm13 cd13 ct13:Value}
    (a1:PySem.W.nsIn K mainGlobals "is_nail"=some (some (.ref f1))) (l1:K.lookup f1=some ⟨oc1,od1, .func (PySem.W.fnOf "is_nail" "is_nail" (bc cK) (aM cK) (af cK) .none kV1 dc1 pm1 an1 cd1 ct1),sl1⟩) (c1:PySem.W.codeIn K cd1 "is_nail"=true) (k1:PySem.W.keepIn K (.ref f1)=true)
    (a2:PySem.W.nsIn K mainGlobals "is_whole"=some (some (.ref f2))) (l2:K.lookup f2=some ⟨oc2,od2, .func (PySem.W.fnOf "is_whole" "is_whole" (bc cq) (aM cq) (af cq) .none kV2 dc2 pm2 an2 cd2 ct2),sl2⟩) (c2:PySem.W.codeIn K cd2 "is_whole"=true) (k2:PySem.W.keepIn K (.ref f2)=true)
    (a3:PySem.W.nsIn K mainGlobals "is_piece"=some (some (.ref f3))) (l3:K.lookup f3=some ⟨oc3,od3, .func (PySem.W.fnOf "is_piece" "is_piece" (bc cr) (aM cr) (af cr) .none kV3 dc3 pm3 an3 cd3 ct3),sl3⟩) (c3:PySem.W.codeIn K cd3 "is_piece"=true) (k3:PySem.W.keepIn K (.ref f3)=true)
    (a4:PySem.W.nsIn K mainGlobals "check_cord"=some (some (.ref f4))) (l4:K.lookup f4=some ⟨oc4,od4, .func (PySem.W.fnOf "check_cord" "check_cord" (bc bK) (aM bK) (af bK) .none kV4 dc4 pm4 an4 cd4 ct4),sl4⟩) (c4:PySem.W.codeIn K cd4 "check_cord"=true) (k4:PySem.W.keepIn K (.ref f4)=true)
    (a5:PySem.W.nsIn K mainGlobals "_law_at"=some (some (.ref f5))) (l5:K.lookup f5=some ⟨oc5,od5, .func (PySem.W.fnOf "_law_at" "_law_at" (bc de) (aM de) (af de) .none kV5 dc5 pm5 an5 cd5 ct5),sl5⟩) (c5:PySem.W.codeIn K cd5 "_law_at"=true) (k5:PySem.W.keepIn K (.ref f5)=true)
    (a6:PySem.W.nsIn K mainGlobals "_law_mix"=some (some (.ref f6))) (l6:K.lookup f6=some ⟨oc6,od6, .func (PySem.W.fnOf "_law_mix" "_law_mix" (bc cL) (aM cL) (af cL) .none kV6 dc6 pm6 an6 cd6 ct6),sl6⟩) (c6:PySem.W.codeIn K cd6 "_law_mix"=true) (k6:PySem.W.keepIn K (.ref f6)=true)
    (a7:PySem.W.nsIn K mainGlobals "_law_pieces"=some (some (.ref f7))) (l7:K.lookup f7=some ⟨oc7,od7, .func (PySem.W.fnOf "_law_pieces" "_law_pieces" (bc bU) (aM bU) (af bU) .none kV7 dc7 pm7 an7 cd7 ct7),sl7⟩) (c7:PySem.W.codeIn K cd7 "_law_pieces"=true) (k7:PySem.W.keepIn K (.ref f7)=true)
    (a8:PySem.W.nsIn K mainGlobals "_law_word"=some (some (.ref f8))) (l8:K.lookup f8=some ⟨oc8,od8, .func (PySem.W.fnOf "_law_word" "_law_word" (bc cu) (aM cu) (af cu) .none kV8 dc8 pm8 an8 cd8 ct8),sl8⟩) (c8:PySem.W.codeIn K cd8 "_law_word"=true) (k8:PySem.W.keepIn K (.ref f8)=true)
    (a9:PySem.W.nsIn K mainGlobals "_law_thing"=some (some (.ref f9))) (l9:K.lookup f9=some ⟨oc9,od9, .func (PySem.W.fnOf "_law_thing" "_law_thing" (bc b_) (aM b_) (af b_) .none kV9 dc9 pm9 an9 cd9 ct9),sl9⟩) (c9:PySem.W.codeIn K cd9 "_law_thing"=true) (k9:PySem.W.keepIn K (.ref f9)=true)
    (a10:PySem.W.nsIn K mainGlobals "_law_odd_piece"=some (some (.ref f10))) (l10:K.lookup f10=some ⟨oc10,od10, .func (PySem.W.fnOf "_law_odd_piece" "_law_odd_piece" (bc bt) (aM bt) (af bt) .none kV10 dc10 pm10 an10 cd10 ct10),sl10⟩) (c10:PySem.W.codeIn K cd10 "_law_odd_piece"=true) (k10:PySem.W.keepIn K (.ref f10)=true)
    (a11:PySem.W.nsIn K mainGlobals "_law_said"=some (some (.ref f11))) (l11:K.lookup f11=some ⟨oc11,od11, .func (PySem.W.fnOf "_law_said" "_law_said" (bc cw) (aM cw) (af cw) .none kV11 dc11 pm11 an11 cd11 ct11),sl11⟩) (c11:PySem.W.codeIn K cd11 "_law_said"=true) (k11:PySem.W.keepIn K (.ref f11)=true)
    (a12:PySem.W.nsIn K mainGlobals "_law_right"=some (some (.ref f12))) (l12:K.lookup f12=some ⟨oc12,od12, .func (PySem.W.fnOf "_law_right" "_law_right" (bc cb) (aM cb) (af cb) .none kV12 dc12 pm12 an12 cd12 ct12),sl12⟩) (c12:PySem.W.codeIn K cd12 "_law_right"=true) (k12:PySem.W.keepIn K (.ref f12)=true)
    (a13:PySem.W.nsIn K mainGlobals "law"=some (some (.ref f13))) (l13:K.lookup f13=some ⟨oc13,od13, .func (PySem.W.fnOf "law" "law" (bc eR) (aM eR) (af eR) .none kV13 dc13 pm13 an13 cd13 ct13),sl13⟩) (c13:PySem.W.codeIn K cd13 "law"=true) (k13:PySem.W.keepIn K (.ref f13)=true)
    {ec_NoCord ec_NoNails ec_NoRule ec_NoText ec_NoMove ec_NoLine ec_NoName ec_NoNumber ec_TooMany ec_TooLong ec_HangError:Addr}
    (qc_NoCord:PySem.W.nsIn K mainGlobals "NoCord"=some (some (.ref ec_NoCord)))
    (qc_NoNails:PySem.W.nsIn K mainGlobals "NoNails"=some (some (.ref ec_NoNails)))
    (qc_NoRule:PySem.W.nsIn K mainGlobals "NoRule"=some (some (.ref ec_NoRule)))
    (qc_NoText:PySem.W.nsIn K mainGlobals "NoText"=some (some (.ref ec_NoText)))
    (qc_NoMove:PySem.W.nsIn K mainGlobals "NoMove"=some (some (.ref ec_NoMove)))
    (qc_NoLine:PySem.W.nsIn K mainGlobals "NoLine"=some (some (.ref ec_NoLine)))
    (qc_NoName:PySem.W.nsIn K mainGlobals "NoName"=some (some (.ref ec_NoName)))
    (qc_NoNumber:PySem.W.nsIn K mainGlobals "NoNumber"=some (some (.ref ec_NoNumber)))
    (qc_TooMany:PySem.W.nsIn K mainGlobals "TooMany"=some (some (.ref ec_TooMany)))
    (qc_TooLong:PySem.W.nsIn K mainGlobals "TooLong"=some (some (.ref ec_TooLong)))
    (qc_ValueError:PySem.W.nsIn K mainGlobals "ValueError"=some none)
    (qc_HangError:PySem.W.nsIn K mainGlobals "HangError"=some (some (.ref ec_HangError)))
    (w1_NoCord:PySem.W.excIn K ec_NoCord uh "ValueError.__new__"=true)
    (w2_NoCord:(PySem.W.clsIn K ec_NoCord).isSome=true)
    (w3_NoCord:PySem.W.findIn K (.ref ec_NoCord) "__getattribute__"=some (some (.builtin "BaseException.__getattribute__")))
    (w4_NoCord:PySem.W.findIn K (.ref ec_NoCord) "__getattr__"=some none)
    (w5_NoCord:PySem.W.findIn K (.ref ec_NoCord) "__class__"=some (some (.builtin "object.__class__")))
    (w6_NoCord:PySem.W.mroIn K ec_NoCord (.type "BaseException")=some true)
    (w7_NoCord:PySem.W.mroIn K ec_NoCord (.type "object")=some true)
    (y_NoCord_NoCord:PySem.W.kitOne K (.ref ec_NoCord) (.ref ec_NoCord)=some true)
    (y_NoCord_NoNails:PySem.W.kitOne K (.ref ec_NoCord) (.ref ec_NoNails)=some false)
    (y_NoCord_NoRule:PySem.W.kitOne K (.ref ec_NoCord) (.ref ec_NoRule)=some false)
    (y_NoCord_NoText:PySem.W.kitOne K (.ref ec_NoCord) (.ref ec_NoText)=some false)
    (y_NoCord_NoMove:PySem.W.kitOne K (.ref ec_NoCord) (.ref ec_NoMove)=some false)
    (y_NoCord_NoLine:PySem.W.kitOne K (.ref ec_NoCord) (.ref ec_NoLine)=some false)
    (y_NoCord_NoName:PySem.W.kitOne K (.ref ec_NoCord) (.ref ec_NoName)=some false)
    (y_NoCord_NoNumber:PySem.W.kitOne K (.ref ec_NoCord) (.ref ec_NoNumber)=some false)
    (y_NoCord_TooMany:PySem.W.kitOne K (.ref ec_NoCord) (.ref ec_TooMany)=some false)
    (y_NoCord_TooLong:PySem.W.kitOne K (.ref ec_NoCord) (.ref ec_TooLong)=some false)
    (y_NoCord_ValueError:PySem.W.kitOne K (.ref ec_NoCord) (.type "ValueError")=some true)
    (y_NoCord_HangError:PySem.W.exmOne K (.ref ec_NoCord) (.ref ec_HangError)=some true)
    (z1:PySem.W.nsIn K mainGlobals "len"=some none)
    (z2:PySem.W.nsIn K mainGlobals "range"=some none)
    (z3:PySem.W.nsIn K mainGlobals "abs"=some none)
    (z4:PySem.W.nsIn K mainGlobals "min"=some none)
    (z5:PySem.W.nsIn K mainGlobals "max"=some none)
    (z6:PySem.W.nsIn K mainGlobals "reversed"=some none)
    (z7:PySem.W.nsIn K mainGlobals "enumerate"=some none)
    (z8:PySem.W.nsIn K mainGlobals "isinstance"=some none)
    (z9:PySem.W.nsIn K mainGlobals "list"=some none)
    (z10:PySem.W.nsIn K mainGlobals "tuple"=some none)
    (z11:PySem.W.nsIn K mainGlobals "str"=some none)
    (z12:PySem.W.nsIn K mainGlobals "int"=some none)
    (z13:PySem.W.nsIn K mainGlobals "bool"=some none)
    (z14:PySem.W.nsIn K mainGlobals "sorted"=some none)
    (z15:PySem.W.nsIn K mainGlobals "zip"=some none)
    (z16:PySem.W.nsIn K mainGlobals "sum"=some none)
    (z17:PySem.W.nsIn K mainGlobals "any"=some none)
    (z18:PySem.W.nsIn K mainGlobals "all"=some none)
    (z19:PySem.W.nsIn K mainGlobals "set"=some none)
    (z20:PySem.W.nsIn K mainGlobals "dict"=some none):
    ∃fd:FuncData,(∀(s:Shared) (v:Value),BindsTo s fd ⟨[v],[]⟩ [("_law_script",v)])∧∀base:Heap,K.In base→base.Ns mainGlobals mg→FnOk l.prog w K mg base iX 6 fa fd ["_law_script"] (dh K eD):=by
  have e:=hfa.symm.trans (PySem.W.mg_of X G a13)
  cases e
  have F0:=iY (st:=eR) l13 c13 k13
  have B:Bn mg:=r8 X G z1 z2 z3 z4 z5 z6 z7 z8 z9 z10 z11 z12 z13 z14 z15 z16 z17 z18 z19 z20
  have Z_NoCord:ExCls K ec_NoCord:=⟨Option.isSome_iff_exists.mp w2_NoCord,w3_NoCord,w4_NoCord,w5_NoCord,w6_NoCord,w7_NoCord⟩
  have XX:XF K mg:=⟨⟨ec_NoCord,PySem.W.mg_of X G qc_NoCord,(ci qc_NoCord Z_NoCord y_NoCord_NoCord cO),⟨qc_NoCord,PySem.W.mg_of X G qc_NoCord,w1_NoCord,Z_NoCord⟩⟩,⟨ec_NoNails,PySem.W.mg_of X G qc_NoNails,(ci qc_NoCord Z_NoCord y_NoCord_NoNails cO)⟩,⟨ec_NoRule,PySem.W.mg_of X G qc_NoRule,(ci qc_NoCord Z_NoCord y_NoCord_NoRule cO)⟩,⟨ec_NoText,PySem.W.mg_of X G qc_NoText,(ci qc_NoCord Z_NoCord y_NoCord_NoText cO)⟩,⟨ec_NoMove,PySem.W.mg_of X G qc_NoMove,(ci qc_NoCord Z_NoCord y_NoCord_NoMove cO)⟩,⟨ec_NoLine,PySem.W.mg_of X G qc_NoLine,(ci qc_NoCord Z_NoCord y_NoCord_NoLine cO)⟩,⟨ec_NoName,PySem.W.mg_of X G qc_NoName,(ci qc_NoCord Z_NoCord y_NoCord_NoName cO)⟩,⟨ec_NoNumber,PySem.W.mg_of X G qc_NoNumber,(ci qc_NoCord Z_NoCord y_NoCord_NoNumber cO)⟩,⟨ec_TooMany,PySem.W.mg_of X G qc_TooMany,(ci qc_NoCord Z_NoCord y_NoCord_TooMany cO)⟩,⟨ec_TooLong,PySem.W.mg_of X G qc_TooLong,(ci qc_NoCord Z_NoCord y_NoCord_TooLong cO)⟩,⟨PySem.W.mg_none_of X G qc_ValueError,(ci qc_NoCord Z_NoCord y_NoCord_ValueError cO)⟩,⟨ec_HangError,PySem.W.mg_of X G qc_HangError,fun n hn D hD=>by
    simp only [List.mem_cons,List.not_mem_nil,or_false] at hn
    rcases hn with rfl
    · rw [qc_NoCord] at hD;cases hD;exact y_NoCord_HangError⟩⟩
  have e_is_nail:Def K mg "is_nail" cK ["thing"]:=cD X G a1 l1 c1 k1 fun _ _ _ _ _ _=>fun us hl=>gd (fun _=>rfl) us hl
  have e_is_whole:Def K mg "is_whole" cq ["thing"]:=cD X G a2 l2 c2 k2 fun _ _ _ _ _ _=>fun us hl=>gd (fun _=>rfl) us hl
  have e_is_piece:Def K mg "is_piece" cr ["thing"]:=cD X G a3 l3 c3 k3 fun _ _ _ _ _ _=>fun us hl=>gd (fun _=>rfl) us hl
  have e_check_cord:Def K mg "check_cord" bK ["thing"]:=cD X G a4 l4 c4 k4 fun _ _ _ _ _ _=>fun us hl=>gd (fun _=>rfl) us hl
  have e_law_at:Def K mg "_law_at" de ["_law_script","_law_k"]:=cD X G a5 l5 c5 k5 fun _ _ _ _ _ _=>fun us hl=>sL (fun _ _=>rfl) us hl
  have e_law_mix:Def K mg "_law_mix" cL ["_law_cell","_law_k"]:=cD X G a6 l6 c6 k6 fun _ _ _ _ _ _=>fun us hl=>sL (fun _ _=>rfl) us hl
  have e_law_pieces:Def K mg "_law_pieces" bU ["_law_cell"]:=cD X G a7 l7 c7 k7 fun _ _ _ _ _ _=>fun us hl=>gd (fun _=>rfl) us hl
  have e_law_word:Def K mg "_law_word" cu ["_law_e"]:=cD X G a8 l8 c8 k8 fun _ _ _ _ _ _=>fun us hl=>gd (fun _=>rfl) us hl
  have e_law_thing:Def K mg "_law_thing" b_ ["_law_cell"]:=cD X G a9 l9 c9 k9 fun _ _ _ _ _ _=>fun us hl=>gd (fun _=>rfl) us hl
  have e_law_odd_piece:Def K mg "_law_odd_piece" bt ["_law_cell"]:=cD X G a10 l10 c10 k10 fun _ _ _ _ _ _=>fun us hl=>gd (fun _=>rfl) us hl
  have e_law_said:Def K mg "_law_said" cw ["_law_thing_here"]:=cD X G a11 l11 c11 k11 fun _ _ _ _ _ _=>fun us hl=>gd (fun _=>rfl) us hl
  have e_law_right:Def K mg "_law_right" cb ["_law_cell"]:=cD X G a12 l12 c12 k12 fun _ _ _ _ _ _=>fun us hl=>gd (fun _=>rfl) us hl
  refine ⟨PySem.W.fnOf "law" "law" (bc eR) (aM eR) (af eR) .none kV13 dc13 pm13 an13 cd13 ct13,fun s v=> .of_eq rfl,fun base _ _=>?_⟩
  have D_is_nail:=jg (P:=l.prog) (w:=w) (base:=base) e_is_nail B
  have D_is_whole:=iI (P:=l.prog) (w:=w) (base:=base) e_is_whole B
  have D_is_piece:=iK (P:=l.prog) (w:=w) (base:=base) e_is_piece B D_is_nail D_is_whole
  have D_check_cord:=f_ (P:=l.prog) (w:=w) (base:=base) e_check_cord B D_is_piece XX
  have R_check_cord:=fR (P:=l.prog) (w:=w) (base:=base) e_check_cord B D_is_piece XX
  have D_law_at:=kB (P:=l.prog) (w:=w) (base:=base) e_law_at B
  have D_law_mix:=jh (P:=l.prog) (w:=w) (base:=base) e_law_mix B
  have D_law_pieces:=gb (P:=l.prog) (w:=w) (base:=base) e_law_pieces B D_law_mix
  have D_law_word:=iL (P:=l.prog) (w:=w) (base:=base) e_law_word B XX
  have D_law_thing:=hI (P:=l.prog) (w:=w) (base:=base) e_law_thing B
  have D_law_odd_piece:=eY (P:=l.prog) (w:=w) (base:=base) e_law_odd_piece B
  have D_law_said:=iM (P:=l.prog) (w:=w) (base:=base) e_law_said B D_check_cord R_check_cord D_law_word XX
  have D_law_right:=hJ (P:=l.prog) (w:=w) (base:=base) e_law_right B D_law_thing D_is_nail D_law_said D_law_pieces D_law_odd_piece
  exact qf F0 B D_law_at D_law_right D_law_said
theorem t9 {l:PySem.W.OpenLaw} {q:Program} {loose:List Str} {XP:(Str→Option Value)→Heap→Prop} {YP:World→Heap→Prop} {d:DefRec} {K:Params→PySem.W.Frag} (hn:l.most=some 63) (hdf:d.params.defaults=[])
    (hY:∀(w:World) (h:Heap),YP w h→(K w.params).In h∧jH (K w.params) h)
    (F:∀(w:World) (mg:Str→Option Value) (fa:Addr) (h:Heap),(K w.params).In h→h.Ns mainGlobals mg→mg d.name=some (.ref fa)→
      ∃fd:FuncData,(∀(s:Shared) (u:Value),BindsTo s fd ⟨[u],[]⟩ [("_law_script",u)])∧∀base:Heap,(K w.params).In base→base.Ns mainGlobals mg→FnOk l.prog w (K w.params) mg base iX 6 fa fd ["_law_script"] (dh (K w.params) eD)):
    PySem.W.WalkO q loose XP YP l.row.toRowW d [] (fun f vs=>PySem.call f vs):=
  L2.lN (n:=63) (k:=6) (x:="_law_script") (CX:=fun _=>iX) (sp:=fun w=>dh (K w.params) eD) hn (by decide) hdf ⟨rfl,by decide,by decide⟩ hY F (fun _ _ a ns hl hS=>pW (qJ ns hl) hS) fun _ _ _ _ _ z=>z
end Nhk01
open PySem PySem.W PyProof.Rows
theorem PySem.W.Fast.te9563883326532947564 : True := trivial
set_option maxRecDepth 100000 in
set_option maxHeartbeats 0 in
theorem PySem.Challenge.cw_nailhang_k01_nails_and_cords_holds : PySem.Challenge.rw_nailhang_k01_nails_and_cords.Holds := by
  w_on;o_law;k_head;(case hw=>w_witness2)
  k_fill
  refine Nhk01.t9 (l:=PySem.Challenge.rw_nailhang_k01_nails_and_cords) rfl rfl (fun w h Y=>⟨PySem.W.kIn_of Y,L2.jd (by k_is)⟩) ?F
  case F=>
    intro w mg fa h KX G hmg
    refine' Nhk01.qK KX G hmg ?a1 ?l1 ?c1 ?k1 ?a2 ?l2 ?c2 ?k2 ?a3 ?l3 ?c3 ?k3 ?a4 ?l4 ?c4 ?k4 ?a5 ?l5 ?c5 ?k5 ?a6 ?l6 ?c6 ?k6 ?a7 ?l7 ?c7 ?k7 ?a8 ?l8 ?c8 ?k8 ?a9 ?l9 ?c9 ?k9 ?a10 ?l10 ?c10 ?k10 ?a11 ?l11 ?c11 ?k11 ?a12 ?l12 ?c12 ?k12 ?a13 ?l13 ?c13 ?k13 ?qc_NoCord ?qc_NoNails ?qc_NoRule ?qc_NoText ?qc_NoMove ?qc_NoLine ?qc_NoName ?qc_NoNumber ?qc_TooMany ?qc_TooLong ?qc_ValueError ?qc_HangError ?w1_NoCord ?w2_NoCord ?w3_NoCord ?w4_NoCord ?w5_NoCord ?w6_NoCord ?w7_NoCord ?y_NoCord_NoCord ?y_NoCord_NoNails ?y_NoCord_NoRule ?y_NoCord_NoText ?y_NoCord_NoMove ?y_NoCord_NoLine ?y_NoCord_NoName ?y_NoCord_NoNumber ?y_NoCord_TooMany ?y_NoCord_TooLong ?y_NoCord_ValueError ?y_NoCord_HangError ?z1 ?z2 ?z3 ?z4 ?z5 ?z6 ?z7 ?z8 ?z9 ?z10 ?z11 ?z12 ?z13 ?z14 ?z15 ?z16 ?z17 ?z18 ?z19 ?z20
    (case a1=>k_is)
    (case l1=>k_is)
    (case c1=>k_is)
    (case k1=>k_is)
    (case a2=>k_is)
    (case l2=>k_is)
    (case c2=>k_is)
    (case k2=>k_is)
    (case a3=>k_is)
    (case l3=>k_is)
    (case c3=>k_is)
    (case k3=>k_is)
    (case a4=>k_is)
    (case l4=>k_is)
    (case c4=>k_is)
    (case k4=>k_is)
    (case a5=>k_is)
    (case l5=>k_is)
    (case c5=>k_is)
    (case k5=>k_is)
    (case a6=>k_is)
    (case l6=>k_is)
    (case c6=>k_is)
    (case k6=>k_is)
    (case a7=>k_is)
    (case l7=>k_is)
    (case c7=>k_is)
    (case k7=>k_is)
    (case a8=>k_is)
    (case l8=>k_is)
    (case c8=>k_is)
    (case k8=>k_is)
    (case a9=>k_is)
    (case l9=>k_is)
    (case c9=>k_is)
    (case k9=>k_is)
    (case a10=>k_is)
    (case l10=>k_is)
    (case c10=>k_is)
    (case k10=>k_is)
    (case a11=>k_is)
    (case l11=>k_is)
    (case c11=>k_is)
    (case k11=>k_is)
    (case a12=>k_is)
    (case l12=>k_is)
    (case c12=>k_is)
    (case k12=>k_is)
    (case a13=>k_is)
    (case l13=>k_is)
    (case c13=>k_is)
    (case k13=>k_is)
    (case qc_NoCord=>k_is)
    (case qc_NoNails=>k_is)
    (case qc_NoRule=>k_is)
    (case qc_NoText=>k_is)
    (case qc_NoMove=>k_is)
    (case qc_NoLine=>k_is)
    (case qc_NoName=>k_is)
    (case qc_NoNumber=>k_is)
    (case qc_TooMany=>k_is)
    (case qc_TooLong=>k_is)
    (case qc_ValueError=>k_is)
    (case qc_HangError=>k_is)
    (case w1_NoCord=>k_exc)
    (case w2_NoCord=>kernel_rfl)
    (case w3_NoCord=>k_is)
    (case w4_NoCord=>k_is)
    (case w5_NoCord=>k_is)
    (case w6_NoCord=>k_is)
    (case w7_NoCord=>k_is)
    (case y_NoCord_NoCord=>kit_is)
    (case y_NoCord_NoNails=>kit_is)
    (case y_NoCord_NoRule=>kit_is)
    (case y_NoCord_NoText=>kit_is)
    (case y_NoCord_NoMove=>kit_is)
    (case y_NoCord_NoLine=>kit_is)
    (case y_NoCord_NoName=>kit_is)
    (case y_NoCord_NoNumber=>kit_is)
    (case y_NoCord_TooMany=>kit_is)
    (case y_NoCord_TooLong=>kit_is)
    (case y_NoCord_ValueError=>kit_is)
    (case y_NoCord_HangError=>kts_exm)
    (case z1=>k_is)
    (case z2=>k_is)
    (case z3=>k_is)
    (case z4=>k_is)
    (case z5=>k_is)
    (case z6=>k_is)
    (case z7=>k_is)
    (case z8=>k_is)
    (case z9=>k_is)
    (case z10=>k_is)
    (case z11=>k_is)
    (case z12=>k_is)
    (case z13=>k_is)
    (case z14=>k_is)
    (case z15=>k_is)
    (case z16=>k_is)
    (case z17=>k_is)
    (case z18=>k_is)
    (case z19=>k_is)
    (case z20=>k_is)
