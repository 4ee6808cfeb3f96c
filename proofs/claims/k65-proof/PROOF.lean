import PyProof.Rows.All
import KE.KLam
import KE.KNestM
import PyProof.OldK
import Wide.All
import OpenK.AllK
import Wide.FinOn
import Lean
import PyProof.EqAt
import PyProof.EqKinds
import PyProof.TupleCall
import KE.KRevIter
import PyProof.Rows.SeqMore
import PyProof.Rows.ListMulArg
import PyProof.ZipIter
import PyProof.Rows.ZipGen
import PyProof.EnumMake
import PyProof.StrWalks
import PyProof.SliceStr2
import PyProof.StrBlockH
import PyProof.FString5
import PyProof.Rows.StrJoin2
import PyProof.Rows.Range3
import KE.KDictLaws
import PyProof.ConsumeWalk
import PyProof.SumWalkG
import PyProof.Rows.SeqCalls
import PyProof.Rows.SeqGen
import PyProof.Rows.MinMaxN
import PyProof.Rows.CallKwBuiltin
import PyProof.Rows.SortStr
import PyProof.StrOps2
import PyProof.Rows.StrMul
import PyProof.IsRules
import PyProof.Rows.SetFrom
import PyProof.CollectStr
import PyProof.PureStr
import PyProof.CallStr
import KE.KIntText
import KE.IntTextLaws
import PyProof.Rows.ReprOcc
import PyProof.StrLawsIdx
import PyProof.StrLawsIn
import PyProof.StrLaws
import PySem.Challenge.RW_nailhang_k65_written_and_read
set_option Elab.async false
set_option linter.all false
set_option maxRecDepth 100000
set_option maxHeartbeats 4000000
local macro_rules | `(tactic| omega) => `(tactic| lia)
noncomputable section
namespace L2
open PySem PySem.Spec PyProof.Rows
abbrev cX:=Sum Int Str
def u8:cX→Value→Bool
  | .inl k,v=>Value.isInt k v
  | .inr x,v=>Value.isStrOf x v
def yz (w:World):cX→Int
  | .inl k=>hashInt k
  | .inr x=>hashStr w x
theorem bH:∀{k:cX} {v:Value},u8 k v=true→(∃i t,k=Sum.inl i∧v=Value.int i t)∨(∃x t,k=Sum.inr x∧v=Value.str x t)
  | .inl i,v,h=>by
    obtain ⟨t,e⟩:=Value.isInt_shape (k:=i) (v:=v) h
    exact .inl ⟨i,t,rfl,e⟩
  | .inr x,v,h=>by
    obtain ⟨t,e⟩:=Value.isStrOf_shape (x:=x) (v:=v) h
    exact .inr ⟨x,t,rfl,e⟩
theorem vy (a b:Int):decide ((Sum.inl a:cX)=Sum.inl b)=(a == b):=by
  by_cases e:a=b
  · subst e;simp
  · have h:¬(Sum.inl a:cX)=Sum.inl b:=fun q=>e (Sum.inl.inj q)
    rw [decide_eq_false h]
    exact (beq_eq_false_iff_ne.mpr e).symm
theorem vz (a b:Str):decide ((Sum.inr a:cX)=Sum.inr b)=decide (a=b):=by
  by_cases e:a=b
  · subst e;simp
  · have h:¬(Sum.inr a:cX)=Sum.inr b:=fun q=>e (Sum.inr.inj q)
    rw [decide_eq_false h,decide_eq_false e]
theorem vA (a:Int) (b:Str):decide ((Sum.inl a:cX)=Sum.inr b)=false:=decide_eq_false (fun q=>nomatch q)
theorem vB (a:Str) (b:Int):decide ((Sum.inr a:cX)=Sum.inl b)=false:=decide_eq_false (fun q=>nomatch q)
def i5 (prog:Program) (w:World):PySem.KeyKind prog w cX where
  is:=u8
  hash:=yz w
  inj:=fun v a b ha hb=>by
    rcases bH ha with ⟨i,t,rfl,rfl⟩ | ⟨x,t,rfl,rfl⟩
    · rcases bH hb with ⟨j,u,rfl,e⟩ | ⟨y,u,rfl,e⟩
      · injection e with e1 _;rw [e1]
      · exact nomatch e
    · rcases bH hb with ⟨j,u,rfl,e⟩ | ⟨y,u,rfl,e⟩
      · exact nomatch e
      · injection e with e1 _;rw [e1]
  byValue:=fun k v h=>by
    rcases bH h with ⟨i,t,rfl,rfl⟩ | ⟨x,t,rfl,rfl⟩ <;> rfl
  pyHash:=fun hv h=>by
    rcases bH hv with ⟨i,t,rfl,rfl⟩ | ⟨x,t,rfl,rfl⟩
    · exact wpAny_pyHash_int h
    · exact wpAny_pyHash_str h
  eqBool:=fun hu hv h=>by
    rcases bH hu with ⟨i,t,rfl,rfl⟩ | ⟨x,t,rfl,rfl⟩
    · rcases bH hv with ⟨j,u,rfl,rfl⟩ | ⟨y,u,rfl,rfl⟩
      · rw [vy] at h;exact wpAny_eqBool_int h
      · rw [vA] at h;exact SeqAt.EqAt.int_str i t y u _ _ _ _ h
    · rcases bH hv with ⟨j,u,rfl,rfl⟩ | ⟨y,u,rfl,rfl⟩
      · rw [vB] at h;exact SeqAt.EqAt.str_int x t j u _ _ _ _ h
      · rw [vz] at h;exact wpAny_eqBool_str h
  «strs»:=fun k x t v h=>by
    rcases bH h with ⟨i,u,rfl,e⟩ | ⟨y,u,rfl,e⟩
    · exact nomatch e
    · injection e with e1 _
      subst e1
      cases v <;> rfl
end L2
namespace L2
open PySem PySem.Spec PyProof.Rows
inductive V where
  | non | bl (b:Bool) | int (i:Int) | str (x:Str) | byt (b:Array UInt8) | flt (b:UInt64) | ref (a:Addr) | ty (n:String)
  deriving DecidableEq
def RelV:V→Value→Prop
  | .non,u=>u=Value.none
  | .bl b,u=>u=Value.bool b
  | .int i,u=>∃t,u=Value.int i t
  | .str x,u=>∃t,u=Value.str x t
  | .byt b,u=>∃t,u=Value.bytes b t
  | .flt b,u=>∃t,u=Value.float b t
  | .ref a,u=>u=Value.ref a
  | .ty n,u=>u=Value.type n
abbrev Vals:List V→List Value→Prop:=Paired RelV
theorem Vals.length {xs:List V} {us:List Value} (r:Vals xs us):xs.length=us.length:=Paired.length r
theorem Vals.get:∀{xs:List V} {us:List Value} {i:Nat} {x:V},Vals xs us→xs[i]? =some x→∃u,us[i]? =some u∧RelV x u
  | _,_,_,_, .nil,e=>by simp at e
  | _,_,0,_, .cons r _,e=>by simp at e;subst e;exact ⟨_,rfl,r⟩
  | _,_,i+1,x, .cons _ t,e=>by
    obtain ⟨u,h1,h2⟩:=Vals.get (i:=i) (x:=x) t (by simpa using e)
    exact ⟨u,by simpa using h1,h2⟩
theorem Vals.set {x:V} {u:Value} (r:RelV x u):∀{xs:List V} {us:List Value} (i:Nat),Vals xs us→Vals (xs.set i x) (us.set i u)
  | _,_,_, .nil=> .nil
  | _,_,0, .cons _ t=> .cons r t
  | _,_,i+1, .cons q t=> .cons q (Vals.set r i t)
theorem Vals.append:∀{xs ys:List V} {us ws:List Value},Vals xs us→Vals ys ws→Vals (xs++ys) (us++ws)
  | _,_,_,_, .nil,s=>s
  | _,_,_,_, .cons r t,s=> .cons r (Vals.append t s)
theorem Vals.take:∀{xs:List V} {us:List Value} (n:Nat),Vals xs us→Vals (xs.take n) (us.take n)
  | _,_,0,_=> .nil
  | _,_,_+1, .nil=> .nil
  | _,_,n+1, .cons r t=> .cons r (Vals.take n t)
theorem Vals.drop:∀{xs:List V} {us:List Value} (n:Nat),Vals xs us→Vals (xs.drop n) (us.drop n)
  | _,_,0,r=>r
  | _,_,_+1, .nil=> .nil
  | _,_,n+1, .cons _ t=>Vals.drop n t
theorem Vals.none_of:∀{xs:List V} {us:List Value} {i:Nat},Vals xs us→xs[i]? =none→us[i]? =none:=fun {xs us i} r e=>by
  have h1:=r.length
  have h2:xs.length≤i:=List.getElem?_eq_none_iff.mp e
  exact List.getElem?_eq_none_iff.mpr (by omega)
def RelO:Option V→Option Value→Prop
  | some v,some u=>RelV v u
  | none,none=>True
  | _,_=>False
def KV {κ:Type}:List (κ×V)→List (κ×Value)→Prop:=Paired fun (p:κ×V) (q:κ×Value)=>p.1=q.1∧RelV p.2 q.2
def kV:cX→V
  | .inl i=> .int i
  | .inr x=> .str x
inductive HO where
  /-- a list -/
  | lst (xs:List V)
  /-- a tuple (never changes) -/
  | tup (xs:List V)
  /-- a dict whose keys are ints and texts;one whose keys are tuples of ints and texts (the empty one is both) -/
  | dK (kvs:List (cX×V)) | dT (kvs:List (List cX×V))
  /-- a set of ints:its members,its size -/
  | set (S:Int→Bool) (n:Nat)
  /-- an instance of the class at C,its dict at dx,its attributes -/
  | ins (C dx:Addr) (fs:List (Str×V))
  /-- the dict of the instance at x -/
  | own (x:Addr)
  /-- the dict of an exception -/
  | xd (fs:List (Str×V))
  /-- a bound method,f of x -/
  | met (f x:Addr)
  /-- a range object lo,lo+1, .. below hi -/
  | rng (lo hi:Int)
  /-- a thing that is known to the object (the script;a dict while a pA walks it):read,never written while it is so -/
  | frz (o:Obj) (u:HO)
  /-- a code object's table -/
  | tbl (q:Str)
  /-- any other thing,by what is true of its one object (a def of one's own:SetO a S n:=HO.ext fun h=> ..) -/
  | ext (φ:Heap→Prop)
abbrev Hp:=Addr→Option HO
def upd (H:Hp) (a:Addr) (o:HO):Hp:=fun b=>if b=a then some o else H b
theorem az {H:Hp} {a:Addr} {o:HO}:upd H a o a=some o:=by unfold upd;rw [if_pos rfl]
theorem au {H:Hp} {a b:Addr} {o:HO} (h:b≠a):upd H a o b=H b:=by unfold upd;rw [if_neg h]
theorem tM {H:Hp} {a:Addr} {o u:HO}:upd (upd H a o) a u=upd H a u:=by
  funext b;unfold upd;split <;> rfl
theorem u9 {H:Hp} {a b:Addr} {o u:HO} (h:H a=some o) (h':H b=some u) (d:o≠u):a≠b:=by
  intro e;subst e;rw [h] at h';exact d (Option.some.inj h')
theorem aL {H:Hp} {a b:Addr} {o:HO} (h:H a=some o) (h':H b=none):a≠b:=by
  intro e;subst e;rw [h] at h';cases h'
section
variable (P:Program) (w:World)
def ObjOk (H:Hp) (h:Heap) (a:Addr):HO→Prop
  | .lst xs=>xs.length≤sizeLine∧∃(its:List Value) (n:Nat),Vals xs its∧h.get? a=some {cls:= .type "list",data:= .seq its.toArray n}
  | .tup xs=>xs.length≤sizeLine∧∃its:List Value,Vals xs its∧IsTup h a its.toArray
  | .dK kvs=>kvs.length≤sizeLine∧(a == sysModules)=false∧∃vs,KV kvs vs∧h.DictOf (i5 P w) a vs
  | .dT kvs=>kvs.length≤sizeLine∧(a == sysModules)=false∧∃xs:List (List cX×Addr×Value),
      Paired (fun (p:List cX×V) (q:List cX×Addr×Value)=>p.1=q.1∧H q.2.1=some (.tup (p.1.map kV))∧RelV p.2 q.2.2) kvs xs∧
      ∃o es ep,h.get? a=some o∧o.ExactDict∧o.data= .dict es ep∧es.toList=xs.map (entryOfKey (tupleKind (i5 P w)))∧(xs.map (·.1)).Nodup
  | .set S n=>h.SetOf (intKind P w) a S n
  | .ins C dx fs=>H dx=some (.own a)∧fs.length≤1000∧dx≠a∧h.get? a=some (PySem.W.instObj C dx)∧
      ∃mA,h.Ns1 dx mA∧(∀f,RelO (fs.lookup f) (mA f))∧PySem.Within mA (fs.map (·.1))
  | .own _=>∃o,h.get? a=some o
  | .xd fs=>∃mA,h.Ns1 a mA∧∀f,RelO (fs.lookup f) (mA f)
  | .rng lo hi=>∃t u v,h.get? a=some {cls:= .type "range",data:= .fields #[.int lo t, .int hi u, .int 1 v]}
  | .frz o u=>h.get? a=some o∧ObjOk H h a u
  | .tbl q=>∃ps:Array Value,h.get? a=some (PySem.W.tabObj ps)∧TriplesOk ps.toList∧∀pos cv,codeAmong pos ps.toList=some cv→∃c,cv=Value.ref c∧H c=some (.own a)∧h.CodeRec cv q
  | .met f x=>h.get? a=some (PySem.W.methodObj (.ref f) (.ref x))
  | .ext φ=>φ h∧(∃o,h.get? a=some o)∧∀h1 h2:Heap,φ h1→(∀o,h1.get? a=some o→h2.get? a=some o)→φ h2
def HOk (H:Hp) (h:Heap):Prop:=∀a o,H a=some o→ObjOk P w H h a o
end
section
variable {P:Program} {w:World} {H H':Hp} {h h':Heap} {a:Addr} {o:HO}
theorem ObjOk.lt (x:ObjOk P w H h a o):a < h.objs.size:=by
  cases o with
  | lst xs=>obtain ⟨_,_,_,_,e⟩:=x;exact Heap.lt_size e
  | tup xs=>obtain ⟨_,_,_,p⟩:=x;exact p.lt
  | dK kvs=>obtain ⟨_,_,_,_,o,_,_,e,_⟩:=x;exact Heap.lt_size e
  | dT kvs=>obtain ⟨_,_,_,_,o,_,_,e,_⟩:=x;exact Heap.lt_size e
  | set S n=>obtain ⟨o,_,_,_,e,_⟩:=x;exact Heap.lt_size e
  | ins C dx fs=>obtain ⟨_,_,_,e,_⟩:=x;exact Heap.lt_size e
  | own y=>obtain ⟨_,e⟩:=x;exact Heap.lt_size e
  | xd fs=>obtain ⟨_,⟨_,_,_,e,_⟩,_⟩:=x;exact Heap.lt_size e
  | rng lo hi=>obtain ⟨_,_,_,e⟩:=x;exact Heap.lt_size e
  | frz ob u=>obtain ⟨e,_⟩:=x;exact Heap.lt_size e
  | tbl q=>obtain ⟨_,e,_⟩:=x;exact Heap.lt_size e
  | met f y=>exact Heap.lt_size (show h.get? a=some _ from x)
  | ext φ=>obtain ⟨_,⟨_,e⟩,_⟩:=x;exact Heap.lt_size e
theorem Paired.mapP {α β:Type} {F G:α→β→Prop} {l₁:List α} {l₂:List β} (h:Paired F l₁ l₂) (f:∀a b,F a b→G a b):Paired G l₁ l₂:=by
  induction h with
  | nil=>exact .nil
  | cons r _ t=>exact .cons (f _ _ r) t
theorem ObjOk.stay (x:ObjOk P w H h a o) (k:∀b u,(b=a∨H b=some (.own a))→h.get? b=some u→h'.get? b=some u)
    (ho:∀b,H b=some (.own a)→H' b=some (.own a)) (ht:∀b xs,H b=some (.tup xs)→H' b=some (.tup xs)):ObjOk P w H' h' a o:=by
  induction o with
  | lst xs=>obtain ⟨z,its,n,r,e⟩:=x;exact ⟨z,its,n,r,k _ _ (.inl rfl) e⟩
  | tup xs=>obtain ⟨z,its,r,ob,e,c⟩:=x;exact ⟨z,its,r,ob,k _ _ (.inl rfl) e,c⟩
  | dK kvs=>obtain ⟨z,y,vs,r,ob,es,ep,e,c⟩:=x;exact ⟨z,y,vs,r,ob,es,ep,k _ _ (.inl rfl) e,c⟩
  | dT kvs=>
    obtain ⟨z,y,xs,r,ob,es,ep,e,c⟩:=x
    exact ⟨z,y,xs,Paired.mapP r fun p q z=>⟨z.1,ht _ _ z.2.1,z.2.2⟩,ob,es,ep,k _ _ (.inl rfl) e,c⟩
  | set S n=>obtain ⟨ob,es,ep,t,e,c⟩:=x;exact ⟨ob,es,ep,t,k _ _ (.inl rfl) e,c⟩
  | ins C dx fs=>
    obtain ⟨d,z,ne,e,mA,⟨od,es,ep,e2,c⟩,r⟩:=x
    exact ⟨ho _ d,z,ne,k _ _ (.inl rfl) e,mA,⟨od,es,ep,k _ _ (.inr d) e2,c⟩,r⟩
  | own y=>obtain ⟨ob,e⟩:=x;exact ⟨ob,k _ _ (.inl rfl) e⟩
  | xd fs=>obtain ⟨mA,⟨od,es,ep,e,c⟩,r⟩:=x;exact ⟨mA,⟨od,es,ep,k _ _ (.inl rfl) e,c⟩,r⟩
  | rng lo hi=>obtain ⟨t,u,v,e⟩:=x;exact ⟨t,u,v,k _ _ (.inl rfl) e⟩
  | frz ob u ih=>obtain ⟨e,q⟩:=x;exact ⟨k _ _ (.inl rfl) e,ih q⟩
  | tbl q=>
    obtain ⟨ps,e,t,r⟩:=x
    refine ⟨ps,k _ _ (.inl rfl) e,t,fun pos cv z=>?_⟩
    obtain ⟨c,ec,ho',c2,oc,vs,tq,hc,hoc,hd⟩:=r pos cv z
    subst ec
    cases hc
    exact ⟨c,rfl,ho _ ho',c,oc,vs,tq,rfl,k _ _ (.inr ho') hoc,hd⟩
  | met f y=>
    have e:h.get? a=some (PySem.W.methodObj (.ref f) (.ref y)):=x
    show h'.get? a=some (PySem.W.methodObj (.ref f) (.ref y))
    exact k a _ (.inl rfl) e
  | ext φ=>obtain ⟨p,⟨o,e⟩,st⟩:=x;exact ⟨st _ _ p fun o q=>k _ _ (.inl rfl) q,⟨o,k _ _ (.inl rfl) e⟩,st⟩
theorem HOk.lt (x:HOk P w H h) (e:H a=some o):a < h.objs.size:=(x a o e).lt
theorem HOk.fresh (x:HOk P w H h) (e:h.objs.size≤a):H a=none:=by
  cases q:H a with
  | none=>rfl
  | some u=>exact absurd (Nat.lt_of_lt_of_le (x.lt q) e) (Nat.lt_irrefl _)
theorem HOk.kept (x:HOk P w H h) (k:∀b u,h.get? b=some u→h'.get? b=some u):HOk P w H h':=fun a o e=>
  (x a o e).stay (fun b u _ q=>k b u q) (fun _ q=>q) fun _ _ q=>q
theorem HOk.laid (x:HOk P w H h) (k:∀b u,h.get? b=some u→h'.get? b=some u) (hp:h.objs.size≤a) (new:ObjOk P w (upd H a o) h' a o):HOk P w (upd H a o) h':=fun b u e=>by
  have hn:=x.fresh hp
  by_cases hb:b=a
  · subst hb;rw [az] at e;cases e;exact new
  · rw [au hb] at e
    exact (x b u e).stay (fun c v _ q=>k c v q) (fun c q=>by rw [au (aL q hn)];exact q) fun c xs q=>by rw [au (aL q hn)];exact q
end
def Rd (H:Hp) (a:Addr) (u:HO):Prop:=H a=some u∨∃o,H a=some (.frz o u)
theorem Rd.of {H:Hp} {a:Addr} {u:HO} (h:H a=some u):Rd H a u:= .inl h
theorem Rd.ok {P:Program} {w:World} {H:Hp} {h:Heap} {a:Addr} {u:HO} (r:Rd H a u) (x:HOk P w H h):ObjOk P w H h a u:=by
  rcases r with r | ⟨o,r⟩
  · exact x a u r
  · obtain ⟨_,q⟩:=x a _ r
    exact q
def yn:Option HO→Prop
  | some (.lst _)=>True
  | some (.dK _)=>True
  | some (.dT _)=>True
  | some (.set _ _)=>True
  | some (.ins _ _ _)=>True
  | some (.ext _)=>True
  | _=>False
section
variable {P:Program} {w:World} {H:Hp} {h h':Heap} {x e:Addr} {o':HO}
theorem HOk.write (ok:HOk P w H h) (mu:yn (H x)) (he:e=x∨H e=some (.own x)) (k:∀b u,b≠e→h.get? b=some u→h'.get? b=some u) (heo:∃u,h'.get? e=some u)
    (new:ObjOk P w (upd H x o') h' x o'):HOk P w (upd H x o') h':=fun b u q=>by
  have nown:∀c y,H c=some (.own y)→c≠x:=fun c y r z=>by subst z;rw [r] at mu;exact mu
  have ntup:∀c xs,H c=some (.tup xs)→c≠x:=fun c xs r z=>by subst z;rw [r] at mu;exact mu
  by_cases hb:b=x
  · subst hb;rw [az] at q;cases q;exact new
  · rw [au hb] at q
    by_cases hbe:b=e
    · have q':H b=some (.own x):=by
        rcases he with z | z
        · exact absurd (hbe.trans z) hb
        · rw [hbe];exact z
      rw [q] at q';cases q'
      obtain ⟨v,hv⟩:=heo
      exact ⟨v,by rw [hbe];exact hv⟩
    · refine (ok b u q).stay (fun c v hc r=>k c v ?_ r) (fun c r=>by rw [au (nown c b r)];exact r) fun c xs r=>by rw [au (ntup c xs r)];exact r
      rcases hc with rfl | hc
      · exact hbe
      · rintro rfl
        rcases he with z | z
        · exact nown c b hc z
        · rw [hc] at z;cases z;exact hb rfl
end
structure Un (fs ex:List Addr) (H H':Hp) (h h':Heap):Prop where
  keep:∀b o,h.get? b=some o→H b=none→b∉fs→b∉ex→h'.get? b=some o
  slot:∀b o,h.get? b=some o→H b=none→b∈fs→b∉ex→∃sl,h'.get? b=some {o with slots:=sl}
  free:∀b o,h.get? b=some o→H b=none→b∉ex→H' b=none
  there:∀b o,h.get? b=some o→b∉ex→∃o',h'.get? b=some o'
  tups:∀b xs,H b=some (.tup xs)→H' b=some (.tup xs)
  frzs:∀b o u,H b=some (.frz o u)→H' b=some (.frz o u)
  tbls:∀b ps,H b=some (.tbl ps)→H' b=some (.tbl ps)
section
variable {fs fs' ex ex':List Addr} {H H1 H2:Hp} {h h1 h2 h':Heap} {a x e:Addr} {o:HO}
theorem Un.any (u:Un fs ex H H1 h h1) {b:Addr} {ob:Obj} (q:h.get? b=some ob) (n:H b=none) (hx:b∉ex):∃sl,h1.get? b=some {ob with slots:=sl}:=by
  by_cases hb:b∈fs
  · exact u.slot b ob q n hb hx
  · exact ⟨ob.slots,u.keep b ob q n hb hx⟩
theorem Un.trans (a:Un fs ex H H1 h h1) (b:Un fs ex H1 H2 h1 h2):Un fs ex H H2 h h2 where
  keep:=fun c ob q n hc hx=>b.keep c ob (a.keep c ob q n hc hx) (a.free c ob q n hx) hc hx
  slot:=fun c ob q n hc hx=>by
    obtain ⟨sl,e1⟩:=a.slot c ob q n hc hx
    obtain ⟨sl',e2⟩:=b.slot c _ e1 (a.free c ob q n hx) hc hx
    exact ⟨sl',e2⟩
  free:=fun c ob q n hx=>by
    obtain ⟨o',e1⟩:=a.there c ob q hx
    exact b.free c o' e1 (a.free c ob q n hx) hx
  there:=fun c ob q hx=>by
    obtain ⟨o',e1⟩:=a.there c ob q hx
    exact b.there c o' e1 hx
  tups:=fun c xs q=>b.tups c xs (a.tups c xs q)
  frzs:=fun c ob xs q=>b.frzs c ob xs (a.frzs c ob xs q)
  tbls:=fun c ps q=>b.tbls c ps (a.tbls c ps q)
theorem Un.kept (k:∀b u,h.get? b=some u→h'.get? b=some u):Un fs ex H H h h':=
  ⟨fun b ob q _ _ _=>k b ob q,fun b ob q _ _ _=>⟨ob.slots,k b ob q⟩,fun _ _ _ n _=>n,fun b ob q _=>⟨ob,k b ob q⟩,fun _ _ q=>q,fun _ _ _ q=>q,fun _ _ q=>q⟩
theorem Un.refl:Un fs ex H H h h:=Un.kept fun _ _ q=>q
theorem Un.laid (k:∀b u,h.get? b=some u→h'.get? b=some u) (hp:h.objs.size≤a) (hn:H a=none):Un fs ex H (upd H a o) h h' where
  keep:=fun b u q _ _ _=>k b u q
  slot:=fun b u q _ _ _=>⟨u.slots,k b u q⟩
  free:=fun b u q n _=>by rw [au (Nat.ne_of_lt (Nat.lt_of_lt_of_le (Heap.lt_size q) hp))];exact n
  there:=fun b u q _=>⟨u,k b u q⟩
  tups:=fun b xs q=>by rw [au (aL q hn)];exact q
  frzs:=fun b u xs q=>by rw [au (aL q hn)];exact q
  tbls:=fun b ps q=>by rw [au (aL q hn)];exact q
theorem Un.write (mu:yn (H x)) (he:e=x∨H e=some (.own x)) (k:∀b u,b≠e→h.get? b=some u→h'.get? b=some u) (heo:∃u,h'.get? e=some u):Un fs ex H (upd H x o) h h':=by
  have hx:∀b,H b=none→b≠x:=fun b n z=>by subst z;rw [n] at mu;exact mu
  have hb:∀b,H b=none→b≠e:=fun b n z=>by
    subst z
    rcases he with r | r
    · exact hx b n r
    · rw [n] at r;cases r
  have hm:∀b u,H b=some u→¬yn (some u)→b≠x:=fun b u q nm z=>by subst z;rw [q] at mu;exact nm mu
  refine ⟨fun b u q n _ _=>k b u (hb b n) q,fun b u q n _ _=>⟨u.slots,k b u (hb b n) q⟩,fun b u q n _=>by rw [au (hx b n)];exact n,fun b u q _=>?_,
    fun b xs q=>by rw [au (hm b _ q fun z=>z)];exact q,fun b u xs q=>by rw [au (hm b _ q fun z=>z)];exact q,fun b ps q=>by rw [au (hm b _ q fun z=>z)];exact q⟩
  by_cases hbe:b=e
  · subst hbe;exact heo
  · exact ⟨u,k b u hbe q⟩
theorem Un.mono (u:Un fs ex H H1 h h1) (hs:∀b∈fs,b∈fs') (hx:∀b∈ex,b∈ex'):Un fs' ex' H H1 h h1:=
  ⟨fun b ob q n hb he=>u.keep b ob q n (fun z=>hb (hs b z)) fun z=>he (hx b z),fun _ _ q n _ he=>u.any q n fun z=>he (hx _ z),fun b ob q n he=>u.free b ob q n fun z=>he (hx b z),fun b ob q he=>u.there b ob q fun z=>he (hx b z),u.tups,u.frzs,u.tbls⟩
end
def yo (h:Heap) (H:Hp):List Addr:=(List.range h.objs.size).filter fun a=>(H a).isSome
def mw (h:Heap) (H:Hp):Heap:=PySem.W.hideAll h (yo h H)
theorem pB (h:Heap) (H:Hp):(mw h H).objs.size=h.objs.size:=PySem.W.hideAll_size _ _
theorem je {h:Heap} {H:Hp} {b:Addr} {o:Obj} (e:h.get? b=some o) (n:H b=none):(mw h H).get? b=some o:=
  PySem.W.hideAll_get _ e fun hm=>by
    have q:(H b).isSome=true:=(List.mem_filter.mp hm).2
    rw [n] at q;simp at q
theorem tN {h:Heap} {H:Hp} {b:Addr} {o:Obj} (e:(mw h H).get? b=some o):h.get? b=some o∧H b=none:=by
  have e':h.get? b=some o:=PySem.W.of_hideAll (yo h H) e
  refine ⟨e',?_⟩
  cases q:H b with
  | none=>rfl
  | some x=>
    have hm:b∈yo h H:=List.mem_filter.mpr ⟨List.mem_range.mpr (Heap.lt_size e'),by simp [q]⟩
    have z:(mw h H).get? b=none:=PySem.W.hideAll_none (yo h H) hm
    rw [z] at e;cases e
def tO (g h:Heap) (L:Addr):List (Addr×Obj):=(List.range h.objs.size).filterMap fun a=>if a=L∨(g.get? a).isSome=true then none else (h.get? a).map fun o=>(a,o)
def bj (g h:Heap) (L d:Addr):List (Addr×Obj):=(tO g h L).filter fun p=>decide (p.1≠d)
end L2
namespace L2
open PySem PySem.Spec PyProof.Rows
def xb (K:PySem.W.Frag):Option Addr:=match PySem.W.nsIn K mainGlobals "in_told_order" with
  | some (some (.ref f))=>match K.lookup f with
    | some ⟨_,_, .func fd,_⟩=>match fd.code with
      | .ref c=>match K.lookup c with
        | some ⟨_,_, .fields vs,_⟩=>match (vs[11]? :Option Value) with
          | some (.ref P)=>some P
          | _=>none
        | _=>none
      | _=>none
    | _=>none
  | _=>none
def jf (K:PySem.W.Frag) (b:Addr):Option Str:=if xb K=some b then some (Str.ofString "in_told_order.<locals>.<lambda>") else none
structure Mod (K:PySem.W.Frag) (mg:Str→Option Value) (base:Heap):Prop where
  kin:K.In base
  glob:base.Ns mainGlobals mg
  blt:∃mb,base.Ns builtinsNs mb∧∀x:Str,x≠"__name__"→mb x=bootBuiltins x
  nolimit:base.NoLimit
  bmain:∃bm ob,mg "__builtins__"=some (.ref bm)∧bm≠builtinsNs∧base.get? bm=some ob∧ob.cls= .type "module"∧ob.dict=some builtinsNs∧ob.data= .plain
structure Cx where
  prog:Program
  w:World
  K:PySem.W.Frag
  mg:Str→Option Value
  base:Heap
  A:Around
  N:List Str
  s₀:Shared
  H₀:Hp
  env:Env
  outer:List Env
  stack:List Env
  ex:List Addr
  fn:Str→Bool
  calm:Bool
  pn:List (Addr×Obj)
  xe:Value→Shared→Prop
def qx (l:List Env):List Addr:=l.filterMap (·.frame)
abbrev Cx.fs (X:Cx):List Addr:=qx X.outer
def tP (sc:Scope) (x:Str):Prop:=sc.names.lookup x=some .local∨sc.names.lookup x=some .cell∨sc.names.lookup x=some .free
def wR (sc:Scope) (x:Str):Prop:=sc.names.lookup x=some .local∨sc.names.lookup x=some .cell
def yA (env:Env) (h:Heap) (m:Str→Option Value) (x:Str) (u:Value):Prop:=
  (env.kindOf x=some .local∧m x=some u)∨((env.kindOf x=some .cell∨env.kindOf x=some .free)∧∃c,env.cells.lookup x=some c∧h.IsCell c (some u))
structure Cx.Ok (X:Cx):Prop where
  mod:Mod X.K X.mg X.base
  kind:X.env.scope.kind= .function
  glob:X.env.globals=mainGlobals
  blt:X.env.builtins=builtinsNs
  above:X.s₀.heap.objs.size≤X.env.locals
  inj:∀x y c,X.env.cells.lookup x=some c→X.env.cells.lookup y=some c→x=y
  has:∀x,(X.env.kindOf x=some .cell∨X.env.kindOf x=some .free)→∃c,X.env.cells.lookup x=some c
  cab:∀x c,X.fn x=true→X.env.cells.lookup x=some c→X.s₀.heap.objs.size≤c
  hd:X.calm=true→X.A.handled=none
  frames:X.A.frames=some X.stack
  stk:X.stack=X.outer∨(X.stack=X.env::X.outer∧X.env.frame=some X.env.locals)
  exf:∀b∈X.ex,b≠X.env.locals∧∀x c,X.env.cells.lookup x=some c→c≠b
  bs:∀b o,X.base.get? b=some o→X.s₀.heap.get? b=some o∧X.H₀ b=none
  bsz:X.base.objs.size≤X.s₀.heap.objs.size
  noex:∀b o,X.base.get? b=some o→b∉X.ex
  exfs:∀b∈X.ex,b∉X.fs
  funs:X.s₀.heap.FunFrames X.base X.outer
  frf:∀b∈X.fs,X.H₀ b=none
  tab:∀b q,jf X.K b=some q→X.H₀ b=some (.tbl q)
structure Inv (X:Cx) (pins:List (Addr×Obj)) (σ:List (Option V)) (H:Hp) (s:Shared):Prop where
  ok:X.Ok
  os:s.os=X.s₀.os
  bare:AllBare s.gens
  base:Un X.fs X.ex X.H₀ H X.s₀.heap s.heap
  loc:∃m,s.heap.Ns X.env.locals m∧∀(i:Nat) (x:Str) (v:V),X.N[i]? =some x→σ[i]? =some (some v)→tP X.env.scope x→∃u,RelV v u∧yA X.env s.heap m x u
  cell:∀x c,X.env.cells.lookup x=some c→∃v,s.heap.IsCell c v
  free:H X.env.locals=none
  freeC:∀x c,X.env.cells.lookup x=some c→H c=none
  pin:∀p∈X.pn++pins,s.heap.get? p.1=some p.2∧H p.1=none∧p.1≠X.env.locals∧p.1∉X.fs∧∀v,p.2.data≠ .cell v
  hok:HOk X.prog X.w H s.heap
  len:σ.length=X.N.length
section
variable {X:Cx} {pins:List (Addr×Obj)} {σ:List (Option V)} {H H':Hp} {s:Shared} {h':Heap}
theorem Cx.Ok.nofr (ok:X.Ok) {b:Addr} {o:Obj} (e:X.base.get? b=some o):b∉X.fs:=fun hb=>by
  have:=(ok.funs.mem hb).1
  rw [e] at this;cases this
theorem Inv.bs (I:Inv X pins σ H s):∀b o,X.base.get? b=some o→s.heap.get? b=some o∧H b=none:=fun b o e=>
  ⟨I.base.keep b o (I.ok.bs b o e).1 (I.ok.bs b o e).2 (I.ok.nofr e) (I.ok.noex b o e),I.base.free b o (I.ok.bs b o e).1 (I.ok.bs b o e).2 (I.ok.noex b o e)⟩
theorem Inv.bk (I:Inv X pins σ H s):∀b o,X.base.get? b=some o→s.heap.get? b=some o:=fun b o e=>(I.bs b o e).1
theorem Inv.mod (I:Inv X pins σ H s):Mod X.K X.mg X.base:=I.ok.mod
theorem Inv.tab (I:Inv X pins σ H s):∀b q,jf X.K b=some q→H b=some (.tbl q):=fun b q e=>I.base.tbls b q (I.ok.tab b q e)
theorem Inv.kIn (I:Inv X pins σ H s):X.K.In s.heap:=I.ok.mod.kin.keeps I.bk
theorem Inv.nolimit (I:Inv X pins σ H s):s.heap.NoLimit:=I.ok.mod.nolimit.keeps I.bk
theorem Inv.fr (I:Inv X pins σ H s):∃m,Fr X.base X.env.locals s.heap m:=
  let ⟨m,hn,_⟩:=I.loc
  ⟨m,hn,I.bk,Nat.le_trans I.ok.bsz I.ok.above⟩
theorem Inv.lt (I:Inv X pins σ H s):X.env.locals < s.heap.objs.size:=let ⟨_,hn,_⟩:=I.loc;hn.lt
theorem Inv.sz (I:Inv X pins σ H s):X.s₀.heap.objs.size≤s.heap.objs.size:=Nat.le_trans I.ok.above (Nat.le_of_lt I.lt)
theorem Inv.nofs (I:Inv X pins σ H s) {a:Addr} (h:s.heap.objs.size≤a):a∉X.fs:=fun hb=>by
  obtain ⟨_,o,ho,_⟩:=I.ok.funs.mem hb
  exact absurd (Nat.lt_of_lt_of_le (Heap.lt_size ho) (Nat.le_trans I.sz h)) (Nat.lt_irrefl _)
theorem Inv.cne (I:Inv X pins σ H s):∀x c,X.env.cells.lookup x=some c→c≠X.env.locals:=fun x c e z=>by
  obtain ⟨v,o,ho,hd⟩:=I.cell x c e
  obtain ⟨m,⟨o',es,ep,ho',hd',_⟩,_⟩:=I.loc
  rw [z,ho'] at ho;cases ho;rw [hd'] at hd;cases hd
theorem Inv.funs (I:Inv X pins σ H s):s.heap.FunFrames X.base X.outer:=by
  have all:∀(l:List Env),(∀b∈qx l,b∈X.fs)→X.s₀.heap.FunFrames X.base l→s.heap.FunFrames X.base l:=by
    intro l
    induction l with
    | nil=>intro _ _;trivial
    | cons env r ih=>
      intro hs hl
      obtain ⟨hk,⟨L,o,hf,hn,ho,hd⟩,hr⟩:=hl
      have hL:L∈X.fs:=hs L (by unfold qx;rw [List.filterMap_cons,hf];exact List.mem_cons_self)
      obtain ⟨sl,e⟩:=I.base.slot L o ho (I.ok.frf L hL) hL fun z=>I.ok.exfs L z hL
      exact ⟨hk,⟨L,_,hf,hn,e,hd⟩,ih (fun b hb=>hs b (by unfold qx;rw [List.filterMap_cons,hf];exact List.mem_cons_of_mem _ hb)) hr⟩
  exact all X.outer (fun _ hb=>hb) I.ok.funs
theorem Inv.stack (I:Inv X pins σ H s):s.heap.FunFrames X.base X.stack:=by
  rcases I.ok.stk with e | ⟨e,hf⟩
  · rw [e];exact I.funs
  · rw [e]
    obtain ⟨m,hn,_⟩:=I.loc
    refine .cons (by rw [I.ok.kind];decide) hf hn ?_ I.funs
    exact Heap.get?_none_of_le (Nat.le_trans I.ok.bsz I.ok.above)
theorem Inv.stkSub (I:Inv X pins σ H s):∀b∈qx X.stack,b∈X.env.locals::X.fs:=fun b hb=>by
  rcases I.ok.stk with e | ⟨e,hf⟩
  · rw [e] at hb;exact List.mem_cons_of_mem _ hb
  · rw [e] at hb
    unfold qx at hb
    rw [List.filterMap_cons,hf] at hb
    exact hb
theorem Inv.stkFree (I:Inv X pins σ H s):∀b∈qx X.stack,H b=none:=fun b hb=>by
  rcases List.mem_cons.mp (I.stkSub b hb) with e | hb
  · rw [e];exact I.free
  · obtain ⟨_,o,ho,_⟩:=I.ok.funs.mem hb
    exact I.base.free b o ho (I.ok.frf b hb) fun z=>I.ok.exfs b z hb
theorem Inv.step {g':Array GenState} {t':Nat} {d':Drawn} {ch:List Addr} (I:Inv X pins σ H s)
    (hch:∀b∈ch,(b∈X.ex∨X.s₀.heap.objs.size≤b)∧b≠X.env.locals∧(∀x c,X.env.cells.lookup x=some c→c≠b)∧∀p∈X.pn++pins,p.1≠b)
    (keep:∀b o,b≠X.env.locals→b∉X.fs→b∉ch→s.heap.get? b=some o→H b=none→h'.get? b=some o)
    (slot:∀b o,b≠X.env.locals→b∈X.fs→b∉ch→s.heap.get? b=some o→H b=none→∃sl,h'.get? b=some {o with slots:=sl}) (free:∀b o,b∉ch→s.heap.get? b=some o→H b=none→H' b=none)
    (there:∀b o,b∉ch→s.heap.get? b=some o→∃o',h'.get? b=some o')
    (tups:∀b xs,H b=some (.tup xs)→H' b=some (.tup xs)) (frzs:∀b o u,H b=some (.frz o u)→H' b=some (.frz o u)) (tbls:∀b ps,H b=some (.tbl ps)→H' b=some (.tbl ps))
    (ns:∀m,s.heap.Ns X.env.locals m→h'.Ns X.env.locals m) (hok:HOk X.prog X.w H' h') (hg:AllBare g'):
    Inv X pins σ H' {s with heap:=h',gens:=g',drawn:=d',toks:=t'}:=by
  have neL:∀b o,X.s₀.heap.get? b=some o→b≠X.env.locals:=fun b o e=>Nat.ne_of_lt (Nat.lt_of_lt_of_le (Heap.lt_size e) I.ok.above)
  have neC:∀b o,X.s₀.heap.get? b=some o→b∉X.ex→b∉ch:=fun b o e hx hb=>by
    rcases (hch b hb).1 with z | z
    · exact hx z
    · exact absurd (Nat.lt_of_lt_of_le (Heap.lt_size e) z) (Nat.lt_irrefl _)
  have cellK:∀x c,X.env.cells.lookup x=some c→∀v,s.heap.IsCell c v→h'.IsCell c v:=fun x c e v ⟨o,ho,hd⟩=>by
    have nch:c∉ch:=fun z=>(hch c z).2.2.1 x c e rfl
    by_cases hc:c∈X.fs
    · obtain ⟨sl,q⟩:=slot c o (I.cne x c e) hc nch ho (I.freeC x c e)
      exact ⟨_,q,hd⟩
    · exact ⟨o,keep c o (I.cne x c e) hc nch ho (I.freeC x c e),hd⟩
  refine ⟨I.ok,I.os,hg,⟨fun b o e n hb hx=>?_,fun b o e n hb hx=>?_,fun b o e n hx=>?_,fun b o e hx=>?_,fun b xs e=>tups b xs (I.base.tups b xs e),fun b o xs e=>frzs b o xs (I.base.frzs b o xs e),fun b ps e=>?_⟩,?_,fun x c e=>?_,?_,fun x c e=>?_,fun p hp=>?_,hok,I.len⟩
  · exact keep b o (neL b o e) hb (neC b o e hx) (I.base.keep b o e n hb hx) (I.base.free b o e n hx)
  · obtain ⟨sl,e1⟩:=I.base.slot b o e n hb hx
    obtain ⟨sl',e2⟩:=slot b _ (neL b o e) hb (neC b o e hx) e1 (I.base.free b o e n hx)
    exact ⟨sl',e2⟩
  · obtain ⟨o',e1⟩:=I.base.there b o e hx
    exact free b o' (neC b o e hx) e1 (I.base.free b o e n hx)
  · obtain ⟨o',e1⟩:=I.base.there b o e hx
    exact there b o' (neC b o e hx) e1
  · exact tbls b _ (I.base.tbls b ps e)
  · obtain ⟨m,hn,hl⟩:=I.loc
    refine ⟨m,ns m hn,fun i x v e1 e2 e3=>?_⟩
    obtain ⟨u,r,l⟩:=hl i x v e1 e2 e3
    refine ⟨u,r,?_⟩
    rcases l with l | ⟨k,c,e,z⟩
    · exact .inl l
    · exact .inr ⟨k,c,e,cellK x c e _ z⟩
  · obtain ⟨v,z⟩:=I.cell x c e
    exact ⟨v,cellK x c e v z⟩
  · obtain ⟨m,⟨o,_,_,ho,_⟩,_⟩:=I.loc
    exact free _ o (fun z=>(hch _ z).2.1 rfl) ho I.free
  · obtain ⟨v,o,ho,hd⟩:=I.cell x c e
    exact free c o (fun z=>(hch c z).2.2.1 x c e rfl) ho (I.freeC x c e)
  · obtain ⟨e,n,ne,nf,d⟩:=I.pin p hp
    have nch:p.1∉ch:=fun z=>(hch p.1 z).2.2.2 p hp rfl
    exact ⟨keep p.1 p.2 ne nf nch e n,free p.1 p.2 nch e n,ne,nf,d⟩
theorem Inv.un {t':Nat} (I:Inv X pins σ H s) (u:Un X.fs [] H H' s.heap h') (hok:HOk X.prog X.w H' h'):Inv X pins σ H' {s with heap:=h',toks:=t'}:=by
  obtain ⟨m,⟨o,es,ep,ho,r⟩,_⟩:=id I.loc
  obtain ⟨sl,hL⟩:=u.any ho I.free (by simp)
  exact I.step (g':=s.gens) (d':=s.drawn) (ch:=[]) (fun _ z=>nomatch z) (fun b o _ hb _ e n=>u.keep b o e n hb (by simp)) (fun b o _ hb _ e n=>u.slot b o e n hb (by simp)) (fun b o _ e n=>u.free b o e n (by simp)) (fun b o _ e=>u.there b o e (by simp)) u.tups u.frzs u.tbls (fun m' hm=>by
    obtain ⟨o',es',ep',ho',r'⟩:=hm
    rw [ho] at ho';cases ho'
    exact ⟨_,es',ep',hL,r'⟩) hok I.bare
theorem Inv.call {g':Array GenState} {t':Nat} {d':Drawn} {ch:List Addr} (I:Inv X pins σ H s) (u:Un (qx X.stack) ch H H' s.heap h') (hok:HOk X.prog X.w H' h') (hg:AllBare g')
    (hch:∀b∈ch,(b∈X.ex∨X.s₀.heap.objs.size≤b)∧b≠X.env.locals∧(∀x c,X.env.cells.lookup x=some c→c≠b)∧∀p∈X.pn++pins,p.1≠b):
    Inv X pins σ H' {s with heap:=h',gens:=g',drawn:=d',toks:=t'}:=by
  obtain ⟨m,⟨o,es,ep,ho,r⟩,_⟩:=id I.loc
  obtain ⟨sl,hL⟩:=u.any ho I.free fun z=>(hch _ z).2.1 rfl
  exact I.step (ch:=ch) hch (fun b o hL hb hc e n=>u.keep b o e n (fun z=>(List.mem_cons.mp (I.stkSub b z)).elim hL hb) hc) (fun b o _ _ hc e n=>u.any e n hc) (fun b o hc e n=>u.free b o e n hc) (fun b o hc e=>u.there b o e hc) u.tups u.frzs u.tbls (fun m' hm=>by
    obtain ⟨o',es',ep',ho',r'⟩:=hm
    rw [ho] at ho';cases ho'
    exact ⟨_,es',ep',hL,r'⟩) hok hg
theorem Inv.turned {t':Nat} {it:Addr} (I:Inv X pins σ H s) (k:∀b o,b≠it→s.heap.get? b=some o→h'.get? b=some o) (hn:H it=none) (hL:it≠X.env.locals)
    (h1:it∈X.ex∨X.s₀.heap.objs.size≤it) (h2:∀x c,X.env.cells.lookup x=some c→c≠it) (h3:∀p∈X.pn++pins,p.1≠it):Inv X pins σ H {s with heap:=h',toks:=t'}:=by
  have nit:∀b u,H b=some u→b≠it:=fun b u e z=>by rw [z,hn] at e;cases e
  refine I.step (g':=s.gens) (d':=s.drawn) (ch:=[it]) (fun b hb=>?_) (fun b o _ _ hc e _=>k b o (fun z=>hc (by simp [z])) e) (fun b o _ _ hc e _=>⟨o.slots,k b o (fun z=>hc (by simp [z])) e⟩) (fun _ _ _ _ n=>n)
    (fun b o hc e=>⟨o,k b o (fun z=>hc (by simp [z])) e⟩) (fun _ _ e=>e) (fun _ _ _ e=>e) (fun _ _ e=>e) (fun m hm=>?_) (fun b u e=>?_) I.bare
  · have e:b=it:=by simpa using hb
    subst e
    exact ⟨h1,hL,h2,h3⟩
  · obtain ⟨o,es,ep,ho,r⟩:=hm
    exact ⟨o,es,ep,k _ o (Ne.symm hL) ho,r⟩
  · refine (I.hok b u e).stay (fun c v hc q=>k c v ?_ q) (fun _ q=>q) fun _ _ q=>q
    rcases hc with z | z
    · rw [z];exact nit b u e
    · exact nit c _ z
theorem Inv.tok (I:Inv X pins σ H s) (t:Nat):Inv X pins σ H {s with toks:=t}:=I.un (h':=s.heap) (t':=t) Un.refl I.hok
theorem Inv.kept {t':Nat} (I:Inv X pins σ H s) (k:∀b u,s.heap.get? b=some u→h'.get? b=some u):Inv X pins σ H {s with heap:=h',toks:=t'}:=I.un (Un.kept k) (I.hok.kept k)
theorem Inv.laid {a:Addr} {o:HO} {t':Nat} (I:Inv X pins σ H s) (k:∀b u,s.heap.get? b=some u→h'.get? b=some u) (hp:s.heap.objs.size≤a) (new:ObjOk X.prog X.w (upd H a o) h' a o):
    Inv X pins σ (upd H a o) {s with heap:=h',toks:=t'}:=I.un (Un.laid k hp (I.hok.fresh hp)) (I.hok.laid k hp new)
theorem Inv.write {x e:Addr} {o:HO} {t':Nat} (I:Inv X pins σ H s) (mu:yn (H x)) (he:e=x∨H e=some (.own x)) (k:∀b u,b≠e→s.heap.get? b=some u→h'.get? b=some u) (heo:∃u,h'.get? e=some u)
    (new:ObjOk X.prog X.w (upd H x o) h' x o):Inv X pins σ (upd H x o) {s with heap:=h',toks:=t'}:=I.un (Un.write mu he k heo) (I.hok.write mu he k heo new)
theorem Inv.pins_of {pins':List (Addr×Obj)} (I:Inv X pins σ H s) (h:∀p∈pins',s.heap.get? p.1=some p.2∧H p.1=none∧p.1≠X.env.locals∧p.1∉X.fs∧∀v,p.2.data≠ .cell v):Inv X pins' σ H s:=
  ⟨I.ok,I.os,I.bare,I.base,I.loc,I.cell,I.free,I.freeC,fun p hp=>(List.mem_append.mp hp).elim (fun z=>I.pin p (List.mem_append_left _ z)) (h p),I.hok,I.len⟩
theorem mx {N:List Str} (hN:N.Nodup) {i j:Nat} {x:Str} (a:N[i]? =some x) (b:N[j]? =some x):i=j:=by
  obtain ⟨h1,e1⟩:=List.getElem?_eq_some_iff.mp a
  obtain ⟨h2,e2⟩:=List.getElem?_eq_some_iff.mp b
  exact (List.getElem_inj hN).mp (e1.trans e2.symm)
theorem pD {M:Model} {A:Around} {E:Value→Shared→Prop} {i:Nat} {x:Str} {v:V} {u:Value} {Q:Unit→Shared→Prop} (I:Inv X pins σ H s) (hN:X.N.Nodup) (hi:X.N[i]? =some x) (hx:wR X.env.scope x) (r:RelV v u)
    (h:∀s',Inv X pins (σ.set i (some v)) H s'→(∃a,Heap.SameBut a s.heap s'.heap∧(a=X.env.locals∨X.env.cells.lookup x=some a))→Q () s') (hf:X.fn x=true∨X.env.scope.names.lookup x=some .local:=by first | exact .inl rfl | exact .inr rfl | assumption):wpAny M A (storeName X.env x u) Q E s:=by
  obtain ⟨m,hn,hl⟩:=id I.loc
  have hcls:(X.env.scope.kind == .class||(X.env.scope.kind == .module&&X.env.locals != X.env.globals))=false:=by rw [I.ok.kind];rfl
  have hiσ:i < σ.length:=by rw [I.len];exact (List.getElem?_eq_some_iff.mp hi).1
  have cne:=I.cne
  have tracked:∀{a:Addr} {h':Heap},(∃o,s.heap.get? a=some o∧H a=none)→Heap.SameBut a s.heap h'→HOk X.prog X.w H h':=fun {a h'} ha hs b ob e=>by
    obtain ⟨_,_,hfree⟩:=ha
    refine (I.hok b ob e).stay (fun c w' hc q=>(hs.2 c ?_).trans q) (fun _ q=>q) fun _ _ q=>q
    rintro rfl
    rcases hc with rfl | hc
    · rw [hfree] at e;cases e
    · rw [hfree] at hc;cases hc
  rcases hx with hk | hk
  · refine wpAny_storeName_local hk hn (fun h' hn' hs=>?_) hcls
    obtain ⟨oL,_,_,hoL,_⟩:=id hn
    refine h _ ⟨I.ok,I.os,I.bare,⟨fun b o e n hb hx=>?_,fun b o e n hb hx=>?_,I.base.free,fun b o e hx=>?_,I.base.tups,I.base.frzs,I.base.tbls⟩,⟨_,hn',fun j y v' e1 e2 e3=>?_⟩,fun y c e=>?_,I.free,I.freeC,fun p hp=>?_,tracked ⟨oL,hoL,I.free⟩ hs,by simpa using I.len⟩ ⟨_,hs, .inl rfl⟩
    · exact (hs.2 b (Nat.ne_of_lt (Nat.lt_of_lt_of_le (Heap.lt_size e) I.ok.above))).trans (I.base.keep b o e n hb hx)
    · obtain ⟨sl,e1⟩:=I.base.slot b o e n hb hx
      exact ⟨sl,(hs.2 b (Nat.ne_of_lt (Nat.lt_of_lt_of_le (Heap.lt_size e) I.ok.above))).trans e1⟩
    · obtain ⟨o',e1⟩:=I.base.there b o e hx
      exact ⟨o',(hs.2 b (Nat.ne_of_lt (Nat.lt_of_lt_of_le (Heap.lt_size e) I.ok.above))).trans e1⟩
    · by_cases hj:j=i
      · subst hj
        rw [hi] at e1;cases e1
        rw [List.getElem?_set_self hiσ] at e2
        cases e2
        exact ⟨u,r, .inl ⟨hk,by simp⟩⟩
      · rw [List.getElem?_set_ne (Ne.symm hj)] at e2
        obtain ⟨u',r',q⟩:=hl j y v' e1 e2 e3
        refine ⟨u',r',?_⟩
        rcases q with ⟨k,e⟩ | ⟨k,c,e,z⟩
        · refine .inl ⟨k,?_⟩
          have:y≠x:=fun e=>hj (mx hN e1 (e▸hi))
          simp [this,e]
        · exact .inr ⟨k,c,e,z.sameBut hs (cne y c e)⟩
    · obtain ⟨w',z⟩:=I.cell y c e
      exact ⟨w',z.sameBut hs (cne y c e)⟩
    · obtain ⟨e,n,ne,nf,d⟩:=I.pin p hp
      exact ⟨(hs.2 p.1 ne).trans e,n,ne,nf,d⟩
  · have hfn:X.fn x=true:=by
      rcases hf with z | z
      · exact z
      · rw [z] at hk;cases hk
    obtain ⟨c,hc⟩:=I.ok.has x (.inl hk)
    obtain ⟨w',z⟩:=I.cell x c hc
    refine wpAny_storeName_cell I.ok.kind hk hc z (fun h' hc' hs=>?_)
    obtain ⟨oc,hoc,hocd⟩:=id z
    refine h {s with heap:=h'} ⟨I.ok,I.os,I.bare,⟨fun b o e n hb hx=>?_,fun b o e n hb hx=>?_,I.base.free,fun b o e hx=>?_,I.base.tups,I.base.frzs,I.base.tbls⟩,⟨m,hn.sameBut hs (Ne.symm (cne x c hc)),fun j y v' e1 e2 e3=>?_⟩,fun y c' e=>?_,I.free,I.freeC,fun p hp=>?_,tracked ⟨oc,hoc,I.freeC x c hc⟩ hs,by simpa using I.len⟩ ⟨c,hs, .inr hc⟩
    · exact (hs.2 b (Nat.ne_of_lt (Nat.lt_of_lt_of_le (Heap.lt_size e) (I.ok.cab x c hfn hc)))).trans (I.base.keep b o e n hb hx)
    · obtain ⟨sl,e1⟩:=I.base.slot b o e n hb hx
      exact ⟨sl,(hs.2 b (Nat.ne_of_lt (Nat.lt_of_lt_of_le (Heap.lt_size e) (I.ok.cab x c hfn hc)))).trans e1⟩
    · obtain ⟨o',e1⟩:=I.base.there b o e hx
      exact ⟨o',(hs.2 b (Nat.ne_of_lt (Nat.lt_of_lt_of_le (Heap.lt_size e) (I.ok.cab x c hfn hc)))).trans e1⟩
    · by_cases hj:j=i
      · subst hj
        rw [hi] at e1;cases e1
        rw [List.getElem?_set_self hiσ] at e2
        cases e2
        exact ⟨u,r, .inr ⟨.inl hk,c,hc,hc'⟩⟩
      · rw [List.getElem?_set_ne (Ne.symm hj)] at e2
        obtain ⟨u',r',q⟩:=hl j y v' e1 e2 e3
        refine ⟨u',r',?_⟩
        rcases q with q | ⟨k,c',e,z'⟩
        · exact .inl q
        · refine .inr ⟨k,c',e,z'.sameBut hs ?_⟩
          rintro rfl
          exact hj (mx hN e1 (I.ok.inj _ _ _ e hc▸hi))
    · by_cases hcc:c'=c
      · subst hcc;exact ⟨_,hc'⟩
      · obtain ⟨w2,z2⟩:=I.cell y c' e
        exact ⟨w2,z2.sameBut hs hcc⟩
    · obtain ⟨e,n,ne,nf,d⟩:=I.pin p hp
      refine ⟨(hs.2 p.1 ?_).trans e,n,ne,nf,d⟩
      intro q
      rw [q,hoc] at e
      have q':oc=p.2:=Option.some.inj e
      exact d w' (by rw [←q'];exact hocd)
theorem my {M:Model} {A:Around} {E:Value→Shared→Prop} {i:Nat} {x:Str} {v:V} {u:Value} {Q:Unit→Shared→Prop} (I:Inv X pins σ H s) (hN:X.N.Nodup) (hi:X.N[i]? =some x) (hx:wR X.env.scope x) (r:RelV v u)
    (h:∀s',Inv X pins (σ.set i (some v)) H s'→Q () s') (hf:X.fn x=true∨X.env.scope.names.lookup x=some .local:=by first | exact .inl rfl | exact .inr rfl | assumption):wpAny M A (storeName X.env x u) Q E s:=
  pD I hN hi hx r (fun s' I' _=>h s' I') hf
theorem Inv.call' {s':Shared} {ch:List Addr} (I:Inv X pins σ H s) (ho:s'.os=s.os) (u:Un (qx X.stack) ch H H' s.heap s'.heap) (hok:HOk X.prog X.w H' s'.heap) (hg:AllBare s'.gens)
    (hch:∀b∈ch,(b∈X.ex∨X.s₀.heap.objs.size≤b)∧b≠X.env.locals∧(∀x c,X.env.cells.lookup x=some c→c≠b)∧∀p∈X.pn++pins,p.1≠b):Inv X pins σ H' s':=by
  obtain ⟨h',g',d',t',o'⟩:=s'
  have e:o'=s.os:=ho
  subst e
  exact I.call (g':=g') (t':=t') (d':=d') u hok hg hch
end
abbrev XK:=Value→Option Addr→Hp→Prop
abbrev St:=List (Option V)
abbrev VK:=V→Hp→Prop
abbrev TE:=St→Hp→VK→Prop
abbrev TT:=St→Hp→(Bool→Hp→Prop)→Prop
abbrev TA:=St→Hp→(List V→Hp→Prop)→Prop
structure Ends where
  nx:St→Hp→Prop
  rt:VK
  bk:St→Hp→Prop:=fun _ _=>False
  ct:St→Hp→Prop:=fun _ _=>False
abbrev TS:=Ends→St→Hp→Prop
def EP (X:Cx) (pins:List (Addr×Obj)) (σ:St) (Q:VK) (u:Value) (s':Shared):Prop:=∃v H',Inv X pins σ H' s'∧RelV v u∧Q v H'
def TP (X:Cx) (pins:List (Addr×Obj)) (σ:St) (Q:Bool→Hp→Prop) (b:Bool) (s':Shared):Prop:=∃H',Inv X pins σ H' s'∧Q b H'
def AP (X:Cx) (pins:List (Addr×Obj)) (σ:St) (Q:List V→Hp→Prop) (us:List Value) (s':Shared):Prop:=∃vs H',Inv X pins σ H' s'∧Vals vs us∧Q vs H'
def SP (X:Cx) (pins:List (Addr×Obj)) (D:Ends) (f:Flow) (s':Shared):Prop:=
  match f with
  | .next=>∃σ' H',Inv X pins σ' H' s'∧D.nx σ' H'
  | .brk=>∃σ' H',Inv X pins σ' H' s'∧D.bk σ' H'
  | .cont=>∃σ' H',Inv X pins σ' H' s'∧D.ct σ' H'
  | .ret u=>∃v σ' H',Inv X pins σ' H' s'∧RelV v u∧D.rt v H'
def PE (X:Cx) (e:Expr) (t:TE):Prop:=
  ∀(pins:List (Addr×Obj)) (s:Shared) (σ:St) (H:Hp) (Q:VK),Inv X pins σ H s→t σ H Q→wpAny (model X.prog X.w) X.A (eval e X.env) (EP X pins σ Q) X.xe s
def PT (X:Cx) (e:Expr) (t:TT):Prop:=
  ∀(pins:List (Addr×Obj)) (s:Shared) (σ:St) (H:Hp) (Q:Bool→Hp→Prop),Inv X pins σ H s→t σ H Q→wpAny (model X.prog X.w) X.A (isTrue e X.env (eval e X.env)) (TP X pins σ Q) X.xe s
def PW (X:Cx) (e:Expr) (t:TT):Prop:=
  ∀(whole:Sem Value) (pins:List (Addr×Obj)) (s:Shared) (σ:St) (H:Hp) (Q:Bool→Hp→Prop),Inv X pins σ H s→t σ H Q→wpAny (model X.prog X.w) X.A (isTrue e X.env whole) (TP X pins σ Q) X.xe s
theorem PW.pt {X:Cx} {e:Expr} {t:TT} (h:PW X e t):PT X e t:=h _
def PA (X:Cx) (es:List Expr) (t:TA):Prop:=
  ∀(pos:Pos) (pins:List (Addr×Obj)) (s:Shared) (σ:St) (H:Hp) (Q:List V→Hp→Prop),Inv X pins σ H s→t σ H Q→wpAny (model X.prog X.w) X.A (spliced (backTo pos (starEach es X.env))) (AP X pins σ Q) X.xe s
def PS (X:Cx) (st:Stmt) (t:TS):Prop:=
  ∀(pins:List (Addr×Obj)) (s:Shared) (σ:St) (H:Hp) (D:Ends),Inv X pins σ H s→t D σ H→wpAny (model X.prog X.w) X.A (exec st X.env) (SP X pins D) X.xe s
def PSs (X:Cx) (st:List Stmt) (t:TS):Prop:=
  ∀(pins:List (Addr×Obj)) (s:Shared) (σ:St) (H:Hp) (D:Ends),Inv X pins σ H s→t D σ H→wpAny (model X.prog X.w) X.A (execs st X.env) (SP X pins D) X.xe s
theorem b8 {α:Type} {t:Sem α} {Q Q':α→Shared→Prop} {M:Model} {A:Around} {E:Value→Shared→Prop} {s:Shared} (h:wpAny M A t Q E s) (hQ:∀a s,Q a s→Q' a s):wpAny M A t Q' E s:=wpAny_mono h hQ fun _ _ x=>x
end L2
namespace L2
open PySem PySem.Spec PyProof.Rows
section
variable {X:Cx}
def gc (i:Nat):TE:=fun σ H Q=>∃v,σ[i]? =some (some v)∧Q v H
def tC (v:V):TE:=fun _ H Q=>Q v H
theorem gV {i:Nat} {x:Str} {pos:Pos} (hN:X.N[i]? =some x) (hv:tP X.env.scope x) (hd:(x == ("__debug__":Str))=false:=by decide) (hcd:(x == ("__classdict__":Str))=false:=by decide):PE X (.Name x pos) (gc i):=by
  intro pins s σ H Q I h
  obtain ⟨v,e,h⟩:=h
  obtain ⟨m,hn,hl⟩:=I.loc
  obtain ⟨u,r,l⟩:=hl i x v hN e hv
  have fin:EP X pins σ Q u s:=⟨v,H,I,r,h⟩
  rcases l with ⟨hk,hm⟩ | ⟨hk,c,hc,hcell⟩
  · exact wpAny_Name (wpAny_loadName_local I.ok.kind hk hn hm fin) hd
  · rcases hk with hk | hk
    · exact wpAny_Name (wpAny_loadName_cell I.ok.kind hk hc hcell fin) hd
    · exact wpAny_Name (wpAny_loadName_free I.ok.kind hk hc hcell fin hcd) hd
theorem jg {i j pos}:PE X (.Constant (.int i) j pos) (tC (.int i)):=fun _ _ _ H _ I h=>wpAny_Constant_int ⟨.int i,H,I.tok _,⟨_,rfl⟩,h⟩
theorem xc {b j pos}:PE X (.Constant (.bool b) j pos) (tC (.bl b)):=fun _ _ _ H _ I h=>Constant_bool ⟨.bl b,H,I,rfl,h⟩
theorem qA {x j pos}:PE X (.Constant (.str x) j pos) (tC (.str x)):=fun _ _ _ H _ I h=>Calls.Constant_str ⟨.str x,H,I.tok _,⟨_,rfl⟩,h⟩
def Gl (X:Cx) (x:Str):Prop:=X.env.kindOf x=some .globalImplicit
theorem k6 {E:Value→Shared→Prop} {pins:List (Addr×Obj)} {s:Shared} {σ:St} {H:Hp} {x:Str} {u:Value} {pos:Pos} {Q:Value→Shared→Prop} (I:Inv X pins σ H s) (hg:Gl X x) (hm:X.mg x=some u) (h:Q u s)
    (hd:(x == ("__debug__":Str))=false:=by decide):wpAny (model X.prog X.w) X.A (eval (.Name x pos) X.env) Q E s:=
  Calls.Name_function_global I.ok.kind hg (Calls.loadGlobal_global (by rw [I.ok.glob];exact I.mod.glob.keeps I.bk) hm h) hd
theorem ii {E:Value→Shared→Prop} {pins:List (Addr×Obj)} {s:Shared} {σ:St} {H:Hp} {x:Str} {u:Value} {pos:Pos} {Q:Value→Shared→Prop} (I:Inv X pins σ H s) (hg:Gl X x) (hm:X.mg x=none) (hv:bootBuiltins x=some u) (h:Q u s)
    (hn:x≠"__name__":=by decide) (hd:(x == ("__debug__":Str))=false:=by decide):wpAny (model X.prog X.w) X.A (eval (.Name x pos) X.env) Q E s:=by
  obtain ⟨mb,h1,h2⟩:=I.mod.blt
  exact Calls.Name_function_global I.ok.kind hg (Calls.loadGlobal_builtin (by rw [I.ok.glob];exact I.mod.glob.keeps I.bk) hm (by rw [I.ok.blt];exact h1.keeps I.bk) ((h2 x hn).trans hv) h) hd
theorem tQ {x:Str} {v:V} {u:Value} {pos:Pos} (hg:Gl X x) (hm:X.mg x=some u) (r:RelV v u) (hd:(x == ("__debug__":Str))=false:=by decide):PE X (.Name x pos) (tC v):=
  fun _ _ _ H _ I h=>k6 I hg hm ⟨v,H,I,r,h⟩ hd
theorem tR {x:Str} {v:V} {u:Value} {pos:Pos} (hg:Gl X x) (hm:X.mg x=none) (hv:bootBuiltins x=some u) (r:RelV v u) (hn:x≠"__name__":=by decide) (hd:(x == ("__debug__":Str))=false:=by decide):PE X (.Name x pos) (tC v):=
  fun _ _ _ H _ I h=>ii I hg hm hv ⟨v,H,I,r,h⟩ hn hd
variable {a b:Expr} {ta tb:TE} {pos:Pos}
variable {tA tB':TT} {bj:List Expr}
def yB (t u:TT):TT:=fun σ H Q=>t σ H fun c H1=>if c=true then u σ H1 Q else Q false H1
def zA (t u:TT):TT:=fun σ H Q=>t σ H fun c H1=>if c=true then Q true H1 else u σ H1 Q
def yC (t:TT):TT:=fun σ H Q=>t σ H fun c H1=>Q (!c) H1
theorem tS (ha:PT X a tA):PW X (.BoolOp .And [a] pos) tA:=by
  intro wh pins s σ H Q I h
  refine isTrue_and (b8 (ha pins s σ H Q I h) fun c s1 e=>?_)
  cases c with
  | true=>exact isTrue_and_nil e
  | false=>exact e
theorem vC (ha:PT X a tA):PW X (.BoolOp .Or [a] pos) tA:=by
  intro wh pins s σ H Q I h
  refine isTrue_or (b8 (ha pins s σ H Q I h) fun c s1 e=>?_)
  cases c with
  | false=>exact isTrue_or_nil e
  | true=>exact e
theorem vD (ha:PT X a tA) (hb:PW X (.BoolOp .And (b::bj) pos) tB'):PW X (.BoolOp .And (a::b::bj) pos) (yB tA tB'):=by
  intro wh pins s σ H Q I h
  refine isTrue_and (b8 (ha pins s σ H _ I h) fun c s1 ⟨H1,I1,q1⟩=>?_)
  cases c with
  | true=>exact hb wh pins s1 σ H1 Q I1 q1
  | false=>exact ⟨H1,I1,q1⟩
theorem xf (ha:PT X a tA) (hb:PW X (.BoolOp .Or (b::bj) pos) tB'):PW X (.BoolOp .Or (a::b::bj) pos) (zA tA tB'):=by
  intro wh pins s σ H Q I h
  refine isTrue_or (b8 (ha pins s σ H _ I h) fun c s1 ⟨H1,I1,q1⟩=>?_)
  cases c with
  | true=>exact ⟨H1,I1,q1⟩
  | false=>exact hb wh pins s1 σ H1 Q I1 q1
theorem vE (ha:PT X a tA):PT X (.UnaryOp .Not a pos) (yC tA):=by
  intro pins s σ H Q I h
  exact isTrue_not (ha pins s σ H (fun c H1=>Q (!c) H1) I h)
def xg (ta tb:TE):TE:=fun σ H Q=>ta σ H fun x H1=>∃c,x= .bl c∧if c=true then tb σ H1 Q else Q (.bl false) H1
theorem vF {op} {t:TE} (h:PE X a t):PE X (.BoolOp op [a] pos) t:=fun pins s σ H Q I hw=>BoolOp_one (h pins s σ H Q I hw)
theorem vG (ha:PE X a ta) (hb:PE X (.BoolOp .And (b::bj) pos) tb):PE X (.BoolOp .And (a::b::bj) pos) (xg ta tb):=by
  intro pins s σ H Q I h
  refine BoolOp_and (b8 (ha pins s σ H _ I h) fun v s1 ⟨x,H1,I1,r1,q1⟩=>?_)
  obtain ⟨c,rfl,q1⟩:=q1
  cases r1
  refine wpAny_truthy_bool ?_
  cases c with
  | true=>exact hb pins s1 σ H1 Q I1 q1
  | false=>exact ⟨.bl false,H1,I1,rfl,q1⟩
def zB (t:TT) (ta tb:TE):TE:=fun σ H Q=>t σ H fun c H1=>if c=true then ta σ H1 Q else tb σ H1 Q
theorem qB {c:Expr} (hc:PT X c tA) (ha:PE X a ta) (hb:PE X b tb):PE X (.IfExp c a b pos) (zB tA ta tb):=by
  intro pins s σ H Q I h
  refine wpAny_IfExp (b8 (hc pins s σ H _ I h) fun d s1 ⟨H1,I1,q1⟩=>?_)
  cases d with
  | true=>exact ha pins s1 σ H1 Q I1 q1
  | false=>exact hb pins s1 σ H1 Q I1 q1
end
end L2
namespace L2
open PySem PySem.Spec PyProof.Rows
def SqL (K:PySem.W.Frag) (H:Hp) (a:Addr) (xs:List V):Prop:=
  Rd H a (.lst xs)∨
    ∃(o:Obj) (its:Array Value) (n:Nat),K.lookup a=some o∧o.cls= .type "list"∧o.dict=none∧o.data= .seq its n∧its.size≤sizeLine∧Vals xs its.toList
def SqT (K:PySem.W.Frag) (H:Hp) (a:Addr) (xs:List V):Prop:=
  Rd H a (.tup xs)∨
    ∃(o:Obj) (its:Array Value) (n:Nat),K.lookup a=some o∧o.cls= .type "tuple"∧o.data= .seq its n∧its.size≤sizeLine∧Vals xs its.toList
def yD:Value→Option V
  | .none=>some .non
  | .bool b=>some (.bl b)
  | .int i _=>some (.int i)
  | .str x _=>some (.str x)
  | .bytes b _=>some (.byt b)
  | .float b _=>some (.flt b)
  | .ref a=>some (.ref a)
  | .type n=>some (.ty n)
  | _=>none
theorem RelV.abs {x:V} {u:Value} (r:RelV x u):yD u=some x:=by
  cases x with
  | non=>cases r;rfl
  | bl _=>cases r;rfl
  | int _=>obtain ⟨t,rfl⟩:=r;rfl
  | str _=>obtain ⟨t,rfl⟩:=r;rfl
  | byt _=>obtain ⟨t,rfl⟩:=r;rfl
  | flt _=>obtain ⟨t,rfl⟩:=r;rfl
  | ref _=>cases r;rfl
  | ty _=>cases r;rfl
theorem RelV.inj {x y:V} {u:Value} (r:RelV x u) (q:RelV y u):x=y:=Option.some.inj (r.abs.symm.trans q.abs)
theorem Vals.inj {xs ys:List V} {us:List Value} (h:Vals xs us) (k:Vals ys us):xs=ys:=by
  induction h generalizing ys with
  | nil=>cases k;rfl
  | cons r _ ih=>cases k with | cons r' t'=>rw [r.inj r',ih t']
section
variable {X:Cx} {pins:List (Addr×Obj)} {σ:St} {H:Hp} {s:Shared} {a:Addr} {xs ys:List V}
theorem SqL.of {K:PySem.W.Frag} (h:H a=some (.lst xs)):SqL K H a xs:= .inl (.inl h)
theorem SqT.of {K:PySem.W.Frag} (h:H a=some (.tup xs)):SqT K H a xs:= .inl (.inl h)
theorem Inv.list (I:Inv X pins σ H s) (h:SqL X.K H a xs):∃its:List Value,Vals xs its∧PlainL s.heap a its.toArray∧xs.length≤sizeLine:=by
  rcases h with h | ⟨o,its,n,hk,hc,hd,hs,hz,r⟩
  · obtain ⟨z,its,n,r,e⟩:=h.ok I.hok
    exact ⟨its,r,⟨_,n,e,rfl,rfl,rfl⟩,z⟩
  · refine ⟨its.toList,r,⟨o,n,I.kIn a o hk,hc,hd,by simpa using hs⟩,?_⟩
    have e:=r.length
    simp only [Array.length_toList] at e
    omega
theorem Inv.tuple (I:Inv X pins σ H s) (h:SqT X.K H a xs):∃its:List Value,Vals xs its∧IsTup s.heap a its.toArray∧xs.length≤sizeLine:=by
  rcases h with h | ⟨o,its,n,hk,hc,hs,hz,r⟩
  · obtain ⟨z,its,r,p⟩:=h.ok I.hok
    exact ⟨its,r,p,z⟩
  · refine ⟨its.toList,r,⟨o,I.kIn a o hk,hc,n,by simpa using hs⟩,?_⟩
    have e:=r.length
    simp only [Array.length_toList] at e
    omega
theorem Inv.list_inj (I:Inv X pins σ H s) (h:SqL X.K H a xs) (h':SqL X.K H a ys):xs=ys:=by
  obtain ⟨its,r,⟨o,n,e,_,_,d⟩,_⟩:=I.list h
  obtain ⟨its',r',⟨o',n',e',_,_,d'⟩,_⟩:=I.list h'
  rw [e] at e';cases e'
  rw [d] at d'
  injection d' with d1 _
  have:its=its':=by simpa using congrArg Array.toList d1
  subst this
  exact r.inj r'
theorem Inv.tuple_inj (I:Inv X pins σ H s) (h:SqT X.K H a xs) (h':SqT X.K H a ys):xs=ys:=by
  obtain ⟨its,r,⟨o,e,_,n,d⟩,_⟩:=I.tuple h
  obtain ⟨its',r',⟨o',e',_,n',d'⟩,_⟩:=I.tuple h'
  rw [e] at e';cases e'
  rw [d] at d'
  injection d' with d1 _
  have:its=its':=by simpa using congrArg Array.toList d1
  subst this
  exact r.inj r'
end
abbrev Cx.wish (X:Cx) (E:Value→Shared→Prop):Cx:={X with xe:=E}
abbrev Cx.nox (X:Cx):Cx:=X.wish fun _ _=>False
theorem Cx.Ok.wish {X:Cx} (ok:X.Ok) (E:Value→Shared→Prop):(X.wish E).Ok:=
  ⟨ok.mod,ok.kind,ok.glob,ok.blt,ok.above,ok.inj,ok.has,ok.cab,ok.hd,ok.frames,ok.stk,ok.exf,ok.bs,ok.bsz,ok.noex,ok.exfs,ok.funs,ok.frf,ok.tab⟩
theorem Cx.Ok.unwish {X:Cx} {E:Value→Shared→Prop} (ok:(X.wish E).Ok):X.Ok:=
  ⟨ok.mod,ok.kind,ok.glob,ok.blt,ok.above,ok.inj,ok.has,ok.cab,ok.hd,ok.frames,ok.stk,ok.exf,ok.bs,ok.bsz,ok.noex,ok.exfs,ok.funs,ok.frf,ok.tab⟩
section
variable {X:Cx} {pins:List (Addr×Obj)} {σ:St} {H:Hp} {s:Shared} {E:Value→Shared→Prop}
theorem Inv.wish (I:Inv X pins σ H s) (E:Value→Shared→Prop):Inv (X.wish E) pins σ H s:=⟨I.ok.wish E,I.os,I.bare,I.base,I.loc,I.cell,I.free,I.freeC,I.pin,I.hok,I.len⟩
theorem Inv.unwish (I:Inv (X.wish E) pins σ H s):Inv X pins σ H s:=⟨I.ok.unwish,I.os,I.bare,I.base,I.loc,I.cell,I.free,I.freeC,I.pin,I.hok,I.len⟩
theorem SP.unwish {D:Ends} {f:Flow} {s':Shared} (h:SP (X.wish E) pins D f s'):SP X pins D f s':=by
  cases f with
  | next=>obtain ⟨σ',H',I,q⟩:=h;exact ⟨σ',H',I.unwish,q⟩
  | brk=>obtain ⟨σ',H',I,q⟩:=h;exact ⟨σ',H',I.unwish,q⟩
  | cont=>obtain ⟨σ',H',I,q⟩:=h;exact ⟨σ',H',I.unwish,q⟩
  | ret u=>obtain ⟨v,σ',H',I,r,q⟩:=h;exact ⟨v,σ',H',I.unwish,r,q⟩
theorem PE.nox {e:Expr} {t:TE} (h:PE X.nox e t):PE X e t:=fun pins s σ H Q I hw=>
  wpAny_mono (h pins s σ H Q (I.wish _) hw) (fun _ _ ⟨v,H',I',r,q⟩=>⟨v,H',I'.unwish,r,q⟩) fun _ _ z=>False.elim z
theorem PT.nox {e:Expr} {t:TT} (h:PT X.nox e t):PT X e t:=fun pins s σ H Q I hw=>
  wpAny_mono (h pins s σ H Q (I.wish _) hw) (fun _ _ ⟨H',I',q⟩=>⟨H',I'.unwish,q⟩) fun _ _ z=>False.elim z
theorem PSs.nox {st:List Stmt} {t:TS} (h:PSs X.nox st t):PSs X st t:=fun pins s σ H D I hw=>
  wpAny_mono (h pins s σ H D (I.wish _) hw) (fun _ _ q=>q.unwish) fun _ _ z=>False.elim z
end
section
variable {X:Cx} {st:Stmt} {bj:List Stmt} {t u:TS} {e:Expr} {te:TE} {pos:Pos}
def xh:TS:=fun D σ H=>D.nx σ H
def qD (t u:TS):TS:=fun D σ H=>t {D with nx:=u D} σ H
theorem tT:PSs X [] xh:=fun _ _ σ H _ I h=>wpAny_execs_nil ⟨σ,H,I,h⟩
theorem eL (h1:PS X st t) (h2:PSs X bj u):PSs X (st::bj) (qD t u):=by
  intro pins s σ H D I h
  refine wpAny_execs_cons (b8 (h1 pins s σ H {D with nx:=u D} I h) fun f s1 q=>?_)
  cases f with
  | next=>
    obtain ⟨σ',H',I',q⟩:=q
    exact h2 pins s1 σ' H' D I' q
  | ret v=>exact q
  | brk=>exact q
  | cont=>exact q
theorem i6 (h1:PS X st t):PSs X [st] t:=by
  intro pins s σ H D I h
  refine wpAny_execs_cons (b8 (h1 pins s σ H D I h) fun f s1 q=>?_)
  cases f with
  | next=>exact wpAny_execs_nil q
  | ret v=>exact q
  | brk=>exact q
  | cont=>exact q
theorem Inv.quiet {pins:List (Addr×Obj)} {σ:St} {H:Hp} {s:Shared} (I:Inv X pins σ H s):interactive X.env=false:=by simp [interactive,I.ok.kind]
def xi (te:TE):TS:=fun D σ H=>te σ H fun _ H1=>D.nx σ H1
theorem tU (he:PE X e te) (hs:swapsWith e none pos.line X.env=pure false:=by rfl):PS X (.Expr e pos) (xi te):=by
  intro pins s σ H D I h
  exact wpAny_Expr_any (b8 (he pins s σ H _ I h) fun v s1 ⟨x,H1,I1,r1,q1⟩=>⟨σ,H1,I1,q1⟩) I.quiet hs
def yE (te:TE):TS:=fun D σ H=>te σ H D.rt
theorem qE (he:PE X e te):PS X (.Return (some e) pos) (yE te):=by
  intro pins s σ H D I h
  exact wpAny_Return_some (b8 (he pins s σ H _ I h) fun v s1 ⟨x,H1,I1,r1,q1⟩=>⟨x,σ,H1,I1,r1,q1⟩)
def yF (c:TT) (t u:TS):TS:=fun D σ H=>c σ H fun b H1=>if b=true then t D σ H1 else u D σ H1
theorem xj {c:Expr} {a b:List Stmt} {tc:TT} (hc:PT X c tc) (ha:PSs X a t) (hb:PSs X b u):PS X (.If c a b pos) (yF tc t u):=by
  intro pins s σ H D I h
  refine wpAny_If (b8 (hc pins s σ H _ I h) fun d s1 ⟨H1,I1,q1⟩=>?_)
  cases d with
  | true=>exact ha pins s1 σ H1 D I1 q1
  | false=>exact hb pins s1 σ H1 D I1 q1
def vH:TS:=fun _ _ _=>False
theorem qF:PS X st vH:=fun _ _ _ _ _ _ h=>h.elim
end
abbrev TG:=V→St→Hp→(St→Hp→Prop)→Prop
abbrev tV:=List V→St→Hp→(St→Hp→Prop)→Prop
def PG (X:Cx) (target:Expr) (t:TG):Prop:=
  ∀(pins:List (Addr×Obj)) (s:Shared) (σ:St) (H:Hp) (v:V) (u:Value) (Q:St→Hp→Prop),Inv X pins σ H s→RelV v u→t v σ H Q→
    wpAny (model X.prog X.w) X.A (assign target X.env u) (fun _ s'=>∃σ' H',Inv X pins σ' H' s'∧Q σ' H') X.xe s
def vI (X:Cx) (ts:List Expr) (t:tV):Prop:=
  ∀(pins:List (Addr×Obj)) (s:Shared) (σ:St) (H:Hp) (vs:List V) (us:List Value) (Q:St→Hp→Prop),Inv X pins σ H s→Vals vs us→t vs σ H Q→
    wpAny (model X.prog X.w) X.A (assignInOrder ((assignEach ts X.env).map (·.2)) us) (fun _ s'=>∃σ' H',Inv X pins σ' H' s'∧Q σ' H') X.xe s
abbrev vJ:=V→V→V→Hp→(Hp→Prop)→Prop
def xk (X:Cx) (t:vJ):Prop:=
  ∀(pins:List (Addr×Obj)) (s:Shared) (σ:St) (H:Hp) (o i v:V) (ov iv u:Value) (Q:Hp→Prop),Inv X pins σ H s→RelV o ov→RelV i iv→RelV v u→t o i v H Q→
    wpAny (model X.prog X.w) X.A (setItem ov iv u) (fun _ s'=>∃H',Inv X pins σ H' s'∧Q H') X.xe s
section
variable {X:Cx} {pos:Pos}
def mz (i:Nat):TG:=fun v σ H Q=>Q (σ.set i (some v)) H
theorem oB {i:Nat} {x:Str} (hN:X.N.Nodup) (hi:X.N[i]? =some x) (hx:wR X.env.scope x) (hf:X.fn x=true∨X.env.scope.names.lookup x=some .local:=by first | exact .inl rfl | exact .inr rfl | assumption):PG X (.Name x pos) (mz i):=by
  intro pins s σ H v u Q I r h
  exact wpAny_assign_Name (my I hN hi hx r (fun s' I'=>⟨_,H,I',h⟩) hf)
def yG:tV:=fun vs σ H Q=>vs=[]∧Q σ H
def xm (t:TG) (u:tV):tV:=fun vs σ H Q=>∃v r,vs=v::r∧t v σ H fun σ' H'=>u r σ' H' Q
theorem tW:vI X [] yG:=by
  intro pins s σ H vs us Q I r h
  obtain ⟨e,h⟩:=h
  subst e
  cases r
  exact assignInOrder_nil ⟨σ,H,I,h⟩
theorem qG {e:Expr} {es:List Expr} {t:TG} {u:tV} (h1:PG X e t) (h2:vI X es u)
    (hs:(assignEach (e::es) X.env).map (·.2)=assign e X.env::(assignEach es X.env).map (·.2):=by rfl):vI X (e::es) (xm t u):=by
  intro pins s σ H vs us Q I r h
  obtain ⟨v,vr,e1,h⟩:=h
  subst e1
  cases r with
  | cons r rr=>
    rw [hs]
    refine assignInOrder_cons (b8 (h1 pins s σ H _ _ _ I r h) fun _ s1 ⟨σ1,H1,I1,q1⟩=>?_)
    exact h2 pins s1 σ1 H1 _ _ Q I1 rr q1
def yH (K:PySem.W.Frag) (n:Nat) (t:tV):TG:=fun v σ H Q=>∃a xs,v= .ref a∧SqT K H a xs∧xs.length=n∧t xs σ H Q
theorem vK {es:List Expr} {k:Nat} {t:tV} {n:Nat} (hc:X.calm=true) (h:vI X es t)
    (hn:(assignEach es X.env).length=n:=by rfl) (hst:(assignEach es X.env).findIdx? (·.1)=none:=by rfl):PG X (.Tuple es k pos) (yH X.K n t):=by
  intro pins s σ H v u Q I r hw
  obtain ⟨a,xs,e1,hq,hl,hw⟩:=hw
  subst e1
  cases r
  obtain ⟨its,rv,ht,hz⟩:=I.tuple hq
  refine assign_Tuple_tuple (I.ok.hd hc) ht (by simp [hn,←hl,rv.length]) hst fun h' hx=>?_
  have I1:Inv X pins σ H {s with heap:=h'}:=I.kept (t':=s.toks) fun b o e=>hx b o (Nat.ne_of_lt (Heap.lt_size e)) e
  exact h pins _ σ H xs _ Q I1 (by simpa using rv) hw
def yI (to ti:TE) (t:vJ):TG:=fun v σ H Q=>to σ H fun o H1=>ti σ H1 fun i H2=>t o i v H2 fun H3=>Q σ H3
theorem vL {o i:Expr} {to ti:TE} {t:vJ} (ho:PE X o to) (hi:PE X i ti) (hs:xk X t)
    (ha:∀v,assign (.Subscript o i pos) X.env v=(do
      let ov ←holding [v] (eval o X.env)
      let iv ←holding [v,ov] (eval i X.env)
      standAt pos
      holding [v,ov,iv] (setItem ov iv v)
      release [v,ov,iv] []):=by intro _;rfl):PG X (.Subscript o i pos) (yI to ti t):=by
  intro pins s σ H v u Q I r h
  rw [ha]
  refine wpAny_bind (wpAny_holding (b8 (ho pins s σ H _ I h) fun ov s1 ⟨x,H1,I1,r1,q1⟩=>?_))
  refine wpAny_bind (wpAny_holding (b8 (hi pins s1 σ H1 _ I1 q1) fun iv s2 ⟨y,H2,I2,r2,q2⟩=>?_))
  refine wpAny_bind (wpAny_standAt (wpAny_bind (wpAny_holding (b8 (hs pins s2 σ H2 x y v ov iv u _ I2 r1 r2 r q2) fun _ s3 ⟨H3,I3,q3⟩=>?_))))
  exact wpAny_release ⟨σ,H3,I3,q3⟩
def xn (te:TE) (g:TG):TS:=fun D σ H=>te σ H fun x H1=>g x σ H1 D.nx
theorem vM {tg e:Expr} {te:TE} {g:TG} (he:PE X e te) (hg:PG X tg g) (hs:swapsWithSole [tg] e pos.line X.env=pure false:=by rfl) (hw:swappedStores [tg] e X.env=pure none:=by rfl)
    (h1:(assignEach [tg] X.env).map (·.2)=[assign tg X.env]:=by rfl):PS X (.Assign [tg] e pos) (xn te g):=by
  intro pins s σ H D I h
  refine wpAny_Assign_stores (b8 (he pins s σ H _ I h) fun v s1 ⟨x,H1,I1,r1,q1⟩=>?_) hs hw
  rw [h1]
  exact b8 (hg pins s1 σ H1 x v _ I1 r1 q1) fun _ s2 q=>q
theorem qH {i:Nat} {x:Str} {e:Expr} {te:TE} {pos':Pos} (hN:X.N.Nodup) (hi:X.N[i]? =some x) (hx:wR X.env.scope x) (he:PE X e te) (hs:swapsWith e (some (.Name x pos')) pos.line X.env=pure false:=by rfl) (hf:X.fn x=true∨X.env.scope.names.lookup x=some .local:=by first | exact .inl rfl | exact .inr rfl | assumption):
    PS X (.Assign [.Name x pos'] e pos) (xn te (mz i)):=by
  intro pins s σ H D I h
  refine wpAny_Assign_Name (b8 (he pins s σ H _ I h) fun v s1 ⟨y,H1,I1,r1,q1⟩=>?_) hs
  exact my I1 hN hi hx r1 (fun s2 I2=>⟨_,H1,I2,q1⟩) hf
end
section
variable {X:Cx} {pos:Pos}
def vN (c:TT) (tb:TS):TS:=fun D σ H=>∃W:Nat→St→Hp→Prop,(∃m,W m σ H)∧∀m σ H,W m σ H→
  c σ H fun b H1=>if b=true then ∃N:St→Hp→Prop,(∀σ' H',N σ' H'→∃m',m' < m∧W m' σ' H')∧tb {D with nx:=N,ct:=N,bk:=D.nx} σ H1 else D.nx σ H1
theorem qJ {c:Expr} {body:List Stmt} {tc:TT} {tb:TS} (hp:PassesOwn (model X.prog X.w) X.A X.env X.xe) (hc:PT X c tc) (hb:PSs X body tb):PS X (.While c body [] pos) (vN tc tb):=by
  intro pins s σ H D I h
  obtain ⟨W,⟨m0,w0⟩,turn⟩:=h
  refine wpAny_While (codeAny_whileLoop (fun n s'=>∃σ' H',Inv X pins σ' H' s'∧W n σ' H') ?_ m0 ⟨σ,H,I,w0⟩)
  rintro n s1 ⟨σ1,H1,I1,w1⟩
  refine wpAny_passesOwn hp (b8 (hc pins s1 σ1 H1 _ I1 (turn n σ1 H1 w1)) fun b s2 ⟨H2,I2,q2⟩=>?_)
  cases b with
  | true=>
    obtain ⟨N,hN,q2⟩:=q2
    rw [if_pos rfl]
    refine wpAny_passesOwn hp (b8 (hb pins s2 σ1 H2 _ I2 q2) fun f s3 q3=>?_)
    cases f with
    | next=>
      obtain ⟨σ3,H3,I3,n3⟩:=q3
      obtain ⟨m',hm,w3⟩:=hN σ3 H3 n3
      exact ⟨m',hm,σ3,H3,I3,w3⟩
    | cont=>
      obtain ⟨σ3,H3,I3,n3⟩:=q3
      obtain ⟨m',hm,w3⟩:=hN σ3 H3 n3
      exact ⟨m',hm,σ3,H3,I3,w3⟩
    | brk=>exact q3
    | ret v=>exact q3
  | false=>
    rw [if_neg Bool.false_ne_true]
    exact wpAny_execs_nil ⟨σ1,H2,I2,q2⟩
end
structure It where
  go:Nat→Hp→Prop
  yld:Nat→Hp→V→Hp→Prop
  stop:Nat→Hp→Prop
def j0 (X:Cx) (pins:List (Addr×Obj)) (H:Hp) (b:Addr):Prop:=
  H b=none∧b≠X.env.locals∧b∉X.fs∧(b∈X.ex∨X.s₀.heap.objs.size≤b)∧(∀x c,X.env.cells.lookup x=some c→c≠b)∧∀p∈X.pn++pins,p.1≠b
theorem Inv.fpOk {X:Cx} {pins:List (Addr×Obj)} {σ:St} {H H':Hp} {s:Shared} {b:Addr} (I:Inv X pins σ H s) (hb:s.heap.objs.size≤b) (hn:H' b=none):j0 X pins H' b:=by
  refine ⟨hn,Nat.ne_of_gt (Nat.lt_of_lt_of_le I.lt hb),I.nofs hb, .inr (Nat.le_trans I.sz hb),fun x c e z=>?_,fun p hp z=>?_⟩
  · obtain ⟨v,q⟩:=I.cell x c e
    exact absurd (Nat.lt_of_lt_of_le q.lt (by rw [z];exact hb)) (Nat.lt_irrefl _)
  · exact absurd (Nat.lt_of_lt_of_le (Heap.lt_size (I.pin p hp).1) (by rw [z];exact hb)) (Nat.lt_irrefl _)
structure Turn (P:Program) (w:World) (K:PySem.W.Frag) (tg:Expr) (J:It) (fp:List Addr) (it:Addr) (tn:Nat→Heap→Prop):Prop where
  mem:it∈fp
  obj:∀i h,tn i h→∀b∈fp,∃o,h.get? b=some o∧∀v,o.data≠ .cell v
  keep:∀i h h',tn i h→(∀b∈fp,∀o,h.get? b=some o→h'.get? b=some o)→tn i h'
  item:∀(X:Cx),X.prog=P→X.w=w→X.K=K→X.calm=true→∀(i:Nat) (pins:List (Addr×Obj)) (s:Shared) (σ:St) (H:Hp) (E:Value→Shared→Prop),Inv X pins σ H s→(∀b∈fp,j0 X pins H b)→tn i s.heap→J.go i H→
    wpAny (model P w) X.A (pyNext (.ref it)) (fun r s1=>∃u,r=some u∧
      wpAny (model P w) X.A (letOwnedTupleGo tg (.ref it) u) (fun _ s2=>∃x H',Inv X pins σ H' s2∧RelV x u∧J.yld i H x H'∧tn (i+1) s2.heap∧∀b∈fp,H' b=none) E s1) E s
  done:∀(X:Cx),X.prog=P→X.w=w→X.K=K→X.calm=true→∀(i:Nat) (pins:List (Addr×Obj)) (s:Shared) (σ:St) (H:Hp) (E:Value→Shared→Prop),Inv X pins σ H s→(∀b∈fp,j0 X pins H b)→tn i s.heap→J.stop i H→
    wpAny (model P w) X.A (pyNext (.ref it)) (fun r s1=>r=none∧Inv X pins σ H s1) E s
  self:∀(A:Around) (i:Nat) (s:Shared) (Q:Value→Shared→Prop) (E:Value→Shared→Prop),tn i s.heap→Q (.ref it) s→wpAny (model P w) A (pyIter (.ref it)) Q E s
abbrev TI:=St→Hp→(It→Hp→Prop)→Prop
def zq (X:Cx) (pins:List (Addr×Obj)) (σ:St) (tg:Expr) (R:It→Hp→Prop) (itv:Value) (s2:Shared):Prop:=
  ∃(it:Addr) (fp:List Addr) (tn:Nat→Heap→Prop) (J:It) (H':Hp),itv= .ref it∧Inv X pins σ H' s2∧Turn X.prog X.w X.K tg J fp it tn∧tn 0 s2.heap∧(∀b∈fp,j0 X pins H' b)∧R J H'
def PI (X:Cx) (tg iter:Expr) (wi:TI):Prop:=
  ∀(pins:List (Addr×Obj)) (s:Shared) (σ:St) (H:Hp) (R:It→Hp→Prop),Inv X pins σ H s→wi σ H R→
    wpAny (model X.prog X.w) X.A (eval iter X.env) (fun v s1=>wpAny (model X.prog X.w) X.A (pyIter v) (zq X pins σ tg R) X.xe s1) X.xe s
theorem mB {M:Model} {A:Around} {E:Value→Shared→Prop} {s:Shared} {tg:Expr} {it:Addr} {u:Value} {o:Obj} {n:String} {vs:Array Value} {Q:Unit→Shared→Prop} (ho:s.heap.get? it=some o) (hc:o.cls= .type n) (hd:o.data= .fields vs)
    (hn:["enumerate","zip","dict_itemiterator","dict_reverseitemiterator","odict_iterator","itertools.zip_longest","itertools.pairwise"].contains n=false) (hQ:Q () s):wpAny M A (letOwnedTupleGo tg (.ref it) u) Q E s:=by
  unfold letOwnedTupleGo
  cases tg <;> first
    | exact wpAny_pure hQ
    | (cases u <;> first
        | exact wpAny_pure hQ
        | (refine wpAny_bind (wpAny_load ho ?_)
           rw [hc,hd]
           show wpAny M A (if (["enumerate","zip","dict_itemiterator","dict_reverseitemiterator","odict_iterator","itertools.zip_longest","itertools.pairwise"].contains n&&vs[0]? == some (rawInt _))=true then _ else _) Q E s
           rw [if_neg (by intro h;rw [hn,Bool.false_and] at h;cases h)]
           exact wpAny_pure hQ))
def wS (K:PySem.W.Frag) (a:Addr):It:=
  ⟨fun i H=>∃xs x,SqL K H a xs∧xs[i]? =some x,fun i H x H'=>H'=H∧∀xs,SqL K H a xs→xs[i]? =some x,fun i H=>∃xs,SqL K H a xs∧xs.length≤i⟩
def yJ (K:PySem.W.Frag) (a:Addr):It:=
  ⟨fun i H=>∃xs x,SqT K H a xs∧xs[i]? =some x,fun i H x H'=>H'=H∧∀xs,SqT K H a xs→xs[i]? =some x,fun i H=>∃xs,SqT K H a xs∧xs.length≤i⟩
def yp (lo:Int) (n:Nat):It:=⟨fun i _=>i < n,fun i H x H'=>H'=H∧x= .int (lo+i),fun i _=>n≤i⟩
theorem pE {P:Program} {w:World} {K:PySem.W.Frag} {tg:Expr} (a it:Addr):Turn P w K tg (wS K a) [it] it (fun i h=>h.IsListIter it a i) where
  mem:=by simp
  obj:=fun i h st b hb=>by
    have e:b=it:=by simpa using hb
    subst e
    obtain ⟨o,e,c,d⟩:=st
    exact ⟨o,e,fun v z=>by rw [d] at z;cases z⟩
  keep:=fun i h h' st k=>st.at fun o e=>k it (by simp) o e
  item:=by
    intro X hP hw hK hc i pins s σ H E I hf st hg
    subst hP hw hK
    obtain ⟨xs,x,hq,hx⟩:=hg
    obtain ⟨its,rv,p,hz⟩:=I.list hq
    obtain ⟨u,hu,ru⟩:=rv.get hx
    obtain ⟨f0,f1,f2,f3,f4,f5⟩:=hf it (by simp)
    refine wpAny_pyNext_list_item st p.isList (x:=u) (by simpa using hu) fun h' st' sb=>?_
    have I1:Inv X pins σ H {s with heap:=h'}:=I.turned (t':=s.toks) (fun b o hb e=>(sb.2 b hb).trans e) f0 f1 f3 f4 f5
    obtain ⟨o,e,c,d⟩:=id st'
    exact ⟨u,rfl,mB (s:={s with heap:=h'}) e c d (by decide) ⟨x,H,I1,ru,⟨rfl,fun ys hy=>by rw [I.list_inj hy hq];exact hx⟩,st',fun b hb=>(hf b hb).1⟩⟩
  done:=by
    intro X hP hw hK hc i pins s σ H E I hf st hg
    subst hP hw hK
    obtain ⟨xs,hq,hx⟩:=hg
    obtain ⟨its,rv,p,hz⟩:=I.list hq
    obtain ⟨f0,f1,f2,f3,f4,f5⟩:=hf it (by simp)
    have hl:=rv.length
    exact wpAny_pyNext_list_end (I.ok.hd hc) st p.isList (by simp;omega) fun h' eb=>⟨rfl,I.turned (t':=s.toks) (fun b o hb e=>eb b o hb e) f0 f1 f3 f4 f5⟩
  self:=fun _ _ _ _ _ st h=>wpAny_pyIter_listiter st h
theorem nD {P:Program} {w:World} {K:PySem.W.Frag} {tg:Expr} (a it:Addr):Turn P w K tg (yJ K a) [it] it (fun i h=>h.IsTupleIter it a i) where
  mem:=by simp
  obj:=fun i h st b hb=>by
    have e:b=it:=by simpa using hb
    subst e
    obtain ⟨o,e,c,d⟩:=st
    exact ⟨o,e,fun v z=>by rw [d] at z;cases z⟩
  keep:=fun i h h' st k=>st.at fun o e=>k it (by simp) o e
  item:=by
    intro X hP hw hK hc i pins s σ H E I hf st hg
    subst hP hw hK
    obtain ⟨xs,x,hq,hx⟩:=hg
    obtain ⟨its,rv,p,hz⟩:=I.tuple hq
    obtain ⟨u,hu,ru⟩:=rv.get hx
    obtain ⟨f0,f1,f2,f3,f4,f5⟩:=hf it (by simp)
    refine wpAny_pyNext_tuple_item st (show s.heap.IsTuple a its.toArray from p) (x:=u) (by simpa using hu) fun h' st' sb=>?_
    have I1:Inv X pins σ H {s with heap:=h'}:=I.turned (t':=s.toks) (fun b o hb e=>(sb.2 b hb).trans e) f0 f1 f3 f4 f5
    obtain ⟨o,e,c,d⟩:=id st'
    exact ⟨u,rfl,mB (s:={s with heap:=h'}) e c d (by decide) ⟨x,H,I1,ru,⟨rfl,fun ys hy=>by rw [I.tuple_inj hy hq];exact hx⟩,st',fun b hb=>(hf b hb).1⟩⟩
  done:=by
    intro X hP hw hK hc i pins s σ H E I hf st hg
    subst hP hw hK
    obtain ⟨xs,hq,hx⟩:=hg
    obtain ⟨its,rv,p,hz⟩:=I.tuple hq
    obtain ⟨f0,f1,f2,f3,f4,f5⟩:=hf it (by simp)
    have hl:=rv.length
    exact wpAny_pyNext_tuple_end (I.ok.hd hc) st (show s.heap.IsTuple a its.toArray from p) (by simp;omega) fun h' eb=>⟨rfl,I.turned (t':=s.toks) (fun b o hb e=>eb b o hb e) f0 f1 f3 f4 f5⟩
  self:=fun _ _ _ _ _ st h=>wpAny_pyIter_tupleiter st h
theorem nE {P:Program} {w:World} {K:PySem.W.Frag} {tg:Expr} (it:Addr) (lo:Int) (n:Nat):Turn P w K tg (yp lo n) [it] it (fun i h=>IsRangeIter h it (lo+(i:Nat)*1) ((n:Int) - (i:Nat)) 1) where
  mem:=by simp
  obj:=fun i h st b hb=>by
    have e:b=it:=by simpa using hb
    subst e
    exact ⟨_,st,fun v z=>by
      have z':Data.fields _=Data.cell v:=z
      cases z'⟩
  keep:=fun i h h' st k=>k it (by simp) _ st
  item:=by
    intro X hP hw hK hc i pins s σ H E I hf st hg
    subst hP hw hK
    obtain ⟨f0,f1,f2,f3,f4,f5⟩:=hf it (by simp)
    have W:=Walks.range (prog:=X.prog) (w:=X.w) (I.ok.hd hc) it lo 1 n
    refine W.item i s _ _ hg st fun v h' tk hv st' kk=>?_
    obtain ⟨t,rfl⟩:=hv
    have I1:Inv X pins σ H {s with heap:=h',toks:=tk}:=I.turned (fun b o hb e=>kk b o (by simpa using hb) e) f0 f1 f3 f4 f5
    refine ⟨_,rfl,mB (s:={s with heap:=h',toks:=tk}) (n:="range_iterator") st' rfl rfl (by decide) ⟨.int (lo+i),H,I1,⟨t,?_⟩,⟨rfl,rfl⟩,st',fun b hb=>(hf b hb).1⟩⟩
    rw [Int.mul_one]
  done:=by
    intro X hP hw hK hc i pins s σ H E I hf st hg
    subst hP hw hK
    obtain ⟨f0,f1,f2,f3,f4,f5⟩:=hf it (by simp)
    exact wpAny_pyNext_range_end (I.ok.hd hc) st (by have:n≤i:=hg;omega) fun h' eb=>⟨rfl,I.turned (t':=s.toks) (fun b o hb e=>eb b o hb e) f0 f1 f3 f4 f5⟩
  self:=fun _ _ _ _ _ st h=>wpAny_pyIter_rangeiter st h
end L2
namespace L2
open PySem PySem.Spec PyProof.Rows
section
variable {X:Cx} {tg:Expr}
def u_ (K:PySem.W.Frag) (tl:TE):TI:=fun σ H R=>tl σ H fun x H1=>∃a,x= .ref a∧(∃xs,SqL K H1 a xs)∧R (wS K a) H1
def yK (K:PySem.W.Frag) (tl:TE):TI:=fun σ H R=>tl σ H fun x H1=>∃a,x= .ref a∧(∃xs,SqT K H1 a xs)∧R (yJ K a) H1
theorem oC {l:Expr} {tl:TE} (hl:PE X l tl):PI X tg l (u_ X.K tl):=by
  intro pins s σ H R I h
  refine b8 (hl pins s σ H _ I h) fun v s1 ⟨x,H1,I1,r1,q1⟩=>?_
  obtain ⟨a,e,⟨xs,hq⟩,q⟩:=q1
  subst e
  cases r1
  obtain ⟨its,rv,p,hz⟩:=I1.list hq
  refine wpAny_pyIter_list p.isList ?_
  refine ⟨s1.heap.objs.size,[s1.heap.objs.size],_,_,H1,rfl,I1.kept (t':=s1.toks) fun b o e=>Heap.get?_push_of_some _ e,pE a _,⟨_,Heap.get?_push_size _ rfl,rfl,rfl⟩,fun b hb=>?_,q⟩
  have e:b=s1.heap.objs.size:=by simpa using hb
  subst e
  exact I1.fpOk (Nat.le_refl _) (I1.hok.fresh (Nat.le_refl _))
theorem vO {l:Expr} {tl:TE} (hl:PE X l tl):PI X tg l (yK X.K tl):=by
  intro pins s σ H R I h
  refine b8 (hl pins s σ H _ I h) fun v s1 ⟨x,H1,I1,r1,q1⟩=>?_
  obtain ⟨a,e,⟨xs,hq⟩,q⟩:=q1
  subst e
  cases r1
  obtain ⟨its,rv,p,hz⟩:=I1.tuple hq
  refine wpAny_pyIter_tuple (show s1.heap.IsTuple a its.toArray from p) ?_
  refine ⟨s1.heap.objs.size,[s1.heap.objs.size],_,_,H1,rfl,I1.kept (t':=s1.toks) fun b o e=>Heap.get?_push_of_some _ e,nD a _,⟨_,Heap.get?_push_size _ rfl,rfl,rfl⟩,fun b hb=>?_,q⟩
  have e:b=s1.heap.objs.size:=by simpa using hb
  subst e
  exact I1.fpOk (Nat.le_refl _) (I1.hok.fresh (Nat.le_refl _))
theorem qK {pins:List (Addr×Obj)} {σ:St} {H:Hp} {s:Shared} {R:It→Hp→Prop} {E:Value→Shared→Prop} {lo hi:Int} {t u v:Tok} {tk:Nat} (I:Inv X pins σ H s) (h1: -(2 ^ 62)≤lo) (h2:lo < 2 ^ 62) (h3: -(2 ^ 62)≤hi) (h4:hi < 2 ^ 62)
    (q:R (yp lo (hi - lo).toNat) H):wpAny (model X.prog X.w) X.A (pyIter (.ref s.heap.objs.size)) (zq X pins σ tg R) E {s with heap:=s.heap.push {cls:= .type "range",data:= .fields #[.int lo t, .int hi u, .int 1 v]},toks:=tk}:=by
  refine wpAny_pyIter_range (IsRange.new ..) (small_one h1 h2 h3 h4) ?_
  have I1:Inv X pins σ H {s with heap:=s.heap.push {cls:= .type "range",data:= .fields #[.int lo t, .int hi u, .int 1 v]},toks:=tk}:=I.kept fun b o e=>Heap.get?_push_of_some _ e
  refine ⟨(s.heap.push {cls:= .type "range",data:= .fields #[.int lo t, .int hi u, .int 1 v]}).objs.size,[(s.heap.push {cls:= .type "range",data:= .fields #[.int lo t, .int hi u, .int 1 v]}).objs.size],_,_,H,rfl,
    I1.kept (t':=tk) fun b o e=>Heap.get?_push_of_some _ e,nE _ lo (hi - lo).toNat,?_,fun b hb=>?_,q⟩
  · have e1:lo+((0:Nat):Int)*1=lo:=by simp
    have e2:(((hi - lo).toNat:Nat):Int) - ((0:Nat):Int)=Builtin.Range.rangeSize lo hi 1:=by rw [rangeSize_one];split <;> omega
    show IsRangeIter _ _ (lo+((0:Nat):Int)*1) ((((hi - lo).toNat:Nat):Int) - ((0:Nat):Int)) 1
    rw [e1,e2]
    exact Heap.get?_push_size _ rfl
  · have e:b=(s.heap.push {cls:= .type "range",data:= .fields #[.int lo t, .int hi u, .int 1 v]}).objs.size:=by simpa using hb
    subst e
    exact I1.fpOk (Nat.le_refl _) (I1.hok.fresh (Nat.le_refl _))
def xo (ta:TA):TI:=fun σ H R=>ta σ H fun vs H1=>∃j:Int,vs=[.int j]∧ -(2 ^ 62)≤j∧j < 2 ^ 62∧R (yp 0 j.toNat) H1
theorem pF {a:Expr} {ta:TA} {p pos:Pos} (hg:Gl X "range") (hm:X.mg "range"=none) (ha:PA X [a] ta) (hs:starEach [a] X.env=[(false,eval a X.env)]:=by rfl):PI X tg (.Call (.Name "range" p) [a] [] pos) (xo ta):=by
  intro pins s σ H R I h
  refine Call_ (ii I hg hm boot_range (PyProof.Rows.callWith_type1 (b8 (ha pos pins s σ H _ I h) fun us s1 ⟨vs,H1,I1,r1,q1⟩=>?_) hs rfl))
  obtain ⟨j,e,q1,q2,q⟩:=q1
  subst e
  cases r1 with
  | cons r rr=>
    cases rr
    obtain ⟨t,rfl⟩:=r
    exact call_range_1 (qK I1 (by omega) (by omega) q1 q2 (by simpa using q))
def yL (wi:TI) (g:TG) (tb:TS):TS:=fun D σ H=>wi σ H fun J H1=>∃W:Nat→Nat→St→Hp→Prop,(∃m,W 0 m σ H1)∧∀i m σ H,W i m σ H→
  (J.stop i H∧D.nx σ H)∨(J.go i H∧∃N:St→Hp→Prop,(∀σ' H',N σ' H'→∃m',m' < m∧W (i+1) m' σ' H')∧∀x H',J.yld i H x H'→g x σ H' fun σ2 H2=>tb {D with nx:=N,ct:=N,bk:=D.nx} σ2 H2)
def jh (fp:List Addr) (h:Heap):List (Addr×Obj):=fp.filterMap fun b=>(h.get? b).map fun o=>(b,o)
theorem fE {fp:List Addr} {h:Heap} {b:Addr} {o:Obj} (hb:b∈fp) (e:h.get? b=some o):(b,o)∈jh fp h:=List.mem_filterMap.mpr ⟨b,hb,by rw [e];rfl⟩
theorem pG {fp:List Addr} {h:Heap} {p:Addr×Obj} (hp:p∈jh fp h):p.1∈fp∧h.get? p.1=some p.2:=by
  obtain ⟨b,hb,e⟩:=List.mem_filterMap.mp hp
  cases q:h.get? b with
  | none=>rw [q] at e;cases e
  | some o=>
    rw [q] at e
    have e':(b,o)=p:=Option.some.inj e
    subst e'
    exact ⟨hb,q⟩
theorem Inv.pinned {pins:List (Addr×Obj)} {σ:St} {H:Hp} {s:Shared} {fp:List Addr} (I:Inv X pins σ H s) (hf:∀b∈fp,j0 X pins H b) (ho:∀b∈fp,∃o,s.heap.get? b=some o∧∀v,o.data≠ .cell v):Inv X (pins++jh fp s.heap) σ H s:=
  I.pins_of fun p hp=>(List.mem_append.mp hp).elim (fun z=>I.pin p (List.mem_append_right _ z)) fun z=>by
    obtain ⟨hb,e⟩:=pG z
    obtain ⟨f0,f1,f2,_⟩:=hf p.1 hb
    obtain ⟨o,e',d⟩:=ho p.1 hb
    rw [e] at e';cases e'
    exact ⟨e,f0,f1,f2,d⟩
theorem Inv.unpinned {pins pl:List (Addr×Obj)} {σ:St} {H:Hp} {s:Shared} (I:Inv X (pins++pl) σ H s):Inv X pins σ H s:=I.pins_of fun p hp=>I.pin p (List.mem_append_right _ (List.mem_append_left _ hp))
theorem vP {iter:Expr} {body:List Stmt} {wi:TI} {g:TG} {tb:TS} {pos:Pos} (hp:PassesOwn (model X.prog X.w) X.A X.env X.xe) (hc:X.calm=true) (hi:PI X tg iter wi) (hg:PG X tg g) (hb:PSs X body tb)
    (hs:∀x,foldedSetIterable iter X.env x=pure x:=by intro _;rfl):PS X (.For tg iter body [] pos) (yL wi g tb):=by
  intro pins s σ H D I h
  refine wpAny_For (b8 (hi pins s σ H _ I h) fun v s1 h1=>b8 h1 fun itv s2 h2=>?_) hs
  obtain ⟨it,fp,tn,J,H2,e,I2,T,st2,f2,W,⟨m0,w0⟩,turn⟩:=h2
  subst e
  -- what stays true of the iterator's objects through the pA
  have stat:∀{H':Hp},(∀b∈fp,H' b=none)→∀b∈fp,j0 X pins H' b:=fun hn b hb=>⟨hn b hb,(f2 b hb).2⟩
  refine codeAny_forLoop_any (fun n s'=>∃i σ' H',Inv X pins σ' H' s'∧tn i s'.heap∧(∀b∈fp,H' b=none)∧W i n σ' H') ?_ m0 ⟨0,σ,H2,I2,st2,fun b hb=>(f2 b hb).1,w0⟩
  rintro n s3 ⟨i,σ3,H3,I3,st3,fr3,w3⟩
  rcases turn i n σ3 H3 w3 with ⟨stop,qn⟩ | ⟨go,N,hN,step⟩
  · refine wpAny_passesOwn hp (b8 (T.done X rfl rfl rfl hc i pins s3 σ3 H3 X.xe I3 (stat fr3) st3 stop) fun r s4 ⟨hr,I4⟩=>?_)
    subst hr
    exact wpAny_execs_nil ⟨σ3,H3,I4,qn⟩
  · refine wpAny_passesOwn hp (b8 (T.item X rfl rfl rfl hc i pins s3 σ3 H3 X.xe I3 (stat fr3) st3 go) fun r s4 ⟨u,hr,h4⟩=>?_)
    subst hr
    refine wpAny_passesOwn hp (b8 h4 fun _ s5 ⟨x,H5,I5,r5,y5,st5,fr5⟩=>?_)
    have I5':=I5.pinned (stat fr5) (T.obj _ _ st5)
    refine wpAny_passesOwn hp (b8 (hg _ s5 σ3 H5 x u _ I5' r5 (step x H5 y5)) fun _ s6 ⟨σ6,H6,I6,q6⟩=>?_)
    refine wpAny_passesOwn hp (b8 (hb _ s6 σ6 H6 _ I6 q6) fun f s7 q7=>?_)
    have again:∀{σ7:St} {H7:Hp},Inv X (pins++jh fp s5.heap) σ7 H7 s7→N σ7 H7→∃m,m < n∧∃i σ' H',Inv X pins σ' H' s7∧tn i s7.heap∧(∀b∈fp,H' b=none)∧W i m σ' H':=fun {σ7 H7} I7 n7=>by
      obtain ⟨m',hm,w7⟩:=hN σ7 H7 n7
      refine ⟨m',hm,i+1,σ7,H7,I7.unpinned,T.keep _ _ _ st5 fun b hb o e=>(I7.pin (b,o) (List.mem_append_right _ (List.mem_append_right _ (fE hb e)))).1,fun b hb=>?_,w7⟩
      obtain ⟨o,e,d⟩:=T.obj _ _ st5 b hb
      exact (I7.pin (b,o) (List.mem_append_right _ (List.mem_append_right _ (fE hb e)))).2.1
    cases f with
    | next=>obtain ⟨σ7,H7,I7,n7⟩:=q7;exact again I7 n7
    | cont=>obtain ⟨σ7,H7,I7,n7⟩:=q7;exact again I7 n7
    | brk=>obtain ⟨σ7,H7,I7,q7⟩:=q7;exact ⟨σ7,H7,I7.unpinned,q7⟩
    | ret v=>obtain ⟨x7,σ7,H7,I7,r7,q7⟩:=q7;exact ⟨x7,σ7,H7,I7.unpinned,r7,q7⟩
end
end L2
namespace L2
open PySem PySem.Spec PyProof.Rows
abbrev R2:=V→V→Hp→VK→Prop
def OpR (X:Cx) (f:Value→Value→Sem Value) (r:R2):Prop:=
  ∀(pins:List (Addr×Obj)) (s:Shared) (σ:St) (H:Hp) (x y:V) (v u:Value) (Q:VK),Inv X pins σ H s→RelV x v→RelV y u→r x y H Q→
    wpAny (model X.prog X.w) X.A (f v u) (EP X pins σ Q) X.xe s
def yM (X:Cx) (f:Value→Sem Value) (r:V→Hp→VK→Prop):Prop:=
  ∀(pins:List (Addr×Obj)) (s:Shared) (σ:St) (H:Hp) (x:V) (v:Value) (Q:VK),Inv X pins σ H s→RelV x v→r x H Q→
    wpAny (model X.prog X.w) X.A (f v) (EP X pins σ Q) X.xe s
def CallR (X:Cx) (f:Value) (r:List V→Hp→VK→Prop):Prop:=
  ∀(pins:List (Addr×Obj)) (s:Shared) (σ:St) (H:Hp) (xs:List V) (us:List Value) (Q:VK),Inv X pins σ H s→Vals xs us→r xs H Q→
    wpAny (model X.prog X.w) X.A (call f us) (EP X pins σ Q) X.xe s
def yN (X:Cx) (r:V→Hp→(Bool→Hp→Prop)→Prop):Prop:=
  ∀(pins:List (Addr×Obj)) (s:Shared) (σ:St) (H:Hp) (x:V) (v:Value) (Q:Bool→Hp→Prop),Inv X pins σ H s→RelV x v→r x H Q→
    wpAny (model X.prog X.w) X.A (truthy v) (TP X pins σ Q) X.xe s
def xp (r:R2) (ta tb:TE):TE:=fun σ H Q=>ta σ H fun x H1=>tb σ H1 fun y H2=>r x y H2 Q
def zC (r:V→Hp→VK→Prop) (ta:TE):TE:=fun σ H Q=>ta σ H fun x H1=>r x H1 Q
def rI (C:Int→Int→Prop) (g:Int→Int→V):R2:=fun x y H Q=>∃i j,x= .int i∧y= .int j∧C i j∧Q (g i j) H
def va (g:Int→Int→V):R2:=fun x y H Q=>∃i j,x= .int i∧y= .int j∧Q (g i j) H
def rU (g:Int→V):V→Hp→VK→Prop:=fun x H Q=>∃i,x= .int i∧Q (g i) H
section
variable {X:Cx} {a b c:Expr} {ta tb tc:TE} {pos:Pos}
theorem vQ (ha:PE X a ta) (hb:PE X b tb) {pins:List (Addr×Obj)} {s:Shared} {σ:St} {H:Hp} {R:V→V→Hp→Prop} (I:Inv X pins σ H s)
    (h:ta σ H fun x H1=>tb σ H1 fun y H2=>R x y H2) {Q:Value→Shared→Prop} {f:Value→Value→Sem Value}
    (hf:∀v u s2 x y H2,Inv X pins σ H2 s2→RelV x v→RelV y u→R x y H2→wpAny (model X.prog X.w) X.A (f v u) Q X.xe s2):
    wpAny (model X.prog X.w) X.A (eval a X.env) (fun v s₁=>wpAny (model X.prog X.w) X.A (eval b X.env) (fun u s₂=>wpAny (model X.prog X.w) X.A (f v u) Q X.xe s₂) X.xe s₁) X.xe s:=by
  refine b8 (ha pins s σ H _ I h) fun v s1 ⟨x,H1,I1,r1,q1⟩=>?_
  refine b8 (hb pins s1 σ H1 _ I1 q1) fun u s2 ⟨y,H2,I2,r2,q2⟩=>?_
  exact hf v u s2 x y H2 I2 r1 r2 q2
theorem qL {op:Operator} {r:R2} (ho:OpR X (binaryOp op) r) (ha:PE X a ta) (hb:PE X b tb):PE X (.BinOp a op b pos) (xp r ta tb):=by
  intro pins s σ H Q I h
  exact wpAny_BinOp (vQ ha hb I h fun v u s2 x y H2 I2 rx ry q=>ho pins s2 σ H2 x y v u Q I2 rx ry q)
theorem xq {op:UnaryOp} {r:V→Hp→VK→Prop} (ho:yM X (unaryOp op) r) (ha:PE X a ta):PE X (.UnaryOp op a pos) (zC r ta):=by
  intro pins s σ H Q I h
  exact UnaryOp_ (b8 (ha pins s σ H _ I h) fun v s1 ⟨x,H1,I1,r1,q1⟩=>ho pins s1 σ H1 x v Q I1 r1 q1)
theorem yq {f:Value→Value→Sem Value} {C:Int→Int→Prop} {g:Int→Int→Int}
    (rule:∀(i j:Int) (t u:Tok) (s:Shared) (Q:Value→Shared→Prop) (E:Value→Shared→Prop),C i j→Q (.int (g i j) s.toks) {s with toks:=s.toks+1}→wpAny (model X.prog X.w) X.A (f (.int i t) (.int j u)) Q E s):
    OpR X f (rI C fun i j=> .int (g i j)):=by
  intro pins s σ H x y v u Q I rx ry h
  obtain ⟨i,j,rfl,rfl,hc,q⟩:=h
  obtain ⟨t,rfl⟩:=rx
  obtain ⟨t',rfl⟩:=ry
  exact rule i j t t' s _ _ hc ⟨.int (g i j),H,I.tok _,⟨_,rfl⟩,q⟩
theorem xr {f:Value→Value→Sem Value} {g:Int→Int→Int}
    (rule:∀(i j:Int) (t u:Tok) (s:Shared) (Q:Value→Shared→Prop) (E:Value→Shared→Prop),Q (.int (g i j) s.toks) {s with toks:=s.toks+1}→wpAny (model X.prog X.w) X.A (f (.int i t) (.int j u)) Q E s):
    OpR X f (va fun i j=> .int (g i j)):=by
  intro pins s σ H x y v u Q I rx ry h
  obtain ⟨i,j,rfl,rfl,q⟩:=h
  obtain ⟨t,rfl⟩:=rx
  obtain ⟨t',rfl⟩:=ry
  exact rule i j t t' s _ _ ⟨.int (g i j),H,I.tok _,⟨_,rfl⟩,q⟩
theorem tX {f:Value→Value→Sem Value} {g:Int→Int→Bool}
    (rule:∀(i j:Int) (t u:Tok) (s:Shared) (Q:Value→Shared→Prop) (E:Value→Shared→Prop),Q (.bool (g i j)) s→wpAny (model X.prog X.w) X.A (f (.int i t) (.int j u)) Q E s):
    OpR X f (va fun i j=> .bl (g i j)):=by
  intro pins s σ H x y v u Q I rx ry h
  obtain ⟨i,j,rfl,rfl,q⟩:=h
  obtain ⟨t,rfl⟩:=rx
  obtain ⟨t',rfl⟩:=ry
  exact rule i j t t' s _ _ ⟨.bl (g i j),H,I,rfl,q⟩
def xu (i j:Int):Prop:=0≤j∧j≤1000000∧i.natAbs < 2 ^ 64
def CMul (i j:Int):Prop:=(-(2 ^ 64) < i∧i < 2 ^ 64)∨(-(2 ^ 64) < j∧j < 2 ^ 64)
theorem CMul.ok {i j:Int} (h:CMul i j):IntMulOk i j:=by
  rcases h with ⟨h1,h2⟩ | ⟨h1,h2⟩
  · exact .of_left (intBits_le_64 h1 h2)
  · exact .of_right (intBits_le_64 h1 h2)
theorem vR:OpR X (binaryOp .Add) (va fun i j=> .int (i+j)):=xr fun _ _ _ _ _ _ _ q=>add_int q
theorem vS:OpR X (binaryOp .Sub) (va fun i j=> .int (i - j)):=xr fun _ _ _ _ _ _ _ q=>sub_int q
theorem qN:OpR X (binaryOp .Mod) (rI (fun _ j=>0 < j) fun i j=> .int (i % j)):=yq fun i j _ _ _ _ _ hc q=>by
  have h1:(0:Int) < j:=hc
  exact mod_int' (by omega) (by rw [Int.fmod_eq_emod_of_nonneg i (by omega)];exact q)
theorem vT:OpR X (binaryOp .Pow) (rI xu fun i j=> .int (i ^ j.toNat)):=yq fun _ _ _ _ _ _ _ hc q=>pow_int_small hc.1 hc.2.1 hc.2.2 q
theorem zD {f:Value→Sem Value} {g:Int→Int}
    (rule:∀(i:Int) (t:Tok) (s:Shared) (Q:Value→Shared→Prop) (E:Value→Shared→Prop),Q (.int (g i) s.toks) {s with toks:=s.toks+1}→wpAny (model X.prog X.w) X.A (f (.int i t)) Q E s):
    yM X f (rU fun i=> .int (g i)):=by
  intro pins s σ H x v Q I rx h
  obtain ⟨i,rfl,q⟩:=h
  obtain ⟨t,rfl⟩:=rx
  exact rule i t s _ _ ⟨.int (g i),H,I.tok _,⟨_,rfl⟩,q⟩
theorem vU:yM X (unaryOp .USub) (rU fun i=> .int (-i)):=zD fun _ _ _ _ _ q=>neg_int q
end
def vV:V→V→Bool
  | .non, .non=>true | .non, .int _=>true | .int _, .non=>true | .non, .bl _=>true | .bl _, .non=>true | .non, .str _=>true | .str _, .non=>true
  | .int _, .int _=>true | .bl _, .bl _=>true | .str _, .str _=>true | .byt _, .byt _=>true
  | .int _, .str _=>true | .str _, .int _=>true | .bl _, .str _=>true | .str _, .bl _=>true
  | _,_=>false
def zr:R2:=fun x y H Q=>vV x y=true∧Q (.bl (decide (x=y))) H
def zt:R2:=fun x y H Q=>vV x y=true∧Q (.bl (!decide (x=y))) H
theorem oE {i j:Int}:decide (V.int i=V.int j)=(i == j):=by
  rw [Bool.eq_iff_iff]
  simp
theorem qO {i j:Bool}:decide (V.bl i=V.bl j)=(i == j):=by
  rw [Bool.eq_iff_iff]
  simp
theorem oF {i j:Str}:decide (V.str i=V.str j)=(i == j):=by
  rw [Bool.eq_iff_iff]
  simp
theorem oG {i j:Array UInt8}:decide (V.byt i=V.byt j)=(i.toList == j.toList):=by
  rw [Bool.eq_iff_iff]
  cases i
  cases j
  simp
section
variable {X:Cx} {a b c:Expr} {ta tb tc:TE} {pos:Pos}
theorem aP {pins:List (Addr×Obj)} {σ:St} {H:Hp} {s:Shared} {Q:VK} {k k':Bool} (I:Inv X pins σ H s) (q:Q (.bl k) H) (e:k=k'):EP X pins σ Q (.bool k') s:=by
  subst e
  exact ⟨.bl k,H,I,rfl,q⟩
theorem vb:OpR X (compareOp .Eq) zr:=by
  intro pins s σ H x y v u Q I rx ry h
  obtain ⟨hs,q⟩:=h
  cases x with
  | non=>
    cases rx
    cases y with
    | non=>cases ry;exact PySem.EqNone.eq_none_none (aP I q (by simp))
    | bl j=>cases ry;exact PySem.EqNone.eq_none_bool (aP I q (by simp))
    | int j=>obtain ⟨t',rfl⟩:=ry;exact PySem.EqNone.eq_none_int (aP I q (by simp))
    | str j=>obtain ⟨t',rfl⟩:=ry;exact PySem.EqNone.eq_none_str (aP I q (by simp))
    | _=>exact absurd (show false=true from hs) Bool.false_ne_true
  | bl i=>
    cases rx
    cases y with
    | non=>cases ry;exact PySem.EqNone.eq_bool_none (aP I q (by simp))
    | bl j=>cases ry;exact eq_bool (aP I q qO)
    | str j=>obtain ⟨t',rfl⟩:=ry;exact PySem.EqMixed.eq_bool_str (aP I q (by simp))
    | _=>exact absurd (show false=true from hs) Bool.false_ne_true
  | int i=>
    obtain ⟨t,rfl⟩:=rx
    cases y with
    | non=>cases ry;exact PySem.EqNone.eq_int_none (aP I q (by simp))
    | int j=>obtain ⟨t',rfl⟩:=ry;exact eq_int (aP I q oE)
    | str j=>obtain ⟨t',rfl⟩:=ry;exact PySem.EqMixed.eq_int_str (aP I q (by simp))
    | _=>exact absurd (show false=true from hs) Bool.false_ne_true
  | str i=>
    obtain ⟨t,rfl⟩:=rx
    cases y with
    | non=>cases ry;exact PySem.EqNone.eq_str_none (aP I q (by simp))
    | bl j=>cases ry;exact PySem.EqMixed.eq_str_bool (aP I q (by simp))
    | int j=>obtain ⟨t',rfl⟩:=ry;exact PySem.EqMixed.eq_str_int (aP I q (by simp))
    | str j=>obtain ⟨t',rfl⟩:=ry;exact eq_str (aP I q oF)
    | _=>exact absurd (show false=true from hs) Bool.false_ne_true
  | byt i=>
    obtain ⟨t,rfl⟩:=rx
    cases y with
    | byt j=>obtain ⟨t',rfl⟩:=ry;exact PySem.W.eq_bytes (aP I q oG)
    | _=>exact absurd (show false=true from hs) Bool.false_ne_true
  | _=>cases y <;> exact absurd (show false=true from hs) Bool.false_ne_true
theorem vc:OpR X (compareOp .NotEq) zt:=by
  intro pins s σ H x y v u Q I rx ry h
  obtain ⟨hs,q⟩:=h
  cases x with
  | non=>
    cases rx
    cases y with
    | non=>cases ry;exact PySem.EqNone.ne_none_none (aP I q (by simp))
    | bl j=>cases ry;exact PySem.EqNone.ne_none_bool (aP I q (by simp))
    | int j=>obtain ⟨t',rfl⟩:=ry;exact PySem.EqNone.ne_none_int (aP I q (by simp))
    | str j=>obtain ⟨t',rfl⟩:=ry;exact PySem.EqNone.ne_none_str (aP I q (by simp))
    | _=>exact absurd (show false=true from hs) Bool.false_ne_true
  | bl i=>
    cases rx
    cases y with
    | non=>cases ry;exact PySem.EqNone.ne_bool_none (aP I q (by simp))
    | bl j=>cases ry;exact ne_bool (aP I q (congrArg not qO))
    | str j=>obtain ⟨t',rfl⟩:=ry;exact PySem.EqMixed.ne_bool_str (aP I q (by simp))
    | _=>exact absurd (show false=true from hs) Bool.false_ne_true
  | int i=>
    obtain ⟨t,rfl⟩:=rx
    cases y with
    | non=>cases ry;exact PySem.EqNone.ne_int_none (aP I q (by simp))
    | int j=>obtain ⟨t',rfl⟩:=ry;exact ne_int (aP I q (congrArg not oE))
    | str j=>obtain ⟨t',rfl⟩:=ry;exact PySem.EqMixed.ne_int_str (aP I q (by simp))
    | _=>exact absurd (show false=true from hs) Bool.false_ne_true
  | str i=>
    obtain ⟨t,rfl⟩:=rx
    cases y with
    | non=>cases ry;exact PySem.EqNone.ne_str_none (aP I q (by simp))
    | bl j=>cases ry;exact PySem.EqMixed.ne_str_bool (aP I q (by simp))
    | int j=>obtain ⟨t',rfl⟩:=ry;exact PySem.EqMixed.ne_str_int (aP I q (by simp))
    | str j=>obtain ⟨t',rfl⟩:=ry;exact ne_str (aP I q (congrArg not oF))
    | _=>exact absurd (show false=true from hs) Bool.false_ne_true
  | byt i=>
    obtain ⟨t,rfl⟩:=rx
    cases y with
    | byt j=>obtain ⟨t',rfl⟩:=ry;exact PySem.W.ne_bytes (aP I q (congrArg not oG))
    | _=>exact absurd (show false=true from hs) Bool.false_ne_true
  | _=>cases y <;> exact absurd (show false=true from hs) Bool.false_ne_true
theorem xv:OpR X (compareOp .Lt) (va fun i j=> .bl (decide (i < j))):=tX fun _ _ _ _ _ _ _ q=>lt_int q
theorem xw:OpR X (compareOp .LtE) (va fun i j=> .bl (decide (i≤j))):=tX fun _ _ _ _ _ _ _ q=>le_int q
theorem xx:OpR X (compareOp .Gt) (va fun i j=> .bl (decide (j < i))):=tX fun _ _ _ _ _ _ _ q=>gt_int q
theorem xy:OpR X (compareOp .GtE) (va fun i j=> .bl (decide (j≤i))):=tX fun _ _ _ _ _ _ _ q=>ge_int q
theorem pH:OpR X (compareOp .Lt) (fun x y H Q=>∃i j,x= .str i∧y= .str j∧Q (.bl (decide (i.cps.toList < j.cps.toList))) H):=by
  intro pins s σ H x y v u Q I rx ry h
  obtain ⟨i,j,rfl,rfl,q⟩:=h
  obtain ⟨t,rfl⟩:=rx
  obtain ⟨t',rfl⟩:=ry
  exact lt_str (aP I q rfl)
theorem OpR.or {f:Value→Value→Sem Value} {r r':R2} (h:OpR X f r) (h':OpR X f r'):OpR X f (fun x y H Q=>r x y H Q∨r' x y H Q):=by
  intro pins s σ H x y v u Q I rx ry q
  rcases q with q | q
  · exact h pins s σ H x y v u Q I rx ry q
  · exact h' pins s σ H x y v u Q I rx ry q
theorem ji (b:Expr) {op:CmpOp} (h:op≠ .In:=by decide) (h2:op≠ .NotIn:=by decide):behindInMarks op b=false:=by
  have e1:(op == CmpOp.In)=false:=by cases op <;> first | rfl | exact absurd rfl h
  have e2:(op == CmpOp.NotIn)=false:=by cases op <;> first | rfl | exact absurd rfl h2
  cases b <;> simp [behindInMarks,e1,e2]
theorem tY {op:CmpOp} {r:R2} (ho:OpR X (compareOp op) r) (ha:PE X a ta) (hb:PE X b tb) (hm:behindInMarks op b=false):PE X (.Compare a [op] [b] pos) (xp r ta tb):=by
  intro pins s σ H Q I h
  exact wpAny_Compare1 (vQ ha hb I h fun v u s2 x y H2 I2 rx ry q=>ho pins s2 σ H2 x y v u Q I2 rx ry q) hm
def vd (t:TE):TT:=fun σ H Q=>t σ H fun x H'=>∃k,x= .bl k∧Q k H'
theorem tZ {op:CmpOp} {r:R2} (ho:OpR X (compareOp op) r) (ha:PE X a ta) (hb:PE X b tb) (hm:behindInMarks op b=false):PT X (.Compare a [op] [b] pos) (vd (xp r ta tb)):=by
  intro pins s σ H Q I h
  refine wpAny_isTrue_Compare1 (b8 (ha pins s σ H _ I h) fun v s1 ⟨x,H1,I1,r1,q1⟩=>b8 (hb pins s1 σ H1 _ I1 q1) fun u s2 ⟨y,H2,I2,r2,q2⟩=>
    b8 (ho pins s2 σ H2 x y v u _ I2 r1 r2 q2) fun c s3 ⟨z,H3,I3,r3,k,e,q3⟩=>?_) hm
  subst e
  cases r3
  exact wpAny_truthy_bool ⟨H3,I3,q3⟩
def nG (r r':R2) (ta tb tc:TE):TE:=fun σ H Q=>ta σ H fun x H1=>tb σ H1 fun y H2=>r x y H2 fun z H3=>∃k,z= .bl k∧
  (if k=true then tc σ H3 fun w' H4=>r' y w' H4 Q else Q (.bl false) H3)
theorem qQ {op op':CmpOp} {r r':R2} (ho:OpR X (compareOp op) r) (ho':OpR X (compareOp op') r') (ha:PE X a ta) (hb:PE X b tb) (hc:PE X c tc)
    (hm:lastMarks [op,op'] [b,c]=false:=by with_unfolding_all rfl):PE X (.Compare a [op,op'] [b,c] pos) (nG r r' ta tb tc):=by
  intro pins s σ H Q I h
  refine Compare_chain (b8 (ha pins s σ H _ I h) fun v s1 ⟨x,H1,I1,r1,q1⟩=>chain_link (b8 (hb pins s1 σ H1 _ I1 q1) fun u s2 ⟨y,H2,I2,r2,q2⟩=>
    b8 (ho pins s2 σ H2 x y v u _ I2 r1 r2 q2) fun d s3 ⟨z,H3,I3,r3,k,e,q3⟩=>?_)) hm
  subst e
  cases r3
  refine wpAny_truthy_bool ?_
  cases k with
  | false=>exact ite_ff ⟨.bl false,H3,I3,rfl,q3⟩
  | true=>exact ite_tt (chain_last (b8 (hc pins s3 σ H3 _ I3 q3) fun w' s4 ⟨z',H4,I4,r4,q4⟩=>ho' pins s4 σ H4 y z' u w' Q I4 r2 r4 q4))
theorem qR {op op':CmpOp} {r r':R2} (ho:OpR X (compareOp op) r) (ho':OpR X (compareOp op') r') (ha:PE X a ta) (hb:PE X b tb) (hc:PE X c tc)
    (hm:lastMarks [op,op'] [b,c]=false:=by with_unfolding_all rfl):PT X (.Compare a [op,op'] [b,c] pos) (vd (nG r r' ta tb tc)):=by
  intro pins s σ H Q I h
  refine isTrue_chain (b8 (ha pins s σ H _ I h) fun v s1 ⟨x,H1,I1,r1,q1⟩=>test_link (b8 (hb pins s1 σ H1 _ I1 q1) fun u s2 ⟨y,H2,I2,r2,q2⟩=>
    b8 (ho pins s2 σ H2 x y v u _ I2 r1 r2 q2) fun d s3 ⟨z,H3,I3,r3,k,e,q3⟩=>?_)) hm
  subst e
  cases r3
  refine wpAny_truthy_bool ?_
  cases k with
  | false=>
    obtain ⟨k',e',q'⟩:=q3
    cases e'
    exact ite_ff ⟨H3,I3,q'⟩
  | true=>
    refine ite_tt (test_last (b8 (hc pins s3 σ H3 _ I3 q3) fun w' s4 ⟨z',H4,I4,r4,q4⟩=>b8 (ho' pins s4 σ H4 y z' u w' _ I4 r2 r4 q4) fun d' s5 ⟨z2,H5,I5,r5,k2,e2,q5⟩=>?_))
    subst e2
    cases r5
    exact wpAny_truthy_bool ⟨H5,I5,q5⟩
def qS (K:PySem.W.Frag) (x:V) (H:Hp) (k:Bool):Prop:=
  match x with
  | .non=>k=false
  | .bl b=>k=b
  | .int i=>k=(i != 0)
  | .str y=>y.length≤sizeLine∧k=((y.length:Int) != 0)
  | .byt y=>y.size≤sizeLine∧k=((y.size:Int) != 0)
  | .ref p=>(∃xs,SqL K H p xs∧k= !xs.isEmpty)∨(∃xs,SqT K H p xs∧k= !xs.isEmpty)∨∃kvs,H p=some (.dK kvs)∧k= !kvs.isEmpty
  | _=>False
theorem nH {κ:Type} {kvs:List (κ×V)} {vs:List (κ×Value)} (r:KV kvs vs):(!vs.isEmpty)= !kvs.isEmpty:=by
  cases r <;> rfl
theorem jj {xs:List V} {its:List Value} (r:Vals xs its):(!its.toArray.isEmpty)= !xs.isEmpty:=by
  cases r <;> simp
theorem gW:(sizeLine:Nat) < 2 ^ 63:=by rw [sizeLine_eq];decide
theorem vW:yN X (fun x H Q=>∃k,qS X.K x H k∧Q k H):=by
  intro pins s σ H x v Q I rx h
  obtain ⟨k,e,q⟩:=h
  have hl:=gW
  have hs:sizeLine=16777216:=sizeLine_eq
  cases x with
  | non=>
    cases rx
    have e':k=false:=e
    subst e'
    exact truthy_none ⟨H,I,q⟩
  | bl b=>
    cases rx
    have e':k=b:=e
    subst e'
    exact wpAny_truthy_bool ⟨H,I,q⟩
  | int i=>
    obtain ⟨t,rfl⟩:=rx
    have e':k=(i != 0):=e
    subst e'
    exact PySem.P.truthy_int ⟨H,I,q⟩
  | str y=>
    obtain ⟨t,rfl⟩:=rx
    obtain ⟨hy,e'⟩:y.length≤sizeLine∧k=((y.length:Int) != 0):=e
    subst e'
    exact PySem.P.truthy_str (by omega) ⟨H,I.tok _,q⟩
  | byt y=>
    obtain ⟨t,rfl⟩:=rx
    obtain ⟨hy,e'⟩:y.size≤sizeLine∧k=((y.size:Int) != 0):=e
    subst e'
    exact PySem.W.truthy_bytes (by omega) ⟨H,I.tok _,q⟩
  | ref p=>
    cases rx
    have e':(∃xs,SqL X.K H p xs∧k= !xs.isEmpty)∨(∃xs,SqT X.K H p xs∧k= !xs.isEmpty)∨∃kvs,H p=some (.dK kvs)∧k= !kvs.isEmpty:=e
    rcases e' with ⟨xs,hx,e'⟩ | ⟨xs,hx,e'⟩ | ⟨kvs,hx,e'⟩
    · subst e'
      obtain ⟨its,r,pl,hz⟩:=I.list hx
      have hlen:=r.length
      exact wpAny_truthy_list pl.isList (by simp only [List.size_toArray];omega) ⟨H,I.tok _,by rw [jj r];exact q⟩
    · subst e'
      obtain ⟨its,r,pl,hz⟩:=I.tuple hx
      have hlen:=r.length
      exact truthy_tuple pl (by simp only [List.size_toArray];omega) ⟨H,I.tok _,by rw [jj r];exact q⟩
    · subst e'
      obtain ⟨hz,hS,vs,r,m⟩:kvs.length≤sizeLine∧(p == sysModules)=false∧∃vs,KV kvs vs∧s.heap.DictOf (i5 X.prog X.w) p vs:=I.hok p _ hx
      have hlen:kvs.length=vs.length:=Paired.length r
      exact wpAny_truthy_dict hS m (by omega) ⟨H,I.tok _,by rw [nH r];exact q⟩
  | _=>exact (show False from e).elim
theorem qU (ha:PE X a ta) (he:∀whole,isTrue a X.env whole=(do let v ←whole;standAt a.pos;holding [v] (truthy v))):
    PT X a (fun σ H Q=>ta σ H fun x H'=>∃k,qS X.K x H' k∧Q k H'):=by
  intro pins s σ H Q I h
  exact isTrue_plain (b8 (ha pins s σ H _ I h) fun v s1 ⟨x,H1,I1,r1,q1⟩=>vW pins s1 σ H1 x v Q I1 r1 q1) (he _)
theorem nI:OpR X (binaryOp .Add) (fun x y H Q=>∃i j,x= .str i∧y= .str j∧i.length+j.length≤sizeLine∧Q (.str (i++j)) H):=by
  intro pins s σ H x y v u Q I rx ry h
  obtain ⟨i,j,rfl,rfl,hz,q⟩:=h
  obtain ⟨t,rfl⟩:=rx
  obtain ⟨t',rfl⟩:=ry
  exact add_str (fun t' tk=>⟨.str (i++j),H,I.tok _,⟨_,rfl⟩,q⟩) hz
theorem kB {x:V} {us:List Value} (r:Vals [x] us):∃u,us=[u]∧RelV x u:=by
  cases r with
  | cons r1 r2=>cases r2;exact ⟨_,rfl,r1⟩
theorem pJ:CallR X (.type "int") (fun xs H Q=>(∃i,xs=[.int i]∧Q (.int i) H)∨∃k,xs=[.bl k]∧Q (.int (if k then 1 else 0)) H):=by
  intro pins s σ H xs us Q I r h
  rcases h with ⟨i,rfl,q⟩ | ⟨k,rfl,q⟩
  · obtain ⟨u,rfl,t,rfl⟩:=kB r
    exact call_int_int ⟨.int i,H,I,⟨_,rfl⟩,q⟩
  · obtain ⟨u,rfl,r1⟩:=kB r
    cases r1
    exact call_int_bool ⟨.int (if k then 1 else 0),H,I.tok _,⟨_,rfl⟩,q⟩
end
end L2
namespace L2
open PySem PySem.Spec PyProof.Rows
structure ObjM (h:Heap) (x dx C:Addr) (mA:Str→Option Value):Prop where
  obj:h.get? x=some (PySem.W.instObj C dx)
  ns:h.Ns1 dx mA
  ne:dx≠x
theorem pK {h:Heap} {dx:Addr} {mA:Str→Option Value} (n:h.Ns1 dx mA):∃od,h.get? dx=some od∧∀name,PySem.W.lookIn name od=some (mA name):=by
  obtain ⟨o,es,ep,ho,hd,hk,_,hm⟩:=n
  refine ⟨o,ho,fun name=>?_⟩
  have e:=hm name
  unfold nsFind findBy at e
  rw [←Array.find?_toList] at e
  unfold PySem.W.lookIn
  rw [hd]
  dsimp only
  split
  · rename_i y q
    rw [q] at e
    exact congrArg some e
  · rename_i q
    rw [q] at e
    have a:es.toList.any (·.refKey)=false:=by
      rw [List.any_eq_false]
      intro y hy
      obtain ⟨z,t,hkey⟩:=hk y (Array.mem_toList_iff.mp hy)
      simp [DictEntry.refKey,hkey]
    have a':¬es.toList.any (·.refKey)=true:=by rw [a];exact Bool.false_ne_true
    rw [if_neg a']
    exact congrArg some e
theorem ObjM.look {h:Heap} {x dx C:Addr} {mA:Str→Option Value} (I:ObjM h x dx C mA):∃od,PySem.W.InstAt h x (PySem.W.instObj C dx) C (some od)∧∀name,PySem.W.lookIn name od=some (mA name):=
  let ⟨od,ho,hl⟩:=pK I.ns
  ⟨od,⟨I.obj,rfl,rfl,ho⟩,hl⟩
section
variable {prog:Program} {w:World} {A:Around} {E:Value→Shared→Prop} {s:Shared} {K:PySem.W.Frag} {x dx C f:Addr} {mA:Str→Option Value} {name:Str} {v:Value}
theorem t3 {expr:Bool} {Q:Value→Shared→Prop} (X:K.In s.heap) (I:ObjM s.heap x dx C mA) (hg:PySem.W.plainGet K C name=true) (hh:PySem.W.hasDictIn K C=true)
    (ha:PySem.W.findIn K (.ref C) name=some none) (hv:mA name=some v) (hv':PySem.W.handedIn v=true) (h:Q v {s with toks:=s.toks+1}):
    wpAny (model prog w) A (getAttr (.ref x) name expr) Q E s:=by
  obtain ⟨od,J,hl⟩:=I.look
  exact PySem.W.get_value X J (PySem.W.plainGet_of hg).1 (PySem.W.findObj_own hh ha rfl (by rw [hl,hv])) hv' h
theorem qV {pl:Sem Bool} {Q:Value×List Value→Shared→Prop} (X:K.In s.heap) (I:ObjM s.heap x dx C mA) (hg:PySem.W.plainGet K C name=true)
    (hf:PySem.W.findIn K (.ref C) name=some (some (.ref f))) (ht:PySem.W.isFn K (.ref f)=true) (hv:mA name=none) (h:Q (.ref f,[.ref x]) s):
    wpAny (model prog w) A (getMethod (.ref x) name pl) Q E s:=by
  obtain ⟨od,J,hl⟩:=I.look
  exact PySem.W.method_fn X J (PySem.W.plainGet_of hg).1 (PySem.W.plainGet_of hg).2 hf (beq_iff_eq.mp ht) (by show (PySem.W.lookIn name od).map (·.isSome)=some false;rw [hl,hv];rfl) h
theorem t5 {ns:List Str} {Q:Unit→Shared→Prop} (X:K.In s.heap) (I:ObjM s.heap x dx C mA)
    (hs:PySem.W.findIn K (.ref C) "__setattr__"=some (some (.builtin "object.__setattr__"))) (hp:PySem.W.plainOver K C=true) (ht:PySem.W.takerIn K C name=some none) (hh:PySem.W.hasDictIn K C=true)
    (hw:PySem.Within mA ns) (hsz:ns.length≤sizeLine)
    (h:∀h',ObjM h' x dx C (fun y=>if y=name then some v else mA y)→Heap.SameBut dx s.heap h'→Q () {s with heap:=h',toks:=s.toks+2}):
    wpAny (model prog w) A (setAttr (.ref x) name v) Q E s:=by
  obtain ⟨od,J,hl⟩:=I.look
  refine PySem.W.set_plain X J hs (PySem.W.osa_open (s:={s with toks:=s.toks+1}) (r:=none) X J hp ht fun b=>?_)
  obtain ⟨cd,hc,hd'⟩:=PySem.W.any_some hh
  have hx:s.heap.get? x=some ⟨.ref C,some dx, .plain,#[]⟩:=I.obj
  refine wpAny_bind (wpAny_pure (wpAny_bind (wpAny_bind (wpAny_loadPart hx (wpAny_bind (PySem.W.Looks.here (s:={s with toks:=s.toks+1}) (PySem.W.looks_clsIn X hc) ?_))))))
  rw [hd']
  refine wpAny_pure (a:=some dx) (wpAny_bind (wpAny_pure (wpAny_bind ?_)))
  refine wpAny_nsSet1 (s:={s with toks:=s.toks+1}) I.ns fun h' hn2 hs2=>?_
  obtain ⟨oD,esD,epD,hoD,hdD,hcD⟩:=hn2.count (PySem.Within.cons name v hw)
  refine wpAny_bind (wpAny_lookBehind hoD (by rw [hdD];exact pastItsLine_dict (Nat.le_trans hcD (by rw [List.length_cons];omega))) ?_)
  exact wpAny_pure (h _ ⟨(hs2.2 _ (Ne.symm I.ne)).trans I.obj,hn2,I.ne⟩ hs2)
theorem qW {R:Result→Shared→Prop} {vs:List Value} {kw:List (Str×Value)} (X:K.In s.heap) (hm:PySem.W.makesIn K C=true)
    (hi:PySem.W.findIn K (.ref C) "__init__"=some (some (.ref f))) (hf:PySem.W.typeIn K (.ref f)=some (.type "function"))
    (h:codeAny (model prog w) (A.under (.builtin "type.__call__" ⟨.ref C::vs,kw⟩)) (.call (.ref f) ⟨.ref (s.heap.objs.size+1)::vs,kw⟩) (PySem.W.InitBack (s.heap.objs.size+1) R)
      {s with heap:=(s.heap.push PySem.W.emptyDict).push (PySem.W.instObj C s.heap.objs.size)}):
    codeAny (model prog w) A (.call (.ref C) ⟨vs,kw⟩) R s:=by
  obtain ⟨hh,g,d,t,os⟩:=s
  exact PySem.W.make_core (PySem.W.makes_of X hm) (PySem.W.looks_findIn X hi) (fun self=>PySem.W.bind_fn X self hf) (.inl rfl) h
end
def cC (f:Str) (v:V):List (Str×V)→List (Str×V)
  | []=>[(f,v)]
  | (g,x)::r=>if g=f then (g,v)::r else (g,x)::cC f v r
theorem aR (f g:Str) (v:V):∀fs:List (Str×V),(cC f v fs).lookup g=if g=f then some v else fs.lookup g
  | []=>by
    show List.lookup g [(f,v)]=_
    by_cases h:g=f
    · have hb:(g == f)=true:=beq_iff_eq.mpr h
      simp only [List.lookup,hb,if_pos h]
    · have hb:(g == f)=false:=beq_eq_false_iff_ne.mpr h
      simp only [List.lookup,hb,if_neg h]
  | (k,x)::r=>by
    have ih:=aR f g v r
    rw [show cC f v ((k,x)::r)=(if k=f then (k,v)::r else (k,x)::cC f v r) from rfl]
    by_cases hk:k=f
    · rw [if_pos hk]
      by_cases h:g=k
      · have hb:(g == k)=true:=beq_iff_eq.mpr h
        simp only [List.lookup,hb,if_pos (h.trans hk)]
      · have hb:(g == k)=false:=beq_eq_false_iff_ne.mpr h
        simp only [List.lookup,hb,if_neg (fun e:g=f=>h (e.trans hk.symm))]
    · rw [if_neg hk]
      by_cases h:g=k
      · have hb:(g == k)=true:=beq_iff_eq.mpr h
        simp only [List.lookup,hb,if_neg (fun e:g=f=>hk (h.symm.trans e))]
      · have hb:(g == k)=false:=beq_eq_false_iff_ne.mpr h
        simp only [List.lookup,hb]
        exact ih
theorem ij (f:Str) (v:V):∀fs:List (Str×V),f∈(cC f v fs).map (·.1)∧∀g,g∈fs.map (·.1)→g∈(cC f v fs).map (·.1)
  | []=>⟨by simp [cC],fun g h=>by simp at h⟩
  | (k,x)::r=>by
    obtain ⟨i1,i2⟩:=ij f v r
    rw [show cC f v ((k,x)::r)=(if k=f then (k,v)::r else (k,x)::cC f v r) from rfl]
    by_cases hk:k=f
    · rw [if_pos hk]
      subst hk
      exact ⟨by simp,fun g h=>by simpa using h⟩
    · rw [if_neg hk]
      refine ⟨?_,fun g h=>?_⟩
      · rw [List.map_cons]
        exact List.mem_cons_of_mem _ i1
      · rw [List.map_cons] at h ⊢
        rcases List.mem_cons.mp h with e | e
        · exact List.mem_cons.mpr (.inl e)
        · exact List.mem_cons_of_mem _ (i2 g e)
theorem gd (f:Str) (v:V):∀fs:List (Str×V),(cC f v fs).length≤fs.length+1
  | []=>by simp [cC]
  | (k,x)::r=>by
    have ih:=gd f v r
    rw [show cC f v ((k,x)::r)=(if k=f then (k,v)::r else (k,x)::cC f v r) from rfl]
    by_cases hk:k=f
    · rw [if_pos hk,List.length_cons,List.length_cons];omega
    · rw [if_neg hk,List.length_cons,List.length_cons];omega
theorem RelO.some_of {v:V} {o:Option Value} (r:RelO (some v) o):∃u,o=some u∧RelV v u:=by
  cases o with
  | none=>exact (show False from r).elim
  | some u=>exact ⟨u,rfl,r⟩
theorem RelO.none_of {o:Option Value} (r:RelO none o):o=none:=by
  cases o with
  | none=>rfl
  | some u=>exact (show False from r).elim
theorem pL {v:V} {u:Value} (r:RelV v u):PySem.W.handedIn u=true:=by
  cases v with
  | non=>cases (show u=Value.none from r);rfl
  | bl b=>cases (show u=Value.bool b from r);rfl
  | int i=>obtain ⟨t,e⟩:=(show ∃t,u=Value.int i t from r);cases e;rfl
  | str x=>obtain ⟨t,e⟩:=(show ∃t,u=Value.str x t from r);cases e;rfl
  | byt b=>obtain ⟨t,e⟩:=(show ∃t,u=Value.bytes b t from r);cases e;rfl
  | flt b=>obtain ⟨t,e⟩:=(show ∃t,u=Value.float b t from r);cases e;rfl
  | ref a=>cases (show u=Value.ref a from r);rfl
  | ty n=>cases (show u=Value.type n from r);rfl
section
variable {P:Program} {w:World} {H H':Hp} {h h':Heap} {a C dx:Addr} {fs fs':List (Str×V)}
theorem i7 (hok:HOk P w H h) (e:H a=some (.ins C dx fs)):∃mA,ObjM h a dx C mA∧(∀f,RelO (fs.lookup f) (mA f))∧PySem.Within mA (fs.map (·.1))∧fs.length≤1000∧H dx=some (.own a):=by
  obtain ⟨d,z,ne,ob,mA,n,r,q⟩:=(show ObjOk P w H h a (.ins C dx fs) from hok a _ e)
  exact ⟨mA,⟨ob,n,ne⟩,r,q,z,d⟩
end
structure Cls (K:PySem.W.Frag) (C:Addr):Prop where
  pg:PySem.W.plainGet K C Str.empty=true
  hd:PySem.W.hasDictIn K C=true
  po:PySem.W.plainOver K C=true
  sa:PySem.W.findIn K (.ref C) "__setattr__"=some (some (.builtin "object.__setattr__"))
theorem Cls.get {K:PySem.W.Frag} {C:Addr} (c:Cls K C) (f:Str):PySem.W.plainGet K C f=true:=c.pg
def NoAttr (K:PySem.W.Frag) (C:Addr) (f:Str):Prop:=PySem.W.findIn K (.ref C) f=some none
theorem NoAttr.taker {K:PySem.W.Frag} {C:Addr} {f:Str} (n:NoAttr K C f):PySem.W.takerIn K C f=some none:=by
  unfold PySem.W.takerIn
  rw [show PySem.W.findIn K (.ref C) f=some none from n]
  rfl
structure Meth (K:PySem.W.Frag) (C:Addr) (m:Str) (f:Addr):Prop where
  at_:PySem.W.findIn K (.ref C) m=some (some (.ref f))
  fn:PySem.W.isFn K (.ref f)=true
  kp:PySem.W.keepIn K (.ref f)=true
section
variable {X:Cx} {pins:List (Addr×Obj)} {σ:St} {H:Hp} {s:Shared} {a C dx:Addr} {fs:List (Str×V)} {f:Str} {v:V} {A:Around} {E:Value→Shared→Prop}
theorem nJ {b:Bool} {Q:Value→Shared→Prop} (I:Inv X pins σ H s) (e:H a=some (.ins C dx fs)) (c:Cls X.K C) (n:NoAttr X.K C f) (l:fs.lookup f=some v)
    (h:∀u s',Inv X pins σ H s'→RelV v u→Q u s'):wpAny (model X.prog X.w) A (getAttr (.ref a) f b) Q E s:=by
  obtain ⟨mA,O,r,_,_,_⟩:=i7 I.hok e
  obtain ⟨u,hu,ru⟩:=RelO.some_of (v:=v) (o:=mA f) (by rw [←l];exact r f)
  exact t3 I.kIn O (c.get f) c.hd n hu (pL ru) (h u _ (I.tok _) ru)
theorem jk {m:Str} {g:Addr} {pl:Sem Bool} {Q:Value×List Value→Shared→Prop} (I:Inv X pins σ H s) (e:H a=some (.ins C dx fs)) (c:Cls X.K C) (k:Meth X.K C m g) (l:fs.lookup m=none)
    (h:Q (.ref g,[.ref a]) s):wpAny (model X.prog X.w) A (getMethod (.ref a) m pl) Q E s:=by
  obtain ⟨mA,O,r,_,_,_⟩:=i7 I.hok e
  have hn:mA m=none:=RelO.none_of (by rw [←l];exact r m)
  exact qV I.kIn O (c.get m) k.at_ k.fn hn h
theorem nK {y:V} {u:Value} {Q:Unit→Shared→Prop} (I:Inv X pins σ H s) (e:H a=some (.ins C dx fs)) (c:Cls X.K C) (n:NoAttr X.K C f) (hl:fs.length < 1000) (ry:RelV y u)
    (h:∀s',Inv X pins σ (upd H a (.ins C dx (cC f y fs))) s'→Q () s'):wpAny (model X.prog X.w) A (setAttr (.ref a) f u) Q E s:=by
  obtain ⟨mA,O,r,wi,_,ho⟩:=i7 I.hok e
  have hz:(fs.map (·.1)).length≤sizeLine:=by rw [List.length_map,sizeLine_eq];omega
  refine t5 I.kIn O c.sa c.po n.taker c.hd wi hz fun h' O' sb=>h _ ?_
  have hd:∃o,h'.get? dx=some o:=let ⟨o,_,_,e',_⟩:=O'.ns;⟨o,e'⟩
  refine I.write (x:=a) (e:=dx) (by rw [e];exact True.intro) (.inr ho) (fun b q hb z=>(sb.2 b hb).trans z) hd ?_
  refine ⟨by rw [au O.ne];exact ho,?_,O.ne,O'.obj,_,O'.ns,fun g=>?_,fun g hg=>?_⟩
  · have:=gd f y fs;omega
  · show RelO ((cC f y fs).lookup g) (if g=f then some u else mA g)
    rw [aR]
    by_cases q:g=f
    · rw [if_pos q,if_pos q];exact ry
    · rw [if_neg q,if_neg q];exact r g
  · by_cases q:g=f
    · rw [q];exact (ij f y fs).1
    · refine (ij f y fs).2 g (wi g fun z=>hg ?_)
      show (if g=f then some u else mA g)=none
      rw [if_neg q];exact z
theorem Inv.made (I:Inv X pins σ H s):Inv X pins σ (upd (upd H s.heap.objs.size (.own (s.heap.objs.size+1))) (s.heap.objs.size+1) (.ins C s.heap.objs.size []))
    {s with heap:=(s.heap.push PySem.W.emptyDict).push (PySem.W.instObj C s.heap.objs.size)}:=by
  have e1:(s.heap.push PySem.W.emptyDict).get? s.heap.objs.size=some PySem.W.emptyDict:=Heap.get?_push_size s.heap rfl
  have e2:((s.heap.push PySem.W.emptyDict).push (PySem.W.instObj C s.heap.objs.size)).get? (s.heap.objs.size+1)=some (PySem.W.instObj C s.heap.objs.size):=by
    have:=Heap.get?_push_size (s.heap.push PySem.W.emptyDict) (o:=PySem.W.instObj C s.heap.objs.size) rfl
    rwa [Heap.size_push] at this
  have e3:(s.heap.push PySem.W.emptyDict).Ns s.heap.objs.size (fun _=>none):=⟨PySem.W.emptyDict,#[],_,e1,rfl,(fun e he=>absurd he (by simp)),fun _=>rfl⟩
  have I1:=I.laid (a:=s.heap.objs.size) (o:= .own (s.heap.objs.size+1)) (h':=s.heap.push PySem.W.emptyDict) (t':=s.toks) (fun b u q=>Heap.get?_push_of_some _ q) (Nat.le_refl _) ⟨_,e1⟩
  refine I1.laid (a:=s.heap.objs.size+1) (o:= .ins C s.heap.objs.size []) (t':=s.toks) (fun b u q=>Heap.get?_push_of_some _ q) (Nat.le_of_eq (Heap.size_push _ _)) ?_
  have ne:s.heap.objs.size≠s.heap.objs.size+1:=Nat.ne_of_lt (Nat.lt_succ_self _)
  refine ⟨by rw [au ne,az],Nat.zero_le _,ne,e2,fun _=>none,(Heap.Ns1.of_empty e3).at fun o q=>Heap.get?_push_of_some _ q,fun _=>True.intro,fun y hy=>absurd rfl hy⟩
theorem t7 {prog:Program} {w:World} {env:Env} {e:Expr} {f:Str} {pos:Pos} {s:Shared} {Q:Value→Shared→Prop} (hb:attributeBase e f env (eval e env)=eval e env)
    (h:wpAny (model prog w) A (eval e env) (fun o s₁=>wpAny (model prog w) A (getAttr o f true) Q E s₁) E s):wpAny (model prog w) A (eval (.Attribute e f pos) env) Q E s:=
  Attribute_any_ h (by rw [arm_eval_Attribute,hb])
end
def yO (K:PySem.W.Frag) (ta:TE) (f:Str):TE:=fun σ H Q=>ta σ H fun x H1=>∃a C dx fs v,x= .ref a∧H1 a=some (.ins C dx fs)∧Cls K C∧NoAttr K C f∧fs.lookup f=some v∧Q v H1
def nM (K:PySem.W.Frag) (ta tv:TE) (f:Str):TS:=fun D σ H=>tv σ H fun y H1=>ta σ H1 fun x H2=>∃a C dx fs,x= .ref a∧H2 a=some (.ins C dx fs)∧Cls K C∧NoAttr K C f∧fs.length < 1000∧
  D.nx σ (upd H2 a (.ins C dx (cC f y fs)))
section
variable {X:Cx} {o e value:Expr} {f:Str} {pos pos' tpos:Pos} {ta tv:TE}
theorem vX (he:PE X e ta) (hb:attributeBase e f X.env (eval e X.env)=eval e X.env):PE X (.Attribute e f pos) (yO X.K ta f):=by
  intro pins s σ H Q I h
  refine t7 hb (b8 (he pins s σ H _ I h) fun u s1 ⟨x,H1,I1,rx,a,C,dx,fs,v,ex,ea,c,n,l,q⟩=>?_)
  subst ex
  obtain rfl:u=Value.ref a:=rx
  exact nJ I1 ea c n l fun u' s2 I2 ru=>⟨v,H1,I2,ru,q⟩
theorem ik (ha:PE X o ta) (hv:PE X value tv) (hs:swapsWith value (some (.Attribute o f pos')) pos.line X.env=pure false):PS X (.Assign [.Attribute o f pos'] value pos) (nM X.K ta tv f):=by
  intro pins s σ H D I h
  refine plainObj_wpAny_Assign_Attribute (b8 (hv pins s σ H _ I h) fun u s1 ⟨y,H1,I1,ry,q⟩=>b8 (ha pins s1 σ H1 _ I1 q) fun ov s2 ⟨x,H2,I2,rx,a,C,dx,fs,ex,ea,c,n,l,q2⟩=>?_) hs
  subst ex
  obtain rfl:ov=Value.ref a:=rx
  exact nK I2 ea c n l ry fun s3 I3=>⟨σ,_,I3,q2⟩
end
section
variable {X:Cx} {pins:List (Addr×Obj)} {σ:St} {H:Hp} {s:Shared} {A:Around} {E:Value→Shared→Prop} {Q:Value→Shared→Prop} {c:Value} {b:Bool}
inductive TyOf (K:PySem.W.Frag) (H:Hp):V→Value→Prop where
  | non:TyOf K H .non (.type "NoneType")
  | bl (x:Bool):TyOf K H (.bl x) (.type "bool")
  | int (i:Int):TyOf K H (.int i) (.type "int")
  | str (x:Str):TyOf K H (.str x) (.type "str")
  | flt (x:UInt64):TyOf K H (.flt x) (.type "float")
  | lst {a:Addr} {xs:List V} (e:H a=some (.lst xs)):TyOf K H (.ref a) (.type "list")
  | frz {a:Addr} {o:Obj} {xs:List V} (e:H a=some (.frz o (.lst xs))):TyOf K H (.ref a) (.type "list")
  | tup {a:Addr} {xs:List V} (e:H a=some (.tup xs)):TyOf K H (.ref a) (.type "tuple")
  | dK {a:Addr} {kvs:List (cX×V)} (e:H a=some (.dK kvs)):TyOf K H (.ref a) (.type "dict")
  | dT {a:Addr} {kvs:List (List cX×V)} (e:H a=some (.dT kvs)):TyOf K H (.ref a) (.type "dict")
  | ins {a C dx:Addr} {fs:List (Str×V)} (e:H a=some (.ins C dx fs)) (cl:Cls K C) (ha:PySem.W.findIn K (.ref C) "__class__"=some (some (.builtin "object.__class__")))
      (hn:PySem.W.specialIn K (.builtin "object.__class__") "__get__"=some (some (.builtin "getset_descriptor.__get__"))) (htk:PySem.W.takesIn K (.builtin "object.__class__")=some true)
      (hm:PySem.W.mroIn K C (.type "object")=some true):TyOf K H (.ref a) (.ref C)
theorem gy {x:V} {u t:Value} (I:Inv X pins σ H s) (rx:RelV x u) (ty:TyOf X.K H x t) (e:PySem.W.kitOne X.K t c=some b) (h:∀tk,Q (.bool b) {s with toks:=tk}):
    wpAny (model X.prog X.w) A (call (.builtin "isinstance") [u,c]) Q E s:=by
  cases ty with
  | non=>cases (show u=Value.none from rx);exact PySem.W.kia_one PySem.W.kitx_none I.kIn True.intro e (fun z=>nomatch z) h
  | bl y=>cases (show u=Value.bool y from rx);exact PySem.W.kia_one PySem.W.kitx_bool I.kIn True.intro e (fun z=>nomatch z) h
  | int i=>obtain ⟨t,q⟩:=(show ∃t,u=Value.int i t from rx);cases q;exact PySem.W.kia_one PySem.W.kitx_int I.kIn True.intro e (fun z=>nomatch z) h
  | str y=>obtain ⟨t,q⟩:=(show ∃t,u=Value.str y t from rx);cases q;exact PySem.W.kia_one PySem.W.kitx_str I.kIn True.intro e (fun z=>nomatch z) h
  | flt y=>obtain ⟨t,q⟩:=(show ∃t,u=Value.float y t from rx);cases q;exact PySem.W.kia_one PySem.W.kitx_float I.kIn True.intro e (fun z=>nomatch z) h
  | @lst a xs ea=>
    cases (show u=Value.ref a from rx)
    obtain ⟨_,_,n,_,h1⟩:=(show ObjOk X.prog X.w H s.heap a (.lst xs) from I.hok a _ ea)
    exact PySem.W.kia_one PySem.W.kitx_list I.kIn ⟨_,h1,rfl⟩ e (fun z=>nomatch z) h
  | @frz a ob xs ea=>
    cases (show u=Value.ref a from rx)
    obtain ⟨_,_,_,n,_,h1⟩:=(show ObjOk X.prog X.w H s.heap a (.frz ob (.lst xs)) from I.hok a _ ea)
    exact PySem.W.kia_one PySem.W.kitx_list I.kIn ⟨_,h1,rfl⟩ e (fun z=>nomatch z) h
  | @tup a xs ea=>
    cases (show u=Value.ref a from rx)
    obtain ⟨_,_,_,p⟩:=(show ObjOk X.prog X.w H s.heap a (.tup xs) from I.hok a _ ea)
    obtain ⟨o,h1,h2,_⟩:=p
    exact PySem.W.kia_one PySem.W.kitx_tuple I.kIn ⟨o,h1,h2⟩ e (fun z=>nomatch z) h
  | @dK a kvs ea=>
    cases (show u=Value.ref a from rx)
    obtain ⟨_,_,vs,_,p⟩:=(show ObjOk X.prog X.w H s.heap a (.dK kvs) from I.hok a _ ea)
    obtain ⟨o,es,ep,h1,h2,_⟩:=p
    exact PySem.W.kia_one PySem.W.kitx_dict I.kIn ⟨o,h1,h2.1⟩ e (fun z=>nomatch z) h
  | @dT a kvs ea=>
    cases (show u=Value.ref a from rx)
    obtain ⟨_,_,xs,_,o,es,ep,h1,h2,_⟩:=(show ObjOk X.prog X.w H s.heap a (.dT kvs) from I.hok a _ ea)
    exact PySem.W.kia_one PySem.W.kitx_dict I.kIn ⟨o,h1,h2.1⟩ e (fun z=>nomatch z) h
  | @ins a C dx fs ea cl ha hn htk hm=>
    cases (show u=Value.ref a from rx)
    obtain ⟨mA,O,_⟩:=i7 I.hok ea
    obtain ⟨od,J,_⟩:=O.look
    exact PySem.W.kia_one (PySem.W.kitx_own (cl.get _) cl.hd ha hn htk hm) I.kIn J e (fun z=>nomatch z) h
end
end L2
namespace L2
open PySem PySem.Spec PyProof.Rows
structure Room (k:Nat) (A:Around):Prop where
  hd:A.handled=none
  dp:A.depth+3*k+5 < recursionLimit
  un:A.units+16*k+200 < cLine
theorem Room.mono {j k:Nat} {A:Around} (r:Room k A) (h:j≤k):Room j A:=⟨r.hd,by have:=r.dp;omega,by have:=r.un;omega⟩
theorem Room.deeper {k:Nat} {A:Around} (r:Room (k+1) A) (env:Env):Room k (A.deeper env):=
  ⟨r.hd,by have:=r.dp;show A.depth+1+3*k+5 < _;omega,by have:=r.un;show A.units+3+16*k+200 < _;omega⟩
theorem Room.in1 {k:Nat} {A:Around} (r:Room (k+1) A):Room k A.in1:=
  ⟨r.hd,by have:=r.dp;show A.depth+3*k+5 < _;omega,by have:=r.un;show A.units+1+16*k+200 < _;omega⟩
theorem nN {A:Around} {C:Addr} {us:List Value} {kw:List (Str×Value)}:(A.under (.builtin "type.__call__" ⟨.ref C::us,kw⟩)).depth=A.depth+1:=by
  first | rfl | simp [Around.under,Code.weight,Code.isCreation,Code.isGuard,Code.isCaller,Code.frames,Code.isFrame,guardIds]
theorem nO {A:Around} {C:Addr} {us:List Value} {kw:List (Str×Value)}:(A.under (.builtin "type.__call__" ⟨.ref C::us,kw⟩)).units=A.units+1:=by
  first | rfl | simp [Around.under,Code.cUnits,Code.frames,Code.isFrame]
theorem Room.make {k:Nat} {A:Around} (r:Room (k+1) A) (C:Addr) (us:List Value) (kw:List (Str×Value)):Room k (A.under (.builtin "type.__call__" ⟨.ref C::us,kw⟩)):=
  ⟨r.hd,by have:=r.dp;rw [nN];omega,by have:=r.un;rw [nO];omega⟩
theorem Room.depth {k:Nat} {A:Around} (r:Room k A):A.depth < recursionLimit:=by have:=r.dp;omega
theorem Room.units {k:Nat} {A:Around} (r:Room k A):A.units+64 < cLine:=by have:=r.un;omega
def t8:TA:=fun _ H Q=>Q [] H
def oH (ta:TE) (tr:TA):TA:=fun σ H Q=>ta σ H fun x H1=>tr σ H1 fun xs H2=>Q (x::xs) H2
section
variable {X:Cx} {e:Expr} {es:List Expr} {te:TE} {t:TA} {pos:Pos}
theorem dt:PA X [] t8:=fun _ _ _ _ H Q I h=>Calls.spliced_nil ⟨[],H,I, .nil,h⟩
theorem bU (ha:PE X e te) (hr:PA X es t) (hs:starEach (e::es) X.env=(false,eval e X.env)::starEach es X.env:=by rfl):PA X (e::es) (oH te t):=by
  intro pos pins s σ H Q I h
  rw [hs]
  show wpAny _ _ (spliced ((false,eval e X.env)::backTo pos (starEach es X.env))) _ _ s
  refine Calls.spliced_cons (b8 (ha pins s σ H _ I h) fun u s1 ⟨x,H1,I1,r1,q1⟩=>?_)
  exact b8 (hr pos pins s1 σ H1 _ I1 q1) fun us s2 ⟨xs,H2,I2,r2,q2⟩=>⟨x::xs,H2,I2, .cons r1 r2,q2⟩
def yP (t:TA):TE:=fun σ H Q=>t σ H fun xs H1=>xs.length≤sizeLine∧∀p,H1 p=none→Q (.ref p) (upd H1 p (.tup xs))
def yQ (t:TA):TE:=fun σ H Q=>t σ H fun xs H1=>xs.length≤sizeLine∧∀p,H1 p=none→Q (.ref p) (upd H1 p (.lst xs))
theorem qX {x1} (h:PA X es t):PE X (.Tuple es x1 pos) (yP t):=by
  intro pins s σ H Q I hq
  refine wpAny_Tuple_spliced (b8 (h pos pins s σ H _ I hq) fun us s1 ⟨xs,H1,I1,r,z,q⟩=>⟨by rw [←r.length];exact z,?_⟩)
  have hf:H1 s1.heap.objs.size=none:=I1.hok.fresh (Nat.le_refl _)
  refine ⟨.ref s1.heap.objs.size,upd H1 s1.heap.objs.size (.tup xs),I1.laid (t':=s1.toks) (fun b u e=>Heap.get?_push_of_some _ e) (Nat.le_refl _) ?_,rfl,q _ hf⟩
  exact ⟨z,us,r,⟨_,Heap.get?_push_size _ rfl,rfl,_,rfl⟩⟩
theorem vY (h:PA X es t):PE X (.List es pos) (yQ t):=by
  intro pins s σ H Q I hq
  refine wpAny_List_spliced (b8 (h pos pins s σ H _ I hq) fun us s1 ⟨xs,H1,I1,r,z,q⟩=>⟨by rw [←r.length];exact z,?_⟩)
  have hf:H1 s1.heap.objs.size=none:=I1.hok.fresh (Nat.le_refl _)
  refine ⟨.ref s1.heap.objs.size,upd H1 s1.heap.objs.size (.lst xs),I1.laid (t':=s1.toks) (fun b u e=>Heap.get?_push_of_some _ e) (Nat.le_refl _) ?_,rfl,q _ hf⟩
  exact ⟨z,us,0,r,Heap.get?_push_size _ rfl⟩
end
abbrev Sp:=List V→Hp→VK→XK→Prop
abbrev qy:=List Env→Hp→Shared→XK→Value→Shared→Prop
structure Env0 (P:Program) (w:World) (K:PySem.W.Frag) (mg:Str→Option Value) (base:Heap) (A:Around) (outer:List Env) (s:Shared) (H:Hp):Prop where
  frames:A.frames=some outer
  mod:Mod K mg base
  bs:∀b o,base.get? b=some o→s.heap.get? b=some o∧H b=none
  bsz:base.objs.size≤s.heap.objs.size
  funs:s.heap.FunFrames base outer
  frf:∀b∈qx outer,H b=none
  hok:HOk P w H s.heap
  bare:AllBare s.gens
  tab:∀b q,jf K b=some q→H b=some (.tbl q)
def CE (outer:List Env) (P:Program) (w:World) (H:Hp) (s:Shared) (Q:VK) (u:Value) (s':Shared):Prop:=
  ∃v H',s'.os=s.os∧AllBare s'.gens∧Un (qx outer) [] H H' s.heap s'.heap∧HOk P w H' s'.heap∧RelV v u∧Q v H'
def CR (CX:qy) (outer:List Env) (P:Program) (w:World) (H:Hp) (s:Shared) (Q:VK) (E:XK) (r:Result) (s':Shared):Prop:=
  match r with
  | .ok (.ret u)=>CE outer P w H s Q u s'
  | .ok _=>False
  | .error e=>CX outer H s E e s'
structure FnOk (P:Program) (w:World) (K:PySem.W.Frag) (mg:Str→Option Value) (base:Heap) (CX:qy) (k:Nat) (f:Addr) (fd:FuncData) (ps:List Str) (sp:Sp):Prop where
  len:∀vs H Q E,sp vs H Q E→vs.length=ps.length
  run:∀(A:Around) (outer:List Env) (s:Shared) (H:Hp) (args:Args) (us:List Value) (vs:List V) (Q:VK) (E:XK),Room k A→Env0 P w K mg base A outer s H→BindsTo s fd args (ps.zip us)→Vals vs us→sp vs H Q E→
    codeAny (model P w) A (.call (.ref f) args) (CR CX outer P w H s Q E) s
theorem FnOk.mono {P:Program} {w:World} {K:PySem.W.Frag} {mg:Str→Option Value} {base:Heap} {CX:qy} {j k:Nat} {f:Addr} {fd:FuncData} {ps:List Str} {sp:Sp} (F:FnOk P w K mg base CX j f fd ps sp) (h:j≤k):
    FnOk P w K mg base CX k f fd ps sp:=⟨F.len,fun A outer s H args us vs Q E hr=>F.run A outer s H args us vs Q E (hr.mono h)⟩
theorem FnOk.imp {P:Program} {w:World} {K:PySem.W.Frag} {mg:Str→Option Value} {base:Heap} {CX:qy} {k:Nat} {f:Addr} {fd:FuncData} {ps:List Str} {sp sp':Sp} (F:FnOk P w K mg base CX k f fd ps sp)
    (h:∀vs H Q E,sp' vs H Q E→sp vs H Q E):FnOk P w K mg base CX k f fd ps sp':=
  ⟨fun vs H Q E q=>F.len vs H Q E (h _ _ _ _ q),fun A outer s H args us vs Q E hr he hb hv hs=>F.run A outer s H args us vs Q E hr he hb hv (h _ _ _ _ hs)⟩
theorem Env0.make {P:Program} {w:World} {K:PySem.W.Frag} {mg:Str→Option Value} {base:Heap} {A:Around} {outer:List Env} {s:Shared} {H:Hp} (e:Env0 P w K mg base A outer s H) (C:Addr) (us:List Value) (kw:List (Str×Value)):
    Env0 P w K mg base (A.under (.builtin "type.__call__" ⟨.ref C::us,kw⟩)) outer s H:=⟨by first | exact e.frames | (simpa [Around.under,Code.envs,Code.isFrame,pushEnvs] using e.frames),e.mod,e.bs,e.bsz,e.funs,e.frf,e.hok,e.bare,e.tab⟩
theorem Env0.in1 {P:Program} {w:World} {K:PySem.W.Frag} {mg:Str→Option Value} {base:Heap} {A:Around} {outer:List Env} {s:Shared} {H:Hp} (e:Env0 P w K mg base A outer s H):
    Env0 P w K mg base A.in1 outer s H:=⟨e.frames,e.mod,e.bs,e.bsz,e.funs,e.frf,e.hok,e.bare,e.tab⟩
section
variable {X:Cx} {pins:List (Addr×Obj)} {σ:St} {H:Hp} {s s':Shared}
theorem Inv.env0 (I:Inv X pins σ H s):Env0 X.prog X.w X.K X.mg X.base X.A X.stack s H:=
  ⟨I.ok.frames,I.ok.mod,I.bs,Nat.le_trans I.ok.bsz I.sz,I.stack,I.stkFree,I.hok,I.bare,I.tab⟩
theorem Inv.after {Q:VK} {u:Value} (I:Inv X pins σ H s) (h:CE X.stack X.prog X.w H s Q u s'):EP X pins σ Q u s':=by
  obtain ⟨v,H',os,bare,un,hok,r,q⟩:=h
  obtain ⟨hh,g,d,t,os'⟩:=s'
  obtain rfl:os'=s.os:=os
  exact ⟨v,H',I.call (h':=hh) (g':=g) (d':=d) (t':=t) (ch:=[]) un hok bare (fun b z=>absurd z (by simp)),r,q⟩
end
def ve (sp:Sp) (dvs:List V) (E:XK) (t:TA):TE:=fun σ H Q=>t σ H fun vs H1=>sp (vs++dvs) H1 Q E
def xz (C:Addr) (sp:Sp) (dvs:List V) (E:XK) (t:TA):TE:=fun σ H Q=>t σ H fun vs H1=>∀x dx,H1 x=none→H1 dx=none→dx≠x→
  sp (.ref x::(vs++dvs)) (upd (upd H1 dx (.own x)) x (.ins C dx [])) (fun v H2=>v= .non∧Q (.ref x) H2) E
def Binds (K:PySem.W.Frag) (fd:FuncData) (ps:List Str) (ds:List Value):Prop:=
  ∀(s:Shared) (us:List Value),K.In s.heap→(us++ds).length=ps.length→BindsTo s fd ⟨us,[]⟩ (ps.zip (us++ds))
theorem Binds.all {K:PySem.W.Frag} {fd:FuncData} {ps:List Str} (h:∀us:List Value,us.length=ps.length→bindArgs fd ⟨us,[]⟩=pure (ps.zip us)):Binds K fd ps []:=fun s us _ hl=>by
  rw [List.append_nil] at hl ⊢
  exact .of_eq (h us hl)
def jl (CX:qy) (X:Cx) (E:XK):Prop:=∀(pins:List (Addr×Obj)) (σ:St) (H:Hp) (s:Shared) (e:Value) (s':Shared),Inv X pins σ H s→CX X.stack H s E e s'→X.xe e s'
section
variable {X:Cx} {CX:qy} {k:Nat} {f C:Addr} {fd:FuncData} {ps:List Str} {sp:Sp} {dvs:List V} {ds:List Value} {E:XK} {x m:Str} {p pos apos:Pos} {e o:Expr} {es:List Expr} {ta:TE} {t:TA}
theorem nP {pins:List (Addr×Obj)} {σ:St} {H:Hp} {s:Shared} {Q:VK} {us:List Value} {vs:List V} (F:FnOk X.prog X.w X.K X.mg X.base CX k f fd ps sp) (hr:Room k X.A) (hb:Binds X.K fd ps ds) (hd:Vals dvs ds) (hx:jl CX X E)
    (I:Inv X pins σ H s) (r:Vals vs us) (h:sp (vs++dvs) H Q E):wpAny (model X.prog X.w) X.A (call (.ref f) us) (EP X pins σ Q) X.xe s:=by
  have r2:Vals (vs++dvs) (us++ds):=r.append hd
  have hl:(us++ds).length=ps.length:=by rw [←r2.length];exact F.len _ _ _ _ h
  refine wpAny_call (codeAny_mono (F.run X.A X.stack s H ⟨us,[]⟩ (us++ds) (vs++dvs) Q E hr I.env0 (hb s us I.kIn hl) r2 h) fun r s' hq=>?_)
  cases r with
  | error e=>exact hx pins σ H s e s' I hq
  | ok fl=>
    cases fl with
    | ret u=>exact I.after hq
    | next=>exact False.elim hq
    | brk=>exact False.elim hq
    | cont=>exact False.elim hq
theorem t9 (F:FnOk X.prog X.w X.K X.mg X.base CX k f fd ps sp) (hr:Room k X.A) (hg:Gl X x) (hm:X.mg x=some (.ref f)) (hk:PySem.W.keepIn X.K (.ref f)=true) (hb:Binds X.K fd ps ds) (hd:Vals dvs ds) (hx:jl CX X E)
    (ha:PA X (e::es) t) (hdb:(x == ("__debug__":Str))=false:=by decide) (he:starEach (e::es) X.env=(false,eval e X.env)::starEach es X.env:=by rfl) (hpl:(backTo pos (starEach es X.env)).any (·.1)=false:=by rfl):
    PE X (.Call (.Name x p) (e::es) [] pos) (ve sp dvs E t):=by
  intro pins s σ H Q I h
  refine wpAny_Call_Name_kw (k6 I hg hm ?_ hdb)
  refine PySem.W.callWith_K (h₀:=X.base) I.ok.mod.kin hk (b8 (ha pos pins s σ H _ I h) fun us s1 ⟨vs,H1,I1,r,q⟩=>⟨I1.kIn,?_⟩) he hpl
  exact nP F hr hb hd hx I1 r q
structure Mk (K:PySem.W.Frag) (C f:Addr):Prop where
  makes:PySem.W.makesIn K C=true
  init:PySem.W.findIn K (.ref C) "__init__"=some (some (.ref f))
  fn:PySem.W.isFn K (.ref f)=true
  kp:PySem.W.keepIn K (.ref C)=true
theorem qY {pins:List (Addr×Obj)} {σ:St} {H:Hp} {s:Shared} {Q:VK} {us:List Value} {vs:List V} (M:Mk X.K C f) (F:FnOk X.prog X.w X.K X.mg X.base CX k f fd ps sp) (hr:Room (k+1) X.A) (hb:Binds X.K fd ps ds) (hd:Vals dvs ds)
    (hx:jl CX X E) (I:Inv X pins σ H s) (r:Vals vs us)
    (h:∀x dx,H x=none→H dx=none→dx≠x→sp (.ref x::(vs++dvs)) (upd (upd H dx (.own x)) x (.ins C dx [])) (fun v H2=>v= .non∧Q (.ref x) H2) E):
    wpAny (model X.prog X.w) X.A (call (.ref C) us) (EP X pins σ Q) X.xe s:=by
  have hq:=h (s.heap.objs.size+1) s.heap.objs.size (I.hok.fresh (Nat.le_succ _)) (I.hok.fresh (Nat.le_refl _)) (Nat.ne_of_lt (Nat.lt_succ_self _))
  have I2:=Inv.made (C:=C) I
  have r2:Vals (V.ref (s.heap.objs.size+1)::(vs++dvs)) (Value.ref (s.heap.objs.size+1)::(us++ds)):= .cons rfl (r.append hd)
  have hl:(Value.ref (s.heap.objs.size+1)::us++ds).length=ps.length:=by
    have e:=r2.length
    rw [F.len _ _ _ _ hq] at e
    exact e.symm
  refine wpAny_call (qW (f:=f) I.kIn M.makes M.init (beq_iff_eq.mp M.fn) (codeAny_mono (F.run _ X.stack _ _ ⟨Value.ref (s.heap.objs.size+1)::us,[]⟩ (Value.ref (s.heap.objs.size+1)::(us++ds)) _ _ E (hr.make C us [])
    (I2.env0.make C us []) (hb _ (Value.ref (s.heap.objs.size+1)::us) I2.kIn hl) r2 hq) fun r s' hq'=>?_))
  cases r with
  | error e=>exact hx pins σ _ _ e s' I2 hq'
  | ok fl=>
    cases fl with
    | ret u=>
      obtain ⟨v,H',I3,rv,ev,q3⟩:=I2.after hq'
      subst ev
      exact ⟨rv,⟨V.ref (s.heap.objs.size+1),H',I3,rfl,q3⟩⟩
    | next=>exact False.elim hq'
    | brk=>exact False.elim hq'
    | cont=>exact False.elim hq'
theorem t_ (M:Mk X.K C f) (F:FnOk X.prog X.w X.K X.mg X.base CX k f fd ps sp) (hr:Room (k+1) X.A) (hg:Gl X x) (hm:X.mg x=some (.ref C)) (hb:Binds X.K fd ps ds) (hd:Vals dvs ds) (hx:jl CX X E)
    (ha:PA X (e::es) t) (hdb:(x == ("__debug__":Str))=false:=by decide) (he:starEach (e::es) X.env=(false,eval e X.env)::starEach es X.env:=by rfl) (hpl:(backTo pos (starEach es X.env)).any (·.1)=false:=by rfl):
    PE X (.Call (.Name x p) (e::es) [] pos) (xz C sp dvs E t):=by
  intro pins s σ H Q I h
  refine wpAny_Call_Name_kw (k6 I hg hm ?_ hdb)
  refine PySem.W.callWith_K (h₀:=X.base) I.ok.mod.kin M.kp (b8 (ha pos pins s σ H _ I h) fun us s1 ⟨vs,H1,I1,r,q⟩=>⟨I1.kIn,?_⟩) he hpl
  exact qY M F hr hb hd hx I1 r q
end
structure FnScope (N P:List Str) (sc:Scope):Prop where
  kind:sc.kind= .function
  co:sc.isCoroutine=false
  gen:sc.isGenerator=false
  nd:N.Nodup
  pre:N.take P.length=P
  par:∀x∈P,sc.names.lookup x=some .local∨sc.names.lookup x=some .cell
  nofree:∀y∈sc.names,y.2≠ .free
theorem kC {kindOf:Str→Option NameKind} {x:Str}:∀{binds:List (Str×Value)} {m:Str→Option Value},(∀v,(x,v)∉binds)→bindL kindOf binds m x=m x
  | [],_,_=>rfl
  | (n,v)::r,m,h=>by
    unfold bindL
    rw [kC fun w hw=>h w (List.mem_cons_of_mem _ hw)]
    split
    · have:x≠n:=by rintro rfl;exact h v List.mem_cons_self
      simp [this]
    · rfl
theorem kD {kindOf:Str→Option NameKind} {x:Str}:∀{binds:List (Str×Value)} {m:Str→Option Value},(∀v,(x,v)∉binds)→bindC kindOf binds m x=m x
  | [],_,_=>rfl
  | (n,v)::r,m,h=>by
    unfold bindC
    rw [kD fun w hw=>h w (List.mem_cons_of_mem _ hw)]
    split
    · rfl
    · have:x≠n:=by rintro rfl;exact h v List.mem_cons_self
      simp [this]
theorem kE {kindOf:Str→Option NameKind} {x:Str} {v:Value}:∀{P:List Str} {vs:List Value} {i:Nat} {m:Str→Option Value},P.Nodup→P[i]? =some x→vs[i]? =some v→kindOf x=some .local→
    bindL kindOf (P.zip vs) m x=some v
  | [],_,_,_,_,h,_,_=>by simp at h
  | _::_,[],_,_,_,_,h,_=>by simp at h
  | p::P,w::vs,0,m,nd,h1,h2,hk=>by
    simp at h1 h2;subst h1;subst h2
    show bindL kindOf ((p,w)::P.zip vs) m p=_
    unfold bindL
    rw [kC fun v hv=>(List.nodup_cons.mp nd).1 (List.of_mem_zip hv).1,if_pos hk]
    simp
  | p::P,w::vs,i+1,m,nd,h1,h2,hk=>by
    show bindL kindOf ((p,w)::P.zip vs) m x=_
    unfold bindL
    exact kE (i:=i) (List.nodup_cons.mp nd).2 (by simpa using h1) (by simpa using h2) hk
theorem kF {kindOf:Str→Option NameKind} {x:Str} {v:Value}:∀{P:List Str} {vs:List Value} {i:Nat} {m:Str→Option Value},P.Nodup→P[i]? =some x→vs[i]? =some v→kindOf x≠some .local→
    bindC kindOf (P.zip vs) m x=some v
  | [],_,_,_,_,h,_,_=>by simp at h
  | _::_,[],_,_,_,_,h,_=>by simp at h
  | p::P,w::vs,0,m,nd,h1,h2,hk=>by
    simp at h1 h2;subst h1;subst h2
    show bindC kindOf ((p,w)::P.zip vs) m p=_
    unfold bindC
    rw [kD fun v hv=>(List.nodup_cons.mp nd).1 (List.of_mem_zip hv).1,if_neg hk]
    simp
  | p::P,w::vs,i+1,m,nd,h1,h2,hk=>by
    show bindC kindOf ((p,w)::P.zip vs) m x=_
    unfold bindC
    exact kF (i:=i) (List.nodup_cons.mp nd).2 (by simpa using h1) (by simpa using h2) hk
def dD (N:List Str) (vs:List V):St:=vs.map some++List.replicate (N.length - vs.length) none
def j1 (CX:qy) (P:Program) (w:World) (K:PySem.W.Frag) (mg:Str→Option Value) (base:Heap) (N:List Str) (qual:Str) (scope:Scope) (f:Addr) (cd:Value) (A:Around) (outer:List Env) (s:Shared) (H:Hp) (E:XK):Cx where
  prog:=P
  w:=w
  K:=K
  mg:=mg
  base:=base
  A:=A.deeper (envOfC qual scope s.heap.objs.size f cd)
  N:=N
  s₀:=s
  H₀:=H
  env:=envOfC qual scope s.heap.objs.size f cd
  outer:=outer
  stack:=envOfC qual scope s.heap.objs.size f cd::outer
  ex:=[]
  calm:=true
  fn:=fun _=>true
  pn:=[]
  xe:=fun e s'=>wpAny (model P w) (A.deeper (envOfC qual scope s.heap.objs.size f cd)) (leaving (envOfC qual scope s.heap.objs.size f cd) e) (fun _ s''=>CX outer H s E e s'') (fun e' s''=>CX outer H s E e' s'') s'
theorem mC {sc:Scope} {n:Nat} {x:Str} (h:sc.names.lookup x=some .cell):∃c,(cellsFrom n sc.names []).lookup x=some c:=by
  have q:=PySem.W.cellsFrom_some sc.names n [] (.inl h)
  exact Option.isSome_iff_exists.mp q
theorem pN {CX:qy} {P:Program} {w:World} {K:PySem.W.Frag} {mg:Str→Option Value} {base:Heap} {N ps:List Str} {qual:Str} {scope:Scope} {f:Addr} {cd:Value} {A:Around} {outer:List Env} {s s1:Shared} {H:Hp} {E:XK} {us:List Value} {vs:List V}
    (S:FnScope N ps scope) (hd:A.handled=none) (e0:Env0 P w K mg base A outer s H) (hl:vs.length=ps.length) (r:Vals vs us)
    (x:InCallC s s.heap.objs.size (bindL (envOfC qual scope s.heap.objs.size f cd).kindOf (ps.zip us) fun _=>none) (cellsFrom (s.heap.objs.size+1) scope.names []) (bindC (envOfC qual scope s.heap.objs.size f cd).kindOf (ps.zip us) fun _=>none) s1):
    Inv (j1 CX P w K mg base N qual scope f cd A outer s H E) [] (dD N vs) H s1:=by
  have hpl:ps.length≤N.length:=by have:=congrArg List.length S.pre;rw [List.length_take] at this;omega
  obtain ⟨h1,tk,rfl,hk⟩:=x.done
  have noA:∀b:Addr,b∉(j1 CX P w K mg base N qual scope f cd A outer s H E).ex:=fun b z=>absurd (show b∈([]:List Addr) from z) (by simp)
  refine ⟨⟨e0.mod,S.kind,rfl,rfl,Nat.le_refl _,fun y z c h1 h2=>?_,fun y hy=>?_,fun y c _ h=>?_,fun _=>hd,Around.frames_deeper e0.frames, .inr ⟨rfl,rfl⟩,fun b z=>absurd z (noA b),e0.bs,e0.bsz,fun b _ _=>noA b,fun b z=>absurd z (noA b),e0.funs,e0.frf,e0.tab⟩,
    rfl,e0.bare,Un.kept hk,⟨_,x.toInCall.ns,fun i y v h1 h2 h3=>?_⟩,fun y c h=>⟨_,x.cell y c h⟩,e0.hok.fresh (Nat.le_refl _),fun y c h=>?_,fun p hp=>absurd (show p∈([]:List (Addr×Obj)) from hp) (by simp),e0.hok.kept hk,?_⟩
  · exact name_of_addr x.apart (PySem.mem_of_lookup h1) (PySem.mem_of_lookup h2)
  · have hy:scope.names.lookup y=some .cell∨scope.names.lookup y=some .free:=hy
    rcases hy with hy | hy
    · exact mC hy
    · exact absurd rfl (S.nofree _ (PySem.mem_of_lookup hy))
  · exact Nat.le_of_lt (x.above y c (PySem.mem_of_lookup h))
  · have hi:i < vs.length:=by
      unfold dD at h2
      by_cases hi:i < vs.length
      · exact hi
      · rw [List.getElem?_append_right (by simpa using hi)] at h2
        rw [List.getElem?_replicate] at h2
        split at h2 <;> cases h2
    have ha:vs[i]? =some v:=by
      unfold dD at h2
      rw [List.getElem?_append_left (by simpa using hi),List.getElem?_map] at h2
      cases e:vs[i]? with
      | none=>rw [e] at h2;cases h2
      | some a=>rw [e] at h2;cases h2;rfl
    obtain ⟨u,hu,rv⟩:=r.get ha
    have hp:ps[i]? =some y:=by
      rw [←S.pre,List.getElem?_take_of_lt (by omega)];exact h1
    have ndP:ps.Nodup:=by rw [←S.pre];exact S.nd.sublist (List.take_sublist _ _)
    refine ⟨u,rv,?_⟩
    rcases S.par y (List.mem_of_getElem? hp) with k | k
    · exact .inl ⟨k,kE ndP hp hu k⟩
    · obtain ⟨c,e⟩:=mC (n:=s.heap.objs.size+1) k
      refine .inr ⟨.inl k,c,e,?_⟩
      have q:=x.cell y c e
      rw [kF ndP hp hu (by show scope.names.lookup y≠_;rw [k];decide)] at q
      exact q
  · exact e0.hok.fresh (Nat.le_of_lt (x.above y c (PySem.mem_of_lookup h)))
  · unfold dD
    show _=N.length
    rw [List.length_append,List.length_map,List.length_replicate]
    omega
theorem xA {CX:qy} {P:Program} {w:World} {K:PySem.W.Frag} {mg:Str→Option Value} {base:Heap} {k:Nat} {f:Addr} {name qual:Str} {params:Arguments} {body:List Stmt} {scope:Scope} {dV kV doc pm cdv ct oc:Value} {an od:Option Addr}
    {osl:Array (Option Value)} {N ps:List Str} {sp:Sp} (lk:K.lookup f=some ⟨oc,od, .func (PySem.W.fnOf name qual params body scope dV kV doc pm an cdv ct),osl⟩) (hcd:PySem.W.codeIn K cdv qual=true) (S:FnScope N ps scope)
    (len:∀vs H Q E,sp vs H Q E→vs.length=ps.length)
    (hbody:∀(A:Around) (outer:List Env) (s:Shared) (H:Hp) (vs:List V) (Q:VK) (E:XK),Room k (A.deeper (envOfC qual scope s.heap.objs.size f cdv))→sp vs H Q E→
      ∃t,PSs (j1 CX P w K mg base N qual scope f cdv A outer s H E) body t∧t {nx:=fun _ H'=>Q .non H',rt:=Q} (dD N vs) H):
    FnOk P w K mg base CX (k+1) f (PySem.W.fnOf name qual params body scope dV kV doc pm an cdv ct) ps sp:=by
  refine ⟨len,fun A outer s H args us vs Q E hr e0 hb r hsp=>?_⟩
  have hl:=len _ _ _ _ hsp
  have KX:K.In s.heap:=e0.mod.kin.keeps fun b o e=>(e0.bs b o e).1
  have lim:s.heap.NoLimit:=e0.mod.nolimit.keeps fun b o e=>(e0.bs b o e).1
  have hkind:∀y∈ps.zip us,scope.names.lookup y.1=some .local∨(scope.names.lookup y.1=some .cell∧((cellsFrom (s.heap.objs.size+1) scope.names []).lookup y.1).isSome=true):=fun ⟨n,v⟩ hy=>by
    rcases S.par n (List.of_mem_zip hy).1 with q | q
    · exact .inl q
    · exact .inr ⟨q,PySem.W.cellsFrom_some _ _ _ (.inl q)⟩
  refine codeAny_call_function hr.depth (KX _ _ lk) rfl S.co S.gen rfl (PySem.W.codeRec_of KX hcd) (hb _ _ _ _ ?_)
  refine wpAny_newFunctionEnv_cells S.kind hkind fun env he s1 x=>?_
  subst he
  refine ⟨lim.keeps x.toInCall.keep,codeAny_func ?_⟩
  obtain ⟨t,ht,hq⟩:=hbody A outer s H vs Q E (hr.deeper _) hsp
  have I:Inv (j1 CX P w K mg base N qual scope f cdv A outer s H E) [] (dD N vs) H s1:=pN S hr.hd e0 hl r x
  refine wpAny_mono (ht [] s1 (dD N vs) H _ I hq) (fun fl s' hs=>?_) fun e s' hs=>hs
  have fin:∀{σ':St} {H':Hp} {v:V} {u:Value},Inv (j1 CX P w K mg base N qual scope f cdv A outer s H E) [] σ' H' s'→RelV v u→Q v H'→CE outer P w H s Q u s':=
    fun {σ' H' v u} J rv q=>⟨v,H',J.os,J.bare,J.base,J.hok,rv,q⟩
  cases fl with
  | ret u=>
    obtain ⟨v,σ',H',J,rv,q⟩:=hs
    exact fin J rv q
  | next=>
    obtain ⟨σ',H',J,q⟩:=hs
    exact fin (v:=V.non) (u:=Value.none) J rfl q
  | brk=>
    obtain ⟨_,_,_,q⟩:=hs
    exact False.elim q
  | cont=>
    obtain ⟨_,_,_,q⟩:=hs
    exact False.elim q
end L2
namespace L2
open PySem PySem.Spec PyProof.Rows
section
variable {X:Cx} {x:Str} {p pos:Pos} {e:Expr} {es:List Expr} {t:TA} {id T:String} {r:List V→Hp→VK→Prop}
def wT (r:List V→Hp→VK→Prop) (t:TA):TE:=fun σ H Q=>t σ H fun vs H1=>r vs H1 Q
theorem jm (hc:CallR X (.builtin id) r) (hg:Gl X x) (hm:X.mg x=none) (hv:bootBuiltins x=some (.builtin id)) (ha:PA X (e::es) t) (hn:x≠"__name__":=by decide) (hdb:(x == ("__debug__":Str))=false:=by decide)
    (he:starEach (e::es) X.env=(false,eval e X.env)::starEach es X.env:=by rfl) (hpl:(backTo pos (starEach es X.env)).any (·.1)=false:=by rfl):PE X (.Call (.Name x p) (e::es) [] pos) (wT r t):=by
  intro pins s σ H Q I h
  refine wpAny_Call_Name_kw (ii I hg hm hv ?_ hn hdb)
  exact PyProof.Rows.callWith_builtin1 (b8 (ha pos pins s σ H _ I h) fun us s1 ⟨vs,H1,I1,r1,q1⟩=>hc pins s1 σ H1 vs us Q I1 r1 q1) he hpl
theorem eK (hc:CallR X (.type T) r) (hg:Gl X x) (hm:X.mg x=none) (hv:bootBuiltins x=some (.type T)) (ha:PA X (e::es) t) (hn:x≠"__name__":=by decide) (hdb:(x == ("__debug__":Str))=false:=by decide)
    (he:starEach (e::es) X.env=(false,eval e X.env)::starEach es X.env:=by rfl) (hpl:(backTo pos (starEach es X.env)).any (·.1)=false:=by rfl):PE X (.Call (.Name x p) (e::es) [] pos) (wT r t):=by
  intro pins s σ H Q I h
  refine wpAny_Call_Name_kw (ii I hg hm hv ?_ hn hdb)
  exact PyProof.Rows.callWith_type1 (b8 (ha pos pins s σ H _ I h) fun us s1 ⟨vs,H1,I1,r1,q1⟩=>hc pins s1 σ H1 vs us Q I1 r1 q1) he hpl
end
end L2
namespace HT
open PySem PyProof.Rows
section
open PySem.SeqAt
open PySem.AutoSeq1 (wpAny_loadPart')
open PySem.MeetsSeq PySem.MeetsSeq2 PySem.MeetsSeq3
end
section
variable {prog:Program} {w:World} {A:Around} {E:Value→Shared→Prop} {s:Shared}
def iJ (n d:Nat):Option Int→Nat
  | none=>d
  | some v=>if v < 0 then (v+(n:Int)).toNat else min v.toNat n
theorem mD (n d:Nat):iJ n d none=d:=rfl
theorem k7 (n d k:Nat):iJ n d (some (k:Int))=min k n:=by
  show (if (k:Int) < 0 then ((k:Int)+(n:Int)).toNat else min (k:Int).toNat n)=min k n
  rw [if_neg (by omega),Int.toNat_natCast]
end
end HT
namespace L2
open PySem PySem.Spec PyProof.Rows
abbrev TO:=St→Hp→(Option Int→Hp→Prop)→Prop
def PO (X:Cx) (e:Option Expr) (t:TO):Prop:=
  ∀(pins:List (Addr×Obj)) (s:Shared) (σ:St) (H:Hp) (Q:Option Int→Hp→Prop),Inv X pins σ H s→t σ H Q→
    wpAny (model X.prog X.w) X.A (evalPart e X.env) (fun u s'=>∃o H',Inv X pins σ H' s'∧IsPart u o∧Q o H') X.xe s
def ua:TO:=fun _ H Q=>Q none H
def xB (t:TE):TO:=fun σ H Q=>t σ H fun x H1=>∃i,x= .int i∧Q (some i) H1
section
variable {X:Cx} {e:Expr} {te:TE} {lo hi:Option Expr} {tl th:TO} {pos p2:Pos}
theorem ub:PO X none ua:=by
  intro pins s σ H Q I h
  rw [evalPart_none]
  exact wpAny_pure ⟨none,H,I, .none,h⟩
theorem uc (h:PE X e te):PO X (some e) (xB te):=by
  intro pins s σ H Q I hw
  rw [evalPart_some]
  refine b8 (h pins s σ H _ I hw) fun u s1 ⟨x,H1,I1,r1,q1⟩=>?_
  obtain ⟨i,rfl,q⟩:=q1
  obtain ⟨t,rfl⟩:=r1
  exact ⟨some i,H1,I1, .int i t,q⟩
def SlR (X:Cx) (r:V→Option Int→Option Int→Hp→VK→Prop):Prop:=
  ∀(pins:List (Addr×Obj)) (s:Shared) (σ:St) (H:Hp) (x:V) (v vl vu:Value) (lo hi:Option Int) (sl:Addr) (Q:VK),Inv X pins σ H s→RelV x v→s.heap.IsSliceOf sl vl vu .none→IsPart vl lo→IsPart vu hi→r x lo hi H Q→
    ∃T id,typeLookup (.type T) "__getitem__"=pure (some (.builtin id))∧s.TypeIs v T∧wpAny (model X.prog X.w) X.A (getItem v (.ref sl)) (EP X pins σ Q) X.xe s
theorem SlR.or {r r':V→Option Int→Option Int→Hp→VK→Prop} (h:SlR X r) (h':SlR X r'):SlR X (fun x lo hi H Q=>r x lo hi H Q∨r' x lo hi H Q):=by
  intro pins s σ H x v vl vu lo hi sl Q I rx hs pl pu q
  rcases q with q | q
  · exact h pins s σ H x v vl vu lo hi sl Q I rx hs pl pu q
  · exact h' pins s σ H x v vl vu lo hi sl Q I rx hs pl pu q
def zE (r:V→Option Int→Option Int→Hp→VK→Prop) (te:TE) (tl th:TO):TE:=fun σ H Q=>te σ H fun x H1=>tl σ H1 fun l H2=>th σ H2 fun u H3=>r x l u H3 Q
theorem qZ {r:V→Option Int→Option Int→Hp→VK→Prop} (hr:SlR X r) (he:PE X e te) (hl:PO X lo tl) (hu:PO X hi th):PE X (.Subscript e (.Slice lo hi none p2) pos) (zE r te tl th):=by
  intro pins s σ H Q I h
  refine Subscript_ (b8 (he pins s σ H _ I h) fun v s1 ⟨x,H1,I1,r1,q1⟩=>?_)
  refine wpAny_Slice (b8 (hl pins s1 σ H1 _ I1 q1) fun vl s2 ⟨l,H2,I2,pl,q2⟩=>b8 (hu pins s2 σ H2 _ I2 q2) fun vu s3 ⟨u,H3,I3,pu,q3⟩=>?_)
  rw [evalPart_none]
  refine wpAny_pure ?_
  have I4:Inv X pins σ H3 {s3 with heap:=s3.heap.push {cls:= .type "slice",data:= .fields #[vl,vu, .none]}}:=I3.kept (t':=s3.toks) fun b ob q=>Heap.get?_push_of_some _ q
  obtain ⟨T,id,hT,ht,hg⟩:=hr pins {s3 with heap:=s3.heap.push {cls:= .type "slice",data:= .fields #[vl,vu, .none]}} σ H3 x v vl vu l u s3.heap.objs.size Q I4 r1 (Heap.IsSliceOf.new ..) pl pu q3
  show wpAny (model X.prog X.w) X.A (subscriptTail e (.Slice lo hi none p2) v (.ref s3.heap.objs.size)) (EP X pins σ Q) X.xe {s3 with heap:=s3.heap.push {cls:= .type "slice",data:= .fields #[vl,vu, .none]}}
  exact tail_any (ops:=[.ref s3.heap.objs.size,v]) ht hT hg (by with_unfolding_all rfl)
def pO (xs:List V) (lo hi:Option Int):List V:=(xs.drop (HT.iJ xs.length 0 lo)).take (HT.iJ xs.length xs.length hi - HT.iJ xs.length 0 lo)
theorem mE (xs:List V) (lo hi:Option Int):(pO xs lo hi).length≤xs.length:=by
  unfold pO
  rw [List.length_take,List.length_drop]
  omega
end
end L2
namespace L2
open PySem PySem.Spec PyProof.Rows
def vZ (n:Nat) (i:Int):Option Nat:=if 0≤i then (if i < n then some i.toNat else none) else if -(n:Int)≤i then some (i+n).toNat else none
def atI {α:Type} (xs:List α) (i:Int):Option α:=(vZ xs.length i).bind fun j=>xs[j]?
theorem oI {n:Nat} {i:Int} {j:Nat} (h:vZ n i=some j):seqIndex? i n=some j∧j < n∧ -(n:Int)≤i∧i < n:=by
  unfold vZ at h
  by_cases h0:0≤i
  · rw [if_pos h0] at h
    by_cases h1:i < n
    · rw [if_pos h1] at h
      have e:i.toNat=j:=Option.some.inj h
      exact ⟨by rw [seqIndex_of h0 h1,e],by omega,by omega,h1⟩
    · rw [if_neg h1] at h;cases h
  · rw [if_neg h0] at h
    by_cases h1: -(n:Int)≤i
    · rw [if_pos h1] at h
      have e:(i+n).toNat=j:=Option.some.inj h
      exact ⟨by rw [seqIndex_neg (by omega) h1,e],by omega,h1,by omega⟩
    · rw [if_neg h1] at h;cases h
theorem k8 {α:Type} {xs:List α} {i:Int} {v:α} (h:atI xs i=some v):∃j,seqIndex? i xs.length=some j∧xs[j]? =some v∧j < xs.length∧ -(xs.length:Int)≤i∧i < xs.length:=by
  unfold atI at h
  cases e:vZ xs.length i with
  | none=>rw [e] at h;cases h
  | some j=>
    rw [e] at h
    obtain ⟨h1,h2,h3,h4⟩:=oI e
    exact ⟨j,h1,h,h2,h3,h4⟩
def oJ (b:Expr):Prop:=∀o i,subscripted b false o i=operate [o,i] (getItem o i)
def IxR (X:Cx) (r:R2):Prop:=
  ∀(value slice:Expr) (pins:List (Addr×Obj)) (s:Shared) (σ:St) (H:Hp) (x y:V) (v u:Value) (Q:VK),Inv X pins σ H s→RelV x v→RelV y u→r x y H Q→
    subscripted slice false v u=operate [v,u] (getItem v u)→wpAny (model X.prog X.w) X.A (subscriptTail value slice v u) (EP X pins σ Q) X.xe s
def MtR (X:Cx) (id:String) (r:V→List V→Hp→VK→Prop):Prop:=
  ∀(pins:List (Addr×Obj)) (s:Shared) (σ:St) (H:Hp) (x:V) (xs:List V) (v:Value) (us:List Value) (Q:VK),Inv X pins σ H s→RelV x v→Vals xs us→r x xs H Q→
    wpAny (model X.prog X.w) X.A (call (.builtin id) (v::us)) (EP X pins σ Q) X.xe s
section
variable {X:Cx} {a b:Expr} {ta tb:TE} {pos:Pos}
theorem IxR.or {r r':R2} (h:IxR X r) (h':IxR X r'):IxR X (fun x y H Q=>r x y H Q∨r' x y H Q):=by
  intro value slice pins s σ H x y v u Q I rx ry q hs
  rcases q with q | q
  · exact h value slice pins s σ H x y v u Q I rx ry q hs
  · exact h' value slice pins s σ H x y v u Q I rx ry q hs
theorem MtR.or {id:String} {r r':V→List V→Hp→VK→Prop} (h:MtR X id r) (h':MtR X id r'):MtR X id (fun x xs H Q=>r x xs H Q∨r' x xs H Q):=by
  intro pins s σ H x xs v us Q I rx rs q
  rcases q with q | q
  · exact h pins s σ H x xs v us Q I rx rs q
  · exact h' pins s σ H x xs v us Q I rx rs q
theorem q9 {r:R2} (hr:IxR X r) (ha:PE X a ta) (hb:PE X b tb) (hs:oJ b):PE X (.Subscript a b pos) (xp r ta tb):=by
  intro pins s σ H Q I h
  exact Subscript_ (vQ ha hb I h fun v u s2 x y H2 I2 rx ry q=>hr a b pins s2 σ H2 x y v u Q I2 rx ry q (hs _ _))
def xC (K:PySem.W.Frag):R2:=fun x y H Q=>∃p xs i v,x= .ref p∧y= .int i∧SqL K H p xs∧atI xs i=some v∧Q v H
def xD (K:PySem.W.Frag):R2:=fun x y H Q=>∃p xs i v,x= .ref p∧y= .int i∧SqT K H p xs∧atI xs i=some v∧Q v H
def xE:R2:=fun x y H Q=>∃z i c,x= .str z∧y= .int i∧z.length≤sizeLine∧atI z.cps.toList i=some c∧Q (.str ⟨#[c]⟩) H
theorem ix_list:IxR X (xC X.K):=by
  intro value slice pins s σ H x y v u Q I rx ry h hs
  obtain ⟨p,xs,i,z,rfl,rfl,hq,he,q⟩:=h
  cases rx
  obtain ⟨t,rfl⟩:=ry
  obtain ⟨its,r,pl,hz⟩:=I.list hq
  obtain ⟨j,h1,h2,h3,h4,h5⟩:=k8 he
  obtain ⟨w,ew,rw'⟩:=r.get h2
  have hl:=r.length
  have hn:=gW
  have fin:EP X pins σ Q w s:=⟨z,H,I,rw',q⟩
  by_cases h0:0≤i
  · have hj:i.toNat=j:=by
      rw [seqIndex_of h0 h5] at h1
      exact Option.some.inj h1
    exact item_listR pl.isList h0 (by omega) (by rw [hj];simpa using ew) fin hs
  · have hj:(i+(its.toArray.size:Int)).toNat=j:=by
      rw [seqIndex_neg (by omega) h4] at h1
      rw [List.size_toArray,←hl]
      exact Option.some.inj h1
    exact subscriptTail_builtinR (x:=w) pl.isList.typeIs slot_list_getitem.lookup
      (wpAny_getItem_list_neg (Q:=fun r s'=>r=w∧EP X pins σ Q r s') pl.isList (by omega) (by rw [List.size_toArray] <;> omega) (by omega) (by rw [hj];simpa using ew) ⟨rfl,fin⟩) hs
theorem ix_tup:IxR X (xD X.K):=by
  intro value slice pins s σ H x y v u Q I rx ry h hs
  obtain ⟨p,xs,i,z,rfl,rfl,hq,he,q⟩:=h
  cases rx
  obtain ⟨t,rfl⟩:=ry
  obtain ⟨its,r,pl,hz⟩:=I.tuple hq
  obtain ⟨j,h1,h2,h3,h4,h5⟩:=k8 he
  obtain ⟨w,ew,rw'⟩:=r.get h2
  have hl:=r.length
  have hn:=gW
  have fin:EP X pins σ Q w s:=⟨z,H,I,rw',q⟩
  exact subscriptTail_builtinR (x:=w) pl.typeIs slot_tuple_getitem.lookup
    (getItem_tuple (j:=j) (Q:=fun r s'=>r=w∧EP X pins σ Q r s') pl (by omega) (by omega) (by rw [List.size_toArray,←hl];exact h1) (by simpa using ew) ⟨rfl,fin⟩) hs
theorem v4:IxR X xE:=by
  intro value slice pins s σ H x y v u Q I rx ry h hs
  obtain ⟨z,i,c,rfl,rfl,hz,he,q⟩:=h
  obtain ⟨t,rfl⟩:=rx
  obtain ⟨t',rfl⟩:=ry
  obtain ⟨j,h1,h2,h3,h4,h5⟩:=k8 he
  have hl:z.cps.toList.length=z.length:=by simp [Str.length]
  rw [hl] at h1 h4 h5
  have hn:=gW
  exact tail_any (typeIs_str s z t) slot_str_getitem.lookup (getItem_str (c:=c) (by
    have e1:decide (i < -(2 ^ 63:Int))=false:=decide_eq_false (by omega)
    have e2:decide (i≥2 ^ 63)=false:=decide_eq_false (by omega)
    rw [e1,e2,Bool.or_false]) (by rw [h1];simpa using h2) ⟨.str ⟨#[c]⟩,H,I.tok _,⟨_,rfl⟩,q⟩) hs
def zu (K:PySem.W.Frag):R2:=fun x y H Q=>xC K x y H Q∨xD K x y H Q∨xE x y H Q
theorem v5:IxR X (zu X.K):=ix_list.or (ix_tup.or v4)
theorem nQ (its:List Value) (n j:Nat) (u:Value):Obj.mapSeq (·.setIfInBounds j u) {cls:= .type "list",data:= .seq its.toArray n}={cls:= .type "list",data:= .seq (its.set j u).toArray n}:=by
  simp [Obj.mapSeq]
theorem Inv.lst {pins:List (Addr×Obj)} {σ:St} {H:Hp} {s:Shared} {p:Addr} {xs:List V} (I:Inv X pins σ H s) (h:H p=some (.lst xs)):
    ∃(its:List Value) (n:Nat),Vals xs its∧s.heap.get? p=some {cls:= .type "list",data:= .seq its.toArray n}∧xs.length≤sizeLine:=by
  obtain ⟨z,its,n,r,e⟩:=I.hok p _ h
  exact ⟨its,n,r,e,z⟩
theorem Inv.lstUpd {pins:List (Addr×Obj)} {σ:St} {H:Hp} {s:Shared} {p:Addr} {xs ys:List V} {its its':List Value} {n n':Nat} {f:Obj→Obj} (I:Inv X pins σ H s) (h:H p=some (.lst xs))
    (ho:s.heap.get? p=some {cls:= .type "list",data:= .seq its.toArray n}) (hf:f {cls:= .type "list",data:= .seq its.toArray n}={cls:= .type "list",data:= .seq its'.toArray n'}) (r:Vals ys its') (hz:ys.length≤sizeLine) (t:Nat):
    Inv X pins σ (upd H p (.lst ys)) {s with heap:=s.heap.update p f,toks:=t}:=by
  have e:(s.heap.update p f).get? p=some {cls:= .type "list",data:= .seq its'.toArray n'}:=by
    rw [Heap.get?_update_self f ho (by rw [hf] <;> rfl),hf]
  refine I.write (x:=p) (e:=p) (by rw [h];trivial) (.inl rfl) (fun b u hb q=>(Heap.get?_update_other _ _ (Ne.symm hb)).trans q) ⟨_,e⟩ ?_
  exact ⟨hz,its',n',r,e⟩
def xF:V→V→V→Hp→(Hp→Prop)→Prop:=fun o i v H Q=>∃p xs k j,o= .ref p∧i= .int k∧H p=some (.lst xs)∧vZ xs.length k=some j∧Q (upd H p (.lst (xs.set j v)))
theorem q_:xk X xF:=by
  intro pins s σ H o i v ov iv u Q I ro ri rv h
  obtain ⟨p,xs,k,j,rfl,rfl,hp,hj,q⟩:=h
  cases ro
  obtain ⟨t,rfl⟩:=ri
  obtain ⟨its,n,r,ho,hz⟩:=I.lst hp
  obtain ⟨h1,h2,h3,h4⟩:=oI hj
  have hl:=r.length
  have hn:=gW
  have I':Inv X pins σ (upd H p (.lst (xs.set j v))) {s with heap:=s.heap.update p (Obj.mapSeq (·.setIfInBounds j u))}:=
    I.lstUpd hp ho (nQ its n j u) (r.set rv j) (by rw [List.length_set];exact hz) s.toks
  by_cases h0:0≤k
  · have hk:k.toNat=j:=by
      rw [seqIndex_of h0 h4] at h1
      exact Option.some.inj h1
    exact PySem.W.ki_setAt ho h0 (by omega) (by rw [List.size_toArray,←hl];exact h4) (by rw [hk];exact ⟨_,I',q⟩)
  · have hk:(k+(its.toArray.size:Int)).toNat=j:=by
      rw [seqIndex_neg (by omega) h3] at h1
      rw [List.size_toArray,←hl]
      exact Option.some.inj h1
    exact PySem.W.ki_setBack ho (by omega) (by rw [List.size_toArray,←hl];exact h3) (by omega) (by rw [hk];exact ⟨_,I',q⟩)
theorem k9 (lo hi:Option Int) (n:Nat):(sliceBounds lo hi none n).1=((HT.iJ n 0 lo:Nat):Int)∧(sliceBounds lo hi none n).2.1=((HT.iJ n n hi:Nat):Int)∧(sliceBounds lo hi none n).2.2=1:=by
  refine ⟨?_,?_,rfl⟩
  · cases lo with
    | none=>simp [sliceBounds,HT.iJ]
    | some i=>
      simp only [sliceBounds,HT.iJ,Option.getD_none,show (1:Int) > 0 by decide,if_true]
      by_cases h:i < 0
      · simp only [h,if_true] <;> omega
      · simp only [h,if_false] <;> omega
  · cases hi with
    | none=>simp [sliceBounds,HT.iJ]
    | some i=>
      simp only [sliceBounds,HT.iJ,Option.getD_none,show (1:Int) > 0 by decide,if_true]
      by_cases h:i < 0
      · simp only [h,if_true] <;> omega
      · simp only [h,if_false] <;> omega
theorem j2 (its:List Value) (lo hi:Option Int):slicePick its.toArray lo hi none=((its.drop (HT.iJ its.length 0 lo)).take (HT.iJ its.length its.length hi - HT.iJ its.length 0 lo)).toArray:=by
  obtain ⟨h1,h2,h3⟩:=k9 lo hi its.toArray.size
  unfold slicePick
  rw [h1,h2,h3]
  simp only [sliceRange_one,pick_run,List.size_toArray] <;> rfl
def yR (K:PySem.W.Frag):V→Option Int→Option Int→Hp→VK→Prop:=fun x lo hi H Q=>∃a xs,x= .ref a∧SqL K H a xs∧∀p,H p=none→Q (.ref p) (upd H p (.lst (pO xs lo hi)))
theorem ud:SlR X (yR X.K):=by
  intro pins s σ H x v vl vu lo hi sl Q I rx hs pl pu h
  obtain ⟨a,xs,rfl,hx,q⟩:=h
  cases rx
  obtain ⟨its,r,ht,hz⟩:=I.list hx
  have hlen:=r.length
  refine ⟨"list",_,slot_list_getitem.lookup,ht.isList.typeIs,?_⟩
  refine wpAny_getItem_list_slice ht.isList hs pl pu .none (by simp) ?_ (by rw [List.size_toArray] <;> omega)
  rw [j2,←hlen]
  refine ⟨.ref s.heap.objs.size,_,I.laid (t':=s.toks) (o:= .lst (pO xs lo hi)) (fun b ob q=>Heap.get?_push_of_some _ q) (Nat.le_refl _) ?_,rfl,q _ (I.hok.fresh (Nat.le_refl _))⟩
  exact ⟨Nat.le_trans (mE xs lo hi) hz,_,0,(r.drop (HT.iJ xs.length 0 lo)).take (HT.iJ xs.length xs.length hi - HT.iJ xs.length 0 lo),Heap.get?_push_size _ rfl⟩
def fY:V→Bool
  | .non=>true
  | .bl _=>true
  | .int _=>true
  | .str _=>true
  | _=>false
def tI:V→V→Bool
  | .non, .non=>true
  | .bl a, .bl b=>a == b
  | .bl a, .int b=>(if a then 1 else 0) == b
  | .int a, .bl b=>a == (if b then 1 else 0)
  | .int a, .int b=>a == b
  | .str a, .str b=>a == b
  | _,_=>false
theorem v6 {A:Around} {s:Shared} {y x:V} {u v:Value} (ry:RelV y u) (rx:RelV x v) (fy:fY y=true) (fx:fY x=true):SeqAt.EqAt A s u v (tI y x):=by
  cases y with
  | non=>
    cases ry
    cases x with
    | non=>cases rx;exact SeqAt.EqAt.same _
    | bl b=>cases rx;exact SeqAt.EqAt.none_bool b
    | int b=>obtain ⟨t,rfl⟩:=rx;exact SeqAt.EqAt.none_int b t
    | str b=>obtain ⟨t,rfl⟩:=rx;exact SeqAt.EqAt.none_str b t
    | _=>exact absurd (show false=true from fx) Bool.false_ne_true
  | bl a=>
    cases ry
    cases x with
    | non=>cases rx;exact SeqAt.EqAt.bool_none a
    | bl b=>cases rx;exact SeqAt.EqAt.bool_bool a b
    | int b=>obtain ⟨t,rfl⟩:=rx;exact SeqAt.EqAt.bool_int a b t
    | str b=>obtain ⟨t,rfl⟩:=rx;exact SeqAt.EqAt.bool_str a b t
    | _=>exact absurd (show false=true from fx) Bool.false_ne_true
  | int a=>
    obtain ⟨t',rfl⟩:=ry
    cases x with
    | non=>cases rx;exact SeqAt.EqAt.int_none a t'
    | bl b=>cases rx;exact SeqAt.EqAt.int_bool a t' b
    | int b=>obtain ⟨t,rfl⟩:=rx;exact SeqAt.EqAt.int_int a t' b t
    | str b=>obtain ⟨t,rfl⟩:=rx;exact SeqAt.EqAt.int_str a t' b t
    | _=>exact absurd (show false=true from fx) Bool.false_ne_true
  | str a=>
    obtain ⟨t',rfl⟩:=ry
    cases x with
    | non=>cases rx;exact SeqAt.EqAt.str_none a t'
    | bl b=>cases rx;exact SeqAt.EqAt.str_bool a t' b
    | int b=>obtain ⟨t,rfl⟩:=rx;exact SeqAt.EqAt.str_int a t' b t
    | str b=>obtain ⟨t,rfl⟩:=rx;exact SeqAt.EqAt.str_str a t' b t
    | _=>exact absurd (show false=true from fx) Bool.false_ne_true
  | _=>exact absurd (show false=true from fy) Bool.false_ne_true
def ue (x:V) (u:Value):Bool:=match u with
  | .none=>tI .non x
  | .bool b=>tI (.bl b) x
  | .int i _=>tI (.int i) x
  | .str z _=>tI (.str z) x
  | _=>false
theorem rc {x y:V} {u:Value} (r:RelV y u) (f:fY y=true):ue x u=tI y x:=by
  cases y with
  | non=>cases r;rfl
  | bl b=>cases r;rfl
  | int i=>obtain ⟨t,rfl⟩:=r;rfl
  | str z=>obtain ⟨t,rfl⟩:=r;rfl
  | _=>exact absurd (show false=true from f) Bool.false_ne_true
theorem k_ {x:V}:∀{xs:List V} {us:List Value},Vals xs us→xs.all fY=true→us.any (ue x)=xs.any fun y=>tI y x
  | _,_, .nil,_=>rfl
  | y::xs,u::us, .cons r t,f=>by
    rw [List.all_cons,Bool.and_eq_true] at f
    rw [List.any_cons,List.any_cons,rc r f.1,k_ t f.2]
theorem jn {A:Around} {s:Shared} {x:V} {v:Value} (rx:RelV x v) (fx:fY x=true):∀{xs:List V} {us:List Value},Vals xs us→xs.all fY=true→∀u∈us,SeqAt.EqAt A s u v (ue x u)
  | _,_, .nil,_=>fun u hu=>by cases hu
  | y::xs,u::us, .cons r t,f=>fun u' hu=>by
    rw [List.all_cons,Bool.and_eq_true] at f
    rcases List.mem_cons.mp hu with rfl | hu
    · rw [rc r f.1];exact v6 r rx f.1 fx
    · exact jn rx fx t f.2 u' hu
def wU (x:V) (xs:List V):Bool:=xs.any fun y=>tI y x
def zv (K:PySem.W.Frag) (neg:Bool):R2:=fun x y H Q=>∃p xs,y= .ref p∧(SqL K H p xs∨SqT K H p xs)∧fY x=true∧xs.all fY=true∧Q (.bl (if neg then !wU x xs else wU x xs)) H
theorem lf:OpR X (compareOp .NotIn) (zv X.K true):=by
  intro pins s σ H x y v u Q I rx ry h
  obtain ⟨p,xs,rfl,hq,fx,fs,q⟩:=h
  cases ry
  rcases hq with hq | hq
  · obtain ⟨its,r,pl,hz⟩:=I.list hq
    refine SeqAt.notIn_listAt (ue x) pl.isList (fun w hw=>jn rx fx r fs w (by simpa using hw)) ⟨.bl _,H,I,rfl,?_⟩
    rw [show its.toArray.any (ue x)=its.any (ue x) by simp,k_ r fs]
    exact q
  · obtain ⟨its,r,pl,hz⟩:=I.tuple hq
    refine SeqAt.notIn_tupleAt (ue x) pl (fun w hw=>jn rx fx r fs w (by simpa using hw)) ⟨.bl _,H,I,rfl,?_⟩
    rw [show its.toArray.any (ue x)=its.any (ue x) by simp,k_ r fs]
    exact q
theorem lh:OpR X (compareOp .NotIn) (fun x y H Q=>∃i j,x= .str i∧y= .str j∧Q (.bl (!(!(Builtin.Str.occurrences j i 0 j.length 1).isEmpty))) H):=by
  intro pins s σ H x y v u Q I rx ry h
  obtain ⟨i,j,rfl,rfl,q⟩:=h
  obtain ⟨t,rfl⟩:=rx
  obtain ⟨t',rfl⟩:=ry
  exact notIn_str ⟨.bl _,H,I,rfl,q⟩
theorem li:CallR X (.builtin "len") (fun xs H Q=>∃p ys,xs=[.ref p]∧(SqL X.K H p ys∨SqT X.K H p ys)∧Q (.int ys.length) H):=by
  intro pins s σ H xs us Q I r h
  obtain ⟨p,ys,rfl,hq,q⟩:=h
  obtain ⟨u,rfl,rx⟩:=kB r
  cases rx
  have hn:=gW
  rcases hq with hq | hq
  · obtain ⟨its,r',pl,hz⟩:=I.list hq
    have hlen:=r'.length
    exact Calls.call_len_list pl.isList (by simp only [List.size_toArray] <;> omega) ⟨.int ys.length,H,I.tok _,⟨s.toks+1,by rw [List.size_toArray,hlen]⟩,q⟩
  · obtain ⟨its,r',pl,hz⟩:=I.tuple hq
    have hlen:=r'.length
    exact len_tuple pl (by simp only [List.size_toArray] <;> omega) ⟨.int ys.length,H,I.tok _,⟨s.toks+1,by rw [List.size_toArray,hlen]⟩,q⟩
theorem lj:CallR X (.builtin "len") (fun xs H Q=>∃z,xs=[.str z]∧z.length≤sizeLine∧Q (.int z.length) H):=by
  intro pins s σ H xs us Q I r h
  obtain ⟨z,rfl,hz,q⟩:=h
  obtain ⟨u,rfl,t,rfl⟩:=kB r
  have hn:=gW
  exact len_str (by omega) ⟨.int z.length,H,I.tok _,⟨_,rfl⟩,q⟩
theorem CallR.or {f:Value} {r r':List V→Hp→VK→Prop} (h:CallR X f r) (h':CallR X f r'):CallR X f (fun xs H Q=>r xs H Q∨r' xs H Q):=by
  intro pins s σ H xs us Q I rs q
  rcases q with q | q
  · exact h pins s σ H xs us Q I rs q
  · exact h' pins s σ H xs us Q I rs q
theorem hO:CallR X (.type "list") (fun xs H Q=>∃p ys,xs=[.ref p]∧(SqL X.K H p ys∨SqT X.K H p ys)∧∀l,H l=none→Q (.ref l) (upd H l (.lst ys))):=by
  intro pins s σ H xs us Q I r h
  obtain ⟨p,ys,rfl,hq,q⟩:=h
  obtain ⟨u,rfl,rx⟩:=kB r
  cases rx
  have fin:∀(its:List Value),Vals ys its→ys.length≤sizeLine→∀(h':Heap) (c':Nat),(∀b o',s.heap.get? b=some o'→h'.get? b=some o')→
      h'.get? s.heap.objs.size=some {cls:= .type "list",dict:=none,data:= .seq its.toArray c',slots:=#[]}→EP X pins σ Q (.ref s.heap.objs.size) {s with heap:=h'}:=fun its r' hz h' c' kp e=>
    ⟨.ref s.heap.objs.size,_,I.laid (t':=s.toks) kp (Nat.le_refl _) (show ObjOk X.prog X.w _ h' _ (.lst ys) from ⟨hz,its,c',r',e⟩),rfl,q _ (I.hok.fresh (Nat.le_refl _))⟩
  rcases hq with hq | hq
  · obtain ⟨its,r',pl,hz⟩:=I.list hq
    have hlen:=r'.length
    obtain ⟨o,ho,hc,n,hd⟩:=pl.isList
    exact call_list_seq p (.inl rfl) ho hc hd (fun h' c' kp e=>fin its r' hz h' c' kp e) (by simp only [List.size_toArray] <;> omega)
  · obtain ⟨its,r',pl,hz⟩:=I.tuple hq
    have hlen:=r'.length
    obtain ⟨o,ho,hc,n,hd⟩:=pl
    exact call_list_seq p (.inr rfl) ho hc hd (fun h' c' kp e=>fin its r' hz h' c' kp e) (by simp only [List.size_toArray] <;> omega)
theorem j3:CallR X (.type "tuple") (fun xs H Q=>∃p ys,xs=[.ref p]∧((SqL X.K H p ys∧∀l,H l=none→Q (.ref l) (upd H l (.tup ys)))∨(SqT X.K H p ys∧Q (.ref p) H))):=by
  intro pins s σ H xs us Q I r h
  obtain ⟨p,ys,rfl,h⟩:=h
  obtain ⟨u,rfl,rx⟩:=kB r
  cases rx
  rcases h with ⟨hq,q⟩ | ⟨hq,q⟩
  · obtain ⟨its,r',pl,hz⟩:=I.list hq
    have hlen:=r'.length
    refine call_tuple_list pl.isList (fun h' kp=>?_) (by simp only [List.size_toArray] <;> omega)
    have I1:Inv X pins σ H {s with heap:=h'}:=I.kept (t':=s.toks) kp
    have I2:Inv X pins σ (upd H h'.objs.size (.tup ys)) {s with heap:=h'.push {cls:= .type "tuple",data:= .seq its.toArray}}:=
      I1.laid (t':=s.toks) (fun b o e=>Heap.get?_push_of_some _ e) (Nat.le_refl _) (show ObjOk X.prog X.w _ _ _ (.tup ys) from ⟨hz,its,r',IsTup.new _ _⟩)
    exact ⟨.ref h'.objs.size,_,I2,rfl,q _ (I1.hok.fresh (Nat.le_refl _))⟩
  · obtain ⟨its,r',pl,hz⟩:=I.tuple hq
    exact call_tuple_same pl ⟨.ref p,H,I,rfl,q⟩
def yS (K:PySem.W.Frag) (T:String) (x:V) (H:Hp):Prop:=match x with
  | .str _=>T="str"
  | .int _=>T="int"
  | .ref p=>(T="list"∧∃xs,SqL K H p xs)∨(T="tuple"∧∃o,K.lookup p=some o∧o.cls= .type "tuple"∧o.dict=none)∨
      (T="dict"∧((∃kvs,H p=some (.dK kvs))∨∃kvs,H p=some (.dT kvs)))∨(T="set"∧∃S n,H p=some (.set S n))
  | _=>False
theorem re {pins:List (Addr×Obj)} {σ:St} {H:Hp} {s:Shared} {T:String} {x:V} {v:Value} (I:Inv X pins σ H s) (r:RelV x v) (ty:yS X.K T x H):
    s.TypeIs v T∧∀a,v= .ref a→∃ob,s.heap.get? a=some ob∧ob.dict=none:=by
  cases x with
  | str z=>
    obtain ⟨t,rfl⟩:=r
    cases (show T="str" from ty)
    exact ⟨typeIs_str s z t,fun _ e=>nomatch e⟩
  | int i=>
    obtain ⟨t,rfl⟩:=r
    cases (show T="int" from ty)
    exact ⟨typeIs_int s i t,fun _ e=>nomatch e⟩
  | ref p=>
    cases r
    rcases ty with ⟨rfl,xs,hq⟩ | ⟨rfl,o,hk,hc,hd⟩ | ⟨rfl,hk⟩ | ⟨rfl,S,n,hk⟩
    · obtain ⟨its,_,pl,_⟩:=I.list hq
      refine ⟨pl.isList.typeIs,fun a e=>?_⟩
      cases e
      obtain ⟨o,n,e,c,hd,_⟩:=pl
      exact ⟨o,e,hd⟩
    · refine ⟨⟨o,I.kIn p o hk,hc⟩,fun a e=>?_⟩
      cases e
      exact ⟨o,I.kIn _ o hk,hd⟩
    · have z:∃o,s.heap.get? p=some o∧o.ExactDict:=by
        rcases hk with ⟨kvs,hk⟩ | ⟨kvs,hk⟩
        · obtain ⟨_,_,_,_,o,_,_,e,ex,_⟩:=I.hok p _ hk
          exact ⟨o,e,ex⟩
        · obtain ⟨_,_,_,_,o,_,_,e,ex,_⟩:=I.hok p _ hk
          exact ⟨o,e,ex⟩
      obtain ⟨o,e,ex⟩:=z
      refine ⟨⟨o,e,ex.1⟩,fun a e2=>?_⟩
      cases e2
      exact ⟨o,e,ex.2.1⟩
    · obtain ⟨o,_,_,_,e,ex,_⟩:=I.hok p _ hk
      refine ⟨⟨o,e,ex.1⟩,fun a e2=>?_⟩
      cases e2
      exact ⟨o,e,ex.2.1⟩
  | _=>exact False.elim ty
def yT (K:PySem.W.Frag) (T:String) (r:V→List V→Hp→VK→Prop) (to:TE):TE:=fun σ H Q=>to σ H fun x H1=>yS K T x H1∧r x [] H1 Q
def zF (K:PySem.W.Frag) (T:String) (r:V→List V→Hp→VK→Prop) (to:TE) (t:TA):TE:=fun σ H Q=>to σ H fun x H1=>yS K T x H1∧t σ H1 fun xs H2=>r x xs H2 Q
variable {o e:Expr} {es:List Expr} {to:TE} {t:TA} {name:Str} {apos cpos:Pos} {T id:String} {r:V→List V→Hp→VK→Prop}
theorem v7 (pa:PlainAttrs T) (slot:Slot T name id) (hty:typeOf (.builtin id)=pure (.type "method_descriptor")) (hm:MtR X id r) (ho:PE X o to)
    (hbase:attributeBase o name X.env (eval o X.env)=eval o X.env:=by rfl) (hline:(apos.endLine == cpos.line)=true:=by rfl):PE X (.Call (.Attribute o name apos) [] [] cpos) (yT X.K T r to):=by
  intro pins s σ H Q I h
  refine wpAny_Call_method0_late hbase hline (b8 (ho pins s σ H _ I h) fun v s1 ⟨x,H1,I1,r1,ty,q1⟩=>?_)
  obtain ⟨h1,h2⟩:=re I1 r1 ty
  exact ⟨T,id,pa,slot,hty,h1,h2,Calls.callWith_builtin rfl (PySem.evalArgs_none (hm pins s1 σ H1 x [] v [] Q I1 r1 .nil q1))⟩
theorem oK (pa:PlainAttrs T) (slot:Slot T name id) (hty:typeOf (.builtin id)=pure (.type "method_descriptor")) (hm:MtR X id r) (ho:PE X o to) (ha:PA X (e::es) t)
    (hbase:attributeBase o name X.env (eval o X.env)=eval o X.env:=by rfl)
    (hfew:((backTo cpos (starEach (e::es) X.env)).all (fun x=> !x.1)&&(backToKw cpos (keywordEach [] X.env)).all (fun x=>x.1.isSome)
      &&decide ((e::es).length+([]:List Keyword).length+(if ([]:List Keyword).isEmpty then 0 else 1) < 30))=true:=by rfl)
    (hline:(apos.endLine == cpos.line)=true:=by rfl) (hs:starEach (e::es) X.env=(false,eval e X.env)::starEach es X.env:=by rfl) (hplain:(backTo cpos (starEach es X.env)).any (·.1)=false:=by rfl):
    PE X (.Call (.Attribute o name apos) (e::es) [] cpos) (zF X.K T r to t):=by
  intro pins s σ H Q I h
  refine wpAny_Call_method_late hbase hfew hline rfl (b8 (ho pins s σ H _ I h) fun v s1 ⟨x,H1,I1,r1,ty,q1⟩=>?_)
  obtain ⟨h1,h2⟩:=re I1 r1 ty
  refine ⟨T,id,pa,slot,hty,h1,h2,?_⟩
  have hA:=ha cpos pins s1 σ H1 _ I1 q1
  rw [hs] at hA ⊢
  refine Calls.callWith_builtin (by show (false||(backTo cpos (starEach es X.env)).any (·.1))=false;rw [hplain] <;> rfl) (Calls.evalArgs_plain ?_)
  exact b8 hA fun us s2 ⟨vs,H2,I2,r2,q2⟩=>hm pins s2 σ H2 x vs v us Q I2 r1 r2 q2
end
end L2
namespace L2
open PySem PySem.Spec PyProof.Rows
def yU (X:Cx) (id:String) (r:V→List V→Hp→VK→Prop):Prop:=
  ∀(pins:List (Addr×Obj)) (s:Shared) (σ:St) (H:Hp) (x:V) (xs:List V) (v:Value) (us:List Value) (Q:VK),Inv X pins σ H s→RelV x v→Vals xs us→r x xs H Q→
    wpAny (model X.prog X.w) X.A (call (.builtin id) (v::us)) (EP X pins σ Q) X.xe s
theorem Vals.one {x:V} {us:List Value} (h:Vals [x] us):∃u,us=[u]∧RelV x u:=by
  cases h with
  | cons r t=>cases t;exact ⟨_,rfl,r⟩
theorem Vals.two {x y:V} {us:List Value} (h:Vals [x,y] us):∃u v,us=[u,v]∧RelV x u∧RelV y v:=by
  cases h with
  | cons r t=>
    obtain ⟨v,rfl,q⟩:=Vals.one t
    exact ⟨_,_,rfl,r,q⟩
theorem Vals.zero:∀{us:List Value},Vals [] us→us=[]
  | _, .nil=>rfl
theorem Vals.dropLast {xs:List V} {us:List Value} (h:Vals xs us):Vals xs.dropLast us.dropLast:=by
  induction h with
  | nil=>exact .nil
  | cons r t ih=>
    cases t with
    | nil=>exact .nil
    | cons q t'=>exact .cons r ih
theorem Vals.eraseIdx:∀{xs:List V} {us:List Value} (i:Nat),Vals xs us→Vals (xs.eraseIdx i) (us.eraseIdx i)
  | _,_,_, .nil=> .nil
  | _,_,0, .cons _ t=>t
  | _,_,i+1, .cons r t=> .cons r (Vals.eraseIdx i t)
theorem Vals.reverse {xs:List V} {us:List Value} (h:Vals xs us):Vals xs.reverse us.reverse:=by
  induction h with
  | nil=>exact .nil
  | cons r t ih=>rw [List.reverse_cons,List.reverse_cons];exact Vals.append ih (.cons r .nil)
theorem Vals.rep {xs:List V} {us:List Value} (h:Vals xs us):∀k:Nat,Vals (List.replicate k xs).flatten (List.replicate k us).flatten
  | 0=> .nil
  | k+1=>by
    rw [List.replicate_succ,List.replicate_succ,List.flatten_cons,List.flatten_cons]
    exact Vals.append h (Vals.rep h k)
theorem nS {α:Type} (l:List α):l.eraseIdx (l.length - 1)=l.dropLast:=by
  induction l with
  | nil=>rfl
  | cons a r ih=>
    cases r with
    | nil=>rfl
    | cons b r=>
      have e:(a::b::r).length - 1=((b::r).length - 1)+1:=by
        have h1:(a::b::r).length=r.length+2:=rfl
        have h2:(b::r).length=r.length+1:=rfl
        omega
      rw [e,List.eraseIdx_cons_succ,ih]
      all_goals rfl
section
variable {X:Cx} {pins:List (Addr×Obj)} {σ:St} {H:Hp} {s:Shared} {l b:Addr} {xs ys zs:List V}
theorem Inv.lset {its its':List Value} {n:Nat} {f:Array Value→Array Value} {t':Nat} (I:Inv X pins σ H s) (hH:H l=some (.lst xs))
    (e:s.heap.get? l=some {cls:= .type "list",data:= .seq its.toArray n}) (hf:f its.toArray=its'.toArray) (hv:Vals ys its') (hz:ys.length≤sizeLine):
    Inv X pins σ (upd H l (.lst ys)) {s with heap:=s.heap.update l (Obj.mapSeq f),toks:=t'}:=by
  have q:=PySem.IsL.update e f
  rw [hf] at q
  refine I.write (x:=l) (e:=l) (by rw [hH];exact trivial) (.inl rfl) (fun b' u hb hu=>(Heap.get?_update_other s.heap (Obj.mapSeq f) (Ne.symm hb)).trans hu) ⟨_,q⟩ ?_
  exact ⟨hz,its',_,hv,q⟩
theorem Inv.lnew {its:List Value} {t':Nat} (I:Inv X pins σ H s) (hv:Vals ys its) (hz:ys.length≤sizeLine):
    Inv X pins σ (upd H s.heap.objs.size (.lst ys)) {s with heap:=s.heap.push {cls:= .type "list",data:= .seq its.toArray},toks:=t'}:=
  I.laid (fun _ _ q=>Heap.get?_push_of_some _ q) (Nat.le_refl _) ⟨hz,its,0,hv,Heap.get?_push_size _ rfl⟩
theorem Inv.fresh (I:Inv X pins σ H s):H s.heap.objs.size=none:=I.hok.fresh (Nat.le_refl _)
theorem Inv.lstM (I:Inv X pins σ H s) (hH:H l=some (.lst xs)):xs.length≤sizeLine∧∃(its:List Value) (n:Nat),Vals xs its∧xs.length=its.length∧s.heap.get? l=some {cls:= .type "list",data:= .seq its.toArray n}:=by
  obtain ⟨z,its,n,r,e⟩:=I.hok l _ hH
  exact ⟨z,its,n,r,r.length,e⟩
theorem rh {n:Nat} (h:n≤sizeLine):Builtin.List.listTooLong n=false:=by
  unfold Builtin.List.listTooLong
  exact decide_eq_false (by omega)
end
section
variable {X:Cx}
def uf:V→List V→Hp→VK→Prop:=fun x vs H Q=>∃l xs y,x= .ref l∧vs=[y]∧H l=some (.lst xs)∧xs.length < sizeLine∧Q .non (upd H l (.lst (xs++[y])))
theorem kG:yU X "list.append" uf:=by
  intro pins s σ H x vs v us Q I rx rv h
  obtain ⟨l,xs,y,rfl,rfl,hH,hz,q⟩:=h
  cases rx
  obtain ⟨u,rfl,ru⟩:=rv.one
  obtain ⟨z,its,n,r,hl,e⟩:=I.lstM hH
  refine call_meets F.slot_list_append ⟨_,e,rfl⟩ F.entry_list_append (F.args_list_append_2 _ _) (PySem.list_append l its.toArray n u (by rw [List.size_toArray];omega)) ⟨e,?_⟩
  refine ⟨.non,_,I.lset (its':=its++[u]) hH e (by simp) (r.append (.cons ru .nil)) ?_,rfl,q⟩
  rw [List.length_append,List.length_singleton]
  omega
def ug:V→List V→Hp→VK→Prop:=fun x vs H Q=>∃l b xs zs,x= .ref l∧vs=[.ref b]∧H l=some (.lst xs)∧H b=some (.lst zs)∧xs.length+zs.length≤sizeLine∧Q .non (upd H l (.lst (xs++zs)))
theorem pQ:yU X "list.extend" ug:=by
  intro pins s σ H x vs v us Q I rx rv h
  obtain ⟨l,b,xs,zs,rfl,rfl,hH,hB,hz,q⟩:=h
  cases rx
  obtain ⟨u,rfl,ru⟩:=rv.one
  cases ru
  obtain ⟨z,its,n,r,hl,e⟩:=I.lstM hH
  obtain ⟨z2,its2,n2,r2,hl2,e2⟩:=I.lstM hB
  have hsz:its.toArray.size+its2.toArray.size≤sizeLine:=by rw [List.size_toArray,List.size_toArray];omega
  have hlong:¬(!its.toArray.isEmpty&&Builtin.List.listTooLong (its.toArray.size+its2.toArray.size))=true:=by
    rw [rh hsz,Bool.and_false]
    exact Bool.false_ne_true
  refine call_meets F.slot_list_extend ⟨_,e,rfl⟩ F.entry_list_extend (F.args_list_extend_2 _ _)
    (AutoSeq1.list_extend_list_list_0 l its.toArray n b its2.toArray n2 hlong (by rw [List.size_toArray];omega) (by omega)) ⟨e,e2,?_⟩
  refine ⟨.non,_,I.lset (its':=its++its2) hH e (by simp) (r.append r2) ?_,rfl,q⟩
  rw [List.length_append]
  omega
def yV:V→List V→Hp→VK→Prop:=fun x vs H Q=>∃l xs y,x= .ref l∧vs=[]∧H l=some (.lst xs)∧xs[xs.length - 1]? =some y∧Q y (upd H l (.lst xs.dropLast))
theorem v8:yU X "list.pop" yV:=by
  intro pins s σ H x vs v us Q I rx rv h
  obtain ⟨l,xs,y,rfl,rfl,hH,hy,q⟩:=h
  cases rx
  have hus:=rv.zero
  subst hus
  obtain ⟨z,its,n,r,hl,e⟩:=I.lstM hH
  obtain ⟨u,hu,ru⟩:=r.get hy
  have hy':its.toArray[its.toArray.size - 1]? =some u:=by
    show its.toArray[its.length - 1]? =some u
    rw [←Array.getElem?_toList,←hl]
    exact hu
  refine call_meets F.slot_list_pop ⟨_,e,rfl⟩ F.entry_list_pop (F.args_list_pop_1 _) (MeetsSeq.list_pop_last l its.toArray n u hy' (by rw [List.size_toArray];omega)) ⟨e,?_⟩
  refine ⟨y,_,I.lset (its':=its.dropLast) hH e ?_ r.dropLast ?_,ru,q⟩
  · show its.toArray.eraseIdxIfInBounds (its.toArray.size - 1)=its.dropLast.toArray
    rw [List.size_toArray,List.eraseIdxIfInBounds_toArray,nS]
  · rw [List.length_dropLast]
    omega
theorem uh {α:Type} (xs:List α) (k:Nat):(List.replicate k xs).flatten.length=k*xs.length:=by
  induction k with
  | zero=>simp
  | succ k ih=>rw [List.replicate_succ,List.flatten_cons,List.length_append,ih,Nat.succ_mul,Nat.add_comm]
end
end L2
namespace Att
open PySem PySem.W PySem.Calls PyProof.Rows
theorem iY {P:Params} {h:Heap}:∀(ns:List Int) (vs:List Value),WellAll P h vs (ns.map WData.int)→IntsAre vs ns:=by
  intro ns
  induction ns with
  | nil=>
    intro vs w
    rw [List.map_nil] at w
    cases w
    exact .nil
  | cons n ns ih=>
    intro vs w
    rw [List.map_cons] at w
    cases w with
    | cons a b=>
      cases a
      exact .cons _ _ (ih _ b)
theorem pR {l:OpenLaw} {n:Nat} (hn:l.most=some n) {P:Params} {h:Heap} {args:List WData} {vals:List Value}
    (hpre:l.row.toRowW.claim.pre args=true) (hwl:WellAll P h vals args):
    ∃a vs ns,vals=[Value.ref a]∧args=[WData.list (ns.map WData.int)]∧h.get? a=some {cls:= .type "list",data:= .seq vs.toArray}∧IntsAre vs ns∧ns.length≤n:=by
  have hsh:WShape.hasAll [] args [.list .int]=true:=(pre_splitW hpre).1
  have hc:l.pre.holds [] {args:=args}=true:=(pre_splitW hpre).2
  obtain ⟨d,r,rfl,h1,h2⟩:=hasAllW_cons hsh
  obtain rfl:=hasAllW_nil h2
  obtain ⟨xs,rfl,h3⟩:=hasW_list h1
  obtain ⟨ns,rfl⟩:=items_int h3
  have hlen:ns.length≤n:=by
    unfold OpenLaw.pre at hc
    have h4:(WTm.not (.lt (.lit (.int (n:Int))) (.len (.arg 0)))).holds [] {args:=[.list (ns.map .int)]}=true:=by
      have h4:=(holds_andW hc).1
      rw [hn] at h4
      exact h4
    have h5:=condW_of h4 (w_not (w_lt w_lit (w_len_list (w_arg rfl))))
    rw [List.length_map] at h5
    refine Nat.le_of_not_lt fun q=>?_
    have q':(n:Int) < ((ns.length:Nat):Int):=by omega
    first
      | (rw [decide_eq_true q'] at h5;exact absurd h5 (by decide))
      | (simp at h5;omega)
  cases hwl with
  | cons w1 w2=>
    cases w2
    cases w1 with
    | list ho hall=>exact ⟨_,_,ns,rfl,rfl,ho,iY ns _ hall,hlen⟩
theorem pS (l:OpenLaw) (args:List WData):l.row.toRowW.claim.post args (.bool true) args=true:=
  postW_of (r:=l.row.toRowW) (X:=(true == true))
    (show WShape.has [] (.bool true) .bool=true by first | rfl | decide | simp [WShape.has,WShape.arms,WShape.armsAll])
    (show (WTm.eq .res (.lit (.bool true))).value [] {args:=args,res:=some (.bool true),after:=args}=some (.bool (true == true)) from w_eq_bool (w_res rfl) w_lit) rfl
theorem mF {l:OpenLaw} {n:Nat} {q:Program} {loose:List Str} {XP:(Str→Option Value)→Heap→Prop} {YP:World→Heap→Prop} {d:DefRec}
    (hn:l.most=some n) (hdf:d.params.defaults=[])
    (call:∀(w:World) (s₀ s₁:Shared) (mg mb:Str→Option Value) (fa:Addr) (o:Obj) (pm cd doc:Value) (a:Addr) (vs:List Value) (ns:List Int),
      Ground q loose [] XP w s₀ mg mb s₁.heap→YP w s₁.heap→
      s₁.heap.get? fa=some o→o.data= .func (docDef d.name d.params d.body d.scope pm cd doc)→s₁.heap.CodeRec cd d.name→mg d.name=some (.ref fa)→
      s₁.heap.get? a=some {cls:= .type "list",data:= .seq vs.toArray}→IntsAre vs ns→ns.length≤n→s₁.gens=#[]→
      codeAny (model l.prog w) callerA (.call (.ref fa) ⟨[.ref a],[]⟩) (fun r s'=>r= .ok (.ret (.bool true))∧OldK s₁.heap s'.heap∧s'.os=s₁.os∧AllBare s'.gens) s₁):
    WalkO q loose XP YP l.row.toRowW d [] (fun f vs=>PySem.call f vs):=by
  intro w s₀ s₁ mg mb G Y fa o pm cd doc dV kV ho hd hcd hD hmg hg args vals as hpre hlay hrd hwl hlo
  obtain rfl:dV= .none:=Dflts.none hD hdf
  obtain rfl:kV= .none:=Dflts.noKw hD
  obtain ⟨a,vs,ns,rfl,rfl,hobj,hints,hlen⟩:=pR hn hpre hwl
  refine enter_call (codeAny_mono (call w s₀ s₁ mg mb fa o pm cd doc a vs ns G Y ho (fd_plain hd) hcd hmg hobj hints hlen hg) fun r s' hq=>?_)
  obtain ⟨rfl,h2,h3,h4⟩:=hq
  exact ⟨.inl ⟨.bool true, .bool true,[],rfl,fun _=>rfl, .bool true,pS l _,fun _=>⟨List.Pairwise.nil,fun _ hm=>(nomatch hm)⟩⟩,h2,h3,h4⟩
end Att
namespace L2
open PySem PySem.Spec PyProof.Rows
theorem fo:∀{vs:List Value} {ns:List Int},IntsAre vs ns→Vals (ns.map V.int) vs
  | _,_, .nil=> .nil
  | _,_, .cons n t h=> .cons ⟨t,rfl⟩ (fo h)
theorem ObjOk.tbl0 {P:Program} {w:World} {H:Hp} {h:Heap} {b:Addr} {q:Str} (e:h.get? b=some (PySem.W.tabObj #[])):ObjOk P w H h b (.tbl q):=⟨#[],e,trivial,fun pos cv z=>by cases z⟩
end L2
namespace L2
open PySem PySem.Spec PyProof.Rows
def eZ (s:Stmt) (j:Nat):Stmt:=match s with
  | .ClassDef _ _ _ body _ _ _ _ _ _ _=>body.getD j (.Pass ⟨0,0,0,0⟩)
  | _=> .Pass ⟨0,0,0,0⟩
def cw (s:Stmt):Arguments:=match s with
  | .FunctionDef _ a _ _ _ _ _ _ _ _=>a
  | _=>{posonlyargs:=[],args:=[],vararg:=none,kwonlyargs:=[],kw_defaults:=[],kwarg:=none,defaults:=[]}
def bo (s:Stmt):List Stmt:=match s with
  | .FunctionDef _ _ b _ _ _ _ _ _ _=>b
  | _=>[]
def ai (s:Stmt):Scope:=match s with
  | .FunctionDef _ _ _ _ _ _ sc _ _ _=>sc
  | _=>{kind:= .function,names:=[],isGenerator:=false,isCoroutine:=false}
abbrev iK:qy:=fun _ _ _ _ _ _=>False
abbrev E0:XK:=fun _ _ _=>False
theorem oM {X:Cx}:jl iK X E0:=fun _ _ _ _ _ _ _ h=>h.elim
structure Fun (K:PySem.W.Frag) (x qual:Str) (st:Stmt) (f:Addr) (fd:FuncData):Prop where
  ex:∃(oc:Value) (od:Option Addr) (kV doc pm:Value) (an:Option Addr) (cdv ct:Value) (osl:Array (Option Value)),
    fd=PySem.W.fnOf x qual (cw st) (bo st) (ai st) .none kV doc pm an cdv ct∧K.lookup f=some ⟨oc,od, .func fd,osl⟩∧PySem.W.codeIn K cdv qual=true
  kp:PySem.W.keepIn K (.ref f)=true
section
variable {P:Program} {w:World} {K:PySem.W.Frag} {mg:Str→Option Value} {base:Heap}
theorem Fun.ok {x qual:Str} {st:Stmt} {f:Addr} {fd:FuncData} {N ps:List Str} {k:Nat} {sp:Sp} (F:Fun K x qual st f fd) (S:FnScope N ps (ai st)) (len:∀vs H Q E,sp vs H Q E→vs.length=ps.length)
    (hbody:∀(cdv:Value) (A:Around) (outer:List Env) (s:Shared) (H:Hp) (vs:List V) (Q:VK) (E:XK),Room k (A.deeper (envOfC qual (ai st) s.heap.objs.size f cdv))→sp vs H Q E→
      ∃t,PSs (j1 iK P w K mg base N qual (ai st) f cdv A outer s H E).nox (bo st) t∧t {nx:=fun _ H'=>Q .non H',rt:=Q} (dD N vs) H):FnOk P w K mg base iK (k+1) f fd ps sp:=by
  obtain ⟨oc,od,kV,doc,pm,an,cdv,ct,osl,rfl,lk,hcd⟩:=F.ex
  refine xA lk hcd S len fun A outer s H vs Q E hr hsp=>?_
  obtain ⟨t,h,q⟩:=hbody cdv A outer s H vs Q E hr hsp
  exact ⟨t,h.nox,q⟩
theorem Fun.binds {x qual:Str} {st:Stmt} {f:Addr} {fd:FuncData} {ps:List Str} (F:Fun K x qual st f fd)
    (h:∀(kV doc pm:Value) (an:Option Addr) (cdv ct:Value) (us:List Value),us.length=ps.length→bindArgs (PySem.W.fnOf x qual (cw st) (bo st) (ai st) .none kV doc pm an cdv ct) ⟨us,[]⟩=pure (ps.zip us)):Binds K fd ps []:=by
  obtain ⟨oc,od,kV,doc,pm,an,cdv,ct,osl,rfl,lk,hcd⟩:=F.ex
  exact .all (h kV doc pm an cdv ct)
theorem jp {x qual:Str} {st:Stmt} {f:Addr} {oc:Value} {od an:Option Addr} {osl:Array (Option Value)} {kV doc pm cdv ct:Value} (l:K.lookup f=some ⟨oc,od, .func (PySem.W.fnOf x qual (cw st) (bo st) (ai st) .none kV doc pm an cdv ct),osl⟩)
    (c:PySem.W.codeIn K cdv qual=true) (k:PySem.W.keepIn K (.ref f)=true):Fun K x qual st f (PySem.W.fnOf x qual (cw st) (bo st) (ai st) .none kV doc pm an cdv ct):=⟨⟨oc,od,kV,doc,pm,an,cdv,ct,osl,rfl,l,c⟩,k⟩
end
section
variable {X:Cx}
theorem pv (i:Nat) {x:Str} {pos:Pos} (hN:X.N[i]? =some x:=by rfl) (hv:tP X.env.scope x:=by first | exact Or.inl rfl | exact Or.inr (Or.inl rfl) | exact Or.inr (Or.inr rfl)) (hd:(x == ("__debug__":Str))=false:=by decide)
    (hcd:(x == ("__classdict__":Str))=false:=by decide):PE X (.Name x pos) (gc i):=gV hN hv hd hcd
end
def Same (H H':Hp):Prop:=∀b o,H b=some o→H' b=some o
theorem Same.refl (H:Hp):Same H H:=fun _ _ h=>h
theorem Same.trans {H H1 H2:Hp} (a:Same H H1) (b:Same H1 H2):Same H H2:=fun c o h=>b c o (a c o h)
theorem Same.free {H H':Hp} (e:Same H H') {l:Addr} (h:H' l=Option.none):H l=Option.none:=by
  cases q:H l with
  | none=>rfl
  | some o=>
    rw [e l o q] at h
    cases h
theorem Same.seq {K:PySem.W.Frag} {H H':Hp} {a:Addr} {xs:List V} (e:Same H H') (h:SqL K H a xs):SqL K H' a xs:=by
  rcases h with (h | ⟨o,h⟩) | h
  · exact .inl (.inl (e _ _ h))
  · exact .inl (.inr ⟨o,e _ _ h⟩)
  · exact .inr h
end L2
namespace NH
section
variable {α:Type} [DecidableEq α]
def stp (r:List (α×Int)) (p:α×Int):List (α×Int):=
  match r with
  | []=>if p.2=0 then [] else [p]
  | q::r'=>if q.1=p.1 then (if q.2+p.2=0 then r' else (p.1,q.2+p.2)::r') else (if p.2=0 then q::r' else p::q::r')
def stk (c:List (α×Int)):List (α×Int):=c.foldl stp []
def short (c:List (α×Int)):List (α×Int):=(stk c).reverse
def uk (c:List (α×Int)):List (α×Int):=c.foldr (fun p r=>stp r p) []
def Red:List (α×Int)→Prop
  | []=>True
  | [p]=>p.2≠0
  | p::q::r=>p.2≠0∧p.1≠q.1∧Red (q::r)
theorem Red.tail {p:α×Int} {r:List (α×Int)} (h:Red (p::r)):Red r:=by
  cases r with
  | nil=>trivial
  | cons q r=>exact h.2.2
theorem Red.head {p:α×Int} {r:List (α×Int)} (h:Red (p::r)):p.2≠0:=by
  cases r with
  | nil=>exact h
  | cons q r=>exact h.1
theorem Red.cons {p:α×Int} {r:List (α×Int)} (h0:p.2≠0) (h1:∀q∈r.head?,p.1≠q.1) (h:Red r):Red (p::r):=by
  cases r with
  | nil=>exact h0
  | cons q r=>exact ⟨h0,h1 q rfl,h⟩
theorem Red.next {p:α×Int} {r:List (α×Int)} (h:Red (p::r)):∀q∈r.head?,p.1≠q.1:=by
  cases r with
  | nil=>intro q hq;cases hq
  | cons q r=>intro q' hq;cases hq;exact h.2.1
theorem oN {r:List (α×Int)} (h:Red r) (p:α×Int):Red (stp r p):=by
  cases r with
  | nil=>
    unfold stp
    by_cases h0:p.2=0
    · simp [h0,Red]
    · simp [h0,Red]
  | cons q r=>
    show Red (if q.1=p.1 then (if q.2+p.2=0 then r else (p.1,q.2+p.2)::r) else (if p.2=0 then q::r else p::q::r))
    by_cases e:q.1=p.1
    · rw [if_pos e]
      by_cases z:q.2+p.2=0
      · rw [if_pos z];exact h.tail
      · rw [if_neg z]
        refine Red.cons z (fun s hs=>?_) h.tail
        rw [←e];exact h.next s hs
    · rw [if_neg e]
      by_cases z:p.2=0
      · rw [if_pos z];exact h
      · rw [if_neg z];exact ⟨z,fun t=>e t.symm,h⟩
theorem il:∀(c:List (α×Int)) {r:List (α×Int)},Red r→Red (c.foldl stp r)
  | [],_,h=>h
  | p::c,_,h=>il c (oN h p)
theorem ul (c:List (α×Int)):Red (stk c):=il c trivial
theorem rj {r:List (α×Int)} (h:Red r) (n:α):stp r (n,0)=r:=by
  cases r with
  | nil=>simp [stp]
  | cons q r=>
    have:=h.head
    unfold stp
    by_cases e:q.1=n
    · obtain ⟨a,b⟩:=q
      simp at e this
      subst e
      simp [this]
    · simp [e]
theorem um {r:List (α×Int)} (h:Red r) (n:α) (a b:Int):stp (stp r (n,a)) (n,b)=stp r (n,a+b):=by
  cases r with
  | nil=>
    by_cases ha:a=0
    · subst ha;simp [stp]
    · simp [stp,ha]
  | cons q r=>
    obtain ⟨m,u⟩:=q
    have hu:u≠0:=h.head
    by_cases e:m=n
    · subst e
      by_cases z:u+a=0
      · have e1:stp ((m,u)::r) (m,a)=r:=by simp [stp,z]
        rw [e1]
        have ez:u+(a+b)=b:=by omega
        have hn:=h.next
        cases r with
        | nil=>
          by_cases hb:b=0
          · subst hb;simp [stp];omega
          · simp [stp,ez,hb]
        | cons s r=>
          have e2:¬s.1=m:=fun t=>hn s rfl t.symm
          by_cases hb:b=0
          · subst hb;simp [stp,e2];omega
          · simp [stp,ez,hb,e2]
      · have e1:stp ((m,u)::r) (m,a)=(m,u+a)::r:=by simp [stp,z]
        rw [e1]
        simp only [stp,if_true]
        rw [Int.add_assoc]
    · by_cases ha:a=0
      · subst ha;simp [stp,e]
      · simp [stp,e,ha]
theorem rk {r:List (α×Int)} (h:Red r) (n:α) (a:Int):stp (stp r (n,a)) (n,-a)=r:=by
  rw [um h,Int.add_right_neg,rj h]
def contr (c:List (α×Int)):List (α×Int):=c.reverse.map fun p=>(p.1,-p.2)
theorem nT (p:α×Int) (c:List (α×Int)):contr (p::c)=contr c++[(p.1,-p.2)]:=by simp [contr]
theorem de (c:List (α×Int)):(contr c).length=c.length:=by simp [contr]
theorem kH:∀(c:List (α×Int)) {r:List (α×Int)},Red r→(c++contr c).foldl stp r=r
  | [],_,_=>rfl
  | p::c,r,h=>by
    rw [nT,←List.append_assoc,List.foldl_append]
    show stp ((c++contr c).foldl stp (stp r p)) (p.1,-p.2)=r
    rw [kH c (oN h p)]
    exact rk h p.1 p.2
def sn (w:List (α×Int)) (p:α×Int):List (α×Int):=(stp w.reverse p).reverse
def mr (p x:α×Int):List (α×Int):=if x.1=p.1 then (if x.2+p.2=0 then [] else [(p.1,x.2+p.2)]) else (if p.2=0 then [x] else [p,x])
theorem gf (p x:α×Int) (r:List (α×Int)):stp (x::r) p=mr p x++r:=by
  show (if x.1=p.1 then (if x.2+p.2=0 then r else (p.1,x.2+p.2)::r) else (if p.2=0 then x::r else p::x::r))=mr p x++r
  unfold mr
  by_cases e:x.1=p.1
  · rw [if_pos e,if_pos e];split <;> rfl
  · rw [if_neg e,if_neg e];split <;> rfl
def yr (x p:α×Int):List (α×Int):=(mr p x).reverse
theorem oO (p x:α×Int) (r:List (α×Int)):sn (r++[x]) p=r++yr x p:=by
  unfold sn yr
  rw [List.reverse_append,List.reverse_singleton,List.singleton_append,gf,List.reverse_append,List.reverse_reverse]
theorem xG (p q:α×Int) (x:α×Int) (hx:x.2≠0):stp (sn [x] q) p=sn (stp [x] p) q:=by
  obtain ⟨n,a⟩:=p
  obtain ⟨k,b⟩:=q
  obtain ⟨m,u⟩:=x
  simp at hx
  by_cases e1:m=n
  · subst e1
    by_cases e2:m=k
    · subst e2
      by_cases z1:u+a=0 <;> by_cases z2:u+b=0
      · simp [stp,sn,z1,z2]
        have:a=b:=by omega
        have ha:a≠0:=by omega
        have hb:b≠0:=by omega
        simp [ha,hb,this]
      · have hb:u+b+a=b:=by omega
        by_cases b0:b=0
        · subst b0;simp [stp,sn,z1,hx]
        · simp [stp,sn,z1,z2,hb,b0]
      · have hb:u+a+b=a:=by omega
        by_cases a0:a=0
        · subst a0;simp [stp,sn,z2,hx]
        · simp [stp,sn,z1,z2,hb,a0]
      · have hb:u+b+a=u+a+b:=by omega
        by_cases z3:u+a+b=0
        · simp [stp,sn,z1,z2,hb,z3]
        · simp [stp,sn,z1,z2,hb,z3]
    · by_cases z1:u+a=0 <;> by_cases z2:b=0 <;> simp [stp,sn,e2,z1,z2]
  · by_cases e2:m=k
    · subst e2
      by_cases z1:u+b=0 <;> by_cases z2:a=0 <;> simp [stp,sn,e1,z1,z2]
    · by_cases z1:a=0 <;> by_cases z2:b=0 <;> simp [stp,sn,e1,e2,z1,z2]
theorem xH (p q:α×Int):stp (sn [] q) p=sn (stp [] p) q:=by
  obtain ⟨n,a⟩:=p
  obtain ⟨k,b⟩:=q
  by_cases z1:a=0 <;> by_cases z2:b=0
  · simp [stp,sn,z1,z2]
  · by_cases e:k=n <;> simp [stp,sn,z1,z2,e]
  · by_cases e:n=k <;> simp [stp,sn,z1,z2,e]
  · by_cases e:k=n
    · subst e
      by_cases z:a+b=0
      · have z':b+a=0:=by omega
        simp [stp,sn,z1,z2,z,z']
      · have z':¬b+a=0:=by omega
        simp [stp,sn,z1,z2,z,z']
        omega
    · have e':¬n=k:=fun t=>e t.symm
      simp [stp,sn,z1,z2,e,e']
theorem comm (p q:α×Int) {w:List (α×Int)} (h:Red w):stp (sn w q) p=sn (stp w p) q:=by
  cases w with
  | nil=>exact xH p q
  | cons x r=>
    rcases List.eq_nil_or_concat r with rfl | ⟨m,y,e⟩
    · exact xG p q x h
    · have e':r=m++[y]:=by rw [e] <;> simp
      subst e'
      have e1:x::(m++[y])=(x::m)++[y]:=rfl
      have e2:sn (x::(m++[y])) q=x::(m++yr y q):=by rw [e1,oO];rfl
      rw [e2,gf,gf,←List.append_assoc,←List.append_assoc,oO]
theorem dL:∀{m:List (α×Int)} {y z:α×Int},Red (m++[y])→z.2≠0→y.1≠z.1→Red (m++[y]++[z])
  | [],y,z,h,h0,h1=>⟨h,h1,h0⟩
  | [x],y,z,h,h0,h1=>⟨h.1,h.2.1,dL (m:=[]) h.2.2 h0 h1⟩
  | x::x'::m,y,z,h,h0,h1=>⟨h.1,h.2.1,dL (m:=x'::m) h.2.2 h0 h1⟩
theorem iL:∀{w:List (α×Int)},Red w→Red w.reverse
  | [],_=>trivial
  | [p],h=>h
  | p::q::r,h=>by
    have ih:=iL (w:=q::r) h.2.2
    rw [List.reverse_cons,List.reverse_cons]
    rw [List.reverse_cons] at ih
    exact dL ih h.1 fun t=>h.2.1 t.symm
theorem kI (c:List (α×Int)):Red (short c):=iL (ul c)
theorem jq (c:List (α×Int)) (p:α×Int):short (c++[p])=sn (short c) p:=by
  unfold short stk sn
  rw [List.foldl_append,List.reverse_reverse]
  rfl
theorem nU (p:α×Int):∀c:List (α×Int),short (p::c)=stp (short c) p:=by
  intro c
  induction hn:c.length generalizing c with
  | zero=>
    have:c=[]:=List.length_eq_zero_iff.mp hn
    subst this
    simp [short,stk,stp]
    by_cases z:p.2=0 <;> simp [z]
  | succ n ih=>
    rcases List.eq_nil_or_concat c with rfl | ⟨m,y,e⟩
    · simp at hn
    · have e':c=m++[y]:=by rw [e] <;> simp
      subst e'
      have hm:m.length=n:=by simp at hn;exact hn
      have e1:p::(m++[y])=(p::m)++[y]:=rfl
      rw [e1,jq,ih m hm,jq,comm p y (kI m)]
theorem gN:∀c:List (α×Int),short c=uk c
  | []=>rfl
  | p::c=>by rw [nU,gN c];rfl
theorem iM:∀{w:List (α×Int)},Red w→uk w=w
  | [],_=>rfl
  | [p],h=>by
    have:p.2≠0:=h
    simp [uk,stp,this]
  | p::q::r,h=>by
    have ih:=iM (w:=q::r) h.2.2
    show stp (uk (q::r)) p=_
    rw [ih]
    have h1:¬q.1=p.1:=fun t=>h.2.1 t.symm
    simp [stp,h1,h.1]
theorem mG (c:List (α×Int)):short (short c)=short c:=by rw [gN (short c),iM (kI c)]
theorem lq (r:List (α×Int)) (p:α×Int):(stp r p).length≤r.length+1:=by
  cases r with
  | nil=>by_cases z:p.2=0 <;> simp [stp,z]
  | cons q r=>rw [gf];unfold mr;split <;> split <;> simp <;> omega
theorem kJ:∀(c:List (α×Int)) (r:List (α×Int)),(c.foldl stp r).length≤r.length+c.length
  | [],r=>by simp
  | p::c,r=>by
    have h1:=kJ c (stp r p)
    have h2:=lq r p
    simp only [List.foldl_cons,List.length_cons]
    omega
theorem im (c:List (α×Int)):(short c).length≤c.length:=by
  have:=kJ c []
  simpa [short,stk] using this
theorem pU {A B X Y:List (α×Int)} (h:∀r,Red r→X.foldl stp r=Y.foldl stp r):short (A++X++B)=short (A++Y++B):=by
  unfold short stk
  rw [List.foldl_append,List.foldl_append,List.foldl_append,List.foldl_append,h _ (il A (r:=[]) trivial)]
theorem rl (c:List (α×Int)):∀r:List (α×Int),Red r→(c++contr c).foldl stp r=([]:List (α×Int)).foldl stp r:=fun r h=>kH c h
end
end NH
namespace L2
open PySem PySem.Spec PyProof.Rows
theorem ft {H:Hp} {p:Addr} (h:H p=none) (o:HO):Same H (upd H p o):=fun b u q=>by rw [au (aL q h)];exact q
theorem Same.tup {K:PySem.W.Frag} {H H':Hp} {a:Addr} {xs:List V} (e:Same H H') (h:SqT K H a xs):SqT K H' a xs:=by
  rcases h with (h | ⟨o,h⟩) | h
  · exact .inl (.inl (e _ _ h))
  · exact .inl (.inr ⟨o,e _ _ h⟩)
  · exact .inr h
def SameBut (l:Addr) (H H':Hp):Prop:=∀b o,b≠l→H b=some o→H' b=some o
theorem SameBut.upd {H:Hp} {l:Addr} (o:HO):SameBut l H (upd H l o):=fun b u hb q=>by rw [au hb];exact q
theorem SameBut.trans {H H1 H2:Hp} {l:Addr} (a:SameBut l H H1) (b:SameBut l H1 H2):SameBut l H H2:=fun c o hc q=>b c o hc (a c o hc q)
theorem SameBut.same {H H':Hp} {l:Addr} (a:SameBut l H H') (h:H l=none):Same H H':=fun b o q=>a b o (aL q h) q
theorem SameBut.tup {K:PySem.W.Frag} {H H':Hp} {l a:Addr} {xs ys:List V} (e:SameBut l H H') (hl:H l=some (.lst ys)) (h:SqT K H a xs):SqT K H' a xs:=by
  rcases h with (h | ⟨o,h⟩) | h
  · exact .inl (.inl (e _ _ (u9 h hl (by intro z;cases z)) h))
  · exact .inl (.inr ⟨o,e _ _ (u9 h hl (by intro z;cases z)) h⟩)
  · exact .inr h
mutual
inductive DOf (K:PySem.W.Frag) (H:Hp):V→PyData→Prop
  | non:DOf K H .non .none
  | bl (b:Bool):DOf K H (.bl b) (.bool b)
  | int (i:Int):DOf K H (.int i) (.int i)
  | str (x:Str):DOf K H (.str x) (.str x)
  | lst {a:Addr} {xs:List V} {ds:List PyData}:SqL K H a xs→DAll K H xs ds→DOf K H (.ref a) (.list ds)
  | tup {a:Addr} {xs:List V} {ds:List PyData}:SqT K H a xs→DAll K H xs ds→DOf K H (.ref a) (.tuple ds)
inductive DAll (K:PySem.W.Frag) (H:Hp):List V→List PyData→Prop
  | nil:DAll K H [] []
  | cons {x:V} {xs:List V} {d:PyData} {ds:List PyData}:DOf K H x d→DAll K H xs ds→DAll K H (x::xs) (d::ds)
end
section
variable {X:Cx} {pins:List (Addr×Obj)} {σ:St} {H:Hp} {s:Shared}
theorem DOf.reads (I:Inv X pins σ H s) {x:V} {d:PyData} {u:Value} (h:DOf X.K H x d) (r:RelV x u):∃as,Reads s.heap u d as:=DOf.rec (motive_1:=fun x d _=>∀{u:Value},RelV x u→∃as,Reads s.heap u d as) (motive_2:=fun xs ds _=>∀{us:List Value},Vals xs us→∃as,ReadsAll s.heap us ds as)
    (fun r=>by cases r;exact ⟨_,Reads.none⟩) (fun b _ r=>by cases r;exact ⟨_,Reads.bool b⟩) (fun i _ r=>by obtain ⟨t,rfl⟩:=r;exact ⟨_,Reads.int i t⟩) (fun x _ r=>by obtain ⟨t,rfl⟩:=r;exact ⟨_,Reads.str x t⟩)
    (fun hq _ ih _ r=>by
      cases r
      obtain ⟨its,rv,⟨o,n,e,c,_,d⟩,_⟩:=I.list hq
      obtain ⟨as,q⟩:=ih rv
      exact ⟨_,reads_list_at e c d (by simpa using q)⟩)
    (fun hq _ ih _ r=>by
      cases r
      obtain ⟨its,rv,⟨o,e,c,n,d⟩,_⟩:=I.tuple hq
      obtain ⟨as,q⟩:=ih rv
      exact ⟨_,reads_tuple_at e c d (by simpa using q)⟩)
    (fun r=>by cases r;exact ⟨_,ReadsAll.nil⟩)
    (fun _ _ a b _ r=>by
      cases r with
      | cons r rt=>
        obtain ⟨as,q⟩:=a r
        obtain ⟨bs,p⟩:=b rt
        exact ⟨_,ReadsAll.cons q p⟩) h r
end
def xI (K:PySem.W.Frag):R2:=fun x y H Q=>∃d e,DOf K H x d∧DOf K H y e∧SeqAt.shaped d=true∧SeqAt.shaped e=true∧Q (.bl (PyData.eqv d e)) H
def xJ (K:PySem.W.Frag):R2:=fun x y H Q=>∃d e,DOf K H x d∧DOf K H y e∧SeqAt.shaped d=true∧SeqAt.shaped e=true∧Q (.bl (!PyData.eqv d e)) H
theorem rm {X:Cx} (hu:X.A.units+64 < cLine):OpR X (compareOp .Eq) (xI X.K):=by
  intro pins s σ H x y v u Q I rx ry h
  obtain ⟨d,e,hd,he,s1,s2,q⟩:=h
  obtain ⟨as,ra⟩:=hd.reads I rx
  obtain ⟨bs,rb⟩:=he.reads I ry
  exact eq_dataH ra rb s1 s2 hu ⟨.bl _,H,I,rfl,q⟩
theorem rq {X:Cx} (hu:X.A.units+64 < cLine):OpR X (compareOp .NotEq) (xJ X.K):=by
  intro pins s σ H x y v u Q I rx ry h
  obtain ⟨d,e,hd,he,s1,s2,q⟩:=h
  obtain ⟨as,ra⟩:=hd.reads I rx
  obtain ⟨bs,rb⟩:=he.reads I ry
  exact ne_dataH ra rb s1 s2 hu ⟨.bl _,H,I,rfl,q⟩
def yW (K:PySem.W.Frag) (a:Addr) (xs:List V):It:=
  ⟨fun i H=>SqL K H a xs∧i < xs.length,fun i H x H'=>H'=H∧xs.reverse[i]? =some x,fun i H=>SqL K H a xs∧i=xs.length⟩
theorem rz {P:Program} {w:World} {K:PySem.W.Frag} {tg:Expr} (a it:Addr) (xs:List V):Turn P w K tg (yW K a xs) [it] it (fun i h=>h.IsRevIter it a ((xs.length:Int) - 1 - (i:Int))) where
  mem:=by simp
  obj:=fun i h st b hb=>by
    have e:b=it:=by simpa using hb
    subst e
    obtain ⟨o,e,c,d⟩:=st
    exact ⟨o,e,fun v z=>by rw [d] at z;cases z⟩
  keep:=fun i h h' st k=>st.at fun o e=>k it (by simp) o e
  item:=by
    intro X hP hw hK hc i pins s σ H E I hf st hg
    subst hP hw hK
    obtain ⟨hq,hx⟩:=hg
    obtain ⟨its,rv,p,hz⟩:=I.list hq
    have hlen:=rv.length
    have e0:(xs.length:Int) - 1 - (i:Int)=((xs.length - 1 - i:Nat):Int):=by omega
    have hget:xs.reverse[i]? =xs[xs.length - 1 - i]? :=List.getElem?_reverse hx
    obtain ⟨x,hx'⟩:∃x,xs[xs.length - 1 - i]? =some x:=⟨xs[xs.length - 1 - i]'(by omega),List.getElem?_eq_getElem (by omega)⟩
    obtain ⟨u,hu,ru⟩:=rv.get hx'
    obtain ⟨f0,f1,f2,f3,f4,f5⟩:=hf it (by simp)
    have st1:s.heap.IsRevIter it a ((xs.length - 1 - i:Nat):Int):=by rw [←e0];exact st
    refine wpAny_pyNext_rev_item st1 p.isList (x:=u) (by simpa using hu) fun h' st' sb=>?_
    have I1:Inv X pins σ H {s with heap:=h'}:=I.turned (t':=s.toks) (fun b o hb e=>(sb.2 b hb).trans e) f0 f1 f3 f4 f5
    have e1:((xs.length - 1 - i:Nat):Int) - 1=(xs.length:Int) - 1 - ((i+1:Nat):Int):=by omega
    have st2:h'.IsRevIter it a ((xs.length:Int) - 1 - ((i+1:Nat):Int)):=by rw [←e1];exact st'
    obtain ⟨o,e,c,d⟩:=id st'
    exact ⟨u,rfl,mB (s:={s with heap:=h'}) e c d (by decide) ⟨x,H,I1,ru,⟨rfl,hget.trans hx'⟩,st2,fun b hb=>(hf b hb).1⟩⟩
  done:=by
    intro X hP hw hK hc i pins s σ H E I hf st hg
    subst hP hw hK
    obtain ⟨hq,hx⟩:=hg
    obtain ⟨f0,f1,f2,f3,f4,f5⟩:=hf it (by simp)
    have e0:(xs.length:Int) - 1 - (i:Int)= -1:=by omega
    have st1:s.heap.IsRevIter it a (-1):=by rw [←e0];exact st
    exact wpAny_pyNext_rev_end (I.ok.hd hc) st1 fun h' eb=>⟨rfl,I.turned (t':=s.toks) (fun b o hb e=>eb b o hb e) f0 f1 f3 f4 f5⟩
  self:=fun _ _ _ _ _ st h=>wpAny_pyIter_revIter st h
section
variable {X:Cx} {tg:Expr}
def yX (K:PySem.W.Frag) (tl:TA):TI:=fun σ H R=>tl σ H fun vs H1=>∃a xs,vs=[.ref a]∧SqL K H1 a xs∧R (yW K a xs) H1
theorem v9 {l:Expr} {tl:TA} {p pos:Pos} (hg:Gl X "reversed") (hm:X.mg "reversed"=none) (ha:PA X [l] tl) (hs:starEach [l] X.env=[(false,eval l X.env)]:=by rfl):PI X tg (.Call (.Name "reversed" p) [l] [] pos) (yX X.K tl):=by
  intro pins s σ H R I h
  refine Call_ (ii I hg hm boot_reversed (PyProof.Rows.callWith_type1 (b8 (ha pos pins s σ H _ I h) fun us s1 ⟨vs,H1,I1,r1,q1⟩=>?_) hs rfl))
  obtain ⟨a,xs,e,hq,q⟩:=q1
  subst e
  cases r1 with
  | cons r rr=>
    cases rr
    cases r
    obtain ⟨its,rv,p,hz⟩:=I1.list hq
    have hlen:=rv.length
    refine call_reversed_list p.isList ?_
    have hit:(s1.heap.push (revObj a (((its.toArray).size:Int) - 1))).IsRevIter s1.heap.objs.size a ((xs.length:Int) - 1 - ((0:Nat):Int)):=by
      refine ⟨_,Heap.get?_push_size _ rfl,rfl,?_⟩
      have e1:((its.toArray.size:Nat):Int) - 1=(xs.length:Int) - 1 - ((0:Nat):Int):=by rw [List.size_toArray];omega
      show Data.fields #[.ref a,rawInt ((its.toArray.size:Int) - 1)]=_
      rw [e1]
    have I2:Inv X pins σ H1 {s1 with heap:=s1.heap.push (revObj a (((its.toArray).size:Int) - 1))}:=I1.kept (t':=s1.toks) fun b o e=>Heap.get?_push_of_some _ e
    refine wpAny_pyIter_revIter hit ?_
    refine ⟨s1.heap.objs.size,[s1.heap.objs.size],_,_,H1,rfl,I2,rz a _ xs,hit,fun b hb=>?_,q⟩
    have e:b=s1.heap.objs.size:=by simpa using hb
    subst e
    have f:=I1.fpOk (H':=H1) (Nat.le_refl _) (I1.hok.fresh (Nat.le_refl _))
    exact f
end
end L2
namespace L2
open PySem PySem.Spec PyProof.Rows
section
variable {prog:Program} {w:World} {A:Around} {R:Result→Shared→Prop} {s:Shared}
theorem lv {elt target iter:Expr} {ifs:List Expr} {scope:Scope} {pos:Pos} {it acc:Value} {env:Env} (I:Nat→Shared→Prop)
    (turn:∀n s,I n s→wpAny (model prog w) A (pyNext it) (fun r s₁=>match r with
      | none=>R (.ok .next) s₁
      | some v=>wpAny (model prog w) A (letOwnedTupleGo target it v) (fun _ s₁'=>wpAny (model prog w) A (assign target env v) (fun _ s₂=>
          wpAny (model prog w) A (forIn ifs true fun c r=>if r=true then do let ok ←isTrue c env (eval c env);pure (ForInStep.yield ok) else pure (ForInStep.yield r)) (fun ok s₃=>
            if ok=true then wpAny (model prog w) A (eval elt env) (fun x s₄=>
              wpAny (model prog w) A (call (.builtin "list.append") [acc,x]) (fun _ s₅=>∃m,m < n∧I m s₅) (fun _ _=>False) s₄) (fun _ _=>False) s₃
            else ∃m,m < n∧I m s₃) (fun _ _=>False) s₂) (fun _ _=>False) s₁') (fun _ _=>False) s₁) (fun _ _=>False) s)
    (n:Nat) (h:I n s):
    codeAny (model prog w) A (.compLoop (.ListComp elt [⟨target,iter,ifs,0⟩] scope pos) 0 it acc env) R s:=by
  refine codeAny_loop rfl I (fun n s hI=>?_) n h
  show wpAny _ A ((compTurn (.ListComp elt [⟨target,iter,ifs,0⟩] scope pos) 0 it acc env).onRaise (fun x=>do noteFrame x env;theTreesLotGoes x)) _ _ s
  refine wpAny_noted ?_
  rw [compTurn_list]
  refine wpAny_bind (wpAny_standAt (wpAny_bind (wpAny_mono (turn n s hI) (fun r s₁ h₁=>?_) fun _ _ h'=>h'.elim)))
  cases r with
  | none=>exact wpAny_pure h₁
  | some v=>
    refine wpAny_bind (wpAny_mono h₁ (fun _ s₁' h₁'=>?_) fun _ _ h'=>h'.elim)
    refine wpAny_bind (wpAny_mono h₁' (fun _ s₂ h₂=>wpAny_bind (wpAny_mono h₂ (fun ok s₃ h₃=>?_) fun _ _ h'=>h'.elim)) fun _ _ h'=>h'.elim)
    cases ok with
    | false=>exact wpAny_pure ⟨rfl,h₃⟩
    | true=>
      exact wpAny_bind (wpAny_bind (wpAny_mono h₃ (fun x s₄ h₄=>wpAny_bind (wpAny_mono h₄ (fun _ s₅ h₅=>wpAny_pure (wpAny_pure ⟨rfl,h₅⟩)) fun _ _ h'=>h'.elim)) fun _ _ h'=>h'.elim))
end
def Cx.comp (X:Cx) (sc:Scope) (cl:List (Str×Addr)) (N:List Str) (C:Addr) (s₀:Shared) (H₀:Hp) (fp:List Addr):Cx:=
  ⟨X.prog,X.w,X.K,X.mg,X.base,X.A,N,s₀,H₀,⟨sc,C,X.env.globals,cl,X.env.qual,none,X.env.code,X.env.frame,X.env.builtins⟩,X.stack,X.stack,fp,fun _=>false,X.calm,[],fun _ _=>False⟩
def yY (X:Cx) (ifs:List Expr) (t:TT):Prop:=
  ∀(pins:List (Addr×Obj)) (s:Shared) (σ:St) (H:Hp) (Q:Bool→Hp→Prop),Inv X pins σ H s→t σ H Q→
    wpAny (model X.prog X.w) X.A (forIn ifs true fun c r=>if r=true then do let ok ←isTrue c X.env (eval c X.env);pure (ForInStep.yield ok) else pure (ForInStep.yield r)) (TP X pins σ Q) X.xe s
def rA:TT:=fun _ H Q=>Q true H
theorem oP {X:Cx}:yY X [] rA:=fun _ _ _ H _ I h=>wpAny_tests_nil ⟨H,I,h⟩
def slots (js:List (Option Nat)) (σ:St):St:=js.map fun j=>j.bind fun j=>(σ[j]?).join
def oQ (js:List (Option Nat)) (wi:TI) (g:TG) (tt:TT) (te:TE):TE:=fun σ H Q=>wi σ H fun J H1=>∀l,H1 l=none→∃W:Nat→Nat→St→Hp→Prop,(∃m,W 0 m (slots js σ) (upd H1 l (.lst [])))∧
  ∀i m σ' H',W i m σ' H'→(J.stop i H'∧Q (.ref l) H')∨(J.go i H'∧∃N:St→Hp→Prop,(∀σ' H',N σ' H'→∃m',m' < m∧W (i+1) m' σ' H')∧∀x H2,J.yld i H' x H2→g x σ' H2 fun σ3 H3=>tt σ3 H3 fun b H4=>
    if b=true then te σ3 H4 fun y H5=>∃ys,H5 l=some (.lst ys)∧ys.length < sizeLine∧N σ3 (upd H5 l (.lst (ys++[y]))) else N σ3 H4)
section
variable {X:Cx} {elt target iter:Expr} {ifs:List Expr} {scope sc:Scope} {cl:List (Str×Addr)} {N:List Str} {pos:Pos} {wi:TI} {g:TG} {tt:TT} {te:TE} {js:List (Option Nat)}
structure CompOk (X:Cx) (scope sc:Scope) (cl:List (Str×Addr)) (N:List Str) (js:List (Option Nat)):Prop where
  clos:closureFor scope X.env=pure cl
  rel:relabel scope X.env=sc
  nocell:∀y∈scope.names,y.2≠ .cell
  kind:scope.kind= .function
  names:∀y∈scope.names,y.2= .local→scope.names.lookup y.1=some .local
  same:∀x c,cl.lookup x=some c→X.env.cells.lookup x=some c
  has:∀x,(sc.names.lookup x=some .cell∨sc.names.lookup x=some .free)→∃c,cl.lookup x=some c
  len:js.length=N.length
  from_:∀(i j:Nat),js[i]? =some (some j)→∃x,N[i]? =some x∧X.N[j]? =some x∧(sc.names.lookup x=some .cell∨sc.names.lookup x=some .free)∧(X.env.kindOf x=some .cell∨X.env.kindOf x=some .free)
theorem rB {use:Option (Value→Sem Unit)} {Qv:Value→Shared→Prop} (K:CompOk X scope sc cl N js) (hc:X.calm=true) (hi:PI X target iter wi)
    (hgg:∀C s₀ H₀ fp,PG (X.comp sc cl N C s₀ H₀ fp) target g) (htt:∀C s₀ H₀ fp,yY (X.comp sc cl N C s₀ H₀ fp) ifs tt) (hee:∀C s₀ H₀ fp,PE (X.comp sc cl N C s₀ H₀ fp) elt te)
    (hs:∀x,foldedSetIterable iter X.env x=pure x) (pins:List (Addr×Obj)) (s:Shared) (σ:St) (H:Hp) (Q:VK) (I:Inv X pins σ H s) (h:oQ js wi g tt te σ H Q)
    (hend:∀(D C:Addr) (H4:Hp) (s5:Shared) (m:Str→Option Value),Inv X pins σ H4 s5→s5.heap.Ns C m→H4 C=none→C≠X.env.locals→C∉X.fs→X.s₀.heap.objs.size≤C→(∀x c,X.env.cells.lookup x=some c→c≠C)→(∀p∈X.pn++pins,p.1≠C)→Q (.ref D) H4→
      compPost (model X.prog X.w) X.A X.xe use Qv (.ref D) C (.ok .next) s5):
    wpAny (model X.prog X.w) X.A (comprehension (.ListComp elt [⟨target,iter,ifs,0⟩] scope pos) scope X.env (firstIterPos [⟨target,iter,ifs,0⟩] pos) (newList []) false (firstIter [⟨target,iter,ifs,0⟩] X.env) use) Qv X.xe s:=by
  refine wpAny_comprehension_free (use:=use) rfl hs K.clos K.kind K.names (b8 (hi pins s σ H _ I h) fun v s1 h1=>b8 h1 fun itv s2 h2=>?_)
  obtain ⟨it,fp,tn,J,H2,e,I2,T,st2,f2,R⟩:=h2
  subst e
  refine wpAny_newObj_type (wpAny_newFunctionEnv K.nocell (by intro y hy;simp at hy) (fun h₁ hns₁ hsb₁=>?_) K.kind)
  dsimp only at hns₁ hsb₁ ⊢
  have I3:Inv X pins σ (upd H2 s2.heap.objs.size (.lst [])) {s2 with heap:=s2.heap.push {cls:= .type "list",dict:=none,data:= .seq ([]:List Value).toArray}}:=
    I2.lnew (t':=s2.toks) (its:=[]) .nil (Nat.zero_le _)
  obtain ⟨W,⟨m0,w0⟩,turn⟩:=R s2.heap.objs.size (I2.hok.fresh (Nat.le_refl _))
  generalize hP:s2.heap.push {cls:= .type "list",dict:=none,data:= .seq ([]:List Value).toArray}=h3 at hns₁ hsb₁ I3 ⊢
  generalize hD:s2.heap.objs.size=D at w0 turn I3 ⊢
  have hsz3:h3.objs.size=D+1:=by rw [←hP,Heap.size_push,hD]
  have old3:∀b o,s2.heap.get? b=some o→h3.get? b=some o:=fun b o e=>by rw [←hP];exact Heap.get?_push_of_some _ e
  have old:∀b o,h3.get? b=some o→h₁.get? b=some o:=fun b o e=>hsb₁.extBut b o (Nat.ne_of_lt (Heap.lt_size e)) (Heap.get?_push_of_some _ e)
  have fpD:∀b∈fp,b < D:=fun b hb=>by
    obtain ⟨o,e,_⟩:=T.obj _ _ st2 b hb
    rw [←hD];exact Heap.lt_size e
  have frD:∀b∈fp,(upd H2 D (.lst [])) b=none:=fun b hb=>by rw [au (Nat.ne_of_lt (fpD b hb))];exact (f2 b hb).1
  have f3:∀b∈fp,j0 X pins (upd H2 D (.lst [])) b:=fun b hb=>⟨frD b hb,(f2 b hb).2⟩
  have Hfresh:∀a,h3.objs.size≤a→(upd H2 D (.lst [])) a=none:=fun a ha=>I3.hok.fresh ha
  have cellC:∀x c,X.env.cells.lookup x=some c→c < h3.objs.size:=fun x c e=>by
    obtain ⟨v,q⟩:=I3.cell x c e
    exact q.lt
  have YOk:(X.comp sc cl N h3.objs.size {s2 with heap:=h3} (upd H2 D (.lst [])) fp).Ok:=by
    refine ⟨I3.ok.mod,?_,I3.ok.glob,I3.ok.blt,Nat.le_refl _,fun x y c e1 e2=>I3.ok.inj x y c (K.same x c e1) (K.same y c e2),fun x hx=>K.has x hx,fun x c hf _=>absurd hf (by intro z;cases z),I3.ok.hd,I3.ok.frames, .inl rfl,fun b hb=>⟨?_,fun x c e=>(f2 b hb).2.2.2.2.1 x c (K.same x c e)⟩,
      I3.bs,Nat.le_trans I3.ok.bsz I3.sz,fun b o e hb=>?_,fun b hb hm=>?_,I3.stack,I3.stkFree,I3.tab⟩
    · rw [←K.rel];exact K.kind
    · exact Nat.ne_of_lt (by rw [hsz3];exact Nat.lt_succ_of_lt (fpD b hb))
    · rcases (f2 b hb).2.2.2.1 with z | z
      · exact I3.ok.noex b o e z
      · exact absurd (Nat.lt_of_lt_of_le (Heap.lt_size (I3.ok.bs b o e).1) z) (Nat.lt_irrefl _)
    · rcases List.mem_cons.mp (I3.stkSub b hm) with z | z
      · exact (f2 b hb).2.1 z
      · exact (f2 b hb).2.2.1 z
  have IY:Inv (X.comp sc cl N h3.objs.size {s2 with heap:=h3} (upd H2 D (.lst [])) fp) [] (slots js σ) (upd H2 D (.lst [])) {s2 with heap:=h₁,toks:=s2.toks+([]:List (Str×Value)).length}:=by
    refine ⟨YOk,rfl,I3.bare,Un.kept old,⟨_,hns₁,fun i x v e1 e2 e3=>?_⟩,fun x c e=>?_,Hfresh _ (Nat.le_refl _),fun x c e=>I3.freeC x c (K.same x c e),fun p hp=>absurd (show p∈([]:List (Addr×Obj)) from hp) (by simp),I3.hok.kept old,?_⟩
    · unfold slots at e2
      rw [List.getElem?_map] at e2
      cases ej:js[i]? with
      | none=>rw [ej] at e2;cases e2
      | some jo=>
        rw [ej] at e2
        cases jo with
        | none=>cases e2
        | some j=>
          obtain ⟨y,n1,n2,k1,k2⟩:=K.from_ i j ej
          have exy:y=x:=Option.some.inj (n1.symm.trans e1)
          subst exy
          have e2':(σ[j]?).join=some v:=Option.some.inj e2
          have e4:σ[j]? =some (some v):=by
            cases es:σ[j]? with
            | none=>rw [es] at e2';cases e2'
            | some w=>rw [es] at e2';exact congrArg some e2'
          obtain ⟨m,_,hl⟩:=I3.loc
          obtain ⟨u,ru,lk⟩:=hl j y v n2 e4 (by
            rcases k2 with z | z
            · exact .inr (.inl z)
            · exact .inr (.inr z))
          refine ⟨u,ru, .inr ⟨k1,?_⟩⟩
          obtain ⟨c,hcl⟩:=K.has y k1
          refine ⟨c,hcl,?_⟩
          rcases lk with ⟨z,_⟩ | ⟨_,c',e5,ic⟩
          · rcases k2 with q | q
            · rw [q] at z;cases z
            · rw [q] at z;cases z
          · have:c'=c:=Option.some.inj (e5.symm.trans (K.same y c hcl))
            subst this
            obtain ⟨o,ho,hd⟩:=ic
            exact ⟨o,old _ _ ho,hd⟩
    · obtain ⟨v,o,ho,hd⟩:=I3.cell x c (K.same x c e)
      exact ⟨v,o,old _ _ ho,hd⟩
    · unfold slots;rw [List.length_map];exact K.len
  have pA:∀s₃:Shared,s₃={s2 with heap:=h₁,toks:=s2.toks+([]:List (Str×Value)).length}→
      codeAny (model X.prog X.w) X.A (.compLoop (.ListComp elt [⟨target,iter,ifs,0⟩] scope pos) 0 (.ref it) (.ref D) (X.comp sc cl N h3.objs.size {s2 with heap:=h3} (upd H2 D (.lst [])) fp).env)
        (compPost (model X.prog X.w) X.A X.xe use Qv (.ref D) h3.objs.size) s₃:=by
    rintro s₃ rfl
    refine lv (fun n s'=>∃i σ' H',Inv (X.comp sc cl N h3.objs.size {s2 with heap:=h3} (upd H2 D (.lst [])) fp) [] σ' H' s'∧tn i s'.heap∧(∀b∈fp,H' b=none)∧W i n σ' H') ?_ m0
      ⟨0,_,_,IY,T.keep _ _ _ st2 (fun b hb o e=>old b o (old3 b o e)),frD,w0⟩
    rintro n s4 ⟨i,σ4,H4,I4,st4,fr4,w4⟩
    have ff:∀{H':Hp},(∀b∈fp,H' b=none)→∀b∈fp,j0 (X.comp sc cl N h3.objs.size {s2 with heap:=h3} (upd H2 D (.lst [])) fp) [] H' b:=fun hn b hb=>
      ⟨hn b hb,(YOk.exf b hb).1,YOk.exfs b hb, .inl hb,(YOk.exf b hb).2,fun p hp=>absurd (show p∈([]:List (Addr×Obj)) from hp) (by simp)⟩
    have hg:=hgg h3.objs.size {s2 with heap:=h3} (upd H2 D (.lst [])) fp
    have ht:=htt h3.objs.size {s2 with heap:=h3} (upd H2 D (.lst [])) fp
    have he:=hee h3.objs.size {s2 with heap:=h3} (upd H2 D (.lst [])) fp
    rcases turn i n σ4 H4 w4 with ⟨stop,qn⟩ | ⟨go,Nx,hN,step⟩
    · refine b8 (T.done (X.comp sc cl N h3.objs.size {s2 with heap:=h3} (upd H2 D (.lst [])) fp) rfl rfl rfl hc i [] s4 σ4 H4 _ I4 (ff fr4) st4 stop) fun r s5 ⟨hr,I5⟩=>?_
      subst hr
      obtain ⟨m,hn,_⟩:=I5.loc
      have IX:Inv X pins σ H4 s5:=I3.call' (ch:=fp) I5.os I5.base I5.hok I5.bare fun b hb=>⟨(f3 b hb).2.2.2.1,(f3 b hb).2.1,(f3 b hb).2.2.2.2.1,(f3 b hb).2.2.2.2.2⟩
      exact hend D h3.objs.size H4 s5 m IX hn I5.free (Ne.symm (Nat.ne_of_lt I3.lt)) (I3.nofs (Nat.le_refl _)) I3.sz (fun x c e=>Nat.ne_of_lt (cellC x c e)) (fun p hp=>Nat.ne_of_lt (Heap.lt_size (I3.pin p hp).1)) qn
    · refine b8 (T.item (X.comp sc cl N h3.objs.size {s2 with heap:=h3} (upd H2 D (.lst [])) fp) rfl rfl rfl hc i [] s4 σ4 H4 _ I4 (ff fr4) st4 go) fun r s5 ⟨u,hr,h5⟩=>?_
      subst hr
      refine b8 h5 fun _ s6 ⟨x,H6,I6,r6,y6,st6,fr6⟩=>?_
      have I6':=I6.pinned (ff fr6) (T.obj _ _ st6)
      have back:∀{σ7:St} {H7:Hp} {s7:Shared},Inv (X.comp sc cl N h3.objs.size {s2 with heap:=h3} (upd H2 D (.lst [])) fp) ([]++jh fp s6.heap) σ7 H7 s7→
          Inv (X.comp sc cl N h3.objs.size {s2 with heap:=h3} (upd H2 D (.lst [])) fp) [] σ7 H7 s7∧tn (i+1) s7.heap∧∀b∈fp,H7 b=none:=fun {σ7 H7 s7} I7=>
        ⟨I7.unpinned,T.keep _ _ _ st6 fun b hb o e=>(I7.pin (b,o) (List.mem_append_right _ (List.mem_append_right _ (fE hb e)))).1,fun b hb=>by
          obtain ⟨o,e,d⟩:=T.obj _ _ st6 b hb
          exact (I7.pin (b,o) (List.mem_append_right _ (List.mem_append_right _ (fE hb e)))).2.1⟩
      refine b8 (hg _ s6 σ4 H6 x u _ I6' r6 (step x H6 y6)) fun _ s7 ⟨σ7,H7,I7,q7⟩=>?_
      refine b8 (ht _ s7 σ7 H7 _ I7 q7) fun b s8 ⟨H8,I8,q8⟩=>?_
      cases b with
      | false=>
        obtain ⟨m',hm,w8⟩:=hN σ7 H8 q8
        obtain ⟨J1,J2,J3⟩:=back I8
        exact ⟨m',hm,i+1,σ7,H8,J1,J2,J3,w8⟩
      | true=>
        refine b8 (he _ s8 σ7 H8 _ I8 q8) fun yv s9 ⟨y,H9,I9,r9,ys,hl,hz,n9⟩=>?_
        obtain ⟨m',hm,w9⟩:=hN _ _ n9
        refine b8 (kG _ s9 σ7 H9 (.ref D) [y] (.ref D) [yv] (fun v H'=>v= .non∧H'=upd H9 D (.lst (ys++[y]))) I9 rfl (.cons r9 .nil) ⟨D,ys,y,rfl,rfl,hl,hz,rfl,rfl⟩) fun _ sA ⟨_,HA,IA,_,_,eA⟩=>?_
        subst eA
        obtain ⟨J1,J2,J3⟩:=back IA
        exact ⟨m',hm,i+1,σ7,_,J1,J2,J3,w9⟩
  rw [K.rel]
  exact codeAny_compStart_list (pA _ rfl) (T.self _ 0 _ _ _ (T.keep _ _ _ st2 (fun b hb o e=>old b o (old3 b o e))) (pA _ rfl))
theorem oR (K:CompOk X scope sc cl N js) (hc:X.calm=true) (hi:PI X target iter wi)
    (hgg:∀C s₀ H₀ fp,PG (X.comp sc cl N C s₀ H₀ fp) target g) (htt:∀C s₀ H₀ fp,yY (X.comp sc cl N C s₀ H₀ fp) ifs tt) (hee:∀C s₀ H₀ fp,PE (X.comp sc cl N C s₀ H₀ fp) elt te)
    (hs:∀x,foldedSetIterable iter X.env x=pure x:=by intro _;rfl):PE X (.ListComp elt [⟨target,iter,ifs,0⟩] scope pos) (oQ js wi g tt te):=by
  intro pins s σ H Q I h
  rw [eval_ListComp]
  refine rB (use:=none) K hc hi hgg htt hee hs pins s σ H Q I h fun D C H4 s5 m IX hn fC nL _ sz nc np qn=>?_
  exact ⟨m,hn,fun h' hs'=>⟨.ref D,H4,IX.turned (t':=s5.toks) (it:=C) (fun b o hb e=>(hs'.2 b hb).trans e) fC nL (.inr sz) nc np,rfl,qn⟩⟩
end
end L2
namespace L2
open PySem PySem.Spec PyProof.Rows
theorem fF {X:Cx} {scope:Scope} {N:List Str} {js:List (Option Nat)} (hf:∀x∈scope.names,x.2≠ .free:=by decide+kernel) (hcell:∀x∈scope.names,x.2≠ .cell:=by decide+kernel)
    (hk:scope.kind= .function:=by rfl) (hn:∀y∈scope.names,y.2= .local→scope.names.lookup y.1=some .local:=by decide+kernel) (hl:js.length=N.length:=by rfl) (hj:∀j∈js,j=none:=by decide):CompOk X scope scope [] N js where
  clos:=closureFor_none hf
  rel:=by
    unfold relabel
    have e:(scope.names.map fun (x:Str×NameKind)=>match x with | (n,k)=>if (k == .free&&X.env.scope.kind == .function&&X.env.kindOf n == some .cell) then (n,NameKind.cell) else (n,k))=scope.names:=by
      refine map_eq_self fun x hx=>?_
      obtain ⟨n,k⟩:=x
      have:(k == NameKind.free)=false:=by simpa using hf _ hx
      simp [this]
    rw [e]
  nocell:=hcell
  kind:=hk
  names:=hn
  same:=fun x c e=>by simp at e
  has:=fun x h=>by
    rcases h with h | h
    · exact absurd rfl (hcell _ (PySem.mem_of_lookup h))
    · exact absurd rfl (hf _ (PySem.mem_of_lookup h))
  len:=hl
  from_:=fun i j h=>by
    have:=hj _ (List.mem_of_getElem? h)
    cases this
theorem uo {σ:St} {H:Hp} {A B:Bool→Hp→Prop} (h:A true H):rA σ H (fun b H4=>if b=true then A b H4 else B b H4):=by
  show (if true=true then A true H else B true H)
  rw [if_pos rfl]
  exact h
theorem pV {i:Nat} {x:V} {σ:St} {H:Hp} {A B:St→Bool→Hp→Prop} (h:A (σ.set i (some x)) true H):mz i x σ H (fun σ3 H3=>rA σ3 H3 fun b H4=>if b=true then A σ3 b H4 else B σ3 b H4):=
  uo (σ:=σ.set i (some x)) (A:=A (σ.set i (some x))) (B:=B (σ.set i (some x))) h
structure Own (P:Program) (w:World) (K:PySem.W.Frag) (mg:Str→Option Value) (base:Heap) (k:Nat) (x:Str) (ps:List Str) (sp:Sp):Prop where
  ex:∃(f:Addr) (fd:FuncData),FnOk P w K mg base iK k f fd ps sp∧Binds K fd ps []∧mg x=some (.ref f)∧PySem.W.keepIn K (.ref f)=true
theorem rC {X:Cx} {k:Nat} {x:Str} {ps:List Str} {sp:Sp} {p pos:Pos} {e:Expr} {es:List Expr} {t:TA} (D:Own X.prog X.w X.K X.mg X.base k x ps sp) (hr:Room k X.A) (hg:Gl X x) (ha:PA X (e::es) t)
    (hdb:(x == ("__debug__":Str))=false:=by decide) (he:starEach (e::es) X.env=(false,eval e X.env)::starEach es X.env:=by rfl) (hpl:(backTo pos (starEach es X.env)).any (·.1)=false:=by rfl):
    PE X (.Call (.Name x p) (e::es) [] pos) (ve sp [] E0 t):=by
  obtain ⟨f,fd,F,b,m,kp⟩:=D.ex
  exact t9 F hr hg m kp b .nil oM ha hdb he hpl
structure Def (K:PySem.W.Frag) (mg:Str→Option Value) (x:Str) (st:Stmt) (ps:List Str):Prop where
  ex:∃(f:Addr) (fd:FuncData),Fun K x x st f fd∧mg x=some (.ref f)∧Binds K fd ps []
theorem Def.own {P:Program} {w:World} {K:PySem.W.Frag} {mg:Str→Option Value} {base:Heap} {x:Str} {st:Stmt} {N ps:List Str} {k:Nat} {sp:Sp} (D:Def K mg x st ps) (S:FnScope N ps (ai st))
    (len:∀vs H Q E,sp vs H Q E→vs.length=ps.length)
    (hbody:∀(f:Addr) (cdv:Value) (A:Around) (outer:List Env) (s:Shared) (H:Hp) (vs:List V) (Q:VK) (E:XK),Room k (A.deeper (envOfC x (ai st) s.heap.objs.size f cdv))→sp vs H Q E→
      ∃t,PSs (j1 iK P w K mg base N x (ai st) f cdv A outer s H E).nox (bo st) t∧t {nx:=fun _ H'=>Q .non H',rt:=Q} (dD N vs) H):Own P w K mg base (k+1) x ps sp:=by
  obtain ⟨f,fd,F,m,b⟩:=D.ex
  exact ⟨f,fd,F.ok S len (hbody f),b,m,F.kp⟩
theorem v_ {K:PySem.W.Frag} {h:Heap} {mg:Str→Option Value} {x:Str} {st:Stmt} {ps:List Str} {f:Addr} {oc:Value} {od an:Option Addr} {osl:Array (Option Value)} {kV doc pm cdv ct:Value} (X:K.In h) (G:h.Ns mainGlobals mg)
    (a:PySem.W.nsIn K mainGlobals x=some (some (.ref f))) (l:K.lookup f=some ⟨oc,od, .func (PySem.W.fnOf x x (cw st) (bo st) (ai st) .none kV doc pm an cdv ct),osl⟩)
    (c:PySem.W.codeIn K cdv x=true) (k:PySem.W.keepIn K (.ref f)=true)
    (b:∀(kV doc pm:Value) (an:Option Addr) (cdv ct:Value) (us:List Value),us.length=ps.length→bindArgs (PySem.W.fnOf x x (cw st) (bo st) (ai st) .none kV doc pm an cdv ct) ⟨us,[]⟩=pure (ps.zip us)):Def K mg x st ps:=
  ⟨f,_,jp l c k,PySem.W.mg_of X G a,(jp (st:=st) l c k).binds b⟩
end L2
namespace Nh
open PySem L2
section
variable {α β:Type} {F:α→β→Prop}
theorem gz:∀{a:List α} {b:List β} {c:List α} {d:List β},Paired F a b→Paired F c d→Paired F (a++c) (b++d)
  | _,_,_,_, .nil,s=>s
  | _,_,_,_, .cons r t,s=> .cons r (gz t s)
theorem oS:∀{a:List α} {b:List β} (n:Nat),Paired F a b→Paired F (a.take n) (b.take n)
  | _,_,0,_=> .nil
  | _,_,_+1, .nil=> .nil
  | _,_,n+1, .cons r t=> .cons r (oS n t)
theorem oT:∀{a:List α} {b:List β} (n:Nat),Paired F a b→Paired F (a.drop n) (b.drop n)
  | _,_,0,r=>r
  | _,_,_+1, .nil=> .nil
  | _,_,n+1, .cons _ t=>oT n t
theorem gX:∀{a:List α} {b:List β},Paired F a b→Paired F a.reverse b.reverse
  | _,_, .nil=> .nil
  | _,_, .cons r t=>by
    rw [List.reverse_cons,List.reverse_cons]
    exact gz (gX t) (.cons r .nil)
theorem rD:∀{a:List α} {b:List β} {i:Nat} {x:α},Paired F a b→a[i]? =some x→∃y,b[i]? =some y∧F x y
  | _,_,_,_, .nil,e=>by simp at e
  | _,_,0,_, .cons r _,e=>by simp at e;subst e;exact ⟨_,rfl,r⟩
  | _,_,i+1,x, .cons _ t,e=>by
    obtain ⟨u,h1,h2⟩:=rD (i:=i) (x:=x) t (by simpa using e)
    exact ⟨u,by simpa using h1,h2⟩
theorem oU:∀{a:List α} {b:List β} {i:Nat} {y:β},Paired F a b→b[i]? =some y→∃x,a[i]? =some x∧F x y
  | _,_,_,_, .nil,e=>by simp at e
  | _,_,0,_, .cons r _,e=>by simp at e;subst e;exact ⟨_,rfl,r⟩
  | _,_,i+1,x, .cons _ t,e=>by
    obtain ⟨u,h1,h2⟩:=oU (i:=i) (y:=x) t (by simpa using e)
    exact ⟨u,by simpa using h1,h2⟩
theorem rE {a:List α} {b:List β} (h:Paired F a b):∀k:Nat,Paired F (List.replicate k a).flatten (List.replicate k b).flatten
  | 0=> .nil
  | k+1=>by
    rw [List.replicate_succ,List.replicate_succ,List.flatten_cons,List.flatten_cons]
    exact gz h (rE h k)
end
abbrev Pc:=Nat×Int
def tv (p:Pc):List V:=[.str ⟨#[p.1]⟩, .int p.2]
def yZ (H:Hp) (v:V) (p:Pc):Prop:=∃t,v= .ref t∧H t=some (.tup (tv p))
abbrev PAll (H:Hp):List V→List Pc→Prop:=Paired (yZ H)
section
variable {H H':Hp} {l:Addr} {xs ys:List V} {c:List Pc}
theorem PAll.same (s:Same H H') (h:PAll H xs c):PAll H' xs c:=Paired.mapP h fun _ _ ⟨t,e,q⟩=>⟨t,e,s _ _ q⟩
theorem PAll.len (h:PAll H xs c):xs.length=c.length:=Paired.length h
end
def Cord (H:Hp) (a:Addr) (c:List Pc):Prop:=∃xs,H a=some (.lst xs)∧PAll H xs c
section
variable {H H':Hp} {a:Addr} {c d:List Pc}
theorem Cord.same (s:Same H H') (h:Cord H a c):Cord H' a c:=let ⟨xs,e,p⟩:=h;⟨xs,s _ _ e,p.same s⟩
end
def aB (p:Pc):PyData:= .tuple [.str ⟨#[p.1]⟩, .int p.2]
def gO (c:List Pc):PyData:= .list (c.map aB)
def NailsOk (c:List Pc):Prop:=∀p∈c,p.1 < 128
theorem kK {K:PySem.W.Frag} {H:Hp}:∀{xs:List V} {c:List Pc},PAll H xs c→DAll K H xs (c.map aB)
  | _,_, .nil=> .nil
  | _,_, .cons ⟨t,e,q⟩ r=>by
    subst e
    exact .cons (.tup (SqT.of q) (.cons (.str _) (.cons (.int _) .nil))) (kK r)
theorem Cord.data {K:PySem.W.Frag} {H:Hp} {a:Addr} {c:List Pc} (h:Cord H a c):DOf K H (.ref a) (gO c):=
  let ⟨_,e,p⟩:=h; .lst (SqL.of e) (kK p)
theorem vf {p:Pc} (h:p.1 < 128):(aB p).canLay0=true:=by
  have:p.1 < 1114112:=by omega
  simp [aB,PyData.canLay0,PyData.canLayAll0,PyData.strOk,this]
theorem mH:∀{c:List Pc},NailsOk c→PyData.canLayAll0 (c.map aB)=true∧PyData.depthAll (c.map aB)≤1
  | [],_=>by simp [PyData.canLayAll0,PyData.depthAll]
  | p::c,h=>by
    have ih:=mH (c:=c) fun q hq=>h q (List.mem_cons_of_mem _ hq)
    have h1:=vf (h p (List.mem_cons_self ..))
    have h2:=ih.2
    simp only [List.map_cons,PyData.canLayAll0,PyData.depthAll,h1,ih.1,Bool.and_self,true_and]
    have h3:(aB p).depth=1:=by simp [aB,PyData.depth,PyData.depthAll]
    omega
theorem iN {c:List Pc} (h:NailsOk c):SeqAt.shaped (gO c)=true:=by
  have q:=mH h
  have q2:=q.2
  unfold SeqAt.shaped
  simp only [gO,PyData.canLay0,PyData.depth,q.1,Bool.true_and]
  exact decide_eq_true (by omega)
theorem rG (p q:Pc):PyData.eqv (aB p) (aB q)=decide (p=q):=by
  obtain ⟨n,a⟩:=p
  obtain ⟨m,b⟩:=q
  simp only [aB,PyData.eqv,PyData.eqvAll,Bool.and_true]
  rw [Bool.eq_iff_iff]
  simp
theorem kL:∀c d:List Pc,PyData.eqvAll (c.map aB) (d.map aB)=decide (c=d)
  | [],[]=>by simp [PyData.eqvAll]
  | [],_::_=>by simp [PyData.eqvAll]
  | _::_,[]=>by simp [PyData.eqvAll]
  | p::c,q::d=>by
    simp only [List.map_cons,PyData.eqvAll,rG,kL c d]
    rw [Bool.eq_iff_iff]
    simp
theorem rH (c d:List Pc):PyData.eqv (gO c) (gO d)=decide (c=d):=by
  simp only [gO,PyData.eqv,kL]
end Nh
namespace PL
open PySem PySem.Spec PyProof.Rows L2 Nh
def y1:cX→PyData
  | .inl i=> .int i
  | .inr x=> .str x
def jr:List Str:=["pieces","cord","made","text"]
def wa:PyData×PyData→Bool
  | (.none, .tuple [.str _])=>true
  | _=>false
abbrev f9 (cn:Str) (kvs:List (PyData×PyData)):PyData:= .dict ((.none, .tuple [.str cn])::kvs)
mutual
inductive Rp (K:PySem.W.Frag) (H:Hp):V→PyData→Prop
  | non:Rp K H .non .none
  | bl (b:Bool):Rp K H (.bl b) (.bool b)
  | int (i:Int):Rp K H (.int i) (.int i)
  | str (x:Str):Rp K H (.str x) (.str x)
  | lst {a:Addr} {xs:List V} {ds:List PyData}:SqL K H a xs→RpA K H xs ds→Rp K H (.ref a) (.list ds)
  | tup {a:Addr} {xs:List V} {ds:List PyData}:SqT K H a xs→RpA K H xs ds→Rp K H (.ref a) (.tuple ds)
  | dct {a:Addr} {us:List (cX×V)} {kvs:List (PyData×PyData)}:Rd H a (.dK us)→RpK K H us kvs→Rp K H (.ref a) (.dict kvs)
  | obj {a C dx:Addr} {cn:Str} {fs:List (Str×V)} {kvs:List (PyData×PyData)}:PySem.W.nsIn K mainGlobals cn=some (some (.ref C))→H a=some (.ins C dx fs)→(∀m∈jr,fs.lookup m=none)→RpN K H fs kvs→Rp K H (.ref a) (.dict ((.none, .tuple [.str cn])::kvs))
inductive RpA (K:PySem.W.Frag) (H:Hp):List V→List PyData→Prop
  | nil:RpA K H [] []
  | cons {x:V} {xs:List V} {d:PyData} {ds:List PyData}:Rp K H x d→RpA K H xs ds→RpA K H (x::xs) (d::ds)
inductive RpK (K:PySem.W.Frag) (H:Hp):List (cX×V)→List (PyData×PyData)→Prop
  | nil:RpK K H [] []
  | cons {k:cX} {x:V} {us:List (cX×V)} {d:PyData} {kvs:List (PyData×PyData)}:Rp K H x d→RpK K H us kvs→RpK K H ((k,x)::us) ((y1 k,d)::kvs)
inductive RpN (K:PySem.W.Frag) (H:Hp):List (Str×V)→List (PyData×PyData)→Prop
  | nil {fs:List (Str×V)}:RpN K H fs []
  | cons {fs:List (Str×V)} {f:Str} {x:V} {d:PyData} {kvs:List (PyData×PyData)}:fs.lookup f=some x→Rp K H x d→RpN K H fs kvs→RpN K H fs ((.str f,d)::kvs)
end
mutual
def a8:PyData→Bool
  | .none=>true
  | .bool _=>true
  | .int _=>true
  | .str _=>true
  | .list _=>false
  | .tuple xs=>aU xs
  | .dict kvs=>rJ kvs
def aU:List PyData→Bool
  | []=>true
  | d::ds=>a8 d&&aU ds
def rK:PyData×PyData→Bool
  | (_,d)=>a8 d
def mI:List (PyData×PyData)→Bool
  | []=>true
  | p::r=>rK p&&mI r
def rJ:List (PyData×PyData)→Bool
  | []=>false
  | p::r=>wa p&&mI r
end
def vg:HO→Bool
  | .tup _=>true
  | .frz _ _=>true
  | .ins _ _ _=>true
  | _=>false
def tups (H:Hp):Hp:=fun b=>(H b).filter vg
theorem io (H:Hp):Same (tups H) H:=fun b o h=>(Option.filter_eq_some_iff.mp h).1
theorem dP {H:Hp} {b:Addr} {o:HO} (h:H b=some o) (c:vg o=true):tups H b=some o:=Option.filter_eq_some_iff.mpr ⟨h,c⟩
theorem jt {H:Hp} {l:Addr} {xs ys:List V} (h:H l=some (.lst xs)):tups (upd H l (.lst ys))=tups H:=by
  funext b
  unfold tups
  by_cases e:b=l
  · subst e
    rw [az,h]
    rfl
  · rw [au e]
section
variable {K:PySem.W.Frag} {H H':Hp}
theorem RpK.hot {us:List (cX×V)} {kvs:List (PyData×PyData)} (h:RpK K H us kvs):a8 (.dict kvs)=false:=by
  cases h with
  | nil=>rfl
  | @cons k x us d kvs a b=>cases k <;> rfl
theorem rL {a:Addr} {xs:List V} (h:SqT K H a xs):SqT K (tups H) a xs:=by
  rcases h with (h | ⟨o,h⟩) | h
  · exact .inl (.inl (dP h rfl))
  · exact .inl (.inr ⟨o,dP h rfl⟩)
  · exact .inr h
theorem up {a:Addr} {u:HO} (s:Same H H') (h:Rd H a u):Rd H' a u:=by
  rcases h with h | ⟨o,h⟩
  · exact .inl (s _ _ h)
  · exact .inr ⟨o,s _ _ h⟩
mutual
theorem Rp.same (s:Same H H'):∀{v:V} {d:PyData},Rp K H v d→Rp K H' v d
  | _,_, .non=> .non
  | _,_, .bl b=> .bl b
  | _,_, .int i=> .int i
  | _,_, .str x=> .str x
  | _,_, .lst h r=> .lst (s.seq h) (RpA.same s r)
  | _,_, .tup h r=> .tup (s.tup h) (RpA.same s r)
  | _,_, .dct h r=> .dct (up s h) (RpK.same s r)
  | _,_, .obj c h n r=> .obj c (s _ _ h) n (RpN.same s r)
theorem RpA.same (s:Same H H'):∀{v:List V} {d:List PyData},RpA K H v d→RpA K H' v d
  | _,_, .nil=> .nil
  | _,_, .cons h r=> .cons (Rp.same s h) (RpA.same s r)
theorem RpK.same (s:Same H H'):∀{v:List (cX×V)} {d:List (PyData×PyData)},RpK K H v d→RpK K H' v d
  | _,_, .nil=> .nil
  | _,_, .cons h r=> .cons (Rp.same s h) (RpK.same s r)
theorem RpN.same (s:Same H H'):∀{v:List (Str×V)} {d:List (PyData×PyData)},RpN K H v d→RpN K H' v d
  | _,_, .nil=> .nil
  | _,_, .cons l h r=> .cons l (Rp.same s h) (RpN.same s r)
end
mutual
theorem Rp.cold:∀{v:V} {d:PyData},Rp K H v d→a8 d=true→Rp K (tups H) v d
  | _,_, .non,_=> .non
  | _,_, .bl b,_=> .bl b
  | _,_, .int i,_=> .int i
  | _,_, .str x,_=> .str x
  | _,_, .lst h r,e=>by simp [a8] at e
  | _,_, .dct h r,e=>by rw [r.hot] at e;cases e
  | _,_, .obj c h n r,e=> .obj c (dP h rfl) n (RpN.cold r (by simpa [a8,rJ,wa] using e))
  | _,_, .tup h r,e=> .tup (rL h) (RpA.cold r (by simpa [a8] using e))
theorem RpA.cold:∀{v:List V} {d:List PyData},RpA K H v d→aU d=true→RpA K (tups H) v d
  | _,_, .nil,_=> .nil
  | _,_, .cons h r,e=>by
    simp only [aU,Bool.and_eq_true] at e
    exact .cons (Rp.cold h e.1) (RpA.cold r e.2)
theorem RpN.cold:∀{v:List (Str×V)} {d:List (PyData×PyData)},RpN K H v d→mI d=true→RpN K (tups H) v d
  | _,_, .nil,_=> .nil
  | _,_, .cons l h r,e=>by
    simp only [mI,rK,Bool.and_eq_true] at e
    exact .cons l (Rp.cold h e.1) (RpN.cold r e.2)
end
mutual
theorem Rp.dof':∀{v:V} {d:PyData},Rp K H v d→d.canLay0=true→DOf K H v d
  | _,_, .non,_=> .non
  | _,_, .bl b,_=> .bl b
  | _,_, .int i,_=> .int i
  | _,_, .str x,_=> .str x
  | _,_, .lst h r,e=> .lst h (RpA.dof' r (by simpa [PyData.canLay0] using e))
  | _,_, .tup h r,e=> .tup h (RpA.dof' r (by simpa [PyData.canLay0] using e))
  | _,_, .dct h r,e=>by simp [PyData.canLay0] at e
  | _,_, .obj c h n r,e=>by simp [PyData.canLay0] at e
theorem RpA.dof':∀{v:List V} {d:List PyData},RpA K H v d→PyData.canLayAll0 d=true→DAll K H v d
  | _,_, .nil,_=> .nil
  | _,_, .cons h r,e=>by
    simp only [PyData.canLayAll0,Bool.and_eq_true] at e
    exact .cons (Rp.dof' h e.1) (RpA.dof' r e.2)
end
theorem Rp.dof {v:V} {d:PyData} (h:Rp K H v d) (e:SeqAt.shaped d=true):DOf K H v d:=h.dof' (SeqAt.canLay_of_shaped e)
theorem RpA.pr:∀{vs:List V} {ds:List PyData},RpA K H vs ds→Paired (Rp K H) vs ds
  | _,_, .nil=> .nil
  | _,_, .cons h r=> .cons h (RpA.pr r)
theorem RpA.of {vs:List V} {ds:List PyData} (h:Paired (Rp K H) vs ds):RpA K H vs ds:=by
  induction h with
  | nil=>exact .nil
  | cons a _ b=>exact .cons a b
theorem RpA.len {vs:List V} {ds:List PyData} (h:RpA K H vs ds):vs.length=ds.length:=Paired.length h.pr
theorem RpA.append {vs us:List V} {ds es:List PyData} (h:RpA K H vs ds) (k:RpA K H us es):RpA K H (vs++us) (ds++es):= .of (gz h.pr k.pr)
theorem RpA.take {vs:List V} {ds:List PyData} (n:Nat) (h:RpA K H vs ds):RpA K H (vs.take n) (ds.take n):= .of (oS n h.pr)
theorem RpA.drop {vs:List V} {ds:List PyData} (n:Nat) (h:RpA K H vs ds):RpA K H (vs.drop n) (ds.drop n):= .of (oT n h.pr)
theorem RpA.rev {vs:List V} {ds:List PyData} (h:RpA K H vs ds):RpA K H vs.reverse ds.reverse:= .of (gX h.pr)
theorem RpA.rep {vs:List V} {ds:List PyData} (n:Nat) (h:RpA K H vs ds):RpA K H (List.replicate n vs).flatten (List.replicate n ds).flatten:= .of (rE h.pr n)
theorem RpA.get {vs:List V} {ds:List PyData} {i:Nat} {d:PyData} (h:RpA K H vs ds) (e:ds[i]? =some d):∃v,vs[i]? =some v∧Rp K H v d:=oU h.pr e
theorem RpA.getV {vs:List V} {ds:List PyData} {i:Nat} {v:V} (h:RpA K H vs ds) (e:vs[i]? =some v):∃d,ds[i]? =some d∧Rp K H v d:=rD h.pr e
theorem RpA.set:∀{vs:List V} {ds:List PyData} {v:V} {d:PyData} (i:Nat),RpA K H vs ds→Rp K H v d→RpA K H (vs.set i v) (ds.set i d)
  | _,_,_,_,_, .nil,_=> .nil
  | _,_,_,_,0, .cons _ r,h=> .cons h r
  | _,_,_,_,i+1, .cons q r,h=> .cons q (RpA.set i r h)
theorem RpA.dropLast {vs:List V} {ds:List PyData} (h:RpA K H vs ds):RpA K H vs.dropLast ds.dropLast:=by
  rw [List.dropLast_eq_take,List.dropLast_eq_take,h.len]
  exact h.take _
theorem RpA.snoc {vs:List V} {ds:List PyData} {v:V} {d:PyData} (h:RpA K H vs ds) (k:Rp K H v d):RpA K H (vs++[v]) (ds++[d]):=h.append (.cons k .nil)
end
inductive Pt where
  | fl (d:PyData) | ol (ds:List PyData)
def Pt.val:Pt→PyData
  | .fl d=>d
  | .ol ds=> .list ds
inductive Sl where
  /-- nothing is known -/
  | no
  /-- never written again -/
  | sh (d:PyData)
  /-- a list of one's own -/
  | ow (ds:List PyData)
  /-- a dict of one's own,its values lists of one's own -/
  | od (kvs:List (cX×List PyData))
  /-- a dict of one's own,its values a8 -/
  | oi (kvs:List (cX×PyData))
  /-- a tuple with lists of one's own -/
  | tx (ps:List Pt)
  /-- (a part of an expression) the value of a name -/
  | al (i:Nat)
  /-- (a part of an expression) as it stands just now -/
  | br (d:PyData)
def PtsOk (K:PySem.W.Frag) (F H:Hp):List V→List Pt→List Addr→Prop
  | [],[],A=>A=[]
  | v::vs, .fl d::ps,A=>Rp K F v d∧PtsOk K F H vs ps A
  | v::vs, .ol ds::ps,A=>∃l us A',v= .ref l∧A=l::A'∧H l=some (.lst us)∧RpA K F us ds∧PtsOk K F H vs ps A'
  | _,_,_=>False
def KvOk (K:PySem.W.Frag) (F:Hp):List (cX×V)→List (cX×PyData)→Prop:=Paired fun p q=>p.1=q.1∧Rp K F p.2 q.2
def DlOk (K:PySem.W.Frag) (F H:Hp):List (cX×V)→List (cX×List PyData)→List Addr→Prop
  | [],[],A=>A=[]
  | p::us,q::kvs,A=>∃l vs A',p=(q.1, .ref l)∧A=l::A'∧H l=some (.lst vs)∧RpA K F vs q.2∧DlOk K F H us kvs A'
  | _,_,_=>False
def SlOk (K:PySem.W.Frag) (F H:Hp) (σ:L2.St) (o:Option V):Sl→List Addr→Prop
  | .no,A=>A=[]
  | .sh d,A=>A=[]∧∃v,o=some v∧Rp K F v d
  | .ow ds,A=>∃l vs,o=some (.ref l)∧A=[l]∧H l=some (.lst vs)∧RpA K F vs ds
  | .od kvs,A=>∃l us A',o=some (.ref l)∧A=l::A'∧H l=some (.dK us)∧DlOk K F H us kvs A'
  | .oi kvs,A=>∃l us,o=some (.ref l)∧A=[l]∧H l=some (.dK us)∧KvOk K F us kvs
  | .tx ps,A=>∃t vs,o=some (.ref t)∧F t=some (.tup vs)∧PtsOk K F H vs ps A
  | .al i,A=>A=[]∧∃v,o=some v∧σ[i]? =some (some v)
  | .br d,A=>A=[]∧∃v,o=some v∧Rp K H v d
def Sl.isBr:Sl→Bool
  | .br _=>true
  | _=>false
def Sl.isAl:Sl→Bool
  | .al _=>true
  | .br _=>true
  | _=>false
section
variable {K:PySem.W.Frag} {F F' H H':Hp} {σ σ':L2.St}
theorem PtsOk.stay (s:Same F F'):∀{vs:List V} {ps:List Pt} {A:List Addr},(∀b∈A,H' b=H b)→PtsOk K F H vs ps A→PtsOk K F' H' vs ps A
  | [],[],A,_,h=>h
  | v::vs, .fl d::ps,A,e,h=>⟨h.1.same s,PtsOk.stay s e h.2⟩
  | v::vs, .ol ds::ps,A,e,h=>by
    obtain ⟨l,us,A',rfl,rfl,hl,hr,q⟩:=h
    exact ⟨l,us,A',rfl,rfl,(e l (List.mem_cons_self ..)).trans hl,hr.same s,q.stay s fun b hb=>e b (List.mem_cons_of_mem _ hb)⟩
  | [],_::_,_,_,h=>False.elim h
  | _::_,[],_,_,h=>False.elim h
theorem DlOk.stay (s:Same F F'):∀{us:List (cX×V)} {kvs:List (cX×List PyData)} {A:List Addr},(∀b∈A,H' b=H b)→DlOk K F H us kvs A→DlOk K F' H' us kvs A
  | [],[],A,_,h=>h
  | p::us,q::kvs,A,e,h=>by
    obtain ⟨l,vs,A',rfl,rfl,hl,hr,k⟩:=h
    exact ⟨l,vs,A',rfl,rfl,(e l (List.mem_cons_self ..)).trans hl,hr.same s,k.stay s fun b hb=>e b (List.mem_cons_of_mem _ hb)⟩
  | [],_::_,_,_,h=>False.elim h
  | _::_,[],_,_,h=>False.elim h
theorem DlOk.some:∀{us:List (cX×V)} {kvs:List (cX×List PyData)} {A:List Addr},DlOk K F H us kvs A→∀a∈A,∃vs,H a=some (.lst vs)
  | [],[],A,h,a,ha=>by rw [show A=[] from h] at ha;cases ha
  | p::us,q::kvs,A,h,a,ha=>by
    obtain ⟨l,vs,A',rfl,rfl,hl,hr,k⟩:=h
    rcases List.mem_cons.mp ha with e | e
    · subst e;exact ⟨vs,hl⟩
    · exact k.some a e
  | [],_::_,_,h,_,_=>False.elim h
  | _::_,[],_,h,_,_=>False.elim h
theorem PtsOk.some:∀{vs:List V} {ps:List Pt} {A:List Addr},PtsOk K F H vs ps A→∀a∈A,∃us,H a=some (.lst us)
  | [],[],A,h,a,ha=>by rw [show A=[] from h] at ha;cases ha
  | v::vs, .fl d::ps,A,h,a,ha=>PtsOk.some h.2 a ha
  | v::vs, .ol ds::ps,A,h,a,ha=>by
    obtain ⟨l,us,A',rfl,rfl,hl,hr,q⟩:=h
    rcases List.mem_cons.mp ha with e | e
    · subst e;exact ⟨us,hl⟩
    · exact q.some a e
  | [],_::_,_,h,_,_=>False.elim h
  | _::_,[],_,h,_,_=>False.elim h
theorem PtsOk.rp (s:Same F H):∀{vs:List V} {ps:List Pt} {A:List Addr},PtsOk K F H vs ps A→RpA K H vs (ps.map Pt.val)
  | [],[],A,_=> .nil
  | v::vs, .fl d::ps,A,h=> .cons (h.1.same s) (PtsOk.rp s h.2)
  | v::vs, .ol ds::ps,A,h=>by
    obtain ⟨l,us,A',rfl,rfl,hl,hr,q⟩:=h
    exact .cons (.lst (SqL.of hl) (hr.same s)) (q.rp s)
  | [],_::_,_,h=>False.elim h
  | _::_,[],_,h=>False.elim h
theorem KvOk.same (s:Same F F') {us:List (cX×V)} {kvs:List (cX×PyData)} (h:KvOk K F us kvs):KvOk K F' us kvs:=by
  induction h with
  | nil=>exact .nil
  | cons a _ b=>exact .cons ⟨a.1,a.2.same s⟩ b
theorem SlOk.stay {o:Option V} {s:Sl} {A:List Addr} (hF:Same F F') (e:∀b∈A,H' b=H b) (hb:s.isBr=true→Same H H') (h:SlOk K F H σ o s A):SlOk K F' H' σ o s A:=by
  cases s with
  | no=>exact h
  | sh d=>obtain ⟨rfl,v,rfl,r⟩:=h;exact ⟨rfl,v,rfl,r.same hF⟩
  | ow ds=>obtain ⟨l,vs,rfl,rfl,hl,r⟩:=h;exact ⟨l,vs,rfl,rfl,(e l (by simp)).trans hl,r.same hF⟩
  | od kvs=>obtain ⟨l,us,A',rfl,rfl,hl,r⟩:=h;exact ⟨l,us,A',rfl,rfl,(e l (by simp)).trans hl,r.stay hF fun b hb=>e b (List.mem_cons_of_mem _ hb)⟩
  | oi kvs=>obtain ⟨l,us,rfl,rfl,hl,r⟩:=h;exact ⟨l,us,rfl,rfl,(e l (by simp)).trans hl,r.same hF⟩
  | tx ps=>obtain ⟨t,vs,rfl,ht,r⟩:=h;exact ⟨t,vs,rfl,hF _ _ ht,r.stay hF e⟩
  | al i=>exact h
  | br d=>obtain ⟨rfl,v,rfl,r⟩:=h;exact ⟨rfl,v,rfl,r.same (hb rfl)⟩
theorem SlOk.mut {o:Option V} {s:Sl} {A:List Addr} (h:SlOk K F H σ o s A):∀a∈A,(∃us,H a=some (.lst us))∨∃us,H a=some (.dK us):=by
  cases s with
  | no=>intro a ha;rw [show A=[] from h] at ha;cases ha
  | sh d=>obtain ⟨rfl,_⟩:=h;intro a ha;cases ha
  | ow ds=>obtain ⟨l,vs,rfl,rfl,hl,r⟩:=h;intro a ha;rw [List.mem_singleton.mp ha];exact .inl ⟨_,hl⟩
  | od kvs=>
    obtain ⟨l,vs,A',rfl,rfl,hl,r⟩:=h
    intro a ha
    rcases List.mem_cons.mp ha with z | z
    · rw [z];exact .inr ⟨_,hl⟩
    · exact .inl (r.some a z)
  | oi kvs=>obtain ⟨l,us,rfl,rfl,hl,r⟩:=h;intro a ha;rw [List.mem_singleton.mp ha];exact .inr ⟨_,hl⟩
  | tx ps=>obtain ⟨t,vs,rfl,ht,r⟩:=h;exact fun a ha=> .inl (r.some a ha)
  | al i=>obtain ⟨rfl,_⟩:=h;intro a ha;cases ha
  | br d=>obtain ⟨rfl,_⟩:=h;intro a ha;cases ha
end
inductive SAll (P:Option V→Sl→List Addr→Prop):List (Option V)→List Sl→List Addr→Prop
  | nil:SAll P [] [] []
  | cons {o:Option V} {s:Sl} {A:List Addr} {os:List (Option V)} {ss:List Sl} {B:List Addr}:P o s A→SAll P os ss B→SAll P (o::os) (s::ss) (A++B)
section
variable {P P':Option V→Sl→List Addr→Prop}
theorem SAll.len {os:List (Option V)} {ss:List Sl} {A:List Addr} (h:SAll P os ss A):os.length=ss.length:=by
  induction h with
  | nil=>rfl
  | cons _ _ b=>exact congrArg (· +1) b
theorem SAll.mono {os:List (Option V)} {ss:List Sl} {A:List Addr} (h:SAll P os ss A):(∀o s B,s∈ss→(∀b∈B,b∈A)→P o s B→P' o s B)→SAll P' os ss A:=by
  induction h with
  | nil=>exact fun _=> .nil
  | cons h _ r=>exact fun f=> .cons (f _ _ _ (List.mem_cons_self ..) (fun b hb=>List.mem_append_left _ hb) h) (r fun o s B hs hB q=>f o s B (List.mem_cons_of_mem _ hs) (fun b hb=>List.mem_append_right _ (hB b hb)) q)
theorem SAll.all {R:Addr→Prop} (hR:∀o s B,P o s B→∀b∈B,R b) {os:List (Option V)} {ss:List Sl} {A:List Addr} (h:SAll P os ss A):∀a∈A,R a:=by
  induction h with
  | nil=>exact fun _ ha=>nomatch ha
  | cons h _ r=>exact fun a ha=>(List.mem_append.mp ha).elim (hR _ _ _ h a) (r a)
theorem SAll.at:∀{os:List (Option V)} {ss:List Sl} {A:List Addr} {k:Nat} {s:Sl},SAll P os ss A→ss[k]? =some s→
    ∃o A0 A1 A2,A=A0++(A1++A2)∧os[k]? =some o∧P o s A1∧∀(P':Option V→Sl→List Addr→Prop) (o':Option V) (s':Sl) (A1':List Addr),P' o' s' A1'→
      (∀o s B,s∈ss→(∀b∈B,b∈A0∨b∈A2)→P o s B→P' o s B)→SAll P' (os.set k o') (ss.set k s') (A0++(A1'++A2))
  | _,_,_,_,_, .nil,e=>by simp at e
  | _,_,_,0,s, .cons (o:=o) (A:=A) (B:=B) h r,e=>by
    simp at e;subst e
    refine ⟨o,[],A,B,by simp,rfl,h,fun P' o' s' A1' h' f=>?_⟩
    have z:SAll P' _ _ (A1'++B):= .cons h' (r.mono (P':=P') fun o s B hs hB q=>f o s B (List.mem_cons_of_mem _ hs) (fun b hb=> .inr (hB b hb)) q)
    exact z
  | _,_,_,k+1,s, .cons (o:=o) (A:=A) (B:=B) h r,e=>by
    obtain ⟨o2,A0,A1,A2,eA,eo,hp,f⟩:=r.at (k:=k) (s:=s) (by simpa using e)
    subst eA
    refine ⟨o2,A++A0,A1,A2,by simp,by simpa using eo,hp,fun P' o' s' A1' h' g=>?_⟩
    have z:=f P' o' s' A1' h' fun o s B hs hB q=>g o s B (List.mem_cons_of_mem _ hs) (fun b hb=>(hB b hb).imp (fun x=>List.mem_append_right _ x) id) q
    rw [List.append_assoc]
    exact .cons (g _ _ _ (List.mem_cons_self ..) (fun b hb=> .inl (List.mem_append_left _ hb)) h) z
end
end PL
namespace PL
open PySem L2 Nh
abbrev Sg:=L2.St
structure FrF (K:PySem.W.Frag) (B F:Hp) (A:List Addr) (σ:Sg) (H:Hp) (E:List Sl) (xs:List V) (Xs:List Sl):Prop where
  bf:Same B F
  fh:Same F H
  tf:Same (tups H) F
  sl:SAll (SlOk K F H σ) (xs.map some++σ) (Xs++E) A
  nd:A.Nodup
  fr:∀a∈A,F a=none
  len:xs.length=Xs.length
  pl:∀s∈E,s.isAl=false
def Frm (K:PySem.W.Frag) (B:Hp) (σ:Sg) (H:Hp) (E:List Sl) (xs:List V) (Xs:List Sl):Prop:=∃F A,FrF K B F A σ H E xs Xs
def Sl.val:Sl→Option PyData
  | .sh d=>some d
  | .ow ds=>some (.list ds)
  | .tx ps=>some (.tuple (ps.map Pt.val))
  | .br d=>some d
  | _=>none
def look (E:List Sl):Sl→Option PyData
  | .al i=>(E[i]?).bind Sl.val
  | s=>s.val
def aV:Sl→Bool
  | .br _=>true
  | .tx _=>true
  | _=>false
def hot (E:List Sl):Sl→Bool
  | .al i=>(E[i]?).any aV
  | s=>aV s
def RpF (K:PySem.W.Frag) (F H:Hp) (v:V):PyData→Prop
  | .list ds=>∃a vs,v= .ref a∧SqL K H a vs∧RpA K F vs ds
  | d=>Rp K F v d
def mJ (F H:Hp) (A:List Addr):Hp:=fun b=>if b∈A then H b else F b
theorem lx {F H:Hp} {A:List Addr} {b:Addr} (h:b∈A):mJ F H A b=H b:=if_pos h
theorem ju {F H:Hp} {A:List Addr} {b:Addr} (h:b∉A):mJ F H A b=F b:=if_neg h
section
variable {K:PySem.W.Frag} {B F:Hp} {A:List Addr} {σ:Sg} {H:Hp} {E:List Sl} {xs:List V} {Xs:List Sl} {v:V} {s:Sl} {d:PyData}
theorem RpF.of (h:Rp K F v d) (s:Same F H):RpF K F H v d:=by
  cases h with
  | lst h r=>exact ⟨_,_,rfl,s.seq h,r⟩
  | non=>exact .non
  | bl b=>exact .bl b
  | int i=>exact .int i
  | str x=>exact .str x
  | tup h r=>exact .tup h r
  | dct h r=>exact .dct h r
  | obj c h n r=>exact .obj c h n r
theorem SlOk.val {o:Option V} {A1:List Addr} (h:SlOk K F H σ o s A1) (hF:Same F H) (e:s.val=some d):∃v,o=some v∧Rp K H v d∧(aV s=false→RpF K F H v d):=by
  cases s with
  | no=>cases e
  | sh d'=>
    obtain ⟨rfl,v,rfl,r⟩:=h
    cases e
    exact ⟨v,rfl,r.same hF,fun _=>RpF.of r hF⟩
  | ow ds=>
    obtain ⟨l,vs,rfl,rfl,hl,r⟩:=h
    cases e
    exact ⟨_,rfl, .lst (SqL.of hl) (r.same hF),fun _=>⟨_,_,rfl,SqL.of hl,r⟩⟩
  | od kvs=>cases e
  | oi kvs=>cases e
  | tx ps=>
    obtain ⟨t,vs,rfl,ht,r⟩:=h
    cases e
    exact ⟨_,rfl, .tup (SqT.of (hF _ _ ht)) (r.rp hF),fun z=>by cases z⟩
  | al i=>cases e
  | br d'=>
    obtain ⟨rfl,v,rfl,r⟩:=h
    cases e
    exact ⟨v,rfl,r,fun z=>by cases z⟩
theorem FrF.slen (h:FrF K B F A σ H E xs Xs):σ.length=E.length:=by
  have e:=h.sl.len
  have:=h.len
  simp only [List.length_append,List.length_map] at e
  omega
theorem FrF.var {i:Nat} (h:FrF K B F A σ H E xs Xs) (e:E[i]? =some s):∃o A1,σ[i]? =some o∧SlOk K F H σ o s A1:=by
  obtain ⟨o,A0,A1,A2,eA,eo,hp,_⟩:=h.sl.at (k:=Xs.length+i) (s:=s) (by rw [List.getElem?_append_right (by omega)];simpa using e)
  rw [List.getElem?_append_right (by rw [List.length_map,h.len];omega),List.length_map,h.len,Nat.add_sub_cancel_left] at eo
  exact ⟨o,A1,eo,hp⟩
theorem FrF.ext {k:Nat} (h:FrF K B F A σ H E xs Xs) (e:Xs[k]? =some s):∃v A1,xs[k]? =some v∧SlOk K F H σ (some v) s A1:=by
  have hk:k < Xs.length:=(List.getElem?_eq_some_iff.mp e).1
  obtain ⟨o,A0,A1,A2,eA,eo,hp,_⟩:=h.sl.at (k:=k) (s:=s) (by rw [List.getElem?_append_left hk];exact e)
  rw [List.getElem?_append_left (by rw [List.length_map,h.len];omega),List.getElem?_map] at eo
  cases q:xs[k]? with
  | none=>rw [q] at eo;cases eo
  | some v=>rw [q] at eo;cases eo;exact ⟨v,A1,rfl,hp⟩
theorem FrF.look {k:Nat} (h:FrF K B F A σ H E xs Xs) (e:Xs[k]? =some s) (q:look E s=some d):∃v,xs[k]? =some v∧Rp K H v d∧(hot E s=false→RpF K F H v d):=by
  obtain ⟨v,A1,ev,hs⟩:=h.ext e
  cases s with
  | al i=>
    obtain ⟨rfl,w,ew,hw⟩:=hs
    cases ew
    cases ei:E[i]? with
    | none=>simp [PL.look,ei] at q
    | some t=>
      obtain ⟨o,A2,eo,ht⟩:=h.var ei
      rw [hw] at eo
      cases eo
      obtain ⟨v',e',r,c⟩:=ht.val h.fh (d:=d) (by simpa [PL.look,ei] using q)
      cases e'
      exact ⟨v,ev,r,fun z=>c (by simpa [hot,ei] using z)⟩
  | no=>cases q
  | od kvs=>cases q
  | oi kvs=>cases q
  | sh d'=>obtain ⟨v',e',r,c⟩:=hs.val h.fh q;cases e';exact ⟨v,ev,r,c⟩
  | ow ds=>obtain ⟨v',e',r,c⟩:=hs.val h.fh q;cases e';exact ⟨v,ev,r,c⟩
  | tx ps=>obtain ⟨v',e',r,c⟩:=hs.val h.fh q;cases e';exact ⟨v,ev,r,c⟩
  | br d'=>obtain ⟨v',e',r,c⟩:=hs.val h.fh q;cases e';exact ⟨v,ev,r,c⟩
theorem FrF.look0 (h:FrF K B F A σ H E (v::xs) (s::Xs)) (q:PL.look E s=some d):Rp K H v d∧(hot E s=false→RpF K F H v d):=by
  obtain ⟨v',e,r⟩:=h.look (k:=0) rfl q
  cases e
  exact r
theorem FrF.look1 {w:V} {t:Sl} (h:FrF K B F A σ H E (w::v::xs) (t::s::Xs)) (q:PL.look E s=some d):Rp K H v d∧(hot E s=false→RpF K F H v d):=by
  obtain ⟨v',e,r⟩:=h.look (k:=1) rfl q
  cases e
  exact r
theorem FrF.mutA (h:FrF K B F A σ H E xs Xs):∀a∈A,(∃us,H a=some (.lst us))∨∃us,H a=some (.dK us):=
  SAll.all (R:=fun a=>(∃us,H a=some (.lst us))∨∃us,H a=some (.dK us)) (fun _ _ _ q=>q.mut) h.sl
theorem FrF.newA {p:Addr} (h:FrF K B F A σ H E xs Xs) (hp:H p=none):p∉A:=fun hm=>by
  rcases h.mutA p hm with ⟨_,z⟩ | ⟨_,z⟩ <;> rw [hp] at z <;> cases z
theorem FrF.cold {u:V} {e:PyData} (h:FrF K B F A σ H E xs Xs) (r:Rp K H u e) (f:a8 e=true):Rp K F u e:=(r.cold f).same h.tf
theorem FrF.coldA {us:List V} {es:List PyData} (h:FrF K B F A σ H E xs Xs) (r:RpA K H us es) (f:aU es=true):RpA K F us es:=(r.cold f).same h.tf
theorem FrF.push (h:FrF K B F A σ H E xs Xs) (q:SlOk K F H σ (some v) s []):FrF K B F A σ H E (v::xs) (s::Xs):=
  ⟨h.bf,h.fh,h.tf, .cons (A:=[]) q h.sl,h.nd,h.fr,by simp [h.len],h.pl⟩
theorem FrF.pop (h:FrF K B F A σ H E (v::xs) (s::Xs)):∃A',FrF K B F A' σ H E xs Xs:=by
  obtain ⟨bf,fh,tf,sl,nd,fr,len,pl⟩:=h
  generalize hT:List.map some (v::xs)++σ=T at sl
  generalize hS:(s::Xs)++E=S at sl
  cases sl with
  | nil=>cases hS
  | cons q r=>
    injection hT with _ hT
    injection hS with _ hS
    subst hT hS
    exact ⟨_,bf,fh,tf,r,(List.nodup_append.mp nd).2.1,fun a ha=>fr a (List.mem_append_right _ ha),by simpa using len,pl⟩
theorem FrF.grow {H':Hp} (h:FrF K B F A σ H E xs Xs) (g:Same H H'):FrF K B (fun b=>if b∈A then none else H' b) A σ H' E xs Xs:=by
  have nF:∀b o,F b=some o→b∉A:=fun b o e hb=>by rw [h.fr b hb] at e;cases e
  have FF:Same F (fun b=>if b∈A then none else H' b):=fun b o e=>by
    show (if b∈A then none else H' b)=some o
    rw [if_neg (nF b o e)]
    exact g _ _ (h.fh _ _ e)
  have hA:∀b∈A,H' b=H b:=fun b hb=>by
    rcases h.mutA b hb with ⟨_,z⟩ | ⟨_,z⟩ <;> rw [z,g _ _ z]
  refine ⟨h.bf.trans FF,fun b o e=>?_,fun b o e=>?_,h.sl.mono fun o s C _ hC q=>q.stay FF (fun b hb=>hA b (hC b hb)) fun _=>g,h.nd,fun a ha=>if_pos ha,h.len,h.pl⟩
  · by_cases hb:b∈A
    · rw [if_pos hb] at e;cases e
    · rw [if_neg hb] at e;exact e
  · obtain ⟨e1,e2⟩:=Option.filter_eq_some_iff.mp e
    show (if b∈A then none else H' b)=some o
    by_cases hb:b∈A
    · rw [hA b hb] at e1
      rcases h.mutA b hb with ⟨_,z⟩ | ⟨_,z⟩ <;> rw [z] at e1 <;> cases e1 <;> cases e2
    · rw [if_neg hb];exact e1
theorem FrF.newl {p:Addr} {vs:List V} {ds:List PyData} (h:FrF K B F A σ H E xs Xs) (r:RpA K F vs ds) (hp:H p=none):FrF K B F (p::A) σ (upd H p (.lst vs)) E (.ref p::xs) (.ow ds::Xs):=by
  have g:Same H (upd H p (.lst vs)):=ft hp _
  have nA:=h.newA hp
  refine ⟨h.bf,h.fh.trans g,fun b o e=>?_, .cons (A:=[p]) ⟨p,vs,rfl,rfl,az,r⟩ (h.sl.mono fun o s C _ hC q=>q.stay (Same.refl _) (fun b hb=>au fun z=>nA (z▸hC b hb)) fun _=>g),List.nodup_cons.mpr ⟨nA,h.nd⟩,fun a ha=>?_,by simp [h.len],h.pl⟩
  · obtain ⟨e1,e2⟩:=Option.filter_eq_some_iff.mp e
    by_cases hb:b=p
    · subst hb;rw [az] at e1;cases e1;cases e2
    · rw [au hb] at e1;exact h.tf b o (dP e1 e2)
  · rcases List.mem_cons.mp ha with z | z
    · subst z;exact h.fh.free hp
    · exact h.fr a z
theorem FrF.newt {p:Addr} {vs:List V} {ds:List PyData} (h:FrF K B F A σ H E xs Xs) (r:RpA K F vs ds) (hp:H p=none):FrF K B (upd F p (.tup vs)) A σ (upd H p (.tup vs)) E (.ref p::xs) (.sh (.tuple ds)::Xs):=by
  have g:Same H (upd H p (.tup vs)):=ft hp _
  have nA:=h.newA hp
  have gF:Same F (upd F p (.tup vs)):=ft (h.fh.free hp) _
  refine ⟨h.bf.trans gF,fun b o e=>?_,fun b o e=>?_, .cons (A:=[]) ⟨rfl,_,rfl, .tup (.inl (.inl az)) (r.same gF)⟩ (h.sl.mono fun o s C _ hC q=>q.stay gF (fun b hb=>au fun z=>nA (z▸hC b hb)) fun _=>g),h.nd,fun a ha=>?_,by simp [h.len],h.pl⟩
  · by_cases hb:b=p
    · subst hb;rw [az] at e ⊢;exact e
    · rw [au hb] at e ⊢;exact h.fh _ _ e
  · obtain ⟨e1,e2⟩:=Option.filter_eq_some_iff.mp e
    by_cases hb:b=p
    · subst hb;rw [az] at e1 ⊢;exact e1
    · rw [au hb] at e1 ⊢;exact h.tf b o (dP e1 e2)
  · have ne:a≠p:=fun z=>nA (z▸ha)
    rw [au ne];exact h.fr a ha
theorem FrF.mut {i:Nat} {ds:List PyData} (h:FrF K B F A σ H E xs Xs) (e:E[i]? =some (.ow ds)) (c:∀s∈Xs,s.isBr=false):
    ∃l vs,σ[i]? =some (some (.ref l))∧H l=some (.lst vs)∧RpA K F vs ds∧∀vs' ds',RpA K F vs' ds'→FrF K B F A σ (upd H l (.lst vs')) (E.set i (.ow ds')) xs Xs:=by
  obtain ⟨o,A0,A1,A2,eA,eo,hp,put⟩:=h.sl.at (k:=Xs.length+i) (s:= .ow ds) (by rw [List.getElem?_append_right (by omega)];simpa using e)
  rw [List.getElem?_append_right (by rw [List.length_map,h.len];omega),List.length_map,h.len,Nat.add_sub_cancel_left] at eo
  obtain ⟨l,vs,rfl,rfl,hl,r⟩:=hp
  refine ⟨l,vs,eo,hl,r,fun vs' ds' r'=>?_⟩
  have hlA:l∈A:=by rw [eA];simp
  have nl:∀b,b∈A0∨b∈A2→b≠l:=fun b hb z=>by
    subst z
    have nd:=h.nd
    rw [eA] at nd
    rcases hb with hb | hb
    · exact (List.nodup_append.mp nd).2.2 b hb b (by simp) rfl
    · exact (List.nodup_append.mp (List.nodup_append.mp nd).2.1).2.2 b (by simp) b hb rfl
  have lF:F l=none:=h.fr l hlA
  have z:=put (SlOk K F (upd H l (.lst vs')) σ) (some (.ref l)) (.ow ds') [l] ⟨l,vs',rfl,rfl,az,r'⟩ fun o s C hs hC q=>q.stay (Same.refl _) (fun b hb=>au (nl b (hC b hb))) fun z=>by
    rcases List.mem_append.mp hs with hs | hs
    · rw [c s hs] at z;cases z
    · have:=h.pl s hs
      cases s <;> simp [Sl.isAl,Sl.isBr] at this z
  have e3:(Xs++E).set (Xs.length+i) (.ow ds')=Xs++E.set i (.ow ds'):=by
    rw [List.set_append_right _ _ (by omega),Nat.add_sub_cancel_left]
  have e2:(List.map some xs++σ).set (Xs.length+i) (some (V.ref l))=List.map some xs++σ:=by
    rw [←h.len,List.set_append_right _ _ (by rw [List.length_map];omega),List.length_map,Nat.add_sub_cancel_left]
    congr 1
    exact List.ext_getElem? fun j=>by
      by_cases hj:i=j
      · subst hj
        rw [List.getElem?_set_self',eo];rfl
      · rw [List.getElem?_set_ne hj]
  rw [e2,e3,←eA] at z
  refine ⟨h.bf,fun b o q=>?_,?_,z,h.nd,h.fr,h.len,fun s hs=>?_⟩
  · rw [au (fun z=>by rw [z,lF] at q;cases q)]
    exact h.fh _ _ q
  · rw [jt hl];exact h.tf
  · rcases List.mem_or_eq_of_mem_set hs with hs | hs
    · exact h.pl s hs
    · subst hs;rfl
theorem FrF.frzAt {k:Nat} (h:FrF K B F A σ H E xs Xs) (e:(Xs++E)[k]? =some s) (q:s.val=some d) (c:s.isAl=false):
    ∃F' A' v,(xs.map some++σ)[k]? =some (some v)∧Rp K F' v d∧Same B F'∧Same F' H∧Same (tups H) F'∧SAll (SlOk K F' H σ) (xs.map some++σ) ((Xs++E).set k (.sh d)) A'∧A'.Nodup∧∀a∈A',F' a=none:=by
  obtain ⟨o,A0,A1,A2,eA,eo,hp,put⟩:=h.sl.at e
  have nd:=h.nd
  rw [eA] at nd
  have nA1:∀b o,F b=some o→b∉A1:=fun b o e hb=>by
    have:=h.fr b (by rw [eA];simp [hb])
    rw [this] at e;cases e
  have FF:Same F (mJ F H A1):=fun b o e=>by rw [ju (nA1 b o e)];exact e
  obtain ⟨v,rfl,r⟩:∃v,o=some v∧Rp K (mJ F H A1) v d:=by
    cases s with
    | no=>cases q
    | od kvs=>cases q
    | oi kvs=>cases q
    | al i=>cases c
    | br d'=>cases c
    | sh d'=>
      obtain ⟨rfl,v,rfl,r⟩:=hp
      cases q
      exact ⟨v,rfl,r.same FF⟩
    | ow ds=>
      obtain ⟨l,vs,rfl,rfl,hl,r⟩:=hp
      cases q
      exact ⟨_,rfl, .lst (SqL.of ((lx (by simp)).trans hl)) (r.same FF)⟩
    | tx ps=>
      obtain ⟨t,vs,rfl,ht,r⟩:=hp
      cases q
      refine ⟨_,rfl, .tup (SqT.of (FF _ _ ht)) ?_⟩
      have r':PtsOk K (mJ F H A1) (mJ F H A1) vs ps A1:=r.stay FF fun b hb=>lx hb
      exact r'.rp (Same.refl _)
  have e2:(List.map some xs++σ).set k (some v)=List.map some xs++σ:=List.ext_getElem? fun j=>by
    by_cases hj:k=j
    · subst hj
      rw [List.getElem?_set_self',eo];rfl
    · rw [List.getElem?_set_ne hj]
  have z:=put (SlOk K (mJ F H A1) H σ) (some v) (.sh d) [] ⟨rfl,v,rfl,r⟩ fun o s C _ hC q=>q.stay FF (fun b _=>rfl) fun _=>Same.refl _
  rw [e2] at z
  refine ⟨mJ F H A1,A0++A2,v,eo,r,h.bf.trans FF,fun b o e=>?_,fun b o e=>FF _ _ (h.tf _ _ e),by simpa using z,?_,fun a ha=>?_⟩
  · by_cases hb:b∈A1
    · rw [lx hb] at e;exact e
    · rw [ju hb] at e;exact h.fh _ _ e
  · exact List.Nodup.sublist (List.Sublist.append (List.Sublist.refl _) (List.sublist_append_right _ _)) nd
  · have hn:a∉A1:=fun hm=>by
      rcases List.mem_append.mp ha with z | z
      · exact (List.nodup_append.mp nd).2.2 a z a (by simp [hm]) rfl
      · exact (List.nodup_append.mp (List.nodup_append.mp nd).2.1).2.2 a hm a z rfl
    rw [ju hn]
    exact h.fr a (by rw [eA];rcases List.mem_append.mp ha with z | z <;> simp [z])
end
def frz (E:List Sl):Sl→Option (PyData×List Sl)
  | .sh d=>some (d,E)
  | .ow ds=>some (.list ds,E)
  | .tx ps=>some (.tuple (ps.map Pt.val),E)
  | .br d=>if a8 d then some (d,E) else none
  | .al i=>match E[i]? with
    | some (.sh d)=>some (d,E)
    | some (.ow ds)=>some (.list ds,E.set i (.sh (.list ds)))
    | some (.tx ps)=>some (.tuple (ps.map Pt.val),E.set i (.sh (.tuple (ps.map Pt.val))))
    | _=>none
  | _=>none
section
variable {K:PySem.W.Frag} {B F:Hp} {A:List Addr} {σ:Sg} {H:Hp} {E E':List Sl} {xs:List V} {Xs:List Sl} {v:V} {s:Sl} {d:PyData}
theorem FrF.frzVar {i:Nat} (h:FrF K B F A σ H E xs Xs) (e:E[i]? =some s) (q:s.val=some d):∃F' A' v,σ[i]? =some (some v)∧Rp K F' v d∧FrF K B F' A' σ H (E.set i (.sh d)) xs Xs:=by
  obtain ⟨F',A',v,ev,r,b1,b2,b3,sl,nd,fr⟩:=h.frzAt (k:=Xs.length+i) (by rw [List.getElem?_append_right (by omega)];simpa using e) q (h.pl s (List.mem_of_getElem? e))
  rw [List.getElem?_append_right (by rw [List.length_map,h.len];omega),List.length_map,h.len,Nat.add_sub_cancel_left] at ev
  have e3:(Xs++E).set (Xs.length+i) (.sh d)=Xs++E.set i (.sh d):=by
    rw [List.set_append_right _ _ (by omega),Nat.add_sub_cancel_left]
  rw [e3] at sl
  refine ⟨F',A',v,ev,r,b1,b2,b3,sl,nd,fr,h.len,fun s hs=>?_⟩
  rcases List.mem_or_eq_of_mem_set hs with hs | hs
  · exact h.pl s hs
  · subst hs;rfl
theorem FrF.frz0 (h:FrF K B F A σ H E (v::xs) (s::Xs)) (q:PL.frz E s=some (d,E')):∃F' A',FrF K B F' A' σ H E' (v::xs) (.sh d::Xs):=by
  have key:s.val=some d→s.isAl=false→E=E'→∃F' A',FrF K B F' A' σ H E' (v::xs) (.sh d::Xs):=fun q' c e=>by
    subst e
    obtain ⟨F',A',v',ev,r,b1,b2,b3,sl,nd,fr⟩:=h.frzAt (k:=0) rfl q' c
    exact ⟨F',A',b1,b2,b3,sl,nd,fr,by simpa using h.len,h.pl⟩
  have al:∀i t,s= .al i→E[i]? =some t→t.val=some d→E'=E.set i (.sh d)→∃F' A',FrF K B F' A' σ H E' (v::xs) (.sh d::Xs):=fun i t es ei qt eE=>by
    subst es eE
    obtain ⟨v',A1,ev,hs⟩:=h.ext (k:=0) rfl
    cases ev
    obtain ⟨rfl,w,ew,hw⟩:=hs
    cases ew
    obtain ⟨F',A',w,ew,r,h'⟩:=h.frzVar ei qt
    rw [hw] at ew
    cases ew
    obtain ⟨A2,h2⟩:=h'.pop
    exact ⟨F',A2,h2.push ⟨rfl,_,rfl,r⟩⟩
  cases s with
  | no=>cases q
  | od kvs=>cases q
  | oi kvs=>cases q
  | sh d'=>cases q;exact key rfl rfl rfl
  | ow ds=>cases q;exact key rfl rfl rfl
  | tx ps=>cases q;exact key rfl rfl rfl
  | br d'=>
    simp only [PL.frz] at q
    split at q
    · rename_i hf
      cases q
      obtain ⟨r,_⟩:=h.look0 (d:=d) rfl
      obtain ⟨A2,h2⟩:=h.pop
      exact ⟨F,A2,h2.push ⟨rfl,_,rfl,h.cold r hf⟩⟩
    · cases q
  | al i=>
    simp only [PL.frz] at q
    split at q
    · rename_i d' ei
      cases q
      refine al i _ rfl ei rfl ?_
      exact List.ext_getElem? fun j=>by
        by_cases hj:i=j
        · subst hj;rw [List.getElem?_set_self',ei];rfl
        · rw [List.getElem?_set_ne hj]
    · rename_i ds ei
      cases q
      exact al i _ rfl ei rfl rfl
    · rename_i ps ei
      cases q
      exact al i _ rfl ei rfl rfl
    · cases q
theorem FrF.store {i:Nat} (h:FrF K B F A σ H E (v::xs) (s::Xs)) (c:s.isAl=false) (cx:∀s∈Xs,s.isAl=false) (hi:i < E.length):∃A',FrF K B F A' (σ.set i (some v)) H (E.set i s) xs Xs:=by
  have hlen:=h.len
  have hsl:=h.slen
  obtain ⟨bf,fh,tf,sl,nd,fr,len,pl⟩:=h
  generalize hT:List.map some (v::xs)++σ=T at sl
  generalize hS:(s::Xs)++E=S at sl
  cases sl with
  | nil=>cases hS
  | cons q r=>
    rename_i A1 _ _ A2
    injection hT with h1 hT
    injection hS with h2 hS
    subst h1 h2 hT hS
    have len':xs.length=Xs.length:=by simpa using len
    have r:SAll (SlOk K F H σ) (List.map some xs++σ) (Xs++E) A2:=r
    obtain ⟨t,et⟩:∃t,E[i]? =some t:=⟨E[i],List.getElem?_eq_getElem hi⟩
    obtain ⟨o,C0,C1,C2,eA,eo,hp,put⟩:=r.at (k:=Xs.length+i) (s:=t) (by rw [List.getElem?_append_right (by omega)];simpa using et)
    have all:∀s'∈Xs++E,s'.isAl=false:=fun s' hs=>(List.mem_append.mp hs).elim (cx s') (pl s')
    have chg:∀(o:Option V) (s':Sl) (C:List Addr),s'.isAl=false→SlOk K F H σ o s' C→SlOk K F H (σ.set i (some v)) o s' C:=fun o s' C hc z=>by
      cases s' <;> first | exact z | cases hc
    have z:=put (SlOk K F H (σ.set i (some v))) (some v) s A1 (chg _ _ _ c q) fun o s' C hs _ z=>chg o s' C (all s' hs) z
    have e3:(Xs++E).set (Xs.length+i) s=Xs++E.set i s:=by
      rw [List.set_append_right _ _ (by omega),Nat.add_sub_cancel_left]
    have e2:(List.map some xs++σ).set (Xs.length+i) (some v)=List.map some xs++σ.set i (some v):=by
      rw [←len',List.set_append_right _ _ (by rw [List.length_map];omega),List.length_map,Nat.add_sub_cancel_left]
    rw [e2,e3] at z
    refine ⟨_,bf,fh,tf,z,?_,fun a ha=>fr a ?_,len',fun s' hs=>?_⟩
    · rw [eA] at nd
      have p:(C0++(A1++C2)).Perm (A1++(C0++C2)):=by
        rw [←List.append_assoc,←List.append_assoc]
        exact List.Perm.append_right _ List.perm_append_comm
      refine p.nodup_iff.mpr (List.Nodup.sublist ?_ nd)
      exact List.Sublist.append (List.Sublist.refl _) (List.Sublist.append (List.Sublist.refl _) (List.sublist_append_right _ _))
    · rw [eA]
      simp only [List.mem_append] at ha ⊢
      rcases ha with z | z | z
      · exact .inr (.inl z)
      · exact .inl z
      · exact .inr (.inr (.inr z))
    · rcases List.mem_or_eq_of_mem_set hs with hs | hs
      · exact pl s' hs
      · subst hs;exact c
end
end PL
namespace PL
open PySem L2 Nh
abbrev bN:=List Sl→Option (Sl×List Sl)
abbrev ie:=List Sl→Option (Bool×List Sl)
abbrev j4:=List Sl→Option (List Sl×List Sl)
abbrev kM:=List Sl→Option (List PyData×List Sl)
inductive Fl where
  | nx | bk | ct | rt (r:Sl)
abbrev bW:=List Sl→Option (List Sl×Fl)
abbrev Calm (Xs:List Sl):Prop:=∀s∈Xs,s.isBr=false
abbrev Still (Xs:List Sl):Prop:=∀s∈Xs,s.isAl=false
theorem Still.calm {Xs:List Sl} (h:Still Xs):Calm Xs:=fun s hs=>by
  have:=h s hs
  cases s <;> simp [Sl.isAl,Sl.isBr] at this ⊢
theorem Still.nil {Xs:List Sl} (h:Xs=[]):Still Xs:=fun s hs=>by subst h;cases hs
theorem Calm.nil {Xs:List Sl} (h:Xs=[]):Calm Xs:=(Still.nil h).calm
theorem Calm.cons {Xs:List Sl} {s:Sl} (h:Calm Xs) (hs:s.isBr=false):Calm (s::Xs):=fun t ht=>(List.mem_cons.mp ht).elim (fun e=>e▸hs) (h t)
def rd (K:PySem.W.Frag) (m:Bool) (f:bN):TE:=fun σ H Q=>∃B E xs Xs r E',Frm K B σ H E xs Xs∧(m=true→Calm Xs)∧f E=some (r,E')∧∀v H',Frm K B σ H' E' (v::xs) (r::Xs)→Q v H'
def rt (K:PySem.W.Frag) (m:Bool) (f:ie):TT:=fun σ H Q=>∃B E xs Xs b E',Frm K B σ H E xs Xs∧(m=true→Calm Xs)∧f E=some (b,E')∧∀H',Frm K B σ H' E' xs Xs→Q b H'
def ra (K:PySem.W.Frag) (m:Bool) (f:j4):TA:=fun σ H Q=>∃B E xs Xs rs E',Frm K B σ H E xs Xs∧(m=true→Calm Xs)∧f E=some (rs,E')∧∀vs H',vs.length=rs.length→Frm K B σ H' E' (vs.reverse++xs) (rs.reverse++Xs)→Q vs H'
def zG (K:PySem.W.Frag) (m:Bool) (f:kM):TA:=fun σ H Q=>∃B E xs Xs ds E',Frm K B σ H E xs Xs∧(m=true→Calm Xs)∧f E=some (ds,E')∧∀vs H',vs.length=ds.length→Frm K B σ H' E' (vs.reverse++xs) (ds.reverse.map .sh++Xs)→Q vs H'
def rs (K:PySem.W.Frag) (g:bW):TS:=fun D σ H=>∃B E xs Xs E' fl,Frm K B σ H E xs Xs∧Xs=[]∧g E=some (E',fl)∧match fl with
  | .nx=>∀σ' H',Frm K B σ' H' E' xs Xs→D.nx σ' H'
  | .bk=>∀σ' H',Frm K B σ' H' E' xs Xs→D.bk σ' H'
  | .ct=>∀σ' H',Frm K B σ' H' E' xs Xs→D.ct σ' H'
  | .rt r=>∀σ' v H',Frm K B σ' H' E' (v::xs) (r::Xs)→D.rt v H'
def EX (X:Cx) (e:Expr) (m:Bool) (f:bN):Prop:=PE X e (rd X.K m f)
def TX (X:Cx) (e:Expr) (m:Bool) (f:ie):Prop:=PT X e (rt X.K m f)
def WX (X:Cx) (e:Expr) (m:Bool) (f:ie):Prop:=PW X e (rt X.K m f)
def AX (X:Cx) (es:List Expr) (m:Bool) (f:j4):Prop:=PA X es (ra X.K m f)
def DX (X:Cx) (es:List Expr) (m:Bool) (f:kM):Prop:=PA X es (zG X.K m f)
def SX (X:Cx) (s:Stmt) (g:bW):Prop:=PS X s (rs X.K g)
def pW (X:Cx) (s:List Stmt) (g:bW):Prop:=PSs X s (rs X.K g)
section
variable {X:Cx}
theorem a7 {e:Expr} {t t':TE} (h:PE X e t) (k:∀σ H Q,t' σ H Q→t σ H Q):PE X e t':=fun pins s σ H Q I q=>h pins s σ H Q I (k σ H Q q)
theorem ly {e:Expr} {t t':TT} (h:PT X e t) (k:∀σ H Q,t' σ H Q→t σ H Q):PT X e t':=fun pins s σ H Q I q=>h pins s σ H Q I (k σ H Q q)
theorem rM {e:Expr} {t t':TT} (h:PW X e t) (k:∀σ H Q,t' σ H Q→t σ H Q):PW X e t':=fun whole pins s σ H Q I q=>h whole pins s σ H Q I (k σ H Q q)
theorem ip {es:List Expr} {t t':TA} (h:PA X es t) (k:∀σ H Q,t' σ H Q→t σ H Q):PA X es t':=fun pos pins s σ H Q I q=>h pos pins s σ H Q I (k σ H Q q)
theorem gY {st:Stmt} {t t':TS} (h:PS X st t) (k:∀D σ H,t' D σ H→t D σ H):PS X st t':=fun pins s σ H D I q=>h pins s σ H D I (k D σ H q)
theorem oV {st:List Stmt} {t t':TS} (h:PSs X st t) (k:∀D σ H,t' D σ H→t D σ H):PSs X st t':=fun pins s σ H D I q=>h pins s σ H D I (k D σ H q)
end
def vh:PyData→Option V
  | .none=>some .non
  | .bool b=>some (.bl b)
  | .int i=>some (.int i)
  | .str x=>some (.str x)
  | _=>none
theorem jv {K:PySem.W.Frag} {H:Hp} {d:PyData} {v:V} (h:vh d=some v):Rp K H v d:=by
  cases d <;> simp [vh] at h <;> subst h <;> constructor
def ab (i:Nat):bN:=fun E=>match E[i]? with
  | some (.sh d)=>some (.sh d,E)
  | some (.ow _)=>some (.al i,E)
  | some (.od _)=>some (.al i,E)
  | some (.tx _)=>some (.al i,E)
  | _=>none
def pC (d:PyData):bN:=fun E=>some (.sh d,E)
section
variable {X:Cx} {K:PySem.W.Frag}
theorem aa (i:Nat) {x:Str} {pos:Pos} (hN:X.N[i]? =some x:=by rfl) (hv:tP X.env.scope x:=by first | exact Or.inl rfl | exact Or.inr (Or.inl rfl) | exact Or.inr (Or.inr rfl)) (hd:(x == ("__debug__":Str))=false:=by decide)
    (hcd:(x == ("__classdict__":Str))=false:=by decide):EX X (.Name x pos) false (ab i):=by
  refine a7 (gV hN hv hd hcd) fun σ H Q h=>?_
  obtain ⟨B,E,xs,Xs,r,E',⟨F,A,fr⟩,_,e,q⟩:=h
  unfold ab at e
  split at e
  · rename_i d ei
    cases e
    obtain ⟨o,A1,eo,rfl,v,rfl,rp⟩:=fr.var ei
    exact ⟨v,eo,q v H ⟨F,A,fr.push ⟨rfl,v,rfl,rp⟩⟩⟩
  · rename_i ds ei
    cases e
    obtain ⟨o,A1,eo,l,vs,rfl,_⟩:=fr.var ei
    exact ⟨_,eo,q _ H ⟨F,A,fr.push ⟨rfl,_,rfl,eo⟩⟩⟩
  · rename_i ds ei
    cases e
    obtain ⟨o,A1,eo,l,vs,A2,rfl,_⟩:=fr.var ei
    exact ⟨_,eo,q _ H ⟨F,A,fr.push ⟨rfl,_,rfl,eo⟩⟩⟩
  · rename_i ds ei
    cases e
    obtain ⟨o,A1,eo,l,vs,rfl,_⟩:=fr.var ei
    exact ⟨_,eo,q _ H ⟨F,A,fr.push ⟨rfl,_,rfl,eo⟩⟩⟩
  · cases e
theorem wb {e:Expr} {v:V} (d:PyData) (h:PE X e (tC v)) (hd:vh d=some v:=by rfl):EX X e false (pC d):=by
  refine a7 h fun σ H Q h=>?_
  obtain ⟨B,E,xs,Xs,r,E',⟨F,A,fr⟩,_,e,q⟩:=h
  cases e
  exact q v H ⟨F,A,fr.push ⟨rfl,v,rfl,jv hd⟩⟩
theorem ah {i j pos}:EX X (.Constant (.int i) j pos) false (pC (.int i)):=wb _ jg
theorem kN {b j pos}:EX X (.Constant (.bool b) j pos) false (pC (.bool b)):=wb _ xc
theorem du {x j pos}:EX X (.Constant (.str x) j pos) false (pC (.str x)):=wb _ qA
end
abbrev P2:=List Sl→Sl→Sl→Option (Sl×List Sl)
def gh (K:PySem.W.Frag) (r:R2) (p:P2):Prop:=∀{B F:Hp} {A:List Addr} {σ:Sg} {H:Hp} {E:List Sl} {xs:List V} {Xs:List Sl} {v1 v2:V} {s1 s2 res:Sl} {E':List Sl} {Q:VK},
  FrF K B F A σ H E (v2::v1::xs) (s2::s1::Xs)→p E s1 s2=some (res,E')→(∀v H',Frm K B σ H' E' (v::xs) (res::Xs)→Q v H')→r v1 v2 H Q
def ae (p:P2) (m2:Bool) (f g:bN):bN:=fun E=>(f E).bind fun a=>if m2&&a.1.isBr then none else (g a.2).bind fun b=>p b.2 a.1 b.1
theorem lz {K:PySem.W.Frag} {r:R2} {p:P2} (hp:gh K r p) {m1 m2:Bool} {f g:bN} {σ:Sg} {H:Hp} {Q:VK} (h:rd K (m1||m2) (ae p m2 f g) σ H Q):xp r (rd K m1 f) (rd K m2 g) σ H Q:=by
  obtain ⟨B,E,xs,Xs,res,E',fr,c,e,q⟩:=h
  obtain ⟨⟨s1,E1⟩,e1,e⟩:=Option.bind_eq_some_iff.mp e
  by_cases hb:(m2&&s1.isBr)=true
  · rw [if_pos hb] at e;cases e
  rw [if_neg hb] at e
  obtain ⟨⟨s2,E2⟩,e2,e⟩:=Option.bind_eq_some_iff.mp e
  refine ⟨B,E,xs,Xs,s1,E1,fr,fun z=>c (by simp [z]),e1,fun v1 H1 fr1=>?_⟩
  refine ⟨B,E1,v1::xs,s1::Xs,s2,E2,fr1,fun z=>?_,e2,fun v2 H2 fr2=>?_⟩
  · refine Calm.cons (c (by simp [z])) ?_
    cases hs:s1.isBr with
    | false=>rfl
    | true=>exact absurd (by simp [z,hs]) hb
  · obtain ⟨F,A,fr2⟩:=fr2
    exact hp fr2 e q
def bS (op:PyData→PyData→Option PyData):P2:=fun E s1 s2=>(look E s1).bind fun d1=>(look E s2).bind fun d2=>(op d1 d2).map fun d=>(.sh d,E)
theorem FrF.res2 {K:PySem.W.Frag} {B F:Hp} {A:List Addr} {σ:Sg} {H:Hp} {E:List Sl} {xs:List V} {Xs:List Sl} {v1 v2 v:V} {s1 s2 s:Sl} (h:FrF K B F A σ H E (v2::v1::xs) (s2::s1::Xs)) (q:SlOk K F H σ (some v) s []):Frm K B σ H E (v::xs) (s::Xs):=by
  obtain ⟨A1,h⟩:=h.pop
  obtain ⟨A2,h⟩:=h.pop
  exact ⟨F,A2,h.push q⟩
theorem iq {K:PySem.W.Frag} {r:R2} {op:PyData→PyData→Option PyData} (h:∀(d1 d2 d:PyData) (v1 v2:V) (H:Hp) (Q:VK),op d1 d2=some d→Rp K H v1 d1→Rp K H v2 d2→∃v,vh d=some v∧(Q v H→r v1 v2 H Q)):gh K r (bS op):=by
  intro B F A σ H E xs Xs v1 v2 s1 s2 res E' Q fr e q
  obtain ⟨d1,e1,e⟩:=Option.bind_eq_some_iff.mp e
  obtain ⟨d2,e2,e⟩:=Option.bind_eq_some_iff.mp e
  obtain ⟨d,e3,e⟩:=Option.map_eq_some_iff.mp e
  cases e
  obtain ⟨v,hv,k⟩:=h d1 d2 d v1 v2 H Q e3 (fr.look1 e1).1 (fr.look0 e2).1
  exact k (q v H (fr.res2 ⟨rfl,v,rfl,jv hv⟩))
section
variable {X:Cx} {a b:Expr} {m1 m2:Bool} {f g:bN} {pos:Pos}
theorem jw {op:Operator} {r:R2} {p:P2} (ho:OpR X (binaryOp op) r) (hp:gh X.K r p) (ha:EX X a m1 f) (hb:EX X b m2 g):EX X (.BinOp a op b pos) (m1||m2) (ae p m2 f g):=a7 (qL ho ha hb) fun _ _ _ h=>lz hp h
theorem rN {op:CmpOp} {r:R2} {p:P2} (ho:OpR X (compareOp op) r) (hp:gh X.K r p) (ha:EX X a m1 f) (hb:EX X b m2 g) (hm:behindInMarks op b=false):EX X (.Compare a [op] [b] pos) (m1||m2) (ae p m2 f g):=a7 (tY ho ha hb hm) fun _ _ _ h=>lz hp h
def bp (f:bN):ie:=fun E=>(f E).bind fun a=>match a.1 with
  | .sh (.bool b)=>some (b,a.2)
  | _=>none
theorem rO {K:PySem.W.Frag} {m:Bool} {f:bN} {σ:Sg} {H:Hp} {Q:Bool→Hp→Prop} (h:rt K m (bp f) σ H Q):rd K m f σ H (fun x H'=>∃k,x= .bl k∧Q k H'):=by
  obtain ⟨B,E,xs,Xs,b,E',fr,c,e,q⟩:=h
  obtain ⟨⟨s,E1⟩,e1,e⟩:=Option.bind_eq_some_iff.mp e
  refine ⟨B,E,xs,Xs,s,E1,fr,c,e1,fun v H' ⟨F,A,fr'⟩=>?_⟩
  simp only at e
  split at e
  · cases e
    obtain ⟨r,_⟩:=fr'.look0 (d:= .bool b) rfl
    cases r
    obtain ⟨A',fr2⟩:=fr'.pop
    exact ⟨b,rfl,q H' ⟨F,A',fr2⟩⟩
  · cases e
theorem lA {op:CmpOp} {r:R2} {p:P2} (ho:OpR X (compareOp op) r) (hp:gh X.K r p) (ha:EX X a m1 f) (hb:EX X b m2 g) (hm:behindInMarks op b=false):TX X (.Compare a [op] [b] pos) (m1||m2) (bp (ae p m2 f g)):=by
  refine ly (tZ ho ha hb hm) fun σ H Q h=>?_
  exact lz hp (rO h)
end
def wc:Int:=2 ^ 20000
def dE (i j:Int):Bool:=decide (-(2 ^ 64) < i∧i < 2 ^ 64)||decide (-(2 ^ 64) < j∧j < 2 ^ 64)||decide (-wc < i∧i < wc∧ -wc < j∧j < wc)
def dq (j:Int):Bool:=decide (0 < j∧j < 2 ^ 200)
def gP (C:Int→Int→Bool) (g:Int→Int→PyData):PyData→PyData→Option PyData
  | .int i, .int j=>if C i j then some (g i j) else none
  | _,_=>none
abbrev wV (C:Int→Int→Bool) (g:Int→Int→V):R2:=rI (fun i j=>C i j=true) g
theorem lB {K:PySem.W.Frag} {C:Int→Int→Bool} {g:Int→Int→PyData} {g':Int→Int→V} (hg:∀i j,vh (g i j)=some (g' i j)):gh K (wV C g') (bS (gP C g)):=by
  refine iq fun d1 d2 d v1 v2 H Q e r1 r2=>?_
  unfold gP at e
  split at e
  · split at e
    · cases e
      cases r1
      cases r2
      rename_i hC
      exact ⟨_,hg _ _,fun q=>⟨_,_,rfl,rfl,hC,q⟩⟩
    · cases e
  · cases e
section
variable {X:Cx}
theorem iO {i:Int} (h1: -wc < i) (h2:i < wc):Builtin.Int.intBits i≤2 ^ 20:=by
  unfold wc at h1 h2
  have h:i.natAbs < 2 ^ 20000:=by
    have e:((2 ^ 20000:Nat):Int)=2 ^ 20000:=Int.natCast_pow 2 20000
    generalize (2 ^ 20000:Int)=z at h1 h2 e
    generalize (2 ^ 20000:Nat)=y at e ⊢
    omega
  unfold Builtin.Int.intBits
  split
  · exact Nat.zero_le _
  · rename_i hz
    have hz':i≠0:=by simpa using hz
    have:i.natAbs.log2 < 20000:=(Nat.log2_lt (by omega)).mpr h
    omega
theorem rP {i j:Int} (h:dE i j=true):PySem.IntMulOk i j:=by
  unfold dE at h
  simp only [Bool.or_eq_true,decide_eq_true_eq] at h
  rcases h with (h | h) | h
  · exact CMul.ok (.inl h)
  · exact CMul.ok (.inr h)
  · exact PySem.IntMulOk.of_bits (iO h.1 h.2.1) (iO h.2.2.1 h.2.2.2)
end
end PL
namespace PL
open PySem L2 Nh PyProof.Rows
abbrev hJ:=L2.St
section
variable {X:Cx}
theorem OpR.or {f:Value→Value→Sem Value} {r r':R2} (h:OpR X f r) (h':OpR X f r'):OpR X f (fun x y H Q=>r x y H Q∨r' x y H Q):=by
  intro pins s σ H x y v u Q I rx ry q
  rcases q with q | q
  · exact h pins s σ H x y v u Q I rx ry q
  · exact h' pins s σ H x y v u Q I rx ry q
theorem OpR.imp {f:Value→Value→Sem Value} {r r':R2} (h:OpR X f r) (k:∀x y H Q,r' x y H Q→r x y H Q):OpR X f r':=fun pins s σ H x y v u Q I rx ry q=>h pins s σ H x y v u Q I rx ry (k _ _ _ _ q)
def vi (K:PySem.W.Frag):R2:=fun x y H Q=>∃l b xs zs,x= .ref l∧y= .ref b∧SqL K H l xs∧SqL K H b zs∧xs.length+zs.length≤sizeLine∧∀p,H p=none→Q (.ref p) (upd H p (.lst (xs++zs)))
theorem uq:OpR X (binaryOp .Add) (vi X.K):=by
  intro pins s σ H x y v u Q I rx ry h
  obtain ⟨l,b,xs,zs,rfl,rfl,hH,hB,hz,q⟩:=h
  cases rx
  cases ry
  obtain ⟨its,r,p1,z1⟩:=I.list hH
  obtain ⟨its2,r2,p2,z2⟩:=I.list hB
  obtain ⟨⟨cls,dd,data,sl⟩,ho,hc,n,hd⟩:=p1.isList
  obtain ⟨⟨cls2,dd2,data2,sl2⟩,ho2,hc2,n2,mr⟩:=p2.isList
  simp only at hc hd hc2 mr
  subst hc hd hc2 mr
  have l1:=r.length
  have l2:=r2.length
  refine concat_meets ⟨_,ho,rfl⟩ ⟨_,ho2,rfl⟩ noFill_list_add seq_list_add PySem.F.slot_list_add PySem.F.entry_list_add (PySem.F.args_list_add_2 _ _) (list_addW l b its.toArray its2.toArray n n2 dd dd2 sl sl2 (by simp only [List.size_toArray];omega)) ⟨ho,ho2,?_⟩
  have ea:its.toArray++its2.toArray=(its++its2).toArray:=by simp
  rw [ea]
  exact ⟨.ref _,_,I.lnew (t':=s.toks) (r.append r2) (by rw [List.length_append];omega),rfl,q _ I.fresh⟩
def vj (K:PySem.W.Frag):R2:=fun x y H Q=>∃l k xs,x= .ref l∧y= .int k∧SqL K H l xs∧ -(2 ^ 63)≤k∧k < 2 ^ 63∧xs.length*k.toNat≤sizeLine∧
  ∀p,H p=none→Q (.ref p) (upd H p (.lst (List.replicate k.toNat xs).flatten))
theorem ur:OpR X (binaryOp .Mult) (vj X.K):=by
  intro pins s σ H x y v u Q I rx ry h
  obtain ⟨l,k,xs,rfl,rfl,hH,h1,h2,hz,q⟩:=h
  cases rx
  obtain ⟨t,rfl⟩:=ry
  obtain ⟨its,r,p1,z1⟩:=I.list hH
  obtain ⟨⟨cls,d,data,sl⟩,ho,hcl,n,hd⟩:=p1.isList
  simp only at hcl hd
  subst hcl hd
  have l1:=r.length
  have hsz:its.toArray.size*k.toNat≤2 ^ 24:=by rw [List.size_toArray,←l1];exact hz
  refine wpAny_binaryOp_repeat_ref (T:="list") (U:="int") (by decide) ⟨_,ho,rfl⟩ (fun s'=>typeIs_int s' k t) noFill_list_mul F.fills_int_mul F.slot_int_rmul repeat_list F.slot_int_index.lookup
    (call_meets F.slot_int_rmul (typeIs_int s k t) F.entry_int_rmul (F.args_int_rmul_2 _ _) (lm_int_rmul_list_any k t l its.toArray n d sl)
      ⟨ho,rfl,⟨_,ho,rfl⟩,call_meets F.slot_list_mul ⟨_,ho,rfl⟩ F.entry_list_mul (F.args_list_mul_2 _ _)
        (lm_list_mul_any l its.toArray n d sl k t (by simp [Builtin.List.listFitsIndex];omega) (by omega) (by simp [Builtin.List.listTooLong,sizeLine];omega))
        ⟨ho,?_⟩⟩)
  rw [listMul_foldl_if]
  exact ⟨.ref _,_,I.lnew (t':=s.toks) (r.rep k.toNat) (by rw [uh,Nat.mul_comm];exact hz),rfl,q _ I.fresh⟩
end
def aG:P2:=fun E s1 s2=>(look E s1).bind fun d1=>(look E s2).bind fun d2=>match d1,d2 with
  | .int i, .int j=>some (.sh (.int (i+j)),E)
  | .str a, .str b=>if a.length+b.length≤1000000 then some (.sh (.str (a++b)),E) else none
  | .list a, .list b=>if decide (a.length+b.length≤1000000)&&(!hot E s1||aU a)&&(!hot E s2||aU b) then some (.ow (a++b),E) else none
  | _,_=>none
theorem mK {n:Nat} (h:n≤1000000):n < sizeLine:=Nat.lt_of_le_of_lt h (by rw [sizeLine_eq];decide)
theorem eM {n:Nat} (h:n≤1000000):n≤sizeLine:=Nat.le_of_lt (mK h)
section
variable {K:PySem.W.Frag} {B F:Hp} {A:List Addr} {σ:hJ} {H:Hp} {E:List Sl} {xs:List V} {Xs:List Sl} {v:V} {s:Sl} {ds:List PyData}
theorem FrF.items {k:Nat} (h:FrF K B F A σ H E xs Xs) (e:Xs[k]? =some s) (q:PL.look E s=some (.list ds)) (c:(!hot E s||aU ds)=true):∃a vs,xs[k]? =some (.ref a)∧SqL K H a vs∧RpA K F vs ds:=by
  obtain ⟨v,ev,r,f⟩:=h.look e q
  cases hh:hot E s with
  | false=>
    obtain ⟨a,vs,rfl,h1,h2⟩:=f hh
    exact ⟨a,vs,ev,h1,h2⟩
  | true=>
    rw [hh] at c
    cases r with
    | lst h1 h2=>exact ⟨_,_,ev,h1,h.coldA h2 (by simpa using c)⟩
theorem FrF.res2l {v1 v2:V} {s1 s2:Sl} {vs:List V} (h:FrF K B F A σ H E (v2::v1::xs) (s2::s1::Xs)) (r:RpA K F vs ds) {p:Addr} (hp:H p=none):Frm K B σ (upd H p (.lst vs)) E (.ref p::xs) (.ow ds::Xs):=by
  obtain ⟨A1,h⟩:=h.pop
  obtain ⟨A2,h⟩:=h.pop
  exact ⟨F,_,h.newl r hp⟩
end
abbrev vk (K:PySem.W.Frag):R2:=fun x y H Q=>(∃i j,x= .int i∧y= .int j∧Q (.int (i+j)) H)∨(∃i j,x= .str i∧y= .str j∧i.length+j.length≤sizeLine∧Q (.str (i++j)) H)∨vi K x y H Q
theorem ut {X:Cx}:OpR X (binaryOp .Add) (vk X.K):=OpR.or vR (OpR.or nI uq)
theorem uu {K:PySem.W.Frag}:gh K (vk K) aG:=by
  intro B F A σ H E xs Xs v1 v2 s1 s2 res E' Q fr e q
  obtain ⟨d1,e1,e⟩:=Option.bind_eq_some_iff.mp e
  obtain ⟨d2,e2,e⟩:=Option.bind_eq_some_iff.mp e
  have r1:=(fr.look1 e1).1
  have r2:=(fr.look0 e2).1
  split at e
  · cases e;cases r1;cases r2
    exact .inl ⟨_,_,rfl,rfl,q _ _ (fr.res2 ⟨rfl,_,rfl, .int _⟩)⟩
  · split at e
    · rename_i hl
      cases e;cases r1;cases r2
      exact .inr (.inl ⟨_,_,rfl,rfl,eM hl,q _ _ (fr.res2 ⟨rfl,_,rfl, .str _⟩)⟩)
    · cases e
  · split at e
    · rename_i hc
      cases e
      simp only [Bool.and_eq_true,decide_eq_true_eq] at hc
      obtain ⟨a1,u1,x1,q1,i1⟩:=fr.items (k:=1) rfl e1 hc.1.2
      obtain ⟨a2,u2,x2,q2,i2⟩:=fr.items (k:=0) rfl e2 hc.2
      cases x1;cases x2
      have l1:=i1.len
      have l2:=i2.len
      exact .inr (.inr ⟨_,_,_,_,rfl,rfl,q1,q2,eM (by omega),fun p hp=>q _ _ (fr.res2l (i1.append i2) hp)⟩)
    · cases e
  · cases e
def ir:P2:=bS (gP (fun _ _=>true) fun i j=> .int (i - j))
def c8:P2:=bS (gP (fun _ j=>dq j) fun i j=> .int (i / j))
def cp:P2:=bS (gP (fun _ j=>decide (0 < j)) fun i j=> .int (i % j))
def iZ:P2:=bS (gP (fun i j=>decide (0≤j∧j≤1000000∧ -(2 ^ 64) < i∧i < 2 ^ 64)) fun i j=> .int (i ^ j.toNat))
section
variable {X:Cx}
theorem uv:OpR X (binaryOp .Sub) (wV (fun _ _=>true) fun i j=> .int (i - j)):=OpR.imp vS fun x y H Q ⟨i,j,a,b,_,q⟩=>⟨i,j,a,b,q⟩
theorem mL:OpR X (binaryOp .FloorDiv) (wV (fun _ j=>dq j) fun i j=> .int (i / j)):=yq fun i j _ _ _ _ _ hc q=>by
  obtain ⟨h1,h2⟩:=of_decide_eq_true hc
  have h3:j.natAbs.log2 < 9000:=by
    have:j.natAbs < 2 ^ 200:=by omega
    have:=(Nat.log2_lt (n:=j.natAbs) (k:=200) (by omega)).mpr this
    omega
  exact floordiv_int (by omega) (by rw [Int.fdiv_eq_ediv_of_nonneg i (by omega)];exact q) (.inl (PyProof.noPylong_of_log2 h3))
theorem uw:OpR X (binaryOp .Mod) (wV (fun _ j=>decide (0 < j)) fun i j=> .int (i % j)):=OpR.imp qN fun x y H Q ⟨i,j,a,b,c,q⟩=>⟨i,j,a,b,of_decide_eq_true c,q⟩
theorem ux {i j:Int} (c:0≤j∧j≤1000000∧ -(2 ^ 64) < i∧i < 2 ^ 64):xu i j:=⟨c.1,c.2.1,by omega⟩
theorem uy:OpR X (binaryOp .Pow) (wV (fun i j=>decide (0≤j∧j≤1000000∧ -(2 ^ 64) < i∧i < 2 ^ 64)) fun i j=> .int (i ^ j.toNat)):=OpR.imp vT fun x y H Q ⟨i,j,a,b,c,q⟩=>⟨i,j,a,b,ux (of_decide_eq_true c),q⟩
end
def dQ:P2:=fun E s1 s2=>(look E s1).bind fun d1=>(look E s2).bind fun d2=>match d1,d2 with
  | .int i, .int j=>if dE i j then some (.sh (.int (i*j)),E) else none
  | .list a, .int k=>if decide (a.length*k.toNat≤1000000∧ -1000000≤k∧k≤1000000)&&(!hot E s1||aU a) then some (.ow (List.replicate k.toNat a).flatten,E) else none
  | _,_=>none
abbrev vm (K:PySem.W.Frag):R2:=fun x y H Q=>wV dE (fun i j=> .int (i*j)) x y H Q∨vj K x y H Q
theorem uz {X:Cx}:OpR X (binaryOp .Mult) (vm X.K):=OpR.or (yq fun _ _ _ _ _ _ _ hc q=>mul_int q (rP hc)) ur
theorem uA {K:PySem.W.Frag}:gh K (vm K) dQ:=by
  intro B F A σ H E xs Xs v1 v2 s1 s2 res E' Q fr e q
  obtain ⟨d1,e1,e⟩:=Option.bind_eq_some_iff.mp e
  obtain ⟨d2,e2,e⟩:=Option.bind_eq_some_iff.mp e
  have r1:=(fr.look1 e1).1
  have r2:=(fr.look0 e2).1
  split at e
  · split at e
    · rename_i hm
      cases e;cases r1;cases r2
      exact .inl ⟨_,_,rfl,rfl,hm,q _ _ (fr.res2 ⟨rfl,_,rfl, .int _⟩)⟩
    · cases e
  · split at e
    · rename_i hc
      cases e
      simp only [Bool.and_eq_true,decide_eq_true_eq] at hc
      obtain ⟨a1,u1,x1,q1,i1⟩:=fr.items (k:=1) rfl e1 hc.2
      cases x1;cases r2
      have l1:=i1.len
      exact .inr ⟨_,_,_,rfl,rfl,q1,by omega,by omega,eM (by rw [l1];exact hc.1.1),fun p hp=>q _ _ (fr.res2l (i1.rep _) hp)⟩
    · cases e
  · cases e
section
variable {X:Cx} {a b:Expr} {m1 m2:Bool} {f g:bN} {pos:Pos}
theorem bd (ha:EX X a m1 f) (hb:EX X b m2 g):EX X (.BinOp a .Add b pos) (m1||m2) (ae aG m2 f g):=jw ut uu ha hb
theorem nV (ha:EX X a m1 f) (hb:EX X b m2 g):EX X (.BinOp a .Sub b pos) (m1||m2) (ae ir m2 f g):=jw uv (lB fun _ _=>rfl) ha hb
theorem dM (ha:EX X a m1 f) (hb:EX X b m2 g):EX X (.BinOp a .Mult b pos) (m1||m2) (ae dQ m2 f g):=jw uz uA ha hb
theorem gA (ha:EX X a m1 f) (hb:EX X b m2 g):EX X (.BinOp a .FloorDiv b pos) (m1||m2) (ae c8 m2 f g):=jw mL (lB fun _ _=>rfl) ha hb
theorem df (ha:EX X a m1 f) (hb:EX X b m2 g):EX X (.BinOp a .Mod b pos) (m1||m2) (ae cp m2 f g):=jw uw (lB fun _ _=>rfl) ha hb
theorem nW (ha:EX X a m1 f) (hb:EX X b m2 g):EX X (.BinOp a .Pow b pos) (m1||m2) (ae iZ m2 f g):=jw uy (lB fun _ _=>rfl) ha hb
end
def y2 (K:PySem.W.Frag) (r:V→Hp→VK→Prop) (op:PyData→Option PyData):Prop:=∀(d1 d:PyData) (v1:V) (H:Hp) (Q:VK),op d1=some d→Rp K H v1 d1→∃v,vh d=some v∧(Q v H→r v1 H Q)
def fu (op:PyData→Option PyData) (f:bN):bN:=fun E=>(f E).bind fun a=>(look a.2 a.1).bind fun d1=>(op d1).map fun d=>(.sh d,a.2)
theorem xK {K:PySem.W.Frag} {r:V→Hp→VK→Prop} {op:PyData→Option PyData} (hp:y2 K r op) {m:Bool} {f:bN} {σ:hJ} {H:Hp} {Q:VK} (h:rd K m (fu op f) σ H Q):rd K m f σ H (fun x H1=>r x H1 Q):=by
  obtain ⟨B,E,xs,Xs,res,E',fr,c,e,q⟩:=h
  obtain ⟨⟨s1,E1⟩,e1,e⟩:=Option.bind_eq_some_iff.mp e
  obtain ⟨d1,e2,e⟩:=Option.bind_eq_some_iff.mp e
  obtain ⟨d,e3,e⟩:=Option.map_eq_some_iff.mp e
  cases e
  refine ⟨B,E,xs,Xs,s1,E1,fr,c,e1,fun v1 H1 ⟨F,A,fr1⟩=>?_⟩
  obtain ⟨v,hv,k⟩:=hp d1 d v1 H1 Q e3 (fr1.look0 e2).1
  obtain ⟨A',fr2⟩:=fr1.pop
  exact k (q v H1 ⟨F,A',fr2.push ⟨rfl,v,rfl,jv hv⟩⟩)
def eN:PyData→Option PyData
  | .int i=>some (.int (-i))
  | _=>none
section
variable {X:Cx} {a b c:Expr} {m1 m2 m3:Bool} {f g h:bN} {pos:Pos}
theorem jx (ha:EX X a m1 f):EX X (.UnaryOp .USub a pos) m1 (fu eN f):=a7 (xq vU ha) fun σ H Q h=>xK (r:=rU fun i=> .int (-i)) (fun d1 d v1 H Q e r=>by
  cases d1 <;> simp [eN] at e
  cases e;cases r
  exact ⟨_,rfl,fun q=>⟨_,rfl,q⟩⟩) h
end
def j5 (d1 d2:PyData):Option Bool:=match d1,d2 with
  | .int i, .int j=>some (decide (i=j))
  | .str a, .str b=>some (decide (a=b))
  | .bool a, .bool b=>some (decide (a=b))
  | .none, .none=>some true
  | .none, .str _=>some false
  | .str _, .none=>some false
  | d1,d2=>if SeqAt.shaped d1&&SeqAt.shaped d2 then some (PyData.eqv d1 d2) else none
def eY:P2:=bS fun d1 d2=>(j5 d1 d2).map fun b=> .bool b
def fG:P2:=bS fun d1 d2=>(j5 d1 d2).map fun b=> .bool (!b)
abbrev y3 (K:PySem.W.Frag):R2:=fun x y H Q=>zr x y H Q∨xI K x y H Q
abbrev y4 (K:PySem.W.Frag):R2:=fun x y H Q=>zt x y H Q∨xJ K x y H Q
theorem rQ {K:PySem.W.Frag} {H:Hp} {v1 v2:V} {d1 d2:PyData} {b:Bool} (e:j5 d1 d2=some b) (r1:Rp K H v1 d1) (r2:Rp K H v2 d2):
    (vV v1 v2=true∧decide (v1=v2)=b)∨(DOf K H v1 d1∧DOf K H v2 d2∧SeqAt.shaped d1=true∧SeqAt.shaped d2=true∧PyData.eqv d1 d2=b):=by
  unfold j5 at e
  split at e
  · cases e;cases r1;cases r2;exact .inl ⟨rfl,by simp⟩
  · cases e;cases r1;cases r2;exact .inl ⟨rfl,by simp⟩
  · cases e;cases r1;cases r2;exact .inl ⟨rfl,by simp⟩
  · cases e;cases r1;cases r2;exact .inl ⟨rfl,rfl⟩
  · cases e;cases r1;cases r2;exact .inl ⟨rfl,rfl⟩
  · cases e;cases r1;cases r2;exact .inl ⟨rfl,rfl⟩
  · split at e
    · rename_i hs
      cases e
      simp only [Bool.and_eq_true] at hs
      exact .inr ⟨r1.dof hs.1,r2.dof hs.2,hs.1,hs.2,rfl⟩
    · cases e
theorem rR {K:PySem.W.Frag}:gh K (y3 K) eY:=iq fun d1 d2 d v1 v2 H Q e r1 r2=>by
  obtain ⟨b,e',rfl⟩:=Option.map_eq_some_iff.mp e
  refine ⟨_,rfl,fun q=>?_⟩
  rcases rQ e' r1 r2 with ⟨a,rfl⟩ | ⟨a1,a2,a3,a4,rfl⟩
  · exact .inl ⟨a,q⟩
  · exact .inr ⟨_,_,a1,a2,a3,a4,q⟩
theorem rS {K:PySem.W.Frag}:gh K (y4 K) fG:=iq fun d1 d2 d v1 v2 H Q e r1 r2=>by
  obtain ⟨b,e',rfl⟩:=Option.map_eq_some_iff.mp e
  refine ⟨_,rfl,fun q=>?_⟩
  rcases rQ e' r1 r2 with ⟨a,rfl⟩ | ⟨a1,a2,a3,a4,rfl⟩
  · exact .inl ⟨a,q⟩
  · exact .inr ⟨_,_,a1,a2,a3,a4,q⟩
def lC (K:PySem.W.Frag) (r:R2) (op:PyData→PyData→Option PyData):Prop:=∀(d1 d2 d:PyData) (v1 v2:V) (H:Hp) (Q:VK),op d1 d2=some d→Rp K H v1 d1→Rp K H v2 d2→∃v,vh d=some v∧(Q v H→r v1 v2 H Q)
def bv (op op':PyData→PyData→Option PyData) (m2 m3:Bool) (f g h:bN):bN:=fun E=>(f E).bind fun a=>if (m2||m3)&&a.1.isBr then none else (g a.2).bind fun b=>if m3&&b.1.isBr then none else
  (look b.2 a.1).bind fun d1=>(look b.2 b.1).bind fun d2=>match op d1 d2 with
    | some (.bool true)=>(h b.2).bind fun c=>(look c.2 b.1).bind fun d2=>(look c.2 c.1).bind fun d3=>(op' d2 d3).map fun d=>(.sh d,c.2)
    | some (.bool false)=>some (.sh (.bool false),b.2)
    | _=>none
section
variable {X:Cx} {a b c:Expr} {m1 m2 m3:Bool} {f g h:bN} {pos:Pos}
theorem oW (hu:X.A.units+64 < cLine) (ha:EX X a m1 f) (hb:EX X b m2 g):EX X (.Compare a [.Eq] [b] pos) (m1||m2) (ae eY m2 f g):=rN (OpR.or vb (rm hu)) rR ha hb (ji _)
theorem xL (hu:X.A.units+64 < cLine) (ha:EX X a m1 f) (hb:EX X b m2 g):EX X (.Compare a [.NotEq] [b] pos) (m1||m2) (ae fG m2 f g):=rN (OpR.or vc (rq hu)) rS ha hb (ji _)
theorem iP (hu:X.A.units+64 < cLine) (ha:EX X a m1 f) (hb:EX X b m2 g):TX X (.Compare a [.Eq] [b] pos) (m1||m2) (bp (ae eY m2 f g)):=lA (OpR.or vb (rm hu)) rR ha hb (ji _)
theorem gQ (hu:X.A.units+64 < cLine) (ha:EX X a m1 f) (hb:EX X b m2 g):TX X (.Compare a [.NotEq] [b] pos) (m1||m2) (bp (ae fG m2 f g)):=lA (OpR.or vc (rq hu)) rS ha hb (ji _)
theorem mM {K:PySem.W.Frag} {r r':R2} {op op':PyData→PyData→Option PyData} (k:lC K r op) (k':lC K r' op') {σ:hJ} {H:Hp} {Q:VK} (z:rd K (m1||(m2||m3)) (bv op op' m2 m3 f g h) σ H Q):nG r r' (rd K m1 f) (rd K m2 g) (rd K m3 h) σ H Q:=by
  obtain ⟨B,E,xs,Xs,res,E',fr,cl,e,q⟩:=z
  obtain ⟨⟨s1,E1⟩,e1,e⟩:=Option.bind_eq_some_iff.mp e
  by_cases hb:((m2||m3)&&s1.isBr)=true
  · rw [if_pos hb] at e;cases e
  rw [if_neg hb] at e
  obtain ⟨⟨s2,E2⟩,e2,e⟩:=Option.bind_eq_some_iff.mp e
  by_cases hb2:(m3&&s2.isBr)=true
  · rw [if_pos hb2] at e;cases e
  rw [if_neg hb2] at e
  obtain ⟨d1,l1,e⟩:=Option.bind_eq_some_iff.mp e
  obtain ⟨d2,l2,e⟩:=Option.bind_eq_some_iff.mp e
  have n1:(m2||m3)=true→s1.isBr=false:=fun z=>by
    cases hs:s1.isBr with
    | false=>rfl
    | true=>exact absurd (by rw [z,hs];rfl) hb
  have n2:m3=true→s2.isBr=false:=fun z=>by
    cases hs:s2.isBr with
    | false=>rfl
    | true=>exact absurd (by rw [z,hs];rfl) hb2
  refine ⟨B,E,xs,Xs,s1,E1,fr,fun z=>cl (by simp [z]),e1,fun v1 H1 fr1=>?_⟩
  refine ⟨B,E1,v1::xs,s1::Xs,s2,E2,fr1,fun z=>Calm.cons (cl (by simp [z])) (n1 (by simp [z])),e2,fun v2 H2 ⟨F,A,fr2⟩=>?_⟩
  cases ho:op d1 d2 with
  | none=>rw [ho] at e;cases e
  | some d=>
    rw [ho] at e
    obtain ⟨v,hv,kk⟩:=k d1 d2 d v1 v2 H2 (fun z H3=>∃k,z= .bl k∧(if k=true then rd K m3 h σ H3 fun w' H4=>r' v2 w' H4 Q else Q (.bl false) H3)) ho (fr2.look1 l1).1 (fr2.look0 l2).1
    cases d with
    | bool t=>
      cases hv
      refine kk ⟨t,rfl,?_⟩
      cases t with
      | true=>
        rw [if_pos rfl]
        obtain ⟨⟨s3,E3⟩,e3,e⟩:=Option.bind_eq_some_iff.mp e
        obtain ⟨d2',l2',e⟩:=Option.bind_eq_some_iff.mp e
        obtain ⟨d3,l3,e⟩:=Option.bind_eq_some_iff.mp e
        obtain ⟨d,ho',e⟩:=Option.map_eq_some_iff.mp e
        cases e
        refine ⟨B,E2,v2::v1::xs,s2::s1::Xs,s3,E3,⟨F,A,fr2⟩,fun z=>Calm.cons (Calm.cons (cl (by simp [z])) (n1 (by simp [z]))) (n2 z),e3,fun v3 H3 ⟨F3,A3,fr3⟩=>?_⟩
        obtain ⟨v,hv,kk⟩:=k' d2' d3 d v2 v3 H3 Q ho' (fr3.look1 l2').1 (fr3.look0 l3).1
        obtain ⟨A4,fr4⟩:=fr3.pop
        exact kk (q v H3 (fr4.res2 ⟨rfl,v,rfl,jv hv⟩))
      | false=>
        rw [if_neg (by decide)]
        cases e
        exact q _ _ (fr2.res2 ⟨rfl,_,rfl, .bl _⟩)
    | none=>cases e
    | int i=>cases e
    | str x=>cases e
    | list xs=>cases e
    | tuple xs=>cases e
    | dict kvs=>cases e
theorem rT {o1 o2:CmpOp} {r r':R2} {op op':PyData→PyData→Option PyData} (ho:OpR X (compareOp o1) r) (ho':OpR X (compareOp o2) r') (k:lC X.K r op) (k':lC X.K r' op') (ha:EX X a m1 f) (hb:EX X b m2 g) (hc:EX X c m3 h)
    (hm:lastMarks [o1,o2] [b,c]=false:=by with_unfolding_all rfl):EX X (.Compare a [o1,o2] [b,c] pos) (m1||(m2||m3)) (bv op op' m2 m3 f g h):=a7 (qQ ho ho' ha hb hc hm) fun _ _ _ z=>mM k k' z
end
end PL
namespace PL
open PySem L2 Nh
def oX (f g:bN):bN:=fun E=>(f E).bind fun a=>match a.1 with
  | .sh (.bool true)=>g a.2
  | .sh (.bool false)=>some (.sh (.bool false),a.2)
  | _=>none
def cH (f g:ie):ie:=fun E=>(f E).bind fun a=>if a.1 then g a.2 else some (false,a.2)
def dv (f g:ie):ie:=fun E=>(f E).bind fun a=>if a.1 then some (true,a.2) else g a.2
def bT (f:ie):ie:=fun E=>(f E).map fun a=>(!a.1,a.2)
def mv (c:ie) (f g:bN):bN:=fun E=>(c E).bind fun a=>if a.1 then f a.2 else g a.2
def dF:PyData→Option Bool
  | .none=>some false
  | .bool b=>some b
  | .int i=>some (i != 0)
  | .str x=>if x.length≤1000000 then some ((x.length:Int) != 0) else none
  | .list xs=>some (!xs.isEmpty)
  | .tuple xs=>some (!xs.isEmpty)
  | .dict _=>none
def cB (f:bN):ie:=fun E=>(f E).bind fun a=>match a.1 with
  | .al i=>match a.2[i]? with
    | some (.od kvs)=>some (!kvs.isEmpty,a.2)
    | some s=>(s.val.bind dF).map fun b=>(b,a.2)
    | none=>none
  | s=>(s.val.bind dF).map fun b=>(b,a.2)
section
variable {X:Cx} {a b c:Expr} {bj:List Expr} {m1 m2 m3:Bool} {f g h:bN} {t u:ie} {pos:Pos} {K:PySem.W.Frag}
theorem wd {op} (h:EX X a m1 f):EX X (.BoolOp op [a] pos) m1 f:=vF h
theorem rV (ha:EX X a m1 f) (hb:EX X (.BoolOp .And (b::bj) pos) m2 g):EX X (.BoolOp .And (a::b::bj) pos) (m1||m2) (oX f g):=by
  refine a7 (vG ha hb) fun σ H Q z=>?_
  obtain ⟨B,E,xs,Xs,res,E',fr,cl,e,q⟩:=z
  obtain ⟨⟨s1,E1⟩,e1,e⟩:=Option.bind_eq_some_iff.mp e
  refine ⟨B,E,xs,Xs,s1,E1,fr,fun z=>cl (by simp [z]),e1,fun v1 H1 ⟨F,A,fr1⟩=>?_⟩
  simp only at e
  split at e
  · obtain ⟨r,_⟩:=fr1.look0 (d:= .bool true) rfl
    cases r
    obtain ⟨A',fr2⟩:=fr1.pop
    exact ⟨true,rfl,(if_pos rfl).mpr ⟨B,E1,xs,Xs,res,E',⟨F,A',fr2⟩,fun z=>cl (by simp [z]),e,q⟩⟩
  · cases e
    obtain ⟨r,_⟩:=fr1.look0 (d:= .bool false) rfl
    cases r
    exact ⟨false,rfl,(if_neg (by decide)).mpr (q _ _ ⟨F,A,fr1⟩)⟩
  · cases e
theorem i8 (ha:TX X a m1 t):WX X (.BoolOp .And [a] pos) m1 t:=tS ha
theorem iu (ha:TX X a m1 t):WX X (.BoolOp .Or [a] pos) m1 t:=vC ha
theorem lD (ha:TX X a m1 t) (hb:WX X (.BoolOp .And (b::bj) pos) m2 u):WX X (.BoolOp .And (a::b::bj) pos) (m1||m2) (cH t u):=by
  refine rM (vD ha hb) fun σ H Q z=>?_
  obtain ⟨B,E,xs,Xs,res,E',fr,cl,e,q⟩:=z
  obtain ⟨⟨b1,E1⟩,e1,e⟩:=Option.bind_eq_some_iff.mp e
  refine ⟨B,E,xs,Xs,b1,E1,fr,fun z=>cl (by simp [z]),e1,fun H1 fr1=>?_⟩
  cases b1 with
  | true=>exact (if_pos rfl).mpr ⟨B,E1,xs,Xs,res,E',fr1,fun z=>cl (by simp [z]),e,q⟩
  | false=>cases e;exact (if_neg (by decide)).mpr (q _ fr1)
theorem gR (ha:TX X a m1 t) (hb:WX X (.BoolOp .Or (b::bj) pos) m2 u):WX X (.BoolOp .Or (a::b::bj) pos) (m1||m2) (dv t u):=by
  refine rM (xf ha hb) fun σ H Q z=>?_
  obtain ⟨B,E,xs,Xs,res,E',fr,cl,e,q⟩:=z
  obtain ⟨⟨b1,E1⟩,e1,e⟩:=Option.bind_eq_some_iff.mp e
  refine ⟨B,E,xs,Xs,b1,E1,fr,fun z=>cl (by simp [z]),e1,fun H1 fr1=>?_⟩
  cases b1 with
  | true=>cases e;exact (if_pos rfl).mpr (q _ fr1)
  | false=>exact (if_neg (by decide)).mpr ⟨B,E1,xs,Xs,res,E',fr1,fun z=>cl (by simp [z]),e,q⟩
theorem j6 (h:WX X a m1 t):TX X a m1 t:=PW.pt h
theorem fH (ha:TX X a m1 t):TX X (.UnaryOp .Not a pos) m1 (bT t):=by
  refine ly (vE ha) fun σ H Q z=>?_
  obtain ⟨B,E,xs,Xs,res,E',fr,cl,e,q⟩:=z
  obtain ⟨⟨b1,E1⟩,e1,e⟩:=Option.map_eq_some_iff.mp e
  cases e
  exact ⟨B,E,xs,Xs,b1,E1,fr,cl,e1,fun H1 fr1=>q _ fr1⟩
theorem oY (hc:TX X c m1 t) (ha:EX X a m2 f) (hb:EX X b m3 g):EX X (.IfExp c a b pos) (m1||(m2||m3)) (mv t f g):=by
  refine a7 (qB hc ha hb) fun σ H Q z=>?_
  obtain ⟨B,E,xs,Xs,res,E',fr,cl,e,q⟩:=z
  obtain ⟨⟨b1,E1⟩,e1,e⟩:=Option.bind_eq_some_iff.mp e
  refine ⟨B,E,xs,Xs,b1,E1,fr,fun z=>cl (by simp [z]),e1,fun H1 fr1=>?_⟩
  cases b1 with
  | true=>exact (if_pos rfl).mpr ⟨B,E1,xs,Xs,res,E',fr1,fun z=>cl (by simp [z]),e,q⟩
  | false=>exact (if_neg (by decide)).mpr ⟨B,E1,xs,Xs,res,E',fr1,fun z=>cl (by simp [z]),e,q⟩
theorem we {H:Hp} {v:V} {d:PyData} {b:Bool} (r:Rp K H v d) (e:dF d=some b):qS K v H b:=by
  cases r with
  | non=>cases e;rfl
  | bl b=>cases e;rfl
  | int i=>cases e;rfl
  | str x=>
    simp only [dF] at e
    split at e
    · rename_i hl
      cases e
      exact ⟨eM hl,rfl⟩
    · cases e
  | lst h r=>cases e;exact .inl ⟨_,h,by cases r <;> rfl⟩
  | tup h r=>cases e;exact .inr (.inl ⟨_,h,by cases r <;> rfl⟩)
  | dct h r=>cases e
  | obj c h n r=>cases e
theorem dw (ha:EX X a m1 f) (he:∀whole,isTrue a X.env whole=(do let v ←whole;standAt a.pos;holding [v] (truthy v)):=by exact fun _=>rfl):TX X a m1 (cB f):=by
  refine ly (qU ha he) fun σ H Q z=>?_
  obtain ⟨B,E,xs,Xs,res,E',fr,cl,e,q⟩:=z
  obtain ⟨⟨s,E1⟩,e1,e⟩:=Option.bind_eq_some_iff.mp e
  refine ⟨B,E,xs,Xs,s,E1,fr,cl,e1,fun v1 H1 ⟨F,A,fr1⟩=>?_⟩
  have key:∀d,look E1 s=some d→(dF d).map (fun b=>(b,E1))=some (res,E')→∃k,qS X.K v1 H1 k∧Q k H1:=fun d l e=>by
    obtain ⟨b,e',z⟩:=Option.map_eq_some_iff.mp e
    cases z
    obtain ⟨A',fr2⟩:=fr1.pop
    exact ⟨_,we (fr1.look0 l).1 e',q _ ⟨F,A',fr2⟩⟩
  have kv:(s.val.bind dF).map (fun b=>(b,E1))=some (res,E')→(∀i,s≠ .al i)→∃k,qS X.K v1 H1 k∧Q k H1:=fun e na=>by
    obtain ⟨b,e',z⟩:=Option.map_eq_some_iff.mp e
    obtain ⟨d,e1,e2⟩:=Option.bind_eq_some_iff.mp e'
    refine key d ?_ (by rw [e2];exact congrArg some z)
    cases s <;> first | exact e1 | exact absurd rfl (na _)
  simp only at e
  split at e
  · rename_i i
    split at e
    · rename_i kvs ei
      cases e
      obtain ⟨v',A1,ev,rfl,w,ew,hw⟩:=fr1.ext (k:=0) rfl
      cases ev;cases ew
      obtain ⟨o,A1,eo,l,us,A2,rfl,_,hl,r⟩:=fr1.var ei
      rw [hw] at eo
      cases eo
      obtain ⟨A',fr2⟩:=fr1.pop
      exact ⟨_, .inr (.inr ⟨_,hl,by cases us <;> cases kvs <;> first | rfl | exact False.elim r⟩),q _ ⟨F,A',fr2⟩⟩
    · rename_i s' _ ei
      obtain ⟨b,e',z⟩:=Option.map_eq_some_iff.mp e
      obtain ⟨d,e1,e2⟩:=Option.bind_eq_some_iff.mp e'
      exact key d (by simp [look,ei,e1]) (by rw [e2];exact congrArg some z)
    · cases e
  · rename_i na
    exact kv e na
end
theorem rW {X:Cx} {a b c:Expr} {m1 m2 m3:Bool} {f g h:bN} {pos:Pos} {o1 o2:CmpOp} {r r':R2} {op op':PyData→PyData→Option PyData} (ho:OpR X (compareOp o1) r) (ho':OpR X (compareOp o2) r') (k:lC X.K r op) (k':lC X.K r' op') (ha:EX X a m1 f) (hb:EX X b m2 g) (hc:EX X c m3 h)
    (hm:lastMarks [o1,o2] [b,c]=false:=by with_unfolding_all rfl):TX X (.Compare a [o1,o2] [b,c] pos) (m1||(m2||m3)) (bp (bv op op' m2 m3 f g h)):=ly (qR ho ho' ha hb hc hm) fun _ _ _ z=>mM k k' (rO z)
def ao:j4:=fun E=>some ([],E)
def ad (m2:Bool) (f:bN) (g:j4):j4:=fun E=>(f E).bind fun a=>if m2&&a.1.isBr then none else (g a.2).map fun b=>(a.1::b.1,b.2)
def bC:kM:=fun E=>some ([],E)
def aO (f:bN) (g:kM):kM:=fun E=>(f E).bind fun a=>(frz a.2 a.1).bind fun b=>(g b.2).map fun c=>(b.1::c.1,c.2)
def eO (f:kM):bN:=fun E=>(f E).bind fun a=>if a.1.length≤1000000 then some (.sh (.tuple a.1),a.2) else none
def dy (f:kM):bN:=fun E=>(f E).bind fun a=>if a.1.length≤1000000 then some (.ow a.1,a.2) else none
section
variable {X:Cx} {e:Expr} {es:List Expr} {m1 m2:Bool} {f:bN} {g:j4} {d:kM} {pos:Pos} {K:PySem.W.Frag}
theorem ar:AX X [] false ao:=by
  refine ip dt fun σ H Q z=>?_
  obtain ⟨B,E,xs,Xs,res,E',fr,cl,e,q⟩:=z
  cases e
  exact q [] H rfl fr
theorem af (ha:EX X e m1 f) (hr:AX X es m2 g) (hs:starEach (e::es) X.env=(false,eval e X.env)::starEach es X.env:=by rfl):AX X (e::es) (m1||m2) (ad m2 f g):=by
  refine ip (bU ha hr hs) fun σ H Q z=>?_
  obtain ⟨B,E,xs,Xs,res,E',fr,cl,e,q⟩:=z
  obtain ⟨⟨s,E1⟩,e1,e⟩:=Option.bind_eq_some_iff.mp e
  by_cases hb:(m2&&s.isBr)=true
  · rw [if_pos hb] at e;cases e
  rw [if_neg hb] at e
  obtain ⟨⟨rs,E2⟩,e2,e⟩:=Option.map_eq_some_iff.mp e
  cases e
  refine ⟨B,E,xs,Xs,s,E1,fr,fun z=>cl (by simp [z]),e1,fun v1 H1 fr1=>?_⟩
  refine ⟨B,E1,v1::xs,s::Xs,rs,E2,fr1,fun z=>Calm.cons (cl (by simp [z])) ?_,e2,fun vs H2 hl fr2=>?_⟩
  · cases hs:s.isBr with
    | false=>rfl
    | true=>exact absurd (by simp [z,hs]) hb
  · exact q (v1::vs) H2 (by simp [hl]) (by simpa using fr2)
theorem cI:DX X [] false bC:=by
  refine ip dt fun σ H Q z=>?_
  obtain ⟨B,E,xs,Xs,res,E',fr,cl,e,q⟩:=z
  cases e
  exact q [] H rfl fr
theorem bq (ha:EX X e m1 f) (hr:DX X es m2 d) (hs:starEach (e::es) X.env=(false,eval e X.env)::starEach es X.env:=by rfl):DX X (e::es) (m1||m2) (aO f d):=by
  refine ip (bU ha hr hs) fun σ H Q z=>?_
  obtain ⟨B,E,xs,Xs,res,E',fr,cl,e,q⟩:=z
  obtain ⟨⟨s,E1⟩,e1,e⟩:=Option.bind_eq_some_iff.mp e
  obtain ⟨⟨d1,E2⟩,e2,e⟩:=Option.bind_eq_some_iff.mp e
  obtain ⟨⟨rs,E3⟩,e3,e⟩:=Option.map_eq_some_iff.mp e
  cases e
  refine ⟨B,E,xs,Xs,s,E1,fr,fun z=>cl (by simp [z]),e1,fun v1 H1 ⟨F,A,fr1⟩=>?_⟩
  obtain ⟨F2,A2,fr2⟩:=fr1.frz0 e2
  refine ⟨B,E2,v1::xs, .sh d1::Xs,rs,E3,⟨F2,A2,fr2⟩,fun z=>Calm.cons (cl (by simp [z])) rfl,e3,fun vs H2 hl fr2=>?_⟩
  exact q (v1::vs) H2 (by simp [hl]) (by simpa using fr2)
theorem FrF.shsR {B F:Hp} {σ:hJ} {H:Hp} {E:List Sl} {xs:List V} {Xs:List Sl}:∀{us:List V} {es:List PyData} {A:List Addr},us.length=es.length→FrF K B F A σ H E (us++xs) (es.map .sh++Xs)→RpA K F us es∧∃A',FrF K B F A' σ H E xs Xs
  | [],[],A,_,h=>⟨.nil,A,h⟩
  | u::us,e::es,A,hl,h=>by
    obtain ⟨v,A1,ev,rfl,w,ew,r⟩:=h.ext (k:=0) rfl
    cases ev;cases ew
    obtain ⟨A',h'⟩:=FrF.pop (xs:=us++xs) (Xs:=es.map .sh++Xs) h
    obtain ⟨r',q⟩:=FrF.shsR (by simpa using hl) h'
    exact ⟨.cons r r',q⟩
  | [],_::_,_,e,_=>by cases e
  | _::_,[],_,e,_=>by cases e
theorem FrF.shs {B F:Hp} {σ:hJ} {H:Hp} {E:List Sl} {xs:List V} {Xs:List Sl} {us:List V} {es:List PyData} {A:List Addr} (hl:us.length=es.length) (h:FrF K B F A σ H E (us.reverse++xs) (es.reverse.map .sh++Xs)):RpA K F us es∧∃A',FrF K B F A' σ H E xs Xs:=by
  obtain ⟨r,q⟩:=FrF.shsR (by simpa using hl) h
  have:=r.rev
  rw [List.reverse_reverse,List.reverse_reverse] at this
  exact ⟨this,q⟩
theorem iw {x1} (h:DX X es m1 d):EX X (.Tuple es x1 pos) m1 (eO d):=by
  refine a7 (qX h) fun σ H Q z=>?_
  obtain ⟨B,E,xs,Xs,res,E',fr,cl,e,q⟩:=z
  obtain ⟨⟨ds,E1⟩,e1,e⟩:=Option.bind_eq_some_iff.mp e
  simp only at e
  split at e
  · rename_i hl
    cases e
    refine ⟨B,E,xs,Xs,ds,_,fr,cl,e1,fun vs H1 hv ⟨F,A,fr1⟩=>?_⟩
    obtain ⟨r,A',fr2⟩:=fr1.shs hv
    exact ⟨eM (by omega),fun p hp=>q _ _ ⟨_,_,fr2.newt r hp⟩⟩
  · cases e
theorem fg (h:DX X es m1 d):EX X (.List es pos) m1 (dy d):=by
  refine a7 (vY h) fun σ H Q z=>?_
  obtain ⟨B,E,xs,Xs,res,E',fr,cl,e,q⟩:=z
  obtain ⟨⟨ds,E1⟩,e1,e⟩:=Option.bind_eq_some_iff.mp e
  simp only at e
  split at e
  · rename_i hl
    cases e
    refine ⟨B,E,xs,Xs,ds,_,fr,cl,e1,fun vs H1 hv ⟨F,A,fr1⟩=>?_⟩
    obtain ⟨r,A',fr2⟩:=fr1.shs hv
    exact ⟨eM (by omega),fun p hp=>q _ _ ⟨_,_,fr2.newl r hp⟩⟩
  · cases e
end
def pX (ds:List PyData) (lo hi:Option Int):List PyData:=(ds.drop (HT.iJ ds.length 0 lo)).take (HT.iJ ds.length ds.length hi - HT.iJ ds.length 0 lo)
def c_:P2:=fun E s1 s2=>(look E s1).bind fun d1=>(look E s2).bind fun d2=>match d2 with
  | .int i=>match d1 with
    | .list ds=>(atI ds i).map fun d=>(if hot E s1&& !a8 d then .br d else .sh d,E)
    | .tuple ds=>(atI ds i).map fun d=>(if hot E s1&& !a8 d then .br d else .sh d,E)
    | .str z=>if z.length≤1000000 then (atI z.cps.toList i).map fun c=>(.sh (.str ⟨#[c]⟩),E) else none
    | _=>none
  | _=>none
section
variable {K:PySem.W.Frag} {H:Hp}
theorem RpA.atI {vs:List V} {ds:List PyData} {i:Int} {d:PyData} (h:RpA K H vs ds) (e:L2.atI ds i=some d):∃v,L2.atI vs i=some v∧Rp K H v d:=by
  unfold L2.atI at e ⊢
  obtain ⟨j,e1,e2⟩:=Option.bind_eq_some_iff.mp e
  obtain ⟨v,ev,r⟩:=h.get e2
  exact ⟨v,by rw [h.len,e1];exact ev,r⟩
theorem FrF.item {B F:Hp} {A:List Addr} {σ:hJ} {E:List Sl} {xs:List V} {Xs:List Sl} {v1 v2 v:V} {s1 s2:Sl} {d:PyData} (fr:FrF K B F A σ H E (v2::v1::xs) (s2::s1::Xs)) (r:Rp K H v d) (f:hot E s1=false→Rp K F v d):
    Frm K B σ H E (v::xs) ((if hot E s1&& !a8 d then .br d else .sh d)::Xs):=by
  by_cases hc:(hot E s1&& !a8 d)=true
  · rw [if_pos hc]
    exact fr.res2 ⟨rfl,v,rfl,r⟩
  · rw [if_neg hc]
    refine fr.res2 ⟨rfl,v,rfl,?_⟩
    cases hh:hot E s1 with
    | false=>exact f hh
    | true=>
      rw [hh] at hc
      exact fr.cold r (by simpa using hc)
theorem wf:gh K (zu K) c_:=by
  intro B F A σ H E xs Xs v1 v2 s1 s2 res E' Q fr e q
  obtain ⟨d1,e1,e⟩:=Option.bind_eq_some_iff.mp e
  obtain ⟨d2,e2,e⟩:=Option.bind_eq_some_iff.mp e
  obtain ⟨r1,f1⟩:=fr.look1 e1
  have r2:=(fr.look0 e2).1
  split at e
  · cases r2
    split at e
    · obtain ⟨d,ed,e⟩:=Option.map_eq_some_iff.mp e
      cases e
      cases hh:hot E s1 with
      | false=>
        obtain ⟨a,vs,rfl,h1,h2⟩:=f1 hh
        obtain ⟨v,ev,rv⟩:=h2.atI ed
        have z:=fr.item (rv.same fr.fh) fun _=>rv
        rw [hh] at z q
        exact .inl ⟨_,_,_,v,rfl,rfl,h1,ev,q _ _ z⟩
      | true=>
        cases r1 with
        | lst h1 h2=>
          obtain ⟨v,ev,rv⟩:=h2.atI ed
          have z:=fr.item rv fun h=>absurd (hh.symm.trans h) (by decide)
          rw [hh] at z q
          exact .inl ⟨_,_,_,v,rfl,rfl,h1,ev,q _ _ z⟩
    · obtain ⟨d,ed,e⟩:=Option.map_eq_some_iff.mp e
      cases e
      cases hh:hot E s1 with
      | false=>
        have h0:Rp K F v1 _:=f1 hh
        cases h0 with
        | tup h1 h2=>
          obtain ⟨v,ev,rv⟩:=h2.atI ed
          have z:=fr.item (rv.same fr.fh) fun _=>rv
          rw [hh] at z q
          exact .inr (.inl ⟨_,_,_,v,rfl,rfl,fr.fh.tup h1,ev,q _ _ z⟩)
      | true=>
        cases r1 with
        | tup h1 h2=>
          obtain ⟨v,ev,rv⟩:=h2.atI ed
          have z:=fr.item rv fun h=>absurd (hh.symm.trans h) (by decide)
          rw [hh] at z q
          exact .inr (.inl ⟨_,_,_,v,rfl,rfl,h1,ev,q _ _ z⟩)
    · split at e
      · rename_i hl
        obtain ⟨c,ec,e⟩:=Option.map_eq_some_iff.mp e
        cases e;cases r1
        exact .inr (.inr ⟨_,_,c,rfl,rfl,eM hl,ec,q _ _ (fr.res2 ⟨rfl,_,rfl, .str _⟩)⟩)
      · cases e
    · cases e
  · cases e
end
end PL
namespace L2
open PySem PySem.Spec PyProof.Rows
section
variable {κ:Type} [DecidableEq κ]
def i0 (kvs:List (κ×V)) (k:κ):Option V:=(kvs.find? fun kv=>decide (kv.1=k)).map (·.2)
def mN (kvs:List (κ×V)) (k:κ) (v:V):List (κ×V):=
  if (kvs.any fun kv=>decide (kv.1=k))=true then kvs.map (fun kv=>if kv.1=k then (kv.1,v) else kv) else kvs++[(k,v)]
def vn (kvs:List (κ×V)) (k:κ):List (κ×V):=kvs.filter fun kv=>decide (kv.1≠k)
theorem jy {p:κ×V} {r:List (κ×V)} {k:κ} (e:p.1=k):i0 (p::r) k=some p.2:=by simp [i0,List.find?_cons,e]
theorem jz {p:κ×V} {r:List (κ×V)} {k:κ} (e:¬p.1=k):i0 (p::r) k=i0 r k:=by simp [i0,List.find?_cons,e]
theorem mO (k:κ):∀kvs:List (κ×V),(kvs.any fun kv=>decide (kv.1=k))=(i0 kvs k).isSome
  | []=>rfl
  | p::r=>by
    rw [List.any_cons]
    by_cases e:p.1=k
    · simp only [jy e,decide_eq_true e,Bool.true_or,Option.isSome_some]
    · rw [jz e,decide_eq_false e,Bool.false_or];exact mO k r
theorem RelO.isSome_eq {o:Option V} {u:Option Value} (r:RelO o u):o.isSome=u.isSome:=by
  cases o with
  | none=>cases u with
    | none=>rfl
    | some _=>exact (show False from r).elim
  | some _=>cases u with
    | none=>exact (show False from r).elim
    | some _=>rfl
theorem RelO.getD {o:Option V} {u:Option Value} {d:V} {d':Value} (r:RelO o u) (rd:RelV d d'):RelV (o.getD d) (u.getD d'):=by
  cases o with
  | none=>cases u with
    | none=>exact rd
    | some _=>exact (show False from r).elim
  | some _=>cases u with
    | none=>exact (show False from r).elim
    | some _=>exact r
theorem KV.val {kvs:List (κ×V)} {vs:List (κ×Value)} (r:KV kvs vs) (k:κ):RelO (i0 kvs k) (valueAt vs k):=by
  unfold KV at r
  induction r with
  | nil=>exact True.intro
  | @cons p q ps qs h t ih=>
    obtain ⟨h1,h2⟩:=h
    by_cases e:p.1=k
    · have e':q.1=k:=h1.symm.trans e
      have b:valueAt (q::qs) k=some q.2:=by simp [valueAt,List.find?_cons,e']
      rw [jy e,b];exact h2
    · have e':¬q.1=k:=fun z=>e (h1.trans z)
      have b:valueAt (q::qs) k=valueAt qs k:=by simp [valueAt,List.find?_cons,e']
      rw [jz e,b];exact ih
theorem KV.any {kvs:List (κ×V)} {vs:List (κ×Value)} (r:KV kvs vs) (k:κ):(kvs.any fun kv=>decide (kv.1=k))=vs.any fun kv=>decide (kv.1=k):=by
  unfold KV at r
  induction r with
  | nil=>rfl
  | cons h t ih=>rw [List.any_cons,List.any_cons,ih,h.1]
theorem KV.repl {kvs:List (κ×V)} {vs:List (κ×Value)} (r:KV kvs vs) (k:κ) {y:V} {u:Value} (ry:RelV y u):
    KV (kvs.map fun kv=>if kv.1=k then (kv.1,y) else kv) (vs.map fun kv=>if kv.1=k then (kv.1,u) else kv):=by
  unfold KV at r ⊢
  induction r with
  | nil=>exact .nil
  | @cons p q ps qs h t ih=>
    rw [List.map_cons,List.map_cons]
    refine .cons ?_ ih
    obtain ⟨h1,h2⟩:=h
    by_cases e:p.1=k
    · rw [if_pos e,if_pos (h1.symm.trans e)];exact ⟨h1,ry⟩
    · rw [if_neg e,if_neg (fun z=>e (h1.trans z))];exact ⟨h1,h2⟩
theorem KV.put {kvs:List (κ×V)} {vs:List (κ×Value)} (r:KV kvs vs) (k:κ) {y:V} {u:Value} (ry:RelV y u):KV (mN kvs k y) (stored vs k u):=by
  unfold mN stored
  rw [r.any k]
  by_cases e:(vs.any fun kv=>decide (kv.1=k))=true
  · rw [if_pos e,if_pos e];exact r.repl k ry
  · rw [if_neg e,if_neg e];exact Paired.snoc r ⟨rfl,ry⟩
theorem KV.drop {kvs:List (κ×V)} {vs:List (κ×Value)} (r:KV kvs vs) (k:κ):KV (vn kvs k) (without vs k):=by
  unfold KV at r ⊢
  unfold vn without
  induction r with
  | nil=>exact .nil
  | @cons p q ps qs h t ih=>
    obtain ⟨h1,h2⟩:=h
    rw [List.filter_cons,List.filter_cons]
    by_cases e:p.1=k
    · have a:¬decide (p.1≠k)=true:=by simp [e]
      have b:¬decide (q.1≠k)=true:=by simp [h1.symm.trans e]
      rw [if_neg a,if_neg b];exact ih
    · have e':¬q.1=k:=fun z=>e (h1.trans z)
      have a:decide (p.1≠k)=true:=by simp [e]
      have b:decide (q.1≠k)=true:=by simp [e']
      rw [if_pos a,if_pos b];exact .cons ⟨h1,h2⟩ ih
theorem KV.keys {kvs:List (κ×V)} {vs:List (κ×Value)} (r:KV kvs vs):kvs.map (·.1)=vs.map (·.1):=by
  unfold KV at r
  induction r with
  | nil=>rfl
  | cons h t ih=>rw [List.map_cons,List.map_cons,ih,h.1]
theorem KV.length {kvs:List (κ×V)} {vs:List (κ×Value)} (r:KV kvs vs):kvs.length=vs.length:=Paired.length r
end
abbrev KT (H:Hp):List (List cX×V)→List (List cX×Addr×Value)→Prop:=Paired fun p q=>p.1=q.1∧H q.2.1=some (.tup (p.1.map kV))∧RelV p.2 q.2.2
theorem KT.val {H:Hp} {kvs:List (List cX×V)} {xs:List (List cX×Addr×Value)} (r:KT H kvs xs) (k:List cX):RelO (i0 kvs k) ((atKey xs k).map (·.2)):=by
  induction r with
  | nil=>exact True.intro
  | @cons p q ps qs h t ih=>
    obtain ⟨h1,_,h2⟩:=h
    by_cases e:p.1=k
    · have e':q.1=k:=h1.symm.trans e
      have b:atKey (q::qs) k=some q.2:=by simp [atKey,List.find?_cons,e']
      rw [jy e,b];exact h2
    · have e':¬q.1=k:=fun z=>e (h1.trans z)
      have b:atKey (q::qs) k=atKey qs k:=by simp [atKey,List.find?_cons,e']
      rw [jz e,b];exact ih
theorem KT.repl {H:Hp} {kvs:List (List cX×V)} {xs:List (List cX×Addr×Value)} (r:KT H kvs xs) (k:List cX) {y:V} {u:Value} (ry:RelV y u):
    KT H (kvs.map fun kv=>if kv.1=k then (kv.1,y) else kv) (xs.map (putAt k u)):=by
  induction r with
  | nil=>exact .nil
  | @cons p q ps qs h t ih=>
    rw [List.map_cons,List.map_cons]
    refine .cons ?_ ih
    obtain ⟨h1,h2,h3⟩:=h
    unfold putAt
    by_cases e:p.1=k
    · rw [if_pos e,if_pos (h1.symm.trans e)];exact ⟨h1,h2,ry⟩
    · rw [if_neg e,if_neg (fun z=>e (h1.trans z))];exact ⟨h1,h2,h3⟩
theorem KT.put {H:Hp} {kvs:List (List cX×V)} {xs:List (List cX×Addr×Value)} (r:KT H kvs xs) (k:List cX) {b:Addr} {y:V} {u:Value} (hb:H b=some (.tup (k.map kV))) (ry:RelV y u):
    KT H (mN kvs k y) (storedH xs k b u):=by
  have e:(kvs.any fun kv=>decide (kv.1=k))=(atKey xs k).isSome:=by
    rw [mO,(r.val k).isSome_eq,Option.isSome_map]
  unfold mN storedH
  rw [e]
  by_cases q:(atKey xs k).isSome=true
  · rw [if_pos q,if_pos q];exact r.repl k ry
  · rw [if_neg q,if_neg q];exact Paired.snoc r ⟨rfl,hb,ry⟩
theorem KT.keeps {H H':Hp} {kvs:List (List cX×V)} {xs:List (List cX×Addr×Value)} (r:KT H kvs xs) (ht:∀b ys,H b=some (.tup ys)→H' b=some (.tup ys)):KT H' kvs xs:=
  Paired.mapP r fun _ _ z=>⟨z.1,ht _ _ z.2.1,z.2.2⟩
section
variable {P:Program} {w:World} {H:Hp} {h:Heap} {a:Addr}
theorem xM {u:HO} (ok:HOk P w H h) (e:Rd H a u):ObjOk P w H h a u:=e.ok ok
theorem xN {kvs:List (cX×V)} (ok:HOk P w H h) (e:Rd H a (.dK kvs)):kvs.length≤sizeLine∧(a == sysModules)=false∧∃vs,KV kvs vs∧h.DictOf (i5 P w) a vs:=
  show ObjOk P w H h a (.dK kvs) from xM ok e
end
def DGet (H:Hp) (a:Addr) (y:V) (r:Option V):Prop:=
  (∃kvs k,Rd H a (.dK kvs)∧y=kV k∧r=i0 kvs k)∨∃kvs k b,Rd H a (.dT kvs)∧y= .ref b∧H b=some (.tup (k.map kV))∧r=i0 kvs k
def DPut (H:Hp) (a:Addr) (y v:V) (H':Hp):Prop:=
  (∃kvs k,H a=some (.dK kvs)∧y=kV k∧kvs.length < sizeLine∧H'=upd H a (.dK (mN kvs k v)))∨
  ∃kvs k b,H a=some (.dT kvs)∧y= .ref b∧H b=some (.tup (k.map kV))∧kvs.length < sizeLine∧H'=upd H a (.dT (mN kvs k v))
theorem DGet.k {H:Hp} {a:Addr} {kvs:List (cX×V)} {k:cX} (e:H a=some (.dK kvs)):DGet H a (kV k) (i0 kvs k):= .inl ⟨kvs,k, .inl e,rfl,rfl⟩
theorem DGet.t {H:Hp} {a b:Addr} {kvs:List (List cX×V)} {k:List cX} (e:H a=some (.dT kvs)) (eb:H b=some (.tup (k.map kV))):DGet H a (.ref b) (i0 kvs k):= .inr ⟨kvs,k,b, .inl e,rfl,eb,rfl⟩
theorem DPut.k {H:Hp} {a:Addr} {kvs:List (cX×V)} {k:cX} {v:V} (e:H a=some (.dK kvs)) (hl:kvs.length < sizeLine):DPut H a (kV k) v (upd H a (.dK (mN kvs k v))):= .inl ⟨kvs,k,e,rfl,hl,rfl⟩
theorem DPut.t {H:Hp} {a b:Addr} {kvs:List (List cX×V)} {k:List cX} {v:V} (e:H a=some (.dT kvs)) (eb:H b=some (.tup (k.map kV))) (hl:kvs.length < sizeLine):
    DPut H a (.ref b) v (upd H a (.dT (mN kvs k v))):= .inr ⟨kvs,k,b,e,rfl,eb,hl,rfl⟩
section
variable {X:Cx} {pins:List (Addr×Obj)} {σ:St} {H:Hp} {s:Shared} {a:Addr} {y v:V} {u r:Value} {o:Option V} {A:Around} {E:Value→Shared→Prop}
theorem Inv.big (I:Inv X pins σ H s):sysModules < s.heap.objs.size:=by
  have h:mainGlobals < s.heap.objs.size:=(I.mod.glob.keeps I.bk).lt
  exact Nat.lt_trans (by decide) h
end
end L2
namespace PL
open PySem L2 Nh
theorem bX {X:Cx} {a b:Expr} {m1 m2:Bool} {f g:bN} {pos:Pos} (ha:EX X a m1 f) (hb:EX X b m2 g) (hs:oJ b:=by exact fun _ _=>rfl):EX X (.Subscript a b pos) (m1||m2) (ae c_ m2 f g):=a7 (q9 v5 ha hb hs) fun _ _ _ h=>lz wf h
abbrev wg:=List Sl→Option (Option Int×List Sl)
def ro (K:PySem.W.Frag) (m:Bool) (f:wg):TO:=fun σ H Q=>∃B E xs Xs o E',Frm K B σ H E xs Xs∧(m=true→Calm Xs)∧f E=some (o,E')∧∀H',Frm K B σ H' E' xs Xs→Q o H'
def OX (X:Cx) (e:Option Expr) (m:Bool) (f:wg):Prop:=PO X e (ro X.K m f)
def gi:wg:=fun E=>some (none,E)
def dr (f:bN):wg:=fun E=>(f E).bind fun a=>match look a.2 a.1 with
  | some (.int i)=>some (some i,a.2)
  | _=>none
section
variable {X:Cx} {e:Expr} {lo hi:Option Expr} {m1 m2 m3:Bool} {f:bN} {g h:wg} {pos p2:Pos} {K:PySem.W.Frag}
theorem rX {e:Option Expr} {t t':TO} (h:PO X e t) (k:∀σ H Q,t' σ H Q→t σ H Q):PO X e t':=fun pins s σ H Q I q=>h pins s σ H Q I (k σ H Q q)
theorem lE:OX X none false gi:=rX ub fun σ H Q z=>by
  obtain ⟨B,E,xs,Xs,res,E',fr,cl,e,q⟩:=z
  cases e
  exact q _ fr
theorem fI (he:EX X e m1 f):OX X (some e) m1 (dr f):=rX (uc he) fun σ H Q z=>by
  obtain ⟨B,E,xs,Xs,res,E',fr,cl,e,q⟩:=z
  obtain ⟨⟨s,E1⟩,e1,e⟩:=Option.bind_eq_some_iff.mp e
  refine ⟨B,E,xs,Xs,s,E1,fr,cl,e1,fun v1 H1 ⟨F,A,fr1⟩=>?_⟩
  simp only at e
  split at e
  · rename_i i l
    cases e
    have r:=(fr1.look0 l).1
    cases r
    obtain ⟨A',fr2⟩:=fr1.pop
    exact ⟨i,rfl,q _ ⟨F,A',fr2⟩⟩
  · cases e
theorem RpA.cut {F:Hp} {vs:List V} {ds:List PyData} (h:RpA K F vs ds) (lo hi:Option Int):RpA K F (pO vs lo hi) (pX ds lo hi):=by
  unfold pO pX
  rw [h.len]
  exact (h.drop _).take _
end
def aw (E:List Sl):List Sl→Option (List PyData)
  | []=>some []
  | s::ss=>(look E s).bind fun d=>(aw E ss).map fun ds=>d::ds
theorem lookA_iff {E:List Sl}:∀{ss:List Sl} {ds:List PyData},aw E ss=some ds↔Paired (fun s d=>look E s=some d) ss ds
  | [],ds=>⟨fun h=>by cases h;exact .nil,fun h=>by cases h;rfl⟩
  | s::ss,ds=>by
    constructor
    · intro h
      obtain ⟨d,h1,h⟩:=Option.bind_eq_some_iff.mp h
      obtain ⟨es,h2,h⟩:=Option.map_eq_some_iff.mp h
      cases h
      exact .cons h1 (lookA_iff.mp h2)
    · intro h
      cases h with
      | cons h1 h2=>simp [aw,h1,lookA_iff.mpr h2]
theorem pY {E:List Sl} {ss:List Sl} {ds:List PyData} (h:aw E ss=some ds):aw E ss.reverse=some ds.reverse:=lookA_iff.mpr (gX (lookA_iff.mp h))
section
variable {X:Cx} {K:PySem.W.Frag} {B F:Hp} {σ:hJ} {H:Hp} {E:List Sl} {xs:List V} {Xs:List Sl}
theorem FrF.looksR:∀{us:List V} {ts:List Sl} {es:List PyData} {A:List Addr},us.length=ts.length→FrF K B F A σ H E (us++xs) (ts++Xs)→aw E ts=some es→RpA K H us es∧∃A',FrF K B F A' σ H E xs Xs
  | [],[],es,A,_,h,e=>by cases e;exact ⟨.nil,A,h⟩
  | u::us,t::ts,es,A,hl,h,e=>by
    obtain ⟨d,h1,e⟩:=Option.bind_eq_some_iff.mp e
    obtain ⟨es',h2,e⟩:=Option.map_eq_some_iff.mp e
    cases e
    have r:=(FrF.look0 (xs:=us++xs) (Xs:=ts++Xs) h h1).1
    obtain ⟨A',h'⟩:=FrF.pop (xs:=us++xs) (Xs:=ts++Xs) h
    obtain ⟨r',q⟩:=FrF.looksR (by simpa using hl) h' h2
    exact ⟨.cons r r',q⟩
  | [],_::_,_,_,e,_,_=>by cases e
  | _::_,[],_,_,e,_,_=>by cases e
theorem FrF.looks {us:List V} {ts:List Sl} {es:List PyData} {A:List Addr} (hl:us.length=ts.length) (h:FrF K B F A σ H E (us.reverse++xs) (ts.reverse++Xs)) (e:aw E ts=some es):RpA K H us es∧∃A',FrF K B F A' σ H E xs Xs:=by
  obtain ⟨r,q⟩:=FrF.looksR (by simpa using hl) h (pY e)
  have:=r.rev
  rw [List.reverse_reverse,List.reverse_reverse] at this
  exact ⟨this,q⟩
end
def wj (K:PySem.W.Frag) (r:List V→Hp→VK→Prop) (op:List PyData→Option PyData):Prop:=∀(ds:List PyData) (d:PyData) (vs:List V) (H:Hp) (Q:VK),op ds=some d→RpA K H vs ds→∃v,vh d=some v∧(Q v H→r vs H Q)
def bn (op:List PyData→Option PyData) (g:j4):bN:=fun E=>(g E).bind fun a=>(aw a.2 a.1).bind fun ds=>(op ds).map fun d=>(.sh d,a.2)
theorem lG {K:PySem.W.Frag} {r:List V→Hp→VK→Prop} {op:List PyData→Option PyData} (hp:wj K r op) {m:Bool} {g:j4} {σ:hJ} {H:Hp} {Q:VK} (h:rd K m (bn op g) σ H Q):wT r (ra K m g) σ H Q:=by
  obtain ⟨B,E,xs,Xs,res,E',fr,cl,e,q⟩:=h
  obtain ⟨⟨rs,E1⟩,e1,e⟩:=Option.bind_eq_some_iff.mp e
  obtain ⟨ds,e2,e⟩:=Option.bind_eq_some_iff.mp e
  obtain ⟨d,e3,e⟩:=Option.map_eq_some_iff.mp e
  cases e
  refine ⟨B,E,xs,Xs,rs,E1,fr,cl,e1,fun vs H1 hl ⟨F,A,fr1⟩=>?_⟩
  obtain ⟨r1,A',fr2⟩:=fr1.looks hl e2
  obtain ⟨v,hv,k⟩:=hp ds d vs H1 Q e3 r1
  exact k (q v H1 ⟨F,A',fr2.push ⟨rfl,v,rfl,jv hv⟩⟩)
def cq:List PyData→Option PyData
  | [.list xs]=>some (.int xs.length)
  | [.tuple xs]=>some (.int xs.length)
  | [.str z]=>if z.length≤1000000 then some (.int z.length) else none
  | _=>none
theorem RpA.one {K:PySem.W.Frag} {H:Hp} {vs:List V} {d:PyData} (h:RpA K H vs [d]):∃v,vs=[v]∧Rp K H v d:=by
  cases h with
  | cons h t=>cases t;exact ⟨_,rfl,h⟩
theorem RpA.two {K:PySem.W.Frag} {H:Hp} {vs:List V} {d e:PyData} (h:RpA K H vs [d,e]):∃v u,vs=[v,u]∧Rp K H v d∧Rp K H u e:=by
  cases h with
  | cons h t=>
    obtain ⟨u,rfl,r⟩:=t.one
    exact ⟨_,_,rfl,h,r⟩
section
variable {X:Cx} {e:Expr} {es:List Expr} {m1:Bool} {g:j4} {p pos:Pos} {K:PySem.W.Frag}
abbrev xO (K:PySem.W.Frag):List V→Hp→VK→Prop:=fun xs H Q=>(∃p ys,xs=[.ref p]∧(SqL K H p ys∨SqT K H p ys)∧Q (.int ys.length) H)∨(∃z,xs=[.str z]∧z.length≤sizeLine∧Q (.int z.length) H)
theorem uB:wj K (xO K) cq:=fun ds d vs H Q e r=>by
  unfold cq at e
  split at e
  · cases e
    obtain ⟨v,rfl,r'⟩:=r.one
    cases r' with
    | lst h1 h2=>exact ⟨_,rfl,fun q=> .inl ⟨_,_,rfl, .inl h1,by rw [h2.len];exact q⟩⟩
  · cases e
    obtain ⟨v,rfl,r'⟩:=r.one
    cases r' with
    | tup h1 h2=>exact ⟨_,rfl,fun q=> .inl ⟨_,_,rfl, .inr h1,by rw [h2.len];exact q⟩⟩
  · split at e
    · rename_i hl
      cases e
      obtain ⟨v,rfl,r'⟩:=r.one
      cases r'
      exact ⟨_,rfl,fun q=> .inr ⟨_,rfl,eM hl,q⟩⟩
    · cases e
  · cases e
theorem rY {x:Str} {id:String} {r:List V→Hp→VK→Prop} {op:List PyData→Option PyData} (hp:wj X.K r op) (hc:CallR X (.builtin id) r) (hg:Gl X x) (hm:X.mg x=none) (hv:bootBuiltins x=some (.builtin id)) (ha:AX X (e::es) m1 g) (hn:x≠"__name__":=by decide) (hdb:(x == ("__debug__":Str))=false:=by decide)
    (he:starEach (e::es) X.env=(false,eval e X.env)::starEach es X.env:=by rfl) (hpl:(backTo pos (starEach es X.env)).any (·.1)=false:=by rfl):EX X (.Call (.Name x p) (e::es) [] pos) m1 (bn op g):=
  a7 (jm hc hg hm hv ha hn hdb he hpl) fun _ _ _ h=>lG hp h
theorem dN (hg:Gl X "len") (hm:X.mg "len"=none) (ha:AX X [e] m1 g) (he:starEach [e] X.env=[(false,eval e X.env)]:=by rfl):EX X (.Call (.Name "len" p) [e] [] pos) m1 (bn cq g):=rY uB (CallR.or li lj) hg hm PySem.boot_len ha (by decide) (by decide) he rfl
end
def jA (g:bN):bN:=fun E=>(g E).bind fun a=>match look a.2 a.1 with
  | some (.list ds)=>if !hot a.2 a.1||aU ds then some (.ow ds,a.2) else none
  | some (.tuple ds)=>if !hot a.2 a.1||aU ds then some (.ow ds,a.2) else none
  | _=>none
section
variable {X:Cx} {e:Expr} {m1:Bool} {f:bN} {p pos:Pos} {K:PySem.W.Frag}
theorem uC (hg:Gl X "list") (hm:X.mg "list"=none) (ha:EX X e m1 f) (he:starEach [e] X.env=[(false,eval e X.env)]:=by rfl):EX X (.Call (.Name "list" p) [e] [] pos) m1 (jA f):=by
  refine a7 (eK hO hg hm PyProof.Rows.boot_list (bU ha dt he) (by decide) (by decide) he rfl) fun σ H Q z=>?_
  obtain ⟨B,E,xs,Xs,res,E',fr,cl,e,q⟩:=z
  obtain ⟨⟨s,E1⟩,e1,e⟩:=Option.bind_eq_some_iff.mp e
  refine ⟨B,E,xs,Xs,s,E1,fr,cl,e1,fun v1 H1 ⟨F,A,fr1⟩=>?_⟩
  obtain ⟨A',fr2⟩:=fr1.pop
  simp only at e
  split at e
  · rename_i ds ld
    split at e
    · rename_i hc
      cases e
      obtain ⟨a,vs,ev,h1,h2⟩:=fr1.items (k:=0) rfl ld hc
      cases ev
      exact ⟨a,vs,rfl, .inl h1,fun l hl=>q _ _ ⟨F,_,fr2.newl h2 hl⟩⟩
    · cases e
  · rename_i ds ld
    split at e
    · rename_i hc
      cases e
      obtain ⟨r,f0⟩:=fr1.look0 ld
      cases hh:hot E' s with
      | false=>
        have h0:Rp X.K F v1 _:=f0 hh
        cases h0 with
        | tup h1 h2=>exact ⟨_,_,rfl, .inr (fr1.fh.tup h1),fun l hl=>q _ _ ⟨F,_,fr2.newl h2 hl⟩⟩
      | true=>
        rw [hh] at hc
        cases r with
        | tup h1 h2=>exact ⟨_,_,rfl, .inr h1,fun l hl=>q _ _ ⟨F,_,fr2.newl (fr1.coldA h2 (by simpa using hc)) hl⟩⟩
    · cases e
  · cases e
end
inductive Ty where
  | non | bool | int | str | list | tuple | dict
def Ty.name:Ty→String
  | .non=>"NoneType"
  | .bool=>"bool"
  | .int=>"int"
  | .str=>"str"
  | .list=>"list"
  | .tuple=>"tuple"
  | .dict=>"dict"
def Ty.is:Ty→Ty→Bool
  | .non, .non=>true
  | .bool, .bool=>true
  | .bool, .int=>true
  | .int, .int=>true
  | .str, .str=>true
  | .list, .list=>true
  | .tuple, .tuple=>true
  | .dict, .dict=>true
  | _,_=>false
def tJ:PyData→Ty
  | .none=> .non
  | .bool _=> .bool
  | .int _=> .int
  | .str _=> .str
  | .list _=> .list
  | .tuple _=> .tuple
  | .dict _=> .dict
theorem xP (K:PySem.W.Frag) (t n:Ty):PySem.W.kitOne K (.type t.name) (.type n.name)=some (t.is n):=by cases t <;> cases n <;> rfl
def f_ (n:Ty):PyData→Option PyData
  | .dict ((.none,_)::_)=>none
  | d=>some (.bool ((tJ d).is n))
section
variable {X:Cx} {e:Expr} {m1:Bool} {f:bN} {p p2 pos:Pos}
theorem pZ {pins:List (Addr×Obj)} {s:Shared} {σ:hJ} {H:Hp} {x:V} {u:Value} {d r:PyData} {n:Ty} {A:Around} {E:Value→Shared→Prop} {Q:Value→Shared→Prop} (I:Inv X pins σ H s) (rx:RelV x u) (rp:Rp X.K H x d) (hd:f_ n d=some r) (h:∀tk b,r= .bool b→Q (.bool b) {s with toks:=tk}):
    wpAny (model X.prog X.w) A (call (.builtin "isinstance") [u, .type n.name]) Q E s:=by
  have e:=xP X.K (tJ d) n
  have h:∀tk,r= .bool ((tJ d).is n)→Q (.bool ((tJ d).is n)) {s with toks:=tk}:=fun tk z=>h tk _ z
  cases rp with
  | non=>cases hd;exact gy I rx .non e fun tk=>h tk rfl
  | bl b=>cases hd;exact gy I rx (.bl b) e fun tk=>h tk rfl
  | int i=>cases hd;exact gy I rx (.int i) e fun tk=>h tk rfl
  | str y=>cases hd;exact gy I rx (.str y) e fun tk=>h tk rfl
  | lst h1 _=>
    cases hd
    cases rx
    obtain ⟨its,rv,⟨o,n',e1,c,_,d⟩,_⟩:=I.list h1
    exact PySem.W.kia_one PySem.W.kitx_list I.kIn ⟨_,e1,c⟩ e (fun z=>nomatch z) fun tk=>h tk rfl
  | tup h1 _=>
    cases hd
    cases rx
    obtain ⟨its,rv,⟨o,e1,c,n',d⟩,_⟩:=I.tuple h1
    exact PySem.W.kia_one PySem.W.kitx_tuple I.kIn ⟨_,e1,c⟩ e (fun z=>nomatch z) fun tk=>h tk rfl
  | dct h1 hk=>
    cases rx
    obtain ⟨_,_,vs,_,ob,es,ep,e1,c,_⟩:=xN I.hok h1
    refine PySem.W.kia_one PySem.W.kitx_dict I.kIn ⟨_,e1,c.1⟩ e (fun z=>nomatch z) fun tk=>h tk ?_
    cases hk with
    | nil=>cases hd;rfl
    | @cons k x us d kvs a b=>cases k <;> (cases hd;rfl)
  | obj c h n r=>cases hd
theorem p0 (n:Ty):CallR X (.builtin "isinstance") (fun xs H Q=>∃x d r,xs=[x, .ty n.name]∧Rp X.K H x d∧f_ n d=some r∧∀b,r= .bool b→Q (.bl b) H):=by
  intro pins s σ H xs us Q I r h
  obtain ⟨x,d,r',rfl,rp,hd,q⟩:=h
  obtain ⟨u,w',rfl,ru,rw'⟩:=r.two
  cases (show w'=Value.type n.name from rw')
  exact pZ I ru rp hd fun tk b z=>⟨.bl _,H,I.tok _,rfl,q b z⟩
theorem gj (n:Ty) (hg:Gl X "isinstance") (hm:X.mg "isinstance"=none) (ha:EX X e m1 f) {x:Str} (hgx:Gl X x) (hmx:X.mg x=none) (hbx:bootBuiltins x=some (.type n.name)) (hnx:x≠"__name__":=by decide) (hdx:(x == ("__debug__":Str))=false:=by decide)
    (he:starEach [e, .Name x p2] X.env=(false,eval e X.env)::starEach [.Name x p2] X.env:=by rfl) (he2:starEach [.Name x p2] X.env=[(false,eval (.Name x p2) X.env)]:=by rfl) (hpl:(backTo pos (starEach [.Name x p2] X.env)).any (·.1)=false:=by rfl):
    EX X (.Call (.Name "isinstance" p) [e, .Name x p2] [] pos) m1 (fu (f_ n) f):=by
  have h2:PE X (.Name x p2) (tC (.ty n.name)):=tR (v:= .ty n.name) hgx hmx hbx rfl hnx hdx
  refine a7 (jm (p0 n) hg hm PyProof.Rows.boot_isinstance (bU ha (bU h2 dt he2) he) (by decide) (by decide) he hpl) fun σ H Q z=>?_
  obtain ⟨B,E,xs,Xs,res,E',fr,cl,e,q⟩:=z
  obtain ⟨⟨s,E1⟩,e1,e⟩:=Option.bind_eq_some_iff.mp e
  obtain ⟨d1,e2,e⟩:=Option.bind_eq_some_iff.mp e
  obtain ⟨d2,e3,e⟩:=Option.map_eq_some_iff.mp e
  cases e
  refine ⟨B,E,xs,Xs,s,E1,fr,cl,e1,fun v1 H1 ⟨F,A,fr1⟩=>?_⟩
  obtain ⟨A',fr2⟩:=fr1.pop
  exact ⟨v1,d1,d2,rfl,(fr1.look0 e2).1,e3,fun b z=>q _ _ ⟨F,A',fr2.push ⟨rfl,_,rfl,z▸ .bl b⟩⟩⟩
end
end PL
namespace PL
open PySem L2 Nh
def iQ (K:PySem.W.Frag) (H H':Hp) (v:V):Sl→Prop
  | .sh d=>Rp K (tups H') v d
  | .ow ds=>∃l vs,v= .ref l∧H l=none∧H' l=some (.lst vs)∧RpA K (tups H') vs ds
  | .tx ps=>∃t vs A,v= .ref t∧tups H' t=some (.tup vs)∧A.Nodup∧(∀a∈A,H a=none)∧PtsOk K (tups H') H' vs ps A
  | .od kvs=>∃l us A,v= .ref l∧(l::A).Nodup∧(∀a∈l::A,H a=none)∧H' l=some (.dK us)∧DlOk K (tups H') H' us kvs A
  | .br d=>Rp K H' v d
  | _=>False
def da (K:PySem.W.Frag) (c:List PyData→Option Sl):Sp:=fun vs H Q _=>∃ds r,c ds=some r∧RpA K H vs ds∧∀v H',Same H H'→iQ K H H' v r→Q v H'
section
variable {K:PySem.W.Frag} {B F:Hp} {A N:List Addr} {σ:hJ} {H H':Hp} {E:List Sl} {xs:List V} {Xs:List Sl} {v:V} {s:Sl}
theorem FrF.growN (h:FrF K B F A σ H E xs Xs) (g:Same H H') (hN:∀a∈N,H a=none∧((∃us,H' a=some (.lst us))∨∃us,H' a=some (.dK us))):FrF K B (fun b=>if b∈N then none else if b∈A then none else H' b) A σ H' E xs Xs:=by
  have h1:=h.grow g
  have nF:∀b o,F b=some o→b∉N:=fun b o e hb=>by
    have:=h.fh.free (hN b hb).1
    rw [this] at e;cases e
  have FF:Same F (fun b=>if b∈N then none else if b∈A then none else H' b):=fun b o e=>by
    have nA:b∉A:=fun hb=>by rw [h.fr b hb] at e;cases e
    show (if b∈N then none else if b∈A then none else H' b)=some o
    rw [if_neg (nF b o e),if_neg nA]
    exact g _ _ (h.fh _ _ e)
  have hA:∀b∈A,H' b=H b:=fun b hb=>by
    rcases h.mutA b hb with ⟨_,z⟩ | ⟨_,z⟩ <;> rw [z,g _ _ z]
  refine ⟨h.bf.trans FF,fun b o e=>?_,fun b o e=>?_,h.sl.mono fun o s C _ hC q=>q.stay FF (fun b hb=>hA b (hC b hb)) fun _=>g,h.nd,fun a ha=>?_,h.len,h.pl⟩
  · by_cases hb:b∈N
    · rw [if_pos hb] at e;cases e
    · rw [if_neg hb] at e;exact h1.fh _ _ e
  · show (if b∈N then none else if b∈A then none else H' b)=some o
    by_cases hb:b∈N
    · obtain ⟨e1,e2⟩:=Option.filter_eq_some_iff.mp e
      rcases (hN b hb).2 with ⟨us,z⟩ | ⟨us,z⟩ <;> rw [z] at e1 <;> cases e1 <;> cases e2
    · rw [if_neg hb];exact h1.tf _ _ e
  · show (if a∈N then none else if a∈A then none else H' a)=none
    by_cases hb:a∈N
    · rw [if_pos hb]
    · rw [if_neg hb,if_pos ha]
theorem FrF.pushR (h:FrF K B F A σ H E xs Xs) (q:SlOk K F H σ (some v) s N) (nd:N.Nodup) (dj:∀a∈N,a∉A) (fr:∀a∈N,F a=none):FrF K B F (N++A) σ H E (v::xs) (s::Xs):=
  ⟨h.bf,h.fh,h.tf, .cons q h.sl,List.nodup_append.mpr ⟨nd,h.nd,fun a ha b hb e=>dj a ha (e▸hb)⟩,fun a ha=>(List.mem_append.mp ha).elim (fr a) (h.fr a),by simp [h.len],h.pl⟩
theorem FrF.told (h:FrF K B F A σ H E xs Xs) (g:Same H H') (q:iQ K H H' v s):Frm K B σ H' E (v::xs) (s::Xs):=by
  cases s with
  | sh d=>
    have h1:=h.grow g
    exact ⟨_,_,h1.push ⟨rfl,v,rfl,Rp.same h1.tf q⟩⟩
  | ow ds=>
    obtain ⟨l,vs,rfl,hl,hl',r⟩:=q
    have h1:=h.growN (N:=[l]) g fun a ha=>by rw [List.mem_singleton.mp ha];exact ⟨hl, .inl ⟨vs,hl'⟩⟩
    exact ⟨_,_,h1.pushR (N:=[l]) ⟨l,vs,rfl,rfl,hl',r.same h1.tf⟩ (by simp) (fun a ha=>by rw [List.mem_singleton.mp ha];exact h.newA hl) fun a ha=>if_pos ha⟩
  | tx ps=>
    obtain ⟨t,vs,N,rfl,ht,nd,hN,r⟩:=q
    have h1:=h.growN (N:=N) g fun a ha=>⟨hN a ha, .inl (r.some a ha)⟩
    exact ⟨_,_,h1.pushR (N:=N) ⟨t,vs,rfl,h1.tf _ _ ht,r.stay h1.tf fun _ _=>rfl⟩ nd (fun a ha=>h.newA (hN a ha)) fun a ha=>if_pos ha⟩
  | no=>exact False.elim q
  | oi kvs=>exact False.elim q
  | od kvs=>
    obtain ⟨l,us,N,rfl,nd,hN,hl,r⟩:=q
    have h1:=h.growN (N:=l::N) g fun a ha=>⟨hN a ha,(List.mem_cons.mp ha).elim (fun z=> .inr ⟨us,z▸hl⟩) fun z=> .inl (r.some a z)⟩
    exact ⟨_,_,h1.pushR (N:=l::N) ⟨l,us,N,rfl,rfl,hl,r.stay h1.tf fun _ _=>rfl⟩ nd (fun a ha=>h.newA (hN a ha)) fun a ha=>if_pos ha⟩
  | al i=>exact False.elim q
  | br d=>
    have h1:=h.grow g
    exact ⟨_,_,h1.push ⟨rfl,v,rfl,q⟩⟩
end
def ak (c:List PyData→Option Sl) (g:j4):bN:=fun E=>(g E).bind fun a=>(aw a.2 a.1).bind fun ds=>(c ds).map fun r=>(r,a.2)
theorem aQ {X:Cx} {k:Nat} {x:Str} {ps:List Str} {c:List PyData→Option Sl} {p pos:Pos} {e:Expr} {es:List Expr} {m:Bool} {g:j4} (D:Own X.prog X.w X.K X.mg X.base k x ps (da X.K c)) (hr:Room k X.A) (hg:Gl X x) (ha:AX X (e::es) m g)
    (hdb:(x == ("__debug__":Str))=false:=by decide) (he:starEach (e::es) X.env=(false,eval e X.env)::starEach es X.env:=by rfl) (hpl:(backTo pos (starEach es X.env)).any (·.1)=false:=by rfl):
    EX X (.Call (.Name x p) (e::es) [] pos) m (ak c g):=by
  refine a7 (rC D hr hg ha hdb he hpl) fun σ H Q z=>?_
  obtain ⟨B,E,xs,Xs,res,E',fr,cl,e,q⟩:=z
  obtain ⟨⟨rs,E1⟩,e1,e⟩:=Option.bind_eq_some_iff.mp e
  obtain ⟨ds,e2,e⟩:=Option.bind_eq_some_iff.mp e
  obtain ⟨r,e3,e⟩:=Option.map_eq_some_iff.mp e
  cases e
  refine ⟨B,E,xs,Xs,rs,E1,fr,cl,e1,fun vs H1 hl ⟨F,A,fr1⟩=>?_⟩
  obtain ⟨r1,A',fr2⟩:=fr1.looks hl e2
  exact ⟨ds,res,e3,by rw [List.append_nil];exact r1,fun v H' g q'=>q v H' (fr2.told g q')⟩
def be (i:Nat) (f:bN):bN:=fun E=>match E[i]? with
  | some (.ow _)=>(f E).bind fun a=>(frz a.2 a.1).bind fun b=>match b.2[i]? with
    | some (.ow ds)=>if ds.length < 1000000 then some (.sh .none,b.2.set i (.ow (ds++[b.1]))) else none
    | _=>none
  | _=>none
def gK (i:Nat):bN:=fun E=>match E[i]? with
  | some (.ow ds)=>(ds[ds.length - 1]?).map fun d=>(.sh d,E.set i (.ow ds.dropLast))
  | _=>none
section
variable {X:Cx} {e:Expr} {m1:Bool} {f:bN} {x:Str} {p apos cpos:Pos}
theorem fv (i:Nat) (he:EX X e m1 f) (hN:X.N[i]? =some x:=by rfl) (hv:tP X.env.scope x:=by first | exact Or.inl rfl | exact Or.inr (Or.inl rfl) | exact Or.inr (Or.inr rfl)) (hd:(x == ("__debug__":Str))=false:=by decide) (hcd:(x == ("__classdict__":Str))=false:=by decide)
    (hs:starEach [e] X.env=[(false,eval e X.env)]:=by rfl) (hbase:attributeBase (.Name x p) "append" X.env (eval (.Name x p) X.env)=eval (.Name x p) X.env:=by rfl)
    (hfew:((backTo cpos (starEach [e] X.env)).all (fun x=> !x.1)&&(backToKw cpos (keywordEach [] X.env)).all (fun x=>x.1.isSome)
      &&decide (([e]:List Expr).length+([]:List Keyword).length+(if ([]:List Keyword).isEmpty then 0 else 1) < 30))=true:=by rfl) (hline:(apos.endLine == cpos.line)=true:=by rfl):
    EX X (.Call (.Attribute (.Name x p) "append" apos) [e] [] cpos) true (be i f):=by
  refine a7 (oK PySem.F.plainAttrs_list PySem.F.slot_list_append PySem.F.type_list_append kG (gV hN hv hd hcd) (bU he dt hs) hbase hfew hline hs rfl) fun σ H Q z=>?_
  obtain ⟨B,E,xs,Xs,res,E',⟨F,A,fr⟩,cl,e,q⟩:=z
  unfold be at e
  split at e
  · rename_i ds0 ei
    obtain ⟨⟨s,E1⟩,e1,e⟩:=Option.bind_eq_some_iff.mp e
    obtain ⟨⟨d,E2⟩,e2,e⟩:=Option.bind_eq_some_iff.mp e
    simp only at e
    split at e
    · rename_i ds ei2
      split at e
      · rename_i hl
        cases e
        obtain ⟨o,A1,eo,l,vs,rfl,rfl,hl0,_⟩:=fr.var ei
        refine ⟨_,eo, .inl ⟨rfl,_,SqL.of hl0⟩,B,E,xs,Xs,s,E1,⟨F,A,fr⟩,fun _=>cl rfl,e1,fun v H1 ⟨F1,A1,fr1⟩=>?_⟩
        obtain ⟨F2,A2,fr2⟩:=fr1.frz0 e2
        obtain ⟨v',A3,ev,rfl,w,ew,rv⟩:=fr2.ext (k:=0) rfl
        cases ev;cases ew
        obtain ⟨A4,fr3⟩:=fr2.pop
        obtain ⟨l',vs',eo',hl',r',put⟩:=fr3.mut ei2 (cl rfl)
        rw [eo] at eo'
        cases eo'
        have ll:=r'.len
        have fr4:=put (vs'++[v]) (ds++[d]) (r'.snoc rv)
        exact ⟨l,vs',v,rfl,rfl,hl',mK (by omega),q _ _ ⟨_,_,fr4.push ⟨rfl,_,rfl, .non⟩⟩⟩
      · cases e
    · cases e
  · cases e
theorem rZ (i:Nat) (hN:X.N[i]? =some x:=by rfl) (hv:tP X.env.scope x:=by first | exact Or.inl rfl | exact Or.inr (Or.inl rfl) | exact Or.inr (Or.inr rfl)) (hd:(x == ("__debug__":Str))=false:=by decide) (hcd:(x == ("__classdict__":Str))=false:=by decide)
    (hbase:attributeBase (.Name x p) "pop" X.env (eval (.Name x p) X.env)=eval (.Name x p) X.env:=by rfl) (hline:(apos.endLine == cpos.line)=true:=by rfl):
    EX X (.Call (.Attribute (.Name x p) "pop" apos) [] [] cpos) true (gK i):=by
  refine a7 (v7 PySem.F.plainAttrs_list PySem.F.slot_list_pop PySem.F.type_list_pop v8 (gV hN hv hd hcd) hbase hline) fun σ H Q z=>?_
  obtain ⟨B,E,xs,Xs,res,E',⟨F,A,fr⟩,cl,e,q⟩:=z
  unfold gK at e
  split at e
  · rename_i ds ei
    obtain ⟨d,ed,e⟩:=Option.map_eq_some_iff.mp e
    cases e
    obtain ⟨l,vs,eo,hl,r,put⟩:=fr.mut ei (cl rfl)
    obtain ⟨y,ey,ry⟩:=r.get ed
    have fr2:=put vs.dropLast ds.dropLast r.dropLast
    exact ⟨_,eo, .inl ⟨rfl,_,SqL.of hl⟩,l,vs,y,rfl,rfl,hl,by rw [r.len];exact ey,q _ _ ⟨_,_,fr2.push ⟨rfl,_,rfl,ry⟩⟩⟩
  · cases e
end
def oZ (s:Sl):Sl:=match s.val with
  | some d=> .sh d
  | none=> .no
def frzAll (E:List Sl):List Sl:=E.map oZ
def settle (E:List Sl):Sl→Option (Sl×List Sl)
  | .al i=>(frz E (.al i)).map fun a=>(.sh a.1,a.2)
  | .br d=>if a8 d then some (.sh d,E) else some (.sh d,frzAll E)
  | s=>some (s,E)
def ap (g h:bW):bW:=fun E=>(g E).bind fun a=>match a.2 with
  | .nx=>h a.1
  | fl=>some (a.1,fl)
def ax:bW:=fun E=>some (E, .nx)
def cy (f:bN):bW:=fun E=>(f E).map fun a=>(a.2, .nx)
def aC (f:bN):bW:=fun E=>(f E).bind fun a=>match a.1 with
  | .al i=>(a.2[i]?).map fun s=>(a.2.set i .no, .rt s)
  | s=>some (a.2, .rt s)
def aI (c:ie) (g h:bW):bW:=fun E=>(c E).bind fun a=>if a.1 then g a.2 else h a.2
def av (i:Nat) (f:bN):bW:=fun E=>(f E).bind fun a=>(settle a.2 a.1).bind fun b=>if i < b.2.length then some (b.2.set i b.1, .nx) else none
section
variable {K:PySem.W.Frag} {B F:Hp} {A:List Addr} {σ:hJ} {H:Hp} {E E':List Sl} {xs:List V} {Xs:List Sl} {v:V} {s s':Sl} {d:PyData}
theorem FrF.frzAll (h:FrF K B F A σ H E xs Xs) (hX:Xs=[]):FrF K B H [] σ H (PL.frzAll E) [] []:=by
  subst hX
  have hx:xs=[]:=by simpa using h.len
  subst hx
  refine ⟨h.bf.trans h.fh,Same.refl _,io H,?_,List.nodup_nil,fun a ha=>(by cases ha),rfl,fun s hs=>?_⟩
  · have key:∀{os:List (Option V)} {ss:List Sl} {C:List Addr},SAll (SlOk K F H σ) os ss C→SAll (SlOk K H H σ) os (PL.frzAll ss) []:=fun {os ss C} r=>by
      induction r with
      | nil=>exact .nil
      | cons q _ ih=>
        refine .cons (A:=[]) ?_ ih
        unfold oZ
        split
        · rename_i d e
          obtain ⟨v,rfl,r,_⟩:=q.val h.fh e
          exact ⟨rfl,v,rfl,r⟩
        · exact rfl
    exact key h.sl
  · obtain ⟨t,_,rfl⟩:=List.mem_map.mp hs
    unfold oZ
    split <;> rfl
theorem FrF.settle (h:FrF K B F A σ H E (v::xs) (s::Xs)) (hX:Xs=[]) (q:PL.settle E s=some (s',E')):s'.isAl=false∧Frm K B σ H E' (v::xs) (s'::Xs):=by
  cases s with
  | al i=>
    obtain ⟨⟨d,E2⟩,e,z⟩:=Option.map_eq_some_iff.mp (show (frz E (.al i)).map (fun a=>(Sl.sh a.1,a.2))=some (s',E') from q)
    cases z
    obtain ⟨F',A',h'⟩:=h.frz0 e
    exact ⟨rfl,F',A',h'⟩
  | br d=>
    have r:=(h.look0 (d:=d) rfl).1
    obtain ⟨A',h'⟩:=h.pop
    simp only [PL.settle] at q
    split at q
    · rename_i hf
      cases q
      exact ⟨rfl,F,A',h'.push ⟨rfl,v,rfl,h.cold r hf⟩⟩
    · cases q
      have h2:=h'.frzAll hX
      have hl:=h'.len
      subst hX
      have hx:xs=[]:=by simpa using hl
      subst hx
      exact ⟨rfl,H,[],h2.push ⟨rfl,v,rfl,r⟩⟩
  | no=>cases q;exact ⟨rfl,F,A,h⟩
  | sh d=>cases q;exact ⟨rfl,F,A,h⟩
  | ow ds=>cases q;exact ⟨rfl,F,A,h⟩
  | od kvs=>cases q;exact ⟨rfl,F,A,h⟩
  | oi kvs=>cases q;exact ⟨rfl,F,A,h⟩
  | tx ps=>cases q;exact ⟨rfl,F,A,h⟩
theorem FrF.move {i:Nat} (h:FrF K B F A σ H E (v::xs) (.al i::Xs)) (e:E[i]? =some s):Frm K B σ H (E.set i .no) (v::xs) (s::Xs):=by
  obtain ⟨v',A1,ev,rfl,w,ew,hw⟩:=h.ext (k:=0) rfl
  cases ev;cases ew
  obtain ⟨A',h'⟩:=h.pop
  obtain ⟨o,A0,A1,A2,eA,eo,hp,put⟩:=h'.sl.at (k:=Xs.length+i) (s:=s) (by rw [List.getElem?_append_right (by omega)];simpa using e)
  have z:=put (SlOk K F H σ) o .no [] rfl fun _ _ _ _ _ q=>q
  have e3:(Xs++E).set (Xs.length+i) .no=Xs++E.set i .no:=by
    rw [List.set_append_right _ _ (by omega),Nat.add_sub_cancel_left]
  have e2:(List.map some xs++σ).set (Xs.length+i) o=List.map some xs++σ:=List.ext_getElem? fun j=>by
    by_cases hj:Xs.length+i=j
    · subst hj
      rw [List.getElem?_set_self',eo];rfl
    · rw [List.getElem?_set_ne hj]
  rw [e2,e3] at z
  rw [List.getElem?_append_right (by rw [List.length_map,h'.len];omega),List.length_map,h'.len,Nat.add_sub_cancel_left,hw] at eo
  cases eo
  have nd:=h'.nd
  rw [eA] at nd
  refine ⟨F,A1++(A0++([]++A2)),h.bf,h.fh,h.tf, .cons hp z,?_,fun a ha=>h'.fr a ?_,h.len,fun s' hs=>?_⟩
  · have p:(A1++(A0++([]++A2))).Perm (A0++(A1++A2)):=by
      rw [List.nil_append,←List.append_assoc,←List.append_assoc]
      exact List.Perm.append_right _ List.perm_append_comm
    exact p.nodup_iff.mpr nd
  · rw [eA]
    simp only [List.mem_append,List.nil_append] at ha ⊢
    rcases ha with z | z | z
    · exact .inr (.inl z)
    · exact .inl z
    · exact .inr (.inr z)
  · rcases List.mem_or_eq_of_mem_set hs with hs | hs
    · exact h.pl s' hs
    · subst hs;rfl
end
section
variable {X:Cx} {st:Stmt} {bj a b:List Stmt} {g h:bW} {e c:Expr} {m:Bool} {f:bN} {t:ie} {pos:Pos}
theorem a9:pW X [] ax:=oV tT fun D σ H z=>by
  obtain ⟨B,E,xs,Xs,E',fl,fr,cl,e,q⟩:=z
  cases e
  exact q _ _ fr
theorem aj (h1:SX X st g):pW X [st] g:=i6 h1
theorem wk {K:PySem.W.Frag} {D:Ends} {σ:hJ} {H:Hp} (z:rs K (ap g h) D σ H):rs K g {D with nx:=rs K h D} σ H:=by
  obtain ⟨B,E,xs,Xs,E',fl,fr,cl,e,q⟩:=z
  obtain ⟨⟨E1,f1⟩,e1,e⟩:=Option.bind_eq_some_iff.mp e
  refine ⟨B,E,xs,Xs,E1,f1,fr,cl,e1,?_⟩
  cases f1 with
  | nx=>exact fun σ' H' fr'=>⟨B,E1,xs,Xs,E',fl,fr',cl,e,q⟩
  | bk=>cases e;exact q
  | ct=>cases e;exact q
  | rt r=>cases e;exact q
theorem ag (h1:SX X st g) (h2:pW X bj h):pW X (st::bj) (ap g h):=oV (eL h1 h2) fun D σ H z=>wk z
theorem fJ (he:EX X e m f) (hs:swapsWith e none pos.line X.env=pure false:=by rfl):SX X (.Expr e pos) (cy f):=gY (tU he hs) fun D σ H z=>by
  obtain ⟨B,E,xs,Xs,E',fl,fr,cl,e,q⟩:=z
  obtain ⟨⟨s,E1⟩,e1,e⟩:=Option.map_eq_some_iff.mp e
  cases e
  refine ⟨B,E,xs,Xs,s,E1,fr,fun _=>Calm.nil cl,e1,fun v H1 ⟨F,A,fr1⟩=>?_⟩
  obtain ⟨A',fr2⟩:=fr1.pop
  exact q _ _ ⟨F,A',fr2⟩
theorem aH (he:EX X e m f):SX X (.Return (some e) pos) (aC f):=gY (qE he) fun D σ H z=>by
  obtain ⟨B,E,xs,Xs,E',fl,fr,cl,e,q⟩:=z
  obtain ⟨⟨s,E1⟩,e1,e⟩:=Option.bind_eq_some_iff.mp e
  refine ⟨B,E,xs,Xs,s,E1,fr,fun _=>Calm.nil cl,e1,fun v H1 ⟨F,A,fr1⟩=>?_⟩
  simp only at e
  split at e
  · obtain ⟨s',es,e⟩:=Option.map_eq_some_iff.mp e
    cases e
    exact q σ _ _ (fr1.move es)
  · cases e
    exact q σ _ _ ⟨F,A,fr1⟩
theorem cz (hc:TX X c m t) (ha:pW X a g) (hb:pW X b h):SX X (.If c a b pos) (aI t g h):=gY (xj hc ha hb) fun D σ H z=>by
  obtain ⟨B,E,xs,Xs,E',fl,fr,cl,e,q⟩:=z
  obtain ⟨⟨b1,E1⟩,e1,e⟩:=Option.bind_eq_some_iff.mp e
  refine ⟨B,E,xs,Xs,b1,E1,fr,fun _=>Calm.nil cl,e1,fun H1 fr1=>?_⟩
  cases b1 with
  | true=>exact (if_pos rfl).mpr ⟨B,E1,xs,Xs,E',fl,fr1,cl,e,q⟩
  | false=>exact (if_neg (by decide)).mpr ⟨B,E1,xs,Xs,E',fl,fr1,cl,e,q⟩
theorem aD (i:Nat) {x:Str} {pos':Pos} (hN:X.N.Nodup) (he:EX X e m f) (hi:X.N[i]? =some x:=by rfl) (hx:wR X.env.scope x:=by first | exact Or.inl rfl | exact Or.inr rfl) (hs:swapsWith e (some (.Name x pos')) pos.line X.env=pure false:=by rfl) (hf:X.fn x=true∨X.env.scope.names.lookup x=some .local:=by first | exact .inl rfl | exact .inr rfl | assumption):
    SX X (.Assign [.Name x pos'] e pos) (av i f):=gY (qH hN hi hx he hs hf) fun D σ H z=>by
  obtain ⟨B,E,xs,Xs,E',fl,fr,cl,e,q⟩:=z
  obtain ⟨⟨s,E1⟩,e1,e⟩:=Option.bind_eq_some_iff.mp e
  obtain ⟨⟨s',E2⟩,e2,e⟩:=Option.bind_eq_some_iff.mp e
  refine ⟨B,E,xs,Xs,s,E1,fr,fun _=>Calm.nil cl,e1,fun v H1 ⟨F,A,fr1⟩=>?_⟩
  obtain ⟨c1,F2,A2,fr2⟩:=fr1.settle cl e2
  simp only at e
  split at e
  · rename_i hi
    cases e
    obtain ⟨A3,fr3⟩:=fr2.store c1 (Still.nil cl) hi
    exact q _ _ ⟨F2,A3,fr3⟩
  · cases e
end
end PL
namespace PL
open PySem L2 Nh
abbrev i9:=PyData→List Sl→Option (List Sl)
abbrev mP:=List PyData→List Sl→Option (List Sl)
def rg (K:PySem.W.Frag) (h:i9):TG:=fun v σ H Q=>∃B E xs Xs d E',Frm K B σ H E (v::xs) (.sh d::Xs)∧Still Xs∧h d E=some E'∧∀σ' H',Frm K B σ' H' E' xs Xs→Q σ' H'
def zH (K:PySem.W.Frag) (h:mP):tV:=fun vs σ H Q=>∃B E xs Xs ds E',vs.length=ds.length∧Frm K B σ H E (vs++xs) (ds.map .sh++Xs)∧Still Xs∧h ds E=some E'∧∀σ' H',Frm K B σ' H' E' xs Xs→Q σ' H'
def GX (X:Cx) (e:Expr) (h:i9):Prop:=PG X e (rg X.K h)
def yt (X:Cx) (es:List Expr) (h:mP):Prop:=vI X es (zH X.K h)
def a_ (i:Nat):i9:=fun d E=>if i < E.length then some (E.set i (.sh d)) else none
def dG:mP:=fun ds E=>if ds.isEmpty then some E else none
def bD (h:i9) (hs:mP):mP:=fun ds E=>match ds with
  | d::ds=>(h d E).bind (hs ds)
  | []=>none
def dH (n:Nat) (hs:mP):i9:=fun d E=>match d with
  | .tuple ds=>if ds.length=n then hs ds E else none
  | _=>none
section
variable {X:Cx}
theorem r8 {e:Expr} {t t':TG} (h:PG X e t) (k:∀v σ H Q,t' v σ H Q→t v σ H Q):PG X e t':=fun pins s σ H v u Q I r q=>h pins s σ H v u Q I r (k v σ H Q q)
theorem o0 {es:List Expr} {t t':tV} (h:vI X es t) (k:∀v σ H Q,t' v σ H Q→t v σ H Q):vI X es t':=fun pins s σ H v u Q I r q=>h pins s σ H v u Q I r (k v σ H Q q)
theorem bV (i:Nat) {x:Str} {pos:Pos} (hN:X.N.Nodup) (hi:X.N[i]? =some x:=by rfl) (hx:wR X.env.scope x:=by first | exact Or.inl rfl | exact Or.inr rfl) (hf:X.fn x=true∨X.env.scope.names.lookup x=some .local:=by first | exact .inl rfl | exact .inr rfl | assumption):GX X (.Name x pos) (a_ i):=r8 (oB hN hi hx hf) fun v σ H Q z=>by
  obtain ⟨B,E,xs,Xs,d,E',⟨F,A,fr⟩,cl,e,q⟩:=z
  unfold a_ at e
  split at e
  · rename_i hi
    cases e
    obtain ⟨A',fr'⟩:=fr.store rfl cl hi
    exact q _ _ ⟨F,A',fr'⟩
  · cases e
theorem gB:yt X [] dG:=o0 tW fun v σ H Q z=>by
  obtain ⟨B,E,xs,Xs,ds,E',hl,fr,cl,e,q⟩:=z
  unfold dG at e
  split at e
  · rename_i hd
    cases e
    have:ds=[]:=by simpa using hd
    subst this
    have hv:v=[]:=by simpa using hl
    subst hv
    exact ⟨rfl,q _ _ fr⟩
  · cases e
theorem b9 {e:Expr} {es:List Expr} {h:i9} {hs:mP} (h1:GX X e h) (h2:yt X es hs) (hst:(assignEach (e::es) X.env).map (·.2)=assign e X.env::(assignEach es X.env).map (·.2):=by rfl):yt X (e::es) (bD h hs):=o0 (qG h1 h2 hst) fun v σ H Q z=>by
  obtain ⟨B,E,xs,Xs,ds,E',hl,fr,cl,e,q⟩:=z
  cases ds with
  | nil=>cases e
  | cons d ds=>
    cases v with
    | nil=>cases hl
    | cons v vs=>
      obtain ⟨E1,e1,e2⟩:=Option.bind_eq_some_iff.mp e
      refine ⟨v,vs,rfl,B,E,vs++xs,ds.map Sl.sh++Xs,d,E1,fr,fun s hs=>?_,e1,fun σ1 H1 fr1=>⟨B,E1,xs,Xs,ds,E',by simpa using hl,fr1,cl,e2,q⟩⟩
      rcases List.mem_append.mp hs with hs | hs
      · obtain ⟨d',_,rfl⟩:=List.mem_map.mp hs
        rfl
      · exact cl s hs
theorem ix {es:List Expr} {k:Nat} {pos:Pos} {hs:mP} {n:Nat} (hc:X.calm=true) (h:yt X es hs) (hn:(assignEach es X.env).length=n:=by rfl) (hst:(assignEach es X.env).findIdx? (·.1)=none:=by rfl):GX X (.Tuple es k pos) (dH n hs):=r8 (vK hc h hn hst) fun v σ H Q z=>by
  obtain ⟨B,E,xs,Xs,d,E',⟨F,A,fr⟩,cl,e,q⟩:=z
  unfold dH at e
  split at e
  · rename_i ds
    split at e
    · rename_i hl
      obtain ⟨v',A1,ev,rfl,w,ew,r⟩:=fr.ext (k:=0) rfl
      cases ev;cases ew
      cases r with
      | tup h1 h2=>
        obtain ⟨A',fr'⟩:=fr.pop
        have key:∀{us:List V} {es:List PyData},RpA X.K F us es→FrF X.K B F A' σ H E (us++xs) (es.map .sh++Xs):=fun {us es} r=>by
          induction us generalizing es with
          | nil=>cases r;exact fr'
          | cons u us ih=>
            cases r with
            | cons r1 r2=>exact (ih r2).push ⟨rfl,_,rfl,r1⟩
        exact ⟨_,_,rfl,fr.fh.tup h1,by rw [h2.len];exact hl,B,E,xs,Xs,ds,E',h2.len,⟨F,A',key h2⟩,cl,e,q⟩
    · cases e
  · cases e
end
def mQ (K:PySem.W.Frag) (B0:Hp) (J:It) (ds:List PyData):Prop:=∀{B F:Hp} {A:List Addr} {σ:hJ} {H:Hp} {E:List Sl} {xs:List V} {Xs:List Sl} (i:Nat),Same B0 B→FrF K B F A σ H E xs Xs→
  (∀d,ds[i]? =some d→J.go i H∧∀x H2,J.yld i H x H2→Frm K B σ H2 E (x::xs) (.sh d::Xs))∧(i=ds.length→J.stop i H)
def ri (K:PySem.W.Frag) (m:Bool) (f:kM):TI:=fun σ H R=>∃B E xs Xs ds E',Frm K B σ H E xs Xs∧(m=true→Calm Xs)∧f E=some (ds,E')∧∀B' J H',Same B B'→Frm K B' σ H' E' xs Xs→mQ K B' J ds→R J H'
def IX (X:Cx) (tg e:Expr) (m:Bool) (f:kM):Prop:=PI X tg e (ri X.K m f)
theorem FrF.base {K:PySem.W.Frag} {B B' F:Hp} {A:List Addr} {σ:hJ} {H:Hp} {E:List Sl} {xs:List V} {Xs:List Sl} (h:FrF K B' F A σ H E xs Xs) (s:Same B B'):FrF K B F A σ H E xs Xs:=⟨s.trans h.bf,h.fh,h.tf,h.sl,h.nd,h.fr,h.len,h.pl⟩
theorem Frm.base {K:PySem.W.Frag} {B B':Hp} {σ:hJ} {H:Hp} {E:List Sl} {xs:List V} {Xs:List Sl} (h:Frm K B' σ H E xs Xs) (s:Same B B'):Frm K B σ H E xs Xs:=let ⟨F,A,h⟩:=h;⟨F,A,h.base s⟩
theorem FrF.raise {K:PySem.W.Frag} {B F:Hp} {A:List Addr} {σ:hJ} {H:Hp} {E:List Sl} {xs:List V} {Xs:List Sl} (h:FrF K B F A σ H E xs Xs):FrF K F F A σ H E xs Xs:=⟨Same.refl _,h.fh,h.tf,h.sl,h.nd,h.fr,h.len,h.pl⟩
def jB (lo:Int) (n:Nat):List PyData:=(List.range n).map fun (k:Nat)=> .int (lo+(k:Int))
def iy (g:j4):kM:=fun E=>(g E).bind fun a=>match aw a.2 a.1 with
  | some [.int j]=>if -1000000≤j∧j≤1000000 then some (jB 0 j.toNat,a.2) else none
  | _=>none
def r_ (f:bN):kM:=fun E=>(f E).bind fun a=>(frz a.2 a.1).bind fun b=>match b.1 with
  | .list ds=>some (ds.reverse,b.2)
  | _=>none
section
variable {X:Cx} {tg e e2:Expr} {m:Bool} {f:bN} {g:j4} {p pos:Pos} {K:PySem.W.Frag} {B:Hp}
theorem lH {t t':TI} (h:PI X tg e t) (k:∀σ H Q,t' σ H Q→t σ H Q):PI X tg e t':=fun pins s σ H R I q=>h pins s σ H R I (k σ H R q)
theorem p4 {a:Addr} {vs:List V} {ds:List PyData} (h:SqL K B a vs) (r:RpA K B vs ds):mQ K B (wS K a) ds:=fun {B' F A σ H E xs Xs} i sB fr=>by
  have hH:=fr.fh.seq (fr.bf.seq (sB.seq h))
  refine ⟨fun d ed=>?_,fun e=>⟨vs,hH,by rw [e,r.len];exact Nat.le_refl _⟩⟩
  obtain ⟨v,ev,rv⟩:=r.get ed
  refine ⟨⟨vs,v,hH,ev⟩,fun x H2 ⟨e2,y⟩=>?_⟩
  subst e2
  have:=y vs hH
  rw [ev] at this
  cases this
  exact ⟨F,A,fr.push ⟨rfl,_,rfl,rv.same (sB.trans fr.bf)⟩⟩
theorem sd {a:Addr} {vs:List V} {ds:List PyData} (h:SqL K B a vs) (r:RpA K B vs ds):mQ K B (yW K a vs) ds.reverse:=fun {B' F A σ H E xs Xs} i sB fr=>by
  have hH:=fr.fh.seq (fr.bf.seq (sB.seq h))
  refine ⟨fun d ed=>?_,fun e=>⟨hH,by rw [e,List.length_reverse,r.len]⟩⟩
  obtain ⟨v,ev,rv⟩:=r.rev.get ed
  have hi:i < vs.length:=by
    have:=(List.getElem?_eq_some_iff.mp ev).1
    simpa using this
  refine ⟨⟨hH,hi⟩,fun x H2 ⟨e2,y⟩=>?_⟩
  subst e2
  rw [ev] at y
  cases y
  exact ⟨F,A,fr.push ⟨rfl,_,rfl,rv.same (sB.trans fr.bf)⟩⟩
theorem nX {lo:Int} {n:Nat}:mQ K B (yp lo n) (jB lo n):=fun {B' F A σ H E xs Xs} i sB fr=>by
  have hl:(jB lo n).length=n:=by simp [jB]
  refine ⟨fun d ed=>?_,fun e=>?_⟩
  · have hi:i < n:=by have:=(List.getElem?_eq_some_iff.mp ed).1;omega
    refine ⟨hi,fun x H2 ⟨e2,y⟩=>?_⟩
    subst e2 y
    have:d= .int (lo+i):=by
      unfold jB at ed
      rw [List.getElem?_map,List.getElem?_range hi] at ed
      exact (Option.some.inj ed).symm
    subst this
    exact ⟨F,A,fr.push ⟨rfl,_,rfl, .int _⟩⟩
  · show n≤i
    omega
theorem wm (hg:Gl X "reversed") (hm:X.mg "reversed"=none) (he:EX X e m f) (hs:starEach [e] X.env=[(false,eval e X.env)]:=by rfl):IX X tg (.Call (.Name "reversed" p) [e] [] pos) m (r_ f):=lH (v9 hg hm (bU he dt hs) hs) fun σ H R z=>by
  obtain ⟨B,E,xs,Xs,ds,E',fr,cl,e,q⟩:=z
  obtain ⟨⟨s,E1⟩,e1,e⟩:=Option.bind_eq_some_iff.mp e
  obtain ⟨⟨d,E2⟩,e2,e⟩:=Option.bind_eq_some_iff.mp e
  refine ⟨B,E,xs,Xs,s,E1,fr,cl,e1,fun v H1 ⟨F,A,fr1⟩=>?_⟩
  obtain ⟨F2,A2,fr2⟩:=fr1.frz0 e2
  simp only at e
  split at e
  · cases e
    obtain ⟨v',A1,ev,rfl,w,ew,r⟩:=fr2.ext (k:=0) rfl
    cases ev;cases ew
    cases r with
    | lst h1 h2=>
      obtain ⟨A3,fr3⟩:=fr2.pop
      exact ⟨_,_,rfl,fr2.fh.seq h1,q F2 _ _ fr2.bf ⟨F2,A3,fr3.raise⟩ (sd h1 h2)⟩
  · cases e
theorem kO (hg:Gl X "range") (hm:X.mg "range"=none) (ha:AX X [e] m g) (hs:starEach [e] X.env=[(false,eval e X.env)]:=by rfl):IX X tg (.Call (.Name "range" p) [e] [] pos) m (iy g):=lH (pF hg hm ha hs) fun σ H R z=>by
  obtain ⟨B,E,xs,Xs,ds,E',fr,cl,e,q⟩:=z
  obtain ⟨⟨rs,E1⟩,e1,e⟩:=Option.bind_eq_some_iff.mp e
  refine ⟨B,E,xs,Xs,rs,E1,fr,cl,e1,fun vs H1 hl ⟨F,A,fr1⟩=>?_⟩
  simp only at e
  split at e
  · rename_i j ld
    split at e
    · rename_i hj
      cases e
      obtain ⟨r,A',fr2⟩:=fr1.looks hl ld
      obtain ⟨v,rfl,r'⟩:=r.one
      cases r'
      exact ⟨j,rfl,by omega,by omega,q B _ _ (Same.refl _) ⟨F,A',fr2⟩ nX⟩
    · cases e
  · cases e
end
def cJ (tg:i9) (body:bW):List PyData→bW
  | [],E=>some (E, .nx)
  | d::ds,E=>((tg d E).bind body).bind fun a=>match a.2 with
    | .nx=>cJ tg body ds a.1
    | .ct=>cJ tg body ds a.1
    | .bk=>some (a.1, .nx)
    | .rt r=>some (a.1, .rt r)
def gL (it:kM) (tg:i9) (body:bW):bW:=fun E=>(it E).bind fun a=>cJ tg body a.1 a.2
theorem gZ {X:Cx} {tg iter:Expr} {body:List Stmt} {m:Bool} {it:kM} {g:i9} {b:bW} {pos:Pos} (hp:PassesOwn (model X.prog X.w) X.A X.env X.xe) (hc:X.calm=true) (hi:IX X tg iter m it) (hg:GX X tg g) (hb:pW X body b)
    (hs:∀x,foldedSetIterable iter X.env x=pure x:=by intro _;rfl):SX X (.For tg iter body [] pos) (gL it g b):=gY (vP hp hc hi hg hb hs) fun D σ H z=>by
  obtain ⟨B,E,xs,Xs,E',fl,fr,cl,e,q⟩:=z
  obtain ⟨⟨ds,E1⟩,e1,e⟩:=Option.bind_eq_some_iff.mp e
  refine ⟨B,E,xs,Xs,ds,E1,fr,fun _=>Calm.nil cl,e1,fun B' J H1 hB fr1 ok=>?_⟩
  refine ⟨fun i mm σ' H'=>mm=ds.length - i∧i≤ds.length∧∃Ei,cJ g b (ds.drop i) Ei=some (E',fl)∧Frm X.K B' σ' H' Ei xs Xs,⟨ds.length,by simp,Nat.zero_le _,E1,by simpa using e,fr1⟩,?_⟩
  rintro i mm σ' H' ⟨rfl,hi,Ei,ei,F,A,fri⟩
  obtain ⟨go,stop⟩:=ok i (Same.refl _) fri
  by_cases hlt:i < ds.length
  · obtain ⟨d,ed⟩:∃d,ds[i]? =some d:=⟨ds[i],List.getElem?_eq_getElem hlt⟩
    obtain ⟨g1,yl⟩:=go d ed
    have edr:ds.drop i=d::ds.drop (i+1):=by
      rw [List.drop_eq_getElem_cons hlt]
      congr 1
      exact Option.some.inj ((List.getElem?_eq_getElem hlt).symm.trans ed)
    rw [edr] at ei
    obtain ⟨⟨E2,f2⟩,e2,ei⟩:=Option.bind_eq_some_iff.mp ei
    obtain ⟨E3,e3,e2⟩:=Option.bind_eq_some_iff.mp e2
    refine .inr ⟨g1,fun σ2 H2=>∃Ej,cJ g b (ds.drop (i+1)) Ej=some (E',fl)∧Frm X.K B' σ2 H2 Ej xs Xs,fun σ2 H2 ⟨Ej,ej,frj⟩=>⟨ds.length - (i+1),by omega,rfl,hlt,Ej,ej,frj⟩,fun x H2 y=>?_⟩
    refine ⟨B',Ei,xs,Xs,d,E3,yl x H2 y,Still.nil cl,e3,fun σ3 H3 fr3=>?_⟩
    refine ⟨B',E3,xs,Xs,E2,f2,fr3,cl,e2,?_⟩
    cases f2 with
    | nx=>exact fun σ4 H4 fr4=>⟨E2,ei,fr4⟩
    | ct=>exact fun σ4 H4 fr4=>⟨E2,ei,fr4⟩
    | bk=>cases ei;exact fun σ4 H4 fr4=>q _ _ (fr4.base hB)
    | rt r=>cases ei;exact fun σ4 v H4 fr4=>q _ _ _ (fr4.base hB)
  · have e0:i=ds.length:=by omega
    refine .inl ⟨stop e0,?_⟩
    rw [e0,List.drop_length] at ei
    cases ei
    exact q _ _ (Frm.base ⟨F,A,fri⟩ hB)
def aS:Sl→Bool
  | .sh d=>a8 d
  | .ow ds=>aU ds
  | .tx ps=>ps.all fun p=>match p with | .fl d=>a8 d | .ol ds=>aU ds
  | .od kvs=>kvs.all fun p=>aU p.2
  | _=>false
def ay (n:Nat) (ds:List PyData):List Sl:=ds.map .sh++List.replicate (n - ds.length) .no
def bO (r:Sl):Option Sl:=if aS r then some r else match r with
  | .sh d=>some (.br d)
  | .ow ds=>some (.br (.list ds))
  | .tx ps=>some (.br (.tuple (ps.map Pt.val)))
  | .br d=>some (if a8 d then .sh d else .br d)
  | _=>none
def b7 (n:Nat) (g:bW):List PyData→Option Sl:=fun ds=>(g (ay n ds)).bind fun a=>match a.2 with
  | .rt r=>bO r
  | .nx=>some (.sh .none)
  | _=>none
section
variable {K:PySem.W.Frag} {B F:Hp} {A:List Addr} {σ:hJ} {H:Hp} {E:List Sl} {v:V} {r:Sl}
theorem DlOk.cold {F H:Hp} (sF:Same F H):∀{us:List (cX×V)} {kvs:List (cX×List PyData)} {A:List Addr},(∀p∈kvs,aU p.2=true)→DlOk K F H us kvs A→DlOk K (tups H) H us kvs A
  | [],[],A,_,h=>h
  | p::us,q::kvs,A,c,h=>by
    obtain ⟨l,vs,A',rfl,rfl,hl,hr,k⟩:=h
    exact ⟨l,vs,A',rfl,rfl,hl,(hr.same sF).cold (c q (List.mem_cons_self ..)),DlOk.cold sF (fun p hp=>c p (List.mem_cons_of_mem _ hp)) k⟩
  | [],_::_,_,_,h=>False.elim h
  | _::_,[],_,_,h=>False.elim h
theorem PtsOk.cold {F H G:Hp} (sF:Same F H) (tG:∀{v:V} {d:PyData},Rp K F v d→a8 d=true→Rp K G v d):∀{vs:List V} {ps:List Pt} {A:List Addr},(∀p∈ps,(match p with | .fl d=>a8 d | .ol ds=>aU ds)=true)→PtsOk K F H vs ps A→PtsOk K G H vs ps A
  | [],[],A,_,h=>h
  | v::vs, .fl d::ps,A,c,h=>⟨tG h.1 (c (.fl d) (List.mem_cons_self ..)),PtsOk.cold sF tG (fun p hp=>c p (List.mem_cons_of_mem _ hp)) h.2⟩
  | v::vs, .ol ds::ps,A,c,h=>by
    obtain ⟨l,us,A',rfl,rfl,hl,hr,q⟩:=h
    refine ⟨l,us,A',rfl,rfl,hl,?_,q.cold sF tG fun p hp=>c p (List.mem_cons_of_mem _ hp)⟩
    have cd:aU ds=true:=c (.ol ds) (List.mem_cons_self ..)
    have key:∀{us:List V} {ds:List PyData},RpA K F us ds→aU ds=true→RpA K G us ds:=fun {us ds} r c=>by
      induction us generalizing ds with
      | nil=>cases r;exact .nil
      | cons u us ih=>
        cases r with
        | cons r1 r2=>
          simp only [aU,Bool.and_eq_true] at c
          exact .cons (tG r1 c.1) (ih r2 c.2)
    exact key hr cd
  | [],_::_,_,_,h=>False.elim h
  | _::_,[],_,_,h=>False.elim h
theorem FrF.result (h:FrF K B F A σ H E [v] [r]) (c:aS r=true):Same B H∧iQ K B H v r:=by
  refine ⟨h.bf.trans h.fh,?_⟩
  have nB:∀a,F a=none→B a=none:=fun a e=>h.bf.free e
  have cold:∀{v:V} {d:PyData},Rp K F v d→a8 d=true→Rp K (tups H) v d:=fun r f=>(r.same h.fh).cold f
  obtain ⟨v',A1,ev,hs⟩:=h.ext (k:=0) rfl
  cases ev
  obtain ⟨o,C0,C1,C2,eA,eo,hp,_⟩:=h.sl.at (k:=0) (s:=r) rfl
  cases eo
  have sub:∀a∈C1,F a=none:=fun a ha=>h.fr a (by rw [eA];simp [ha])
  have nd:C1.Nodup:=by
    have:=h.nd
    rw [eA] at this
    exact (List.nodup_append.mp (List.nodup_append.mp this).2.1).1
  cases r with
  | sh d=>obtain ⟨_,w,ew,r⟩:=hp;cases ew;exact cold r c
  | ow ds=>
    obtain ⟨l,vs,el,rfl,hl,r⟩:=hp
    cases el
    exact ⟨l,vs,rfl,nB l (sub l (by simp)),hl,(r.same h.fh).cold c⟩
  | tx ps=>
    obtain ⟨t,vs,et,ht,r⟩:=hp
    cases et
    exact ⟨t,vs,C1,rfl,dP (h.fh _ _ ht) rfl,nd,fun a ha=>nB a (sub a ha),r.cold h.fh cold (by simpa [aS,List.all_eq_true] using c)⟩
  | no=>cases c
  | od kvs=>
    obtain ⟨l,us,A',el,rfl,hl,r⟩:=hp
    cases el
    exact ⟨l,us,A',rfl,nd,fun a ha=>nB a (sub a ha),hl,r.cold h.fh (by simpa [aS,List.all_eq_true] using c)⟩
  | oi kvs=>cases c
  | al i=>cases c
  | br d=>cases c
theorem FrF.resultO {r':Sl} (h:FrF K B F A σ H E [v] [r]) (c:bO r=some r'):Same B H∧iQ K B H v r':=by
  unfold bO at c
  split at c
  · rename_i hc
    cases c
    exact h.result hc
  · refine ⟨h.bf.trans h.fh,?_⟩
    cases r with
    | sh d=>cases c;exact (h.look0 (d:=d) rfl).1
    | ow ds=>cases c;exact (h.look0 (d:= .list ds) rfl).1
    | tx ps=>cases c;exact (h.look0 (d:= .tuple (ps.map Pt.val)) rfl).1
    | br d=>
      have r:=(h.look0 (d:=d) rfl).1
      simp only at c
      split at c
      · rename_i hf
        cases c
        exact r.cold hf
      · cases c
        exact r
    | no=>cases c
    | od kvs=>cases c
    | oi kvs=>cases c
    | al i=>cases c
theorem lI {N:List Str} {vs:List V} {ds:List PyData} (r:RpA K H vs ds) (hn:ds.length≤N.length):FrF K H H [] (L2.dD N vs) H (ay N.length ds) [] []:=by
  refine ⟨Same.refl _,Same.refl _,io H,?_,List.nodup_nil,fun a ha=>(by cases ha),rfl,?_⟩
  · have l:=r.len
    unfold L2.dD ay
    rw [l]
    generalize N.length - ds.length=k
    have base:∀τ:hJ,SAll (SlOk K H H τ) (List.replicate k none) (List.replicate k .no) []:=fun τ=>by
      induction k with
      | zero=>exact .nil
      | succ k ih=>exact .cons (A:=[]) rfl ih
    have key:∀(τ:hJ) {us:List V} {es:List PyData},RpA K H us es→SAll (SlOk K H H τ) (us.map some++List.replicate k none) (es.map .sh++List.replicate k .no) []:=fun τ us es r=>by
      induction us generalizing es with
      | nil=>cases r;exact base τ
      | cons u us ih=>
        cases r with
        | cons r1 r2=>exact .cons (A:=[]) ⟨rfl,_,rfl,r1⟩ (ih _ r2)
    exact key _ r
  · intro s hs
    unfold ay at hs
    rcases List.mem_append.mp hs with hs | hs
    · obtain ⟨d,_,rfl⟩:=List.mem_map.mp hs
      rfl
    · rw [(List.mem_replicate.mp hs).2]
      rfl
end
def cr (k n:Nat) (g:bW):List PyData→Option Sl:=fun ds=>if ds.length=k then b7 n g ds else none
theorem fw {P:Program} {w:World} {K:PySem.W.Frag} {mg:Str→Option Value} {base:Heap} {x:Str} {st:Stmt} {N ps:List Str} {k a n:Nat} {g:bW} (D:Def K mg x st ps) (S:FnScope N ps (ai st)) (hpa:ps.length=a) (hNn:N.length=n) (hps:a≤n)
    (hbody:∀(f:Addr) (cdv:Value) (A:Around) (outer:List Env) (s:Shared) (H:Hp) (E:XK),Room k (A.deeper (PyProof.Rows.envOfC x (ai st) s.heap.objs.size f cdv))→
      pW (j1 iK P w K mg base N x (ai st) f cdv A outer s H E).nox (bo st) g):Own P w K mg base (k+1) x ps (da K (cr a n g)):=by
  subst hpa hNn
  refine D.own S (fun vs H Q E h=>?_) (fun f cdv A outer s H vs Q E hr h=>?_)
  · obtain ⟨ds,r,e,rp,_⟩:=h
    unfold cr at e
    split at e
    · rename_i hl
      rw [rp.len];exact hl
    · cases e
  obtain ⟨ds,r,e,rp,q⟩:=h
  unfold cr at e
  split at e
  · rename_i hl
    refine ⟨_,hbody f cdv A outer s H E hr,?_⟩
    obtain ⟨⟨E',fl⟩,e1,e⟩:=Option.bind_eq_some_iff.mp e
    refine ⟨H,ay N.length ds,[],[],E',fl,⟨H,[],lI rp (by omega)⟩,rfl,e1,?_⟩
    cases fl with
    | nx=>
      cases e
      rintro σ' H' ⟨F',A',fr'⟩
      exact q _ _ (fr'.bf.trans fr'.fh) .non
    | bk=>cases e
    | ct=>cases e
    | rt r'=>
      rintro σ' v H' ⟨F',A',fr'⟩
      obtain ⟨s1,s2⟩:=fr'.resultO e
      exact q v H' s1 s2
  · cases e
theorem zI {P:Program} {w:World} {K:PySem.W.Frag} {mg:Str→Option Value} {base:Heap} {x:Str} {st:Stmt} {N ps:List Str} {k a n:Nat} {g:bW} {f0:Addr} {fd:FuncData} (D:Fun K x x st f0 fd) (S:FnScope N ps (ai st)) (hpa:ps.length=a) (hNn:N.length=n) (hps:a≤n)
    (hbody:∀(cdv:Value) (A:Around) (outer:List Env) (s:Shared) (H:Hp) (E:XK),Room k (A.deeper (PyProof.Rows.envOfC x (ai st) s.heap.objs.size f0 cdv))→
      pW (j1 iK P w K mg base N x (ai st) f0 cdv A outer s H E).nox (bo st) g):FnOk P w K mg base iK (k+1) f0 fd ps (da K (cr a n g)):=by
  subst hpa hNn
  refine D.ok S (fun vs H Q E h=>?_) (fun cdv A outer s H vs Q E hr h=>?_)
  · obtain ⟨ds,r,e,rp,_⟩:=h
    unfold cr at e
    split at e
    · rename_i hl
      rw [rp.len];exact hl
    · cases e
  obtain ⟨ds,r,e,rp,q⟩:=h
  unfold cr at e
  split at e
  · rename_i hl
    refine ⟨_,hbody cdv A outer s H E hr,?_⟩
    obtain ⟨⟨E',fl⟩,e1,e⟩:=Option.bind_eq_some_iff.mp e
    refine ⟨H,ay N.length ds,[],[],E',fl,⟨H,[],lI rp (by omega)⟩,rfl,e1,?_⟩
    cases fl with
    | nx=>
      cases e
      rintro σ' H' ⟨F',A',fr'⟩
      exact q _ _ (fr'.bf.trans fr'.fh) .non
    | bk=>cases e
    | ct=>cases e
    | rt r'=>
      rintro σ' v H' ⟨F',A',fr'⟩
      obtain ⟨s1,s2⟩:=fr'.resultO e
      exact q v H' s1 s2
  · cases e
theorem kR {K:PySem.W.Frag} {H:Hp}:∀ns:List Int,RpA K H (ns.map V.int) (ns.map PyData.int)
  | []=> .nil
  | n::ns=> .cons (.int n) (kR ns)
theorem wn {K:PySem.W.Frag} {H:Hp} {a:Addr} {ns:List Int} {c:List PyData→Option Sl} (e:c [.list (ns.map .int)]=some (.sh (.bool true))) (h:SqL K H a (ns.map V.int)):da K c [.ref a] H (fun v _=>v= .bl true) fun _ _ _=>False:=
  ⟨_,_,e, .cons (.lst h (kR ns)) .nil,fun v H' _ r=>by
    have r':Rp K (tups H') v (.bool true):=r
    cases r'
    rfl⟩
end PL
namespace PL
open PySem L2 Nh
def mR (E:List Sl):Option Nat→Sl
  | none=> .no
  | some j=>match (E[j]?).bind Sl.val with
    | some d=> .sh d
    | none=> .no
def g3 (js:List (Option Nat)) (E:List Sl):List Sl:=js.map (mR E)
def gS:ie:=fun E=>some (true,E)
def fZ (tg:i9) (cond:ie) (elt:bN):List PyData→List Sl→Option (List PyData)
  | [],_=>some []
  | d::ds,E=>(tg d E).bind fun E1=>(cond E1).bind fun b=>if b.1 then (elt b.2).bind fun c=>(frz c.2 c.1).bind fun e=>(fZ tg cond elt ds e.2).map fun r=>e.1::r else fZ tg cond elt ds b.2
def iR (js:List (Option Nat)) (it:kM) (tg:i9) (cond:ie) (elt:bN):bN:=fun E=>(it E).bind fun a=>(fZ tg cond elt a.1 (g3 js a.2)).bind fun ds=>if aU ds&&decide (ds.length≤1000000) then some (.ow ds,a.2) else none
section
variable {X:Cx} {elt target iter:Expr} {ifs:List Expr} {scope sc:Scope} {cl:List (Str×Addr)} {N:List Str} {pos:Pos} {js:List (Option Nat)} {K:PySem.W.Frag}
theorem se {B F:Hp} {A:List Addr} {σ:hJ} {H:Hp} {E:List Sl} {xs:List V} {Xs:List Sl} (fr:FrF K B F A σ H E xs Xs) (js:List (Option Nat)):FrF K H H [] (slots js σ) H (g3 js E) [] []:=by
  refine ⟨Same.refl _,Same.refl _,io H,?_,List.nodup_nil,fun a ha=>(by cases ha),rfl,fun s hs=>?_⟩
  · have key:∀(τ:hJ) (ks:List (Option Nat)),SAll (SlOk K H H τ) (slots ks σ) (g3 ks E) []:=fun τ ks=>by
      induction ks with
      | nil=>exact .nil
      | cons j ks ih=>
        refine .cons (A:=[]) ?_ ih
        cases j with
        | none=>exact rfl
        | some j=>
          show SlOk K H H τ _ (match (E[j]?).bind Sl.val with | some d=> .sh d | none=> .no) []
          cases ej:E[j]? with
          | none=>exact rfl
          | some s=>
            cases ev:s.val with
            | none=>simp only [Option.bind_some,ev];exact rfl
            | some d=>
              simp only [Option.bind_some,ev]
              obtain ⟨o,A1,eo,hs⟩:=fr.var ej
              obtain ⟨v,rfl,r,_⟩:=hs.val fr.fh ev
              refine ⟨rfl,v,?_,r⟩
              show (σ[j]?).join=some v
              rw [eo]
              rfl
    exact key _ js
  · obtain ⟨j,_,rfl⟩:=List.mem_map.mp hs
    cases j with
    | none=>rfl
    | some j=>
      simp only [mR]
      split <;> rfl
theorem p5 {m2 m3:Bool} {tg:i9} {cond:ie} {el:bN} {tt:TT} (htt:∀σ H Q,rt K m2 cond σ H Q→tt σ H Q) {B B' F:Hp} {A:List Addr} {σ:hJ} {H1:Hp} {E1:List Sl} {xs:List V} {Xs:List Sl} {ds rs:List PyData} {J:It} {Q:VK}
    (fr1:FrF K B F A σ H1 E1 xs Xs) (B2:Same B' H1) (ok:mQ K B' J ds) (e2:fZ tg cond el ds (g3 js E1)=some rs) (hc:aU rs=true∧rs.length≤1000000) (q:∀v H',Frm K B σ H' E1 (v::xs) (.ow rs::Xs)→Q v H') (l:Addr) (hl:H1 l=none):
    ∃W:Nat→Nat→hJ→Hp→Prop,(∃m,W 0 m (slots js σ) (upd H1 l (.lst [])))∧
  ∀i m σ' H',W i m σ' H'→(J.stop i H'∧Q (.ref l) H')∨(J.go i H'∧∃N:hJ→Hp→Prop,(∀σ' H',N σ' H'→∃m',m' < m∧W (i+1) m' σ' H')∧∀x H2,J.yld i H' x H2→rg K tg x σ' H2 fun σ3 H3=>tt σ3 H3 fun b H4=>
    if b=true then rd K m3 el σ3 H4 fun y H5=>∃ys,H5 l=some (.lst ys)∧ys.length < sizeLine∧N σ3 (upd H5 l (.lst (ys++[y]))) else N σ3 H4):=by
  have fr0:=(se fr1 js).newl (ds:=[]) .nil hl
  refine ⟨fun i mm σ' H'=>mm=ds.length - i∧i≤ds.length∧∃Ei acc bj,fZ tg cond el (ds.drop i) Ei=some bj∧rs=acc++bj∧Frm K H1 σ' H' Ei [.ref l] [.ow acc],⟨ds.length,by simp,Nat.zero_le _,_,[],rs,by simpa using e2,rfl,⟨_,_,fr0⟩⟩,?_⟩
  rintro i mm σ' H' ⟨rfl,hi,Ei,acc,bj,ei,er,F',A',fri⟩
  obtain ⟨go,stop⟩:=ok i B2 fri
  by_cases hlt:i < ds.length
  · obtain ⟨d,ed⟩:∃d,ds[i]? =some d:=⟨ds[i],List.getElem?_eq_getElem hlt⟩
    obtain ⟨g1,yl⟩:=go d ed
    have edr:ds.drop i=d::ds.drop (i+1):=by
      rw [List.drop_eq_getElem_cons hlt]
      congr 1
      exact Option.some.inj ((List.getElem?_eq_getElem hlt).symm.trans ed)
    rw [edr] at ei
    obtain ⟨E3,e3,ei⟩:=Option.bind_eq_some_iff.mp ei
    obtain ⟨⟨b,E4⟩,e4,ei⟩:=Option.bind_eq_some_iff.mp ei
    refine .inr ⟨g1,fun σ2 H2=>∃Ej acc bj,fZ tg cond el (ds.drop (i+1)) Ej=some bj∧rs=acc++bj∧Frm K H1 σ2 H2 Ej [.ref l] [.ow acc],fun σ2 H2 ⟨Ej,ac,rt,ej,er,frj⟩=>⟨ds.length - (i+1),by omega,rfl,hlt,Ej,ac,rt,ej,er,frj⟩,fun x H2 y=>?_⟩
    have clm:Calm [Sl.ow acc]:=Calm.cons (fun s hs=>absurd hs (by simp)) rfl
    refine ⟨H1,Ei,[.ref l],[.ow acc],d,E3,yl x H2 y,(fun s hs=>by rw [List.mem_singleton.mp hs];rfl),e3,fun σ3 H3 fr3=>htt _ _ _ ?_⟩
    refine ⟨H1,E3,[.ref l],[.ow acc],b,E4,fr3,fun _=>clm,e4,fun H4 fr4=>?_⟩
    cases b with
    | false=>
      rw [if_neg (by decide)]
      exact ⟨E4,acc,bj,ei,er,fr4⟩
    | true=>
      rw [if_pos rfl]
      obtain ⟨⟨s5,E5⟩,e5,ei⟩:=Option.bind_eq_some_iff.mp ei
      obtain ⟨⟨d6,E6⟩,e6,ei⟩:=Option.bind_eq_some_iff.mp ei
      obtain ⟨rest',e7,ei⟩:=Option.map_eq_some_iff.mp ei
      subst ei
      refine ⟨H1,E4,[.ref l],[.ow acc],s5,E5,fr4,fun _=>clm,e5,fun y5 H5 ⟨F5,A5,fr5⟩=>?_⟩
      obtain ⟨F6,A6,fr6⟩:=fr5.frz0 e6
      obtain ⟨v',C1,ev,rfl,w,ew,ry⟩:=fr6.ext (k:=0) rfl
      cases ev;cases ew
      obtain ⟨A7,fr7⟩:=fr6.pop
      -- the list under way is the one part that owns
      obtain ⟨bf,fh,tf,sl,nd,frn,len,pl⟩:=fr7
      generalize hT:List.map some [V.ref l]++σ3=T at sl
      generalize hS:[Sl.ow acc]++E6=S at sl
      cases sl with
      | nil=>cases hS
      | cons q0 r0=>
        injection hT with h1 hT
        injection hS with h2 hS
        subst h1 h2 hT hS
        obtain ⟨l',us,el,rfl,hl5,ru⟩:=q0
        cases el
        have lu:=ru.len
        refine ⟨us,hl5,mK (by rw [er] at hc;simp at hc;omega),E6,acc++[d6],rest',e7,by rw [er];simp,F6,_,bf,fun b o qb=>?_,?_, .cons (A:=[l]) ⟨l,us++[y5],rfl,rfl,az,ru.snoc ry⟩ (r0.mono fun o s C hs hC qq=>qq.stay (Same.refl _) (fun b hb=>au fun z=>?_) fun z=>?_),nd,frn,rfl,pl⟩
        · have lF:F6 l=none:=frn l (by simp)
          rw [au (fun z=>by rw [z,lF] at qb;cases qb)]
          exact fh _ _ qb
        · rw [jt hl5];exact tf
        · have:=hC b hb
          rw [z] at this
          exact (List.nodup_cons.mp nd).1 this
        · have:=pl s hs
          cases s <;> simp [Sl.isAl,Sl.isBr] at this z
  · have e0:i=ds.length:=by omega
    refine .inl ⟨stop e0,?_⟩
    rw [e0,List.drop_length] at ei
    cases ei
    rw [List.append_nil] at er
    subst er
    obtain ⟨g1,g2⟩:=fri.result hc.1
    exact q _ _ (fr1.told g1 g2)
theorem uD {m m2 m3:Bool} {it:kM} {tg:i9} {cond:ie} {el:bN} {tt:TT} (htt:∀σ H Q,rt K m2 cond σ H Q→tt σ H Q) {σ:hJ} {H:Hp} {Q:VK} (z:rd K m (iR js it tg cond el) σ H Q):oQ js (ri K m it) (rg K tg) tt (rd K m3 el) σ H Q:=by
  obtain ⟨B,E,xs,Xs,res,E',fr,cl,e,q⟩:=z
  obtain ⟨⟨ds,E1⟩,e1,e⟩:=Option.bind_eq_some_iff.mp e
  obtain ⟨rs,e2,e⟩:=Option.bind_eq_some_iff.mp e
  simp only at e
  split at e
  · rename_i hc
    cases e
    simp only [Bool.and_eq_true,decide_eq_true_eq] at hc
    exact ⟨B,E,xs,Xs,ds,_,fr,cl,e1,fun B' J H1 hB ⟨F,A,fr1⟩ ok l hl=>p5 htt (fr1.base hB) (fr1.bf.trans fr1.fh) ok e2 hc q l hl⟩
  · cases e
theorem jC {m m3:Bool} {it:kM} {tg:i9} {el:bN} (C:CompOk X scope sc cl N js) (hc:X.calm=true) (hi:IX X target iter m it) (hg:∀C s₀ H₀ fp,GX (X.comp sc cl N C s₀ H₀ fp) target tg) (he:∀C s₀ H₀ fp,EX (X.comp sc cl N C s₀ H₀ fp) elt m3 el)
    (hs:∀x,foldedSetIterable iter X.env x=pure x:=by intro _;rfl):EX X (.ListComp elt [⟨target,iter,[],0⟩] scope pos) m (iR js it tg gS el):=
  a7 (oR (g:=rg X.K tg) (te:=rd X.K m3 el) C hc hi hg (fun _ _ _ _=>oP) he hs) fun σ H Q z=>uD (m2:=false) (fun σ H Q z=>by
    obtain ⟨B,E,xs,Xs,b,E',fr,cl,e,q⟩:=z
    cases e
    exact q _ fr) z
end
end PL
namespace PL
open PySem L2 Nh
section
variable {X:Cx} {elt target iter:Expr} {ifs:List Expr} {scope sc:Scope} {cl:List (Str×Addr)} {N:List Str} {pos:Pos} {js:List (Option Nat)} {K:PySem.W.Frag}
theorem SAll.split {P:Option V→Sl→List Addr→Prop}:∀{os os':List (Option V)} {ss ss':List Sl} {A:List Addr},os.length=ss.length→SAll P (os++os') (ss++ss') A→∃A1 A2,A=A1++A2∧SAll P os ss A1∧SAll P os' ss' A2
  | [],_,[],_,A,_,h=>⟨[],A,rfl, .nil,h⟩
  | o::os,_,s::ss,_,_,l, .cons h r=>by
    obtain ⟨A1,A2,rfl,h1,h2⟩:=SAll.split (os:=os) (ss:=ss) (by simpa using l) r
    exact ⟨_,A2,by rw [List.append_assoc], .cons h h1,h2⟩
  | [],_,_::_,_,_,l,_=>by simp at l
  | _::_,_,[],_,_,l,_=>by simp at l
end
end PL
namespace PL
open PySem L2 Nh
def xQ:Const→Option Int
  | .int i=>some i
  | _=>none
def wo:Expr→Option Int
  | .Constant c _ _=>xQ c
  | _=>none
def gC:List Expr→Option (List Int)
  | []=>some []
  | e::r=>(wo e).bind fun i=>(gC r).map (i:: ·)
def sf (ns:List Int):kM:=fun E=>some (ns.map .int,E)
theorem wp {e:Expr} {i:Int} (h:wo e=some i):∃k p,e= .Constant (.int i) k p:=by
  unfold wo at h
  split at h
  · unfold xQ at h
    split at h
    · cases h;exact ⟨_,_,rfl⟩
    · cases h
  · cases h
theorem o6 {X:Cx}:∀{es:List Expr} {ns:List Int},gC es=some ns→DX X es false (sf ns)
  | [],ns,h=>by cases h;exact cI
  | e::es,ns,h=>by
    obtain ⟨i,h0,h⟩:=Option.bind_eq_some_iff.mp h
    obtain ⟨ms,h1,h⟩:=Option.map_eq_some_iff.mp h
    subst h
    obtain ⟨k,p,rfl⟩:=wp h0
    exact bq (m1:=false) (m2:=false) ah (o6 h1) rfl
def xR (body:List Stmt) (k:Nat):List Expr:=match body[k]? with
  | some (.Assign _ (.Subscript (.List es _) _ _) _)=>es
  | _=>[]
def y7 (es:List Expr):Stmt→Stmt
  | .Assign t (.Subscript (.List _ p) i q) r=> .Assign t (.Subscript (.List es p) i q) r
  | s=>s
def wq (es:List Expr):Nat→List Stmt→List Stmt
  | _,[]=>[]
  | 0,s::r=>y7 es s::r
  | k+1,s::r=>s::wq es k r
theorem nY {X:Cx} {body:List Stmt} {g:bW} (k:Nat) (ns:List Int) (h:gC (xR body k)=some ns) (hb:wq (xR body k) k body=body) (key:∀es,gC es=some ns→pW X (wq es k body) g):pW X body g:=by
  have:=key _ h
  rw [hb] at this
  exact this
end PL
namespace PL
open PySem L2 Nh
theorem cD {α:Type} (xs:List α) (k:Nat):atI xs (k:Int)=xs[k]? :=by
  unfold atI vZ
  rw [if_pos (by omega)]
  split
  · simp
  · rw [List.getElem?_eq_none (by omega)];rfl
theorem fz {α:Type} (a:α) (l:List α):atI (a::l) 0=some a:=cD (a::l) 0
theorem f6 {α:Type} (a b:α) (l:List α):atI (a::b::l) 1=some b:=cD (a::b::l) 1
theorem xS {α:Type} (a b c:α) (l:List α):atI (a::b::c::l) 2=some c:=cD (a::b::c::l) 2
theorem cU {α:Type} (l:List α) (a:α):atI (l++[a]) (-1)=some a:=by
  unfold atI vZ
  rw [if_neg (by omega),if_pos (by simp;omega)]
  have e:(-1+(((l++[a]).length:Nat):Int)).toNat=l.length:=by simp;omega
  rw [e]
  simp
theorem gD {α:Type} (l:List α) (a:α):(l++[a])[(l++[a]).length - 1]? =some a:=by simp
theorem i_ {α:Type} (l:List α) (a:α):(l++[a]).isEmpty=false:=by cases l <;> rfl
theorem kS:∀{a:List PyData},(∀d∈a,a8 d=true)→aU a=true
  | [],_=>rfl
  | x::a,h=>by simp [aU,h x (List.mem_cons_self ..),kS fun d hd=>h d (List.mem_cons_of_mem _ hd)]
theorem kT {α:Type} {f:α→PyData} (h:∀a,a8 (f a)=true) (l:List α):aU (l.map f)=true:=kS fun d hd=>by
  obtain ⟨a,_,rfl⟩:=List.mem_map.mp hd
  exact h a
theorem uE (p:Pc):a8 (aB p)=true:=rfl
theorem bY (c:List Pc):aU (c.map aB)=true:=kT uE c
theorem p6 (l:List Str):aU (l.map PyData.str)=true:=kT (fun _=>rfl) l
def cutL {α:Type} (l:List α) (lo hi:Option Int):List α:=(l.drop (HT.iJ l.length 0 lo)).take (HT.iJ l.length l.length hi - HT.iJ l.length 0 lo)
theorem jD {α:Type} (f:α→PyData) (l:List α) (lo hi:Option Int):pX (l.map f) lo hi=(cutL l lo hi).map f:=by
  unfold pX cutL
  rw [List.length_map,List.map_take,List.map_drop]
theorem p7 {α:Type} (l:List α) {m:Int} (h:0≤m):((cutL l none (some m)).length:Int)≤m:=by
  unfold cutL
  have e:m=((m.toNat:Nat):Int):=by omega
  have z:HT.iJ l.length l.length (some m)≤m.toNat:=by
    rw [e,HT.k7,Int.toNat_natCast]
    exact Nat.min_le_left _ _
  rw [List.length_take,List.length_drop]
  omega
theorem p8 {α:Type} (l:List α) {k:Int} (h0:0≤k):cutL l none (some k)=l.take k.toNat:=by
  have e:k=((k.toNat:Nat):Int):=by omega
  have z:∀d,HT.iJ l.length d (some k)=min k.toNat l.length:=fun d=>by
    rw [e,HT.k7,Int.toNat_natCast]
  unfold cutL
  rw [z,HT.mD,List.drop_zero,Nat.sub_zero]
  rcases Nat.le_total k.toNat l.length with h | h
  · rw [Nat.min_eq_left h]
  · rw [Nat.min_eq_right h,List.take_length,List.take_of_length_le h]
theorem p9 {α:Type} (l:List α) {k:Int} (h0:0≤k):cutL l (some k) none=l.drop k.toNat:=by
  have e:k=((k.toNat:Nat):Int):=by omega
  have z:∀d,HT.iJ l.length d (some k)=min k.toNat l.length:=fun d=>by
    rw [e,HT.k7,Int.toNat_natCast]
  unfold cutL
  rw [z,HT.mD]
  rcases Nat.le_total k.toNat l.length with h | h
  · rw [Nat.min_eq_left h]
    exact List.take_of_length_le (by rw [List.length_drop];omega)
  · rw [Nat.min_eq_right h,List.drop_length,List.drop_of_length_le h,List.take_nil]
theorem jE {α:Type} {l:List α} {lo hi:Option Int} {x:α} (h:x∈cutL l lo hi):x∈l:=List.mem_of_mem_drop (List.mem_of_mem_take h)
theorem uF {α β:Type} (f:α→β) (k:Nat) (l:List α):(List.replicate k (l.map f)).flatten=((List.replicate k l).flatten).map f:=by
  induction k with
  | zero=>rfl
  | succ k ih=>rw [List.replicate_succ,List.replicate_succ,List.flatten_cons,List.flatten_cons,List.map_append,ih]
theorem kU (lo:Int) (n:Nat):jB lo (n+1)= .int lo::jB (lo+1) n:=by
  unfold jB
  rw [List.range_succ_eq_map,List.map_cons,List.map_map]
  simp only [Int.natCast_zero,Int.add_zero]
  congr 1
  refine List.map_congr_left fun k _=>?_
  show PyData.int (lo+((k+1:Nat):Int))=PyData.int (lo+1+(k:Int))
  congr 1
  omega
end PL
namespace L2
open PySem PySem.Spec PyProof.Rows
section
variable {X:Cx} {pins:List (Addr×Obj)} {σ:L2.St} {H:Hp} {s:Shared} {h':Heap}
theorem Inv.turnedL {t':Nat} {fp:List Addr} (I:Inv X pins σ H s) (k:∀b o,b∉fp→s.heap.get? b=some o→h'.get? b=some o) (hf:∀b∈fp,j0 X pins H b):Inv X pins σ H {s with heap:=h',toks:=t'}:=by
  have nit:∀b u,H b=some u→b∉fp:=fun b u e z=>by rw [(hf b z).1] at e;cases e
  refine I.step (g':=s.gens) (d':=s.drawn) (ch:=fp) (fun b hb=>?_) (fun b o _ _ hc e _=>k b o hc e) (fun b o _ _ hc e _=>⟨o.slots,k b o hc e⟩) (fun _ _ _ _ n=>n)
    (fun b o hc e=>⟨o,k b o hc e⟩) (fun _ _ e=>e) (fun _ _ _ e=>e) (fun _ _ e=>e) (fun m hm=>?_) (fun b u e=>?_) I.bare
  · obtain ⟨f0,f1,f2,f3,f4,f5⟩:=hf b hb
    exact ⟨f3,f1,f4,f5⟩
  · obtain ⟨o,es,ep,ho,r⟩:=hm
    exact ⟨o,es,ep,k _ o (fun z=>(hf _ z).2.1 rfl) ho,r⟩
  · refine (I.hok b u e).stay (fun c v hc q=>k c v ?_ q) (fun _ q=>q) fun _ _ q=>q
    rcases hc with z | z
    · rw [z];exact nit b u e
    · exact nit c _ z
theorem nZ {h:Heap} {o o':Obj} {c:Addr} (hc:c≠h.objs.size) (e:(h.push o').get? c=some o):h.get? c=some o:=(Heap.get?_push_cases e).elim (fun z=>absurd z.1 hc) id
theorem sg {t':Nat} {us:List Value} {vs:List V} (I:Inv X pins σ H s) (r:Vals vs us) (hz:vs.length≤sizeLine):
    Inv X pins σ (upd H s.heap.objs.size (.tup vs)) {s with heap:=s.heap.push {cls:= .type "tuple",data:= .seq us.toArray},toks:=t'}:=
  I.laid (fun b u e=>Heap.get?_push_of_some _ e) (Nat.le_refl _) ⟨hz,us,r,⟨_,Heap.get?_push_size _ rfl,rfl,_,rfl⟩⟩
end
def y8 (K:PySem.W.Frag) (a b:Addr) (xs ys:List V):It:=
  ⟨fun i H=>SqL K H a xs∧SqL K H b ys∧i < xs.length∧i < ys.length,fun i H x H'=>∃T u v,H T=none∧xs[i]? =some u∧ys[i]? =some v∧x= .ref T∧H'=upd H T (.tup [u,v]),
   fun i H=>SqL K H a xs∧SqL K H b ys∧i=min xs.length ys.length⟩
theorem si {P:Program} {w:World} {K:PySem.W.Frag} {elts:List Expr} {k:Nat} {pos:Pos} {z TI TO i1 i2 a b:Addr} (D:ZipApart z TI TO i1 i2 a b) (xs ys:List V):Turn P w K (.Tuple elts k pos) (y8 K a b xs ys) [z,TI,TO,i1,i2] z
    (fun i h=>IsZip h z TI TO .none∧IsPair h TI (.ref i1) (.ref i2)∧(∃a b,IsPair h TO a b)∧h.IsListIter i1 a i∧h.IsListIter i2 b i) where
  mem:=by simp
  obj:=fun i h st c hc=>by
    obtain ⟨h1,h2,⟨x,y,h3⟩,⟨o4,h4,_,d4⟩,⟨o5,h5,_,d5⟩⟩:=st
    simp only [List.mem_cons,List.not_mem_nil,or_false] at hc
    rcases hc with rfl | rfl | rfl | rfl | rfl
    · exact ⟨_,h1,fun v z=>by cases z⟩
    · exact ⟨_,h2,fun v z=>by cases z⟩
    · exact ⟨_,h3,fun v z=>by cases z⟩
    · exact ⟨_,h4,fun v z=>by rw [d4] at z;cases z⟩
    · exact ⟨_,h5,fun v z=>by rw [d5] at z;cases z⟩
  keep:=fun i h h' st kk=>by
    obtain ⟨h1,h2,⟨x,y,h3⟩,h4,h5⟩:=st
    exact ⟨kk z (by simp) _ h1,kk TI (by simp) _ h2,⟨x,y,kk TO (by simp) _ h3⟩,h4.at fun o e=>kk i1 (by simp) o e,h5.at fun o e=>kk i2 (by simp) o e⟩
  item:=by
    intro X hP hw hK hc i pins s σ H E I hf st hg
    subst hP hw hK
    obtain ⟨h1,h2,⟨x,y,h3⟩,h4,h5⟩:=st
    obtain ⟨q1,q2,l1,l2⟩:=hg
    obtain ⟨its,rv,p,hz⟩:=I.list q1
    obtain ⟨its2,rv2,p2,hz2⟩:=I.list q2
    obtain ⟨u,hu⟩:∃u,xs[i]? =some u:=⟨xs[i],List.getElem?_eq_getElem l1⟩
    obtain ⟨v,hv⟩:∃v,ys[i]? =some v:=⟨ys[i],List.getElem?_eq_getElem l2⟩
    obtain ⟨u',hu',ru⟩:=rv.get hu
    obtain ⟨v',hv',rv'⟩:=rv2.get hv
    refine wpAny_pyNext_zip_item D h1 h2 h3 h4 h5 p.isList p2.isList (by simpa using hu') (by simpa using hv') fun h' a1 a2 a3 a4 a5 a6 hk=>?_
    have I0:=sg (t':=s.toks) I (us:=[u',v']) (vs:=[u,v]) (.cons ru (.cons rv' .nil)) (by show 2≤sizeLine;decide)
    have hT:∀c∈[z,TI,TO,i1,i2],c≠s.heap.objs.size:=fun c hc ZE=>by
      have:c < s.heap.objs.size:=by
        simp only [List.mem_cons,List.not_mem_nil,or_false] at hc
        rcases hc with rfl | rfl | rfl | rfl | rfl
        · exact Heap.lt_size h1
        · exact Heap.lt_size h2
        · exact Heap.lt_size h3
        · obtain ⟨o,q,_⟩:=h4;exact Heap.lt_size q
        · obtain ⟨o,q,_⟩:=h5;exact Heap.lt_size q
      rw [ZE] at this;exact Nat.lt_irrefl _ this
    have hf2:∀c∈[z,TI,TO,i1,i2],j0 X pins (upd H s.heap.objs.size (.tup [u,v])) c:=fun c hc=>by
      obtain ⟨f0,f⟩:=hf c hc
      exact ⟨by rw [au (hT c hc)];exact f0,f⟩
    have I1:=I0.turnedL (h':=h') (t':=s.toks) (fp:=[z,TI,TO,i1,i2]) (fun c o hc e=>by
      simp only [List.mem_cons,List.not_mem_nil,or_false,not_or] at hc
      by_cases ec:c=s.heap.objs.size
      · subst ec
        rw [Heap.get?_push_size _ rfl] at e
        cases e
        exact a5
      · have e':s.heap.get? c=some o:=by
          exact nZ ec e
        exact hk c o hc.1 hc.2.2.1 hc.2.2.2.1 hc.2.2.2.2 e') hf2
    refine ⟨_,rfl,wpAny_letOwnedTupleGo_zip (s:={s with heap:=h'}) a1 fun h'' z'' s''=>?_⟩
    have I2:=I1.turnedL (h':=h'') (t':=s.toks) (fp:=[z,TI,TO,i1,i2]) (fun c o hc e=>(s''.2 c fun e'=>hc (by simp [e'])).trans e) hf2
    refine ⟨.ref s.heap.objs.size,_,I2,rfl,⟨_,u,v,I.hok.fresh (Nat.le_refl _),hu,hv,rfl,rfl⟩,⟨z'',?_,⟨_,_,s''.extBut _ _ D.TOz a2⟩,a3.extBut s''.extBut D.i1z,a4.extBut s''.extBut D.i2z⟩,fun c hc=>(hf2 c hc).1⟩
    exact s''.extBut _ _ D.TIz (hk _ _ D.TIz D.TITO D.TIi1 D.TIi2 h2)
  done:=by
    intro X hP hw hK hc i pins s σ H E I hf st hg
    subst hP hw hK
    obtain ⟨h1,h2,⟨x,y,h3⟩,h4,h5⟩:=st
    obtain ⟨q1,q2,hi⟩:=hg
    obtain ⟨its,rv,p,hz⟩:=I.list q1
    obtain ⟨its2,rv2,p2,hz2⟩:=I.list q2
    have n1:=rv.length
    have n2:=rv2.length
    refine wpAny_pyNext_zip_end (I.ok.hd hc) D h1 h2 h3 h4 h5 p.isList p2.isList ?_ fun h' hk=>⟨rfl,I.turnedL (t':=s.toks) (fp:=[z,TI,TO,i1,i2]) (fun c o hc e=>?_) hf⟩
    · rcases Nat.le_total xs.length ys.length with h | h
      · exact .inl (Array.getElem?_eq_none (by rw [List.size_toArray];omega))
      · exact .inr (Array.getElem?_eq_none (by rw [List.size_toArray];omega))
    · simp only [List.mem_cons,List.not_mem_nil,or_false,not_or] at hc
      exact hk c o hc.1 hc.2.2.1 hc.2.2.2.1 hc.2.2.2.2 e
  self:=fun _ _ _ _ _ st h=>wpAny_pyIter_zip st.1 h
def y9 (K:PySem.W.Frag) (tl:TA):TI:=fun σ H R=>tl σ H fun vs H1=>∃a b xs ys,vs=[.ref a, .ref b]∧SqL K H1 a xs∧SqL K H1 b ys∧R (y8 K a b xs ys) H1
section
variable {X:Cx} {elts:List Expr} {kt:Nat} {pt:Pos}
theorem wt {l l2:Expr} {tl:TA} {p pos:Pos} (hg:Gl X "zip") (hm:X.mg "zip"=none) (ha:PA X [l,l2] tl) (hs:starEach [l,l2] X.env=(false,eval l X.env)::starEach [l2] X.env:=by rfl) (hs2:starEach [l2] X.env=[(false,eval l2 X.env)]:=by rfl):PI X (.Tuple elts kt pt) (.Call (.Name "zip" p) [l,l2] [] pos) (y9 X.K tl):=by
  intro pins s σ H R I h
  refine Call_ (ii I hg hm boot_zip (PyProof.Rows.callWith_type1 (b8 (ha pos pins s σ H _ I h) fun us s1 ⟨vs,H1,I1,r1,q1⟩=>?_) hs (by rw [hs2];rfl)))
  obtain ⟨a,b,xs,ys,e,hq,hq2,q⟩:=q1
  subst e
  obtain ⟨u,v,rfl,ru,rv⟩:=r1.two
  cases ru;cases rv
  obtain ⟨its,rva,p1,hz⟩:=I1.list hq
  obtain ⟨its2,rvb,p2,hz2⟩:=I1.list hq2
  have la:a < s1.heap.objs.size:=by obtain ⟨_,e,_⟩:=p1.isList;exact Heap.lt_size e
  have lb:b < s1.heap.objs.size:=by obtain ⟨_,e,_⟩:=p2.isList;exact Heap.lt_size e
  refine call_zip_2 p1.isList p2.isList fun h' z1 z2 z3 z4 z5 z6 hk=>?_
  have I2:Inv X pins σ H1 {s1 with heap:=h'}:=I1.kept (t':=s1.toks) hk
  refine wpAny_pyIter_zip (s:={s1 with heap:=h'}) z1 ⟨_,[_,_,_,_,_],_,_,H1,rfl,I2,si (zipApart_new la lb) xs ys,⟨z1,z2,⟨_,_,z3⟩,z4,z5⟩,fun c hc=>?_,q⟩
  have le:s1.heap.objs.size≤c:=by
    simp only [List.mem_cons,List.not_mem_nil,or_false] at hc
    rcases hc with rfl | rfl | rfl | rfl | rfl
    · exact Nat.le_add_right _ 4
    · exact Nat.le_add_right _ 2
    · exact Nat.le_add_right _ 3
    · exact Nat.le_refl _
    · exact Nat.le_add_right _ 1
  exact I1.fpOk le (I1.hok.fresh le)
end
def yu (x:Str):It:=⟨fun i _=>i < x.cps.toList.length,fun i H v H'=>H'=H∧∃c,x.cps.toList[i]? =some c∧v= .str ⟨#[c]⟩,fun i _=>i=x.cps.toList.length⟩
theorem sj {P:Program} {w:World} {K:PySem.W.Frag} {tg:Expr} {it:Addr} {T:String} {x:Str} {t:Tok} (hT:T="str_ascii_iterator"∨T="str_iterator"):Turn P w K tg (yu x) [it] it (fun i h=>h.IsStrIter it T x t i) where
  mem:=by simp
  obj:=fun i h st b hb=>by
    have e:b=it:=by simpa using hb
    subst e
    obtain ⟨o,e,c,d⟩:=st
    exact ⟨o,e,fun v z=>by rw [d] at z;cases z⟩
  keep:=fun i h h' st k=>let ⟨o,ho,r⟩:=st;⟨o,k it (by simp) o ho,r⟩
  item:=by
    intro X hP hw hK hc i pins s σ H E I hf st hg
    subst hP hw hK
    obtain ⟨f0,f1,f2,f3,f4,f5⟩:=hf it (by simp)
    have hi:i < x.cps.toList.length:=hg
    have hx:x.cps[i]? =some (x.cps.toList[i]'hi):=by simp at hi;simp [hi]
    have fin:∀(h':Heap),h'.IsStrIter it T x t (i+1)→Heap.SameBut it s.heap h'→∃u,some (Value.str ⟨#[x.cps.toList[i]'hi]⟩ s.toks)=some u∧
        wpAny (model X.prog X.w) X.A (letOwnedTupleGo tg (.ref it) u) (fun _ s2=>∃v H',Inv X pins σ H' s2∧RelV v u∧(yu x).yld i H v H'∧s2.heap.IsStrIter it T x t (i+1)∧∀b∈[it],H' b=none) E {s with heap:=h',toks:=s.toks+1}:=fun h' st' sb=>by
      have I1:Inv X pins σ H {s with heap:=h',toks:=s.toks+1}:=I.turned (t':=s.toks+1) (fun b o hb e=>(sb.2 b hb).trans e) f0 f1 f3 f4 f5
      obtain ⟨o,e,c,d⟩:=id st'
      exact ⟨_,rfl,mB (s:={s with heap:=h',toks:=s.toks+1}) e c d (by rcases hT with rfl | rfl <;> decide) ⟨.str ⟨#[x.cps.toList[i]'hi]⟩,H,I1,⟨_,rfl⟩,⟨rfl,_,List.getElem?_eq_getElem hi,rfl⟩,st',fun b hb=>(hf b hb).1⟩⟩
    rcases hT with rfl | rfl
    · exact wpAny_pyNext_ascii_item st hx fun h' st' sb=>fin h' st' sb
    · exact wpAny_pyNext_wide_item st hx fun h' st' sb=>fin h' st' sb
  done:=by
    intro X hP hw hK hc i pins s σ H E I hf st hg
    subst hP hw hK
    obtain ⟨f0,f1,f2,f3,f4,f5⟩:=hf it (by simp)
    have hi:i=x.cps.toList.length:=hg
    have hx:x.cps[i]? =none:=by simp at hi;simp [hi]
    rcases hT with rfl | rfl
    · exact wpAny_pyNext_ascii_end (I.ok.hd hc) st hx fun h' eb=>⟨rfl,I.turned (t':=s.toks) (fun b o hb e=>eb b o hb e) f0 f1 f3 f4 f5⟩
    · exact wpAny_pyNext_wide_end (I.ok.hd hc) st hx fun h' eb=>⟨rfl,I.turned (t':=s.toks) (fun b o hb e=>eb b o hb e) f0 f1 f3 f4 f5⟩
  self:=fun _ _ _ _ _ st h=>by
    rcases hT with rfl | rfl
    · exact wpAny_pyIter_striter_ascii st h
    · exact wpAny_pyIter_striter_wide st h
def y_ (tl:TE):TI:=fun σ H R=>tl σ H fun v H1=>∃x,v= .str x∧R (yu x) H1
theorem wu {X:Cx} {tg l:Expr} {tl:TE} (hl:PE X l tl):PI X tg l (y_ tl):=by
  intro pins s σ H R I h
  refine b8 (hl pins s σ H _ I h) fun v s1 ⟨y,H1,I1,r1,q1⟩=>?_
  obtain ⟨x,e,q⟩:=q1
  subst e
  obtain ⟨t,rfl⟩:=r1
  refine wpAny_pyIter_strU ?_
  refine ⟨s1.heap.objs.size,[s1.heap.objs.size],fun i h=>h.IsStrIter s1.heap.objs.size (strIterType x) x t i,_,H1,rfl,I1.kept (t':=s1.toks) fun b o e=>Heap.get?_push_of_some _ e,sj (t:=t) ?_,⟨_,Heap.get?_push_size _ rfl,rfl,rfl⟩,fun b hb=>?_,q⟩
  · unfold strIterType
    split
    · exact .inl rfl
    · exact .inr rfl
  · have e:b=s1.heap.objs.size:=by simpa using hb
    subst e
    exact I1.fpOk (Nat.le_refl _) (I1.hok.fresh (Nat.le_refl _))
theorem PI.or {X:Cx} {tg l:Expr} {a b:TI} (h1:PI X tg l a) (h2:PI X tg l b):PI X tg l (fun σ H R=>a σ H R∨b σ H R):=by
  intro pins s σ H R I h
  rcases h with h | h
  · exact h1 pins s σ H R I h
  · exact h2 pins s σ H R I h
end L2
namespace PL
open PySem L2 Nh
def hU:List PyData→List PyData→List PyData
  | a::as,b::bs=> .tuple [a,b]::hU as bs
  | _,_=>[]
def sk (f g:bN):kM:=fun E=>(f E).bind fun a=>(frz a.2 a.1).bind fun b=>(g b.2).bind fun c=>(frz c.2 c.1).bind fun d=>match b.1,d.1 with
  | .list xs, .list ys=>some (hU xs ys,d.2)
  | _,_=>none
def lJ (x:Str):List PyData:=x.cps.toList.map fun c=> .str ⟨#[c]⟩
def iz (f:bN):kM:=fun E=>(f E).bind fun a=>(frz a.2 a.1).bind fun b=>match b.1 with
  | .list ds=>some (ds,b.2)
  | .tuple ds=>some (ds,b.2)
  | .str x=>some (lJ x,b.2)
  | _=>none
section
variable {X:Cx} {K:PySem.W.Frag} {B:Hp}
theorem mS:∀{as bs:List PyData} {i:Nat} {d:PyData},(hU as bs)[i]? =some d→∃a b,as[i]? =some a∧bs[i]? =some b∧d= .tuple [a,b]
  | a::as,b::bs,0,d,e=>by simp [hU] at e;exact ⟨a,b,rfl,rfl,e.symm⟩
  | a::as,b::bs,i+1,d,e=>by
    obtain ⟨x,y,h1,h2,h3⟩:=mS (as:=as) (bs:=bs) (i:=i) (by simpa [hU] using e)
    exact ⟨x,y,by simpa using h1,by simpa using h2,h3⟩
  | [],_,_,_,e=>by simp [hU] at e
  | _::_,[],_,_,e=>by simp [hU] at e
theorem mT:∀(as bs:List PyData),(hU as bs).length=min as.length bs.length
  | a::as,b::bs=>by simp [hU,mT as bs]
  | [],_=>by simp [hU]
  | _::_,[]=>by simp [hU]
theorem sm {a b:Addr} {vs us:List V} {ds es:List PyData} (h:SqL K B a vs) (r:RpA K B vs ds) (h2:SqL K B b us) (r2:RpA K B us es):mQ K B (y8 K a b vs us) (hU ds es):=fun {B' F A σ H E xs Xs} i sB fr=>by
  have hH:=fr.fh.seq (fr.bf.seq (sB.seq h))
  have hH2:=fr.fh.seq (fr.bf.seq (sB.seq h2))
  refine ⟨fun d ed=>?_,fun e=>⟨hH,hH2,by rw [e,mT,r.len,r2.len]⟩⟩
  obtain ⟨x,y,ex,ey,rfl⟩:=mS ed
  obtain ⟨v,ev,rv⟩:=r.get ex
  obtain ⟨u,eu,ru⟩:=r2.get ey
  refine ⟨⟨hH,hH2,(List.getElem?_eq_some_iff.mp ev).1,(List.getElem?_eq_some_iff.mp eu).1⟩,fun z H2 ⟨T,v',u',hT,e1,e2,e3,e4⟩=>?_⟩
  rw [ev] at e1;cases e1
  rw [eu] at e2;cases e2
  subst e3 e4
  have s1:=sB.trans fr.bf
  exact ⟨_,_,fr.newt (.cons (rv.same s1) (.cons (ru.same s1) .nil)) hT⟩
theorem sq {x:Str}:mQ K B (yu x) (lJ x):=fun {B' F A σ H E xs Xs} i sB fr=>by
  refine ⟨fun d ed=>?_,fun e=>by show i=x.cps.toList.length;rw [e];simp [lJ]⟩
  unfold lJ at ed
  rw [List.getElem?_map] at ed
  obtain ⟨c,ec,rfl⟩:=Option.map_eq_some_iff.mp ed
  refine ⟨(List.getElem?_eq_some_iff.mp ec).1,fun z H2 ⟨e1,c',e2,e3⟩=>?_⟩
  rw [ec] at e2;cases e2
  subst e1 e3
  exact ⟨F,A,fr.push ⟨rfl,_,rfl, .str _⟩⟩
theorem sr {a:Addr} {vs:List V} {ds:List PyData} (h:SqT K B a vs) (r:RpA K B vs ds):mQ K B (yJ K a) ds:=fun {B' F A σ H E xs Xs} i sB fr=>by
  have hH:=fr.fh.tup (fr.bf.tup (sB.tup h))
  refine ⟨fun d ed=>?_,fun e=>⟨vs,hH,by rw [e,r.len];exact Nat.le_refl _⟩⟩
  obtain ⟨v,ev,rv⟩:=r.get ed
  refine ⟨⟨vs,v,hH,ev⟩,fun x H2 ⟨e2,y⟩=>?_⟩
  subst e2
  have:=y vs hH
  rw [ev] at this
  cases this
  exact ⟨F,A,fr.push ⟨rfl,_,rfl,rv.same (sB.trans fr.bf)⟩⟩
theorem iA {tg e:Expr} {m:Bool} {f:bN} (he:EX X e m f):IX X tg e m (iz f):=lH (PI.or (oC he) (PI.or (vO he) (wu he))) fun σ H R z=>by
  obtain ⟨B,E,xs,Xs,ds,E',fr,cl,e,q⟩:=z
  obtain ⟨⟨s,E1⟩,e1,e⟩:=Option.bind_eq_some_iff.mp e
  obtain ⟨⟨d,E2⟩,e2,e⟩:=Option.bind_eq_some_iff.mp e
  have key:∀(v:V) (H1:Hp),Frm X.K B σ H1 E1 (v::xs) (s::Xs)→∃F2 A2 A3,Rp X.K F2 v d∧Same B F2∧FrF X.K F2 F2 A3 σ H1 E2 xs Xs∧FrF X.K B F2 A2 σ H1 E2 (v::xs) (.sh d::Xs):=fun v H1 ⟨F,A,fr1⟩=>by
    obtain ⟨F2,A2,fr2⟩:=fr1.frz0 e2
    obtain ⟨v',A1,ev,rfl,w,ew,r⟩:=fr2.ext (k:=0) rfl
    cases ev;cases ew
    obtain ⟨A3,fr3⟩:=fr2.pop
    exact ⟨F2,A2,A3,r,fr2.bf,fr3.raise,fr2⟩
  simp only at e
  split at e
  · cases e
    refine .inl ⟨B,E,xs,Xs,s,E1,fr,cl,e1,fun v H1 fr1=>?_⟩
    obtain ⟨F2,A2,A3,r,sb,fr3,fr2⟩:=key v H1 fr1
    cases r with
    | lst h1 h2=>exact ⟨_,rfl,⟨_,fr2.fh.seq h1⟩,q F2 _ _ sb ⟨F2,A3,fr3⟩ (p4 h1 h2)⟩
  · cases e
    refine .inr (.inl ⟨B,E,xs,Xs,s,E1,fr,cl,e1,fun v H1 fr1=>?_⟩)
    obtain ⟨F2,A2,A3,r,sb,fr3,fr2⟩:=key v H1 fr1
    cases r with
    | tup h1 h2=>exact ⟨_,rfl,⟨_,fr2.fh.tup h1⟩,q F2 _ _ sb ⟨F2,A3,fr3⟩ (sr h1 h2)⟩
  · cases e
    refine .inr (.inr ⟨B,E,xs,Xs,s,E1,fr,cl,e1,fun v H1 fr1=>?_⟩)
    obtain ⟨F2,A2,A3,r,sb,fr3,fr2⟩:=key v H1 fr1
    cases r
    exact ⟨_,rfl,q F2 _ _ sb ⟨F2,A3,fr3⟩ sq⟩
  · cases e
theorem wv {elts:List Expr} {kt:Nat} {pt p pos:Pos} {e e2:Expr} {m m2:Bool} {f g:bN} (hg:Gl X "zip") (hm:X.mg "zip"=none) (he:EX X e m f) (he2:EX X e2 m2 g) (hs:starEach [e,e2] X.env=(false,eval e X.env)::starEach [e2] X.env:=by rfl) (hs2:starEach [e2] X.env=[(false,eval e2 X.env)]:=by rfl):IX X (.Tuple elts kt pt) (.Call (.Name "zip" p) [e,e2] [] pos) (m||m2) (sk f g):=lH (wt hg hm (bU he (bU he2 dt hs2) hs) hs hs2) fun σ H R z=>by
  obtain ⟨B,E,xs,Xs,ds,E',fr,cl,e,q⟩:=z
  obtain ⟨⟨s,E1⟩,e1,e⟩:=Option.bind_eq_some_iff.mp e
  obtain ⟨⟨d,E2⟩,e2,e⟩:=Option.bind_eq_some_iff.mp e
  obtain ⟨⟨s3,E3⟩,e3,e⟩:=Option.bind_eq_some_iff.mp e
  obtain ⟨⟨d4,E4⟩,e4,e⟩:=Option.bind_eq_some_iff.mp e
  refine ⟨B,E,xs,Xs,s,E1,fr,fun z=>cl (by simp [z]),e1,fun v H1 ⟨F,A,fr1⟩=>?_⟩
  obtain ⟨F2,A2,fr2⟩:=fr1.frz0 e2
  refine ⟨B,E2,v::xs, .sh d::Xs,s3,E3,⟨F2,A2,fr2⟩,fun z=>Calm.cons (cl (by simp [z])) rfl,e3,fun v3 H3 ⟨F3,A3,fr3⟩=>?_⟩
  obtain ⟨F4,A4,fr4⟩:=fr3.frz0 e4
  simp only at e
  split at e
  · cases e
    obtain ⟨v',A1,ev,rfl,w,ew,r⟩:=fr4.ext (k:=0) rfl
    cases ev;cases ew
    obtain ⟨v',A1,ev,rfl,w,ew,r2⟩:=fr4.ext (k:=1) rfl
    cases ev;cases ew
    cases r with
    | lst h1 h2=>
      cases r2 with
      | lst h3 h4=>
        obtain ⟨A5,fr5⟩:=fr4.pop
        obtain ⟨A6,fr6⟩:=fr5.pop
        exact ⟨_,_,_,_,rfl,fr4.fh.seq h3,fr4.fh.seq h1,q F4 _ _ fr4.bf ⟨F4,A6,fr6.raise⟩ (sm h3 h4 h1 h2)⟩
  · cases e
end
def bA (c:ie) (g:bW):Nat→bW
  | 0,_=>none
  | n+1,E=>(c E).bind fun a=>if a.1 then (g a.2).bind fun b=>(match b.2 with
      | .nx=>bA c g n b.1
      | .ct=>bA c g n b.1
      | .bk=>some (b.1, .nx)
      | .rt r=>some (b.1, .rt r)) else some (a.2, .nx)
open Classical in
def g5 (c:ie) (g:bW):bW:=fun E=>if h:∃n r,bA c g n E=some r then some h.choose_spec.choose else none
theorem fK (c:ie) (g:bW):∀{n:Nat} {E:List Sl} {r:List Sl×Fl},bA c g n E=some r→bA c g (n+1) E=some r
  | n+1,E,r,h=>by
    obtain ⟨a,e1,h⟩:=Option.bind_eq_some_iff.mp h
    rw [bA,e1,Option.bind_some]
    cases ha:a.1 with
    | false=>rw [ha] at h;exact h
    | true=>
      rw [ha] at h
      obtain ⟨b,e2,h⟩:=Option.bind_eq_some_iff.mp h
      rw [if_pos rfl,e2,Option.bind_some]
      cases hb:b.2 with
      | nx=>rw [hb] at h;exact fK c g h
      | ct=>rw [hb] at h;exact fK c g h
      | bk=>rw [hb] at h;exact h
      | rt r=>rw [hb] at h;exact h
theorem jF (c:ie) (g:bW) {n m:Nat} {E:List Sl} {r:List Sl×Fl} (h:bA c g n E=some r) (hl:n≤m):bA c g m E=some r:=by
  induction hl with
  | refl=>exact h
  | step _ ih=>exact fK c g ih
theorem kW {c:ie} {g:bW} {n:Nat} {E:List Sl} {r:List Sl×Fl} (h:bA c g n E=some r):g5 c g E=some r:=by
  have ex:∃n r,bA c g n E=some r:=⟨n,r,h⟩
  unfold g5
  rw [dif_pos ex]
  have e:=ex.choose_spec.choose_spec
  have a:=jF c g e (Nat.le_max_left ex.choose n)
  have b:=jF c g h (Nat.le_max_right ex.choose n)
  rw [a] at b
  exact b
theorem mU {X:Cx} {c:Expr} {body:List Stmt} {m:Bool} {t:ie} {b:bW} {pos:Pos} (hp:PassesOwn (model X.prog X.w) X.A X.env X.xe) (hc:TX X c m t) (hb:pW X body b):SX X (.While c body [] pos) (g5 t b):=gY (qJ hp hc hb) fun D σ H z=>by
  obtain ⟨B,E,xs,Xs,E',fl,fr,cl,e,q⟩:=z
  unfold g5 at e
  split at e
  · rename_i ex
    have e0:=ex.choose_spec.choose_spec
    rw [Option.some.inj e] at e0
    refine ⟨fun n σ' H'=>∃E1,bA t b n E1=some (E',fl)∧Frm X.K B σ' H' E1 xs Xs,⟨_,E,e0,fr⟩,?_⟩
    rintro n σ' H' ⟨E1,e1,fr1⟩
    cases n with
    | zero=>cases e1
    | succ n=>
      obtain ⟨⟨b1,E2⟩,e2,e1⟩:=Option.bind_eq_some_iff.mp e1
      refine ⟨B,E1,xs,Xs,b1,E2,fr1,fun _=>Calm.nil cl,e2,fun H2 fr2=>?_⟩
      cases b1 with
      | false=>
        cases e1
        exact (if_neg (by decide)).mpr (q _ _ fr2)
      | true=>
        refine (if_pos rfl).mpr ?_
        obtain ⟨⟨E3,f3⟩,e3,e1⟩:=Option.bind_eq_some_iff.mp e1
        refine ⟨fun σ4 H4=>∃E1,bA t b n E1=some (E',fl)∧Frm X.K B σ4 H4 E1 xs Xs,fun σ4 H4 z=>⟨n,Nat.lt_succ_self _,z⟩,B,E2,xs,Xs,E3,f3,fr2,cl,e3,?_⟩
        cases f3 with
        | nx=>exact fun σ4 H4 fr4=>⟨E3,e1,fr4⟩
        | ct=>exact fun σ4 H4 fr4=>⟨E3,e1,fr4⟩
        | bk=>cases e1;exact fun σ4 H4 fr4=>q _ _ fr4
        | rt r=>cases e1;exact fun σ4 v H4 fr4=>q _ _ _ fr4
  · cases e
end PL
namespace PL
open PySem L2 Nh
inductive Cm where
  | lt | le | gt | ge
def Cm.op:Cm→CmpOp
  | .lt=> .Lt
  | .le=> .LtE
  | .gt=> .Gt
  | .ge=> .GtE
def Cm.i:Cm→Int→Int→Bool
  | .lt,i,j=>decide (i < j)
  | .le,i,j=>decide (i≤j)
  | .gt,i,j=>decide (j < i)
  | .ge,i,j=>decide (j≤i)
def Cm.s:Cm→List Nat→List Nat→Bool
  | .lt,i,j=>decide (i < j)
  | .le,i,j=> !decide (j < i)
  | .gt,i,j=>decide (j < i)
  | .ge,i,j=> !decide (i < j)
def bg (c:Cm):PyData→PyData→Option PyData
  | .int i, .int j=>some (.bool (c.i i j))
  | .str x, .str y=>some (.bool (c.s x.cps.toList y.cps.toList))
  | _,_=>none
def zw (c:Cm):R2:=fun x y H Q=>(∃i j,x= .int i∧y= .int j∧Q (.bl (c.i i j)) H)∨(∃i j,x= .str i∧y= .str j∧Q (.bl (c.s i.cps.toList j.cps.toList)) H)
section
variable {X:Cx} {a b c:Expr} {m1 m2 m3:Bool} {f g h:bN} {pos:Pos} {K:PySem.W.Frag}
theorem mV (c:Cm):OpR X (compareOp c.op) (zw c):=by
  cases c with
  | lt=>exact OpR.or xv pH
  | le=>exact OpR.or xw (fun pins s σ H x y v u Q I rx ry h=>by
      obtain ⟨i,j,rfl,rfl,q⟩:=h
      obtain ⟨t,rfl⟩:=rx
      obtain ⟨t',rfl⟩:=ry
      exact PySem.P.le_str (aP I q rfl))
  | gt=>exact OpR.or xx (fun pins s σ H x y v u Q I rx ry h=>by
      obtain ⟨i,j,rfl,rfl,q⟩:=h
      obtain ⟨t,rfl⟩:=rx
      obtain ⟨t',rfl⟩:=ry
      exact PySem.P.gt_str (aP I q rfl))
  | ge=>exact OpR.or xy (fun pins s σ H x y v u Q I rx ry h=>by
      obtain ⟨i,j,rfl,rfl,q⟩:=h
      obtain ⟨t,rfl⟩:=rx
      obtain ⟨t',rfl⟩:=ry
      exact PySem.P.ge_str (aP I q rfl))
theorem mW (c:Cm):lC K (zw c) (bg c):=fun d1 d2 d v1 v2 H Q e r1 r2=>by
  unfold bg at e
  split at e
  · cases e;cases r1;cases r2
    exact ⟨_,rfl,fun q=> .inl ⟨_,_,rfl,rfl,q⟩⟩
  · cases e;cases r1;cases r2
    exact ⟨_,rfl,fun q=> .inr ⟨_,_,rfl,rfl,q⟩⟩
  · cases e
theorem p_ (c:Cm) (b:Expr):behindInMarks c.op b=false:=by cases c <;> exact ji _
theorem hV (c:Cm) (ha:EX X a m1 f) (hb:EX X b m2 g):TX X (.Compare a [c.op] [b] pos) (m1||m2) (bp (ae (bS (bg c)) m2 f g)):=lA (mV c) (iq (mW c)) ha hb (p_ c b)
theorem xT (c1 c2:Cm) (ha:EX X a m1 f) (hb:EX X b m2 g) (hc:EX X c m3 h) (hm:lastMarks [c1.op,c2.op] [b,c]=false:=by with_unfolding_all rfl):EX X (.Compare a [c1.op,c2.op] [b,c] pos) (m1||(m2||m3)) (bv (bg c1) (bg c2) m2 m3 f g h):=rT (mV c1) (mV c2) (mW c1) (mW c2) ha hb hc hm
theorem su (c1 c2:Cm) (ha:EX X a m1 f) (hb:EX X b m2 g) (hc:EX X c m3 h) (hm:lastMarks [c1.op,c2.op] [b,c]=false:=by with_unfolding_all rfl):TX X (.Compare a [c1.op,c2.op] [b,c] pos) (m1||(m2||m3)) (bp (bv (bg c1) (bg c2) m2 m3 f g h)):=rW (mV c1) (mV c2) (mW c1) (mW c2) ha hb hc hm
def isInt:PyData→Option Int
  | .int x=>some x
  | _=>none
def gk:List PyData→Option (List Str)
  | []=>some []
  | .str x::ds=>(gk ds).map fun xs=>x::xs
  | _::_=>none
def lK:List PyData→Option (List Int)
  | []=>some []
  | .int x::ds=>(lK ds).map fun xs=>x::xs
  | _::_=>none
theorem n4 (xs:List Str):gk (xs.map .str)=some xs:=by
  induction xs with
  | nil=>rfl
  | cons x xs ih=>simp [gk,ih]
theorem fA:∀{ds:List PyData} {xs:List Str},gk ds=some xs→ds=xs.map .str
  | [],xs,h=>by cases h;rfl
  | d::ds,xs,h=>by
    cases d with
    | str x=>
      obtain ⟨ys,e,rfl⟩:=Option.map_eq_some_iff.mp h
      rw [fA e];rfl
    | _=>cases h
theorem iB:∀{ds:List PyData} {xs:List Int},lK ds=some xs→ds=xs.map .int
  | [],xs,h=>by cases h;rfl
  | d::ds,xs,h=>by
    cases d with
    | int x=>
      obtain ⟨ys,e,rfl⟩:=Option.map_eq_some_iff.mp h
      rw [iB e];rfl
    | _=>cases h
theorem gl {H:Hp}:∀{vs:List V} {xs:List Str},RpA K H vs (xs.map .str)→vs=xs.map .str
  | [],[],_=>rfl
  | v::vs,x::xs, .cons h r=>by cases h;rw [gl r];rfl
theorem jG {H:Hp}:∀{vs:List V} {xs:List Int},RpA K H vs (xs.map .int)→vs=xs.map .int
  | [],[],_=>rfl
  | v::vs,x::xs, .cons h r=>by cases h;rw [jG r];rfl
def xU:PyData→PyData→Option Bool
  | .str x, .str y=>some (!(Builtin.Str.occurrences y x 0 y.length 1).isEmpty)
  | .str x, .list ds=>(gk ds).map fun xs=>xs.contains x
  | .str x, .tuple ds=>(gk ds).map fun xs=>xs.contains x
  | .int x, .list ds=>(lK ds).map fun xs=>xs.contains x
  | .int x, .tuple ds=>(lK ds).map fun xs=>xs.contains x
  | _,_=>none
def xV (K:PySem.W.Frag) (neg:Bool):R2:=fun x y H Q=>(∃i j,x= .str i∧y= .str j∧Q (.bl (if neg then !(!(Builtin.Str.occurrences j i 0 j.length 1).isEmpty) else !(Builtin.Str.occurrences j i 0 j.length 1).isEmpty)) H)∨zv K neg x y H Q
theorem mX (x:Str) (xs:List Str):wU (.str x) (xs.map .str)=xs.contains x:=by
  induction xs with
  | nil=>rfl
  | cons y xs ih=>
    rw [List.contains_cons,←ih]
    show (tI (.str y) (.str x)||wU (.str x) (xs.map .str))=_
    congr 1
    show (y == x)=(x == y)
    exact BEq.comm
theorem mY (x:Int) (xs:List Int):wU (.int x) (xs.map .int)=xs.contains x:=by
  induction xs with
  | nil=>rfl
  | cons y xs ih=>
    rw [List.contains_cons,←ih]
    show (tI (.int y) (.int x)||wU (.int x) (xs.map .int))=_
    congr 1
    show (y == x)=(x == y)
    exact BEq.comm
theorem ww (neg:Bool):lC K (xV K neg) (fun d1 d2=>(xU d1 d2).map fun b=> .bool (if neg then !b else b)):=fun d1 d2 d v1 v2 H Q e r1 r2=>by
  obtain ⟨b,e',rfl⟩:=Option.map_eq_some_iff.mp e
  clear e
  have e:=e'
  clear e'
  refine ⟨_,rfl,fun q=>?_⟩
  have hs:∀xs:List Str,(xs.map V.str).all fY=true:=fun xs=>by simp [List.all_eq_true,fY]
  have hi:∀xs:List Int,(xs.map V.int).all fY=true:=fun xs=>by simp [List.all_eq_true,fY]
  unfold xU at e
  split at e
  · cases e;cases r1;cases r2
    exact .inl ⟨_,_,rfl,rfl,q⟩
  · obtain ⟨xs,ex,rfl⟩:=Option.map_eq_some_iff.mp e
    cases r1
    cases r2 with
    | lst h1 h2=>
      rw [fA ex] at h2
      rw [gl h2] at h1
      exact .inr ⟨_,_,rfl, .inl h1,rfl,hs _,by rw [mX];exact q⟩
  · obtain ⟨xs,ex,rfl⟩:=Option.map_eq_some_iff.mp e
    cases r1
    cases r2 with
    | tup h1 h2=>
      rw [fA ex] at h2
      rw [gl h2] at h1
      exact .inr ⟨_,_,rfl, .inr h1,rfl,hs _,by rw [mX];exact q⟩
  · obtain ⟨xs,ex,rfl⟩:=Option.map_eq_some_iff.mp e
    cases r1
    cases r2 with
    | lst h1 h2=>
      rw [iB ex] at h2
      rw [jG h2] at h1
      exact .inr ⟨_,_,rfl, .inl h1,rfl,hi _,by rw [mY];exact q⟩
  · obtain ⟨xs,ex,rfl⟩:=Option.map_eq_some_iff.mp e
    cases r1
    cases r2 with
    | tup h1 h2=>
      rw [iB ex] at h2
      rw [jG h2] at h1
      exact .inr ⟨_,_,rfl, .inr h1,rfl,hi _,by rw [mY];exact q⟩
  · cases e
def yw (neg:Bool):P2:=bS fun d1 d2=>(xU d1 d2).map fun b=> .bool (if neg then !b else b)
theorem qa:OpR X (compareOp .NotIn) (xV X.K true):=OpR.or lh lf
theorem wx (ha:EX X a m1 f) (hb:EX X b m2 g) (hm:behindInMarks .NotIn b=false:=by with_unfolding_all rfl):TX X (.Compare a [.NotIn] [b] pos) (m1||m2) (bp (ae (yw true) m2 f g)):=lA qa (iq (ww true)) ha hb hm
end
def sv:List PyData→Option PyData
  | [.int i]=>some (.int i)
  | [.bool b]=>some (.int (if b then 1 else 0))
  | _=>none
def o7 (x:Str):PyData→Option PyData
  | .list ds=>(gk ds).bind fun ys=>if (ys.map (·.length)).sum+ys.length*x.length≤1000000 then some (.str (Txt.join x ys)) else none
  | .tuple ds=>(gk ds).bind fun ys=>if (ys.map (·.length)).sum+ys.length*x.length≤1000000 then some (.str (Txt.join x ys)) else none
  | _=>none
theorem kX {ys:List Str}:∀{us:List Value},Vals (ys.map V.str) us→PyProof.Rows.StrsAre us ys:=by
  induction ys with
  | nil=>intro us h;cases h;exact .nil
  | cons y ys ih=>
    intro us h
    cases h with
    | cons h r=>
      obtain ⟨t,rfl⟩:=h
      exact .cons y t (ih r)
def xW (K:PySem.W.Frag):V→List V→Hp→VK→Prop:=fun x vs H Q=>∃z p ys,x= .str z∧vs=[.ref p]∧(SqL K H p (ys.map .str)∨SqT K H p (ys.map .str))∧(ys.map (·.length)).sum+ys.length*z.length≤16777216∧Q (.str (Txt.join z ys)) H
theorem uG {X:Cx}:MtR X "str.join" (xW X.K):=by
  intro pins s σ H x vs v us Q I rx rv h
  obtain ⟨z,p,ys,rfl,rfl,hq,hl,q⟩:=h
  obtain ⟨t,rfl⟩:=rx
  obtain ⟨u,rfl,ru⟩:=rv.one
  cases ru
  rcases hq with hq | hq
  · obtain ⟨its,r,pl,_⟩:=I.list hq
    exact PyProof.Rows.join_list pl.isList (by simpa using kX r) hl fun t' k=>⟨.str _,H,I.tok _,⟨_,rfl⟩,q⟩
  · obtain ⟨its,r,pl,_⟩:=I.tuple hq
    exact PyProof.Rows.join_tuple pl (by simpa using kX r) hl fun t' k=>⟨.str _,H,I.tok _,⟨_,rfl⟩,q⟩
section
variable {X:Cx} {e o:Expr} {m1 m2:Bool} {g:j4} {f h:bN} {p pos apos cpos:Pos} {K:PySem.W.Frag}
theorem uH (hg:Gl X "int") (hm:X.mg "int"=none) (ha:AX X [e] m1 g) (he:starEach [e] X.env=[(false,eval e X.env)]:=by rfl):EX X (.Call (.Name "int" p) [e] [] pos) m1 (bn sv g):=
  a7 (eK pJ hg hm PyProof.Rows.boot_int ha (by decide) (by decide) he rfl) fun _ _ _ z=>lG (fun ds d vs H Q e r=>by
    unfold sv at e
    split at e
    · cases e
      obtain ⟨v,rfl,r'⟩:=r.one
      cases r'
      exact ⟨_,rfl,fun q=> .inl ⟨_,rfl,q⟩⟩
    · cases e
      obtain ⟨v,rfl,r'⟩:=r.one
      cases r'
      exact ⟨_,rfl,fun q=> .inr ⟨_,rfl,q⟩⟩
    · cases e) z
def sw (x:Str) (f:bN):bN:=fu (o7 x) f
theorem uI {x:Str} {j:Nat} {sp:Pos} (he:EX X e m1 f) (hs:starEach [e] X.env=[(false,eval e X.env)]:=by rfl) (hbase:attributeBase (.Constant (.str x) j sp) "join" X.env (eval (.Constant (.str x) j sp) X.env)=eval (.Constant (.str x) j sp) X.env:=by rfl)
    (hfew:((backTo cpos (starEach [e] X.env)).all (fun x=> !x.1)&&(backToKw cpos (keywordEach [] X.env)).all (fun x=>x.1.isSome)
      &&decide (([e]:List Expr).length+([]:List Keyword).length+(if ([]:List Keyword).isEmpty then 0 else 1) < 30))=true:=by rfl) (hline:(apos.endLine == cpos.line)=true:=by rfl):
    EX X (.Call (.Attribute (.Constant (.str x) j sp) "join" apos) [e] [] cpos) m1 (sw x f):=by
  refine a7 (oK PySem.F.plainAttrs_str PySem.F.slot_str_join PySem.F.type_str_join uG (qA) (bU he dt hs) hbase hfew hline hs rfl) fun σ H Q z=>?_
  obtain ⟨B,E,xs,Xs,res,E',fr,c,e,q⟩:=z
  obtain ⟨⟨s1,E1⟩,e1,e⟩:=Option.bind_eq_some_iff.mp e
  obtain ⟨d1,e2,e⟩:=Option.bind_eq_some_iff.mp e
  obtain ⟨d,e3,e⟩:=Option.map_eq_some_iff.mp e
  cases e
  refine ⟨rfl,B,E,xs,Xs,s1,E1,fr,c,e1,fun v1 H1 ⟨F,A,fr1⟩=>?_⟩
  have r:=(fr1.look0 e2).1
  obtain ⟨A',fr2⟩:=fr1.pop
  unfold o7 at e3
  split at e3
  · obtain ⟨ys,ey,e3⟩:=Option.bind_eq_some_iff.mp e3
    split at e3
    · rename_i hl
      cases e3
      cases r with
      | lst h1 h2=>
        rw [fA ey] at h2
        rw [gl h2] at h1
        exact ⟨x,_,ys,rfl,rfl, .inl h1,by omega,q _ _ ⟨F,A',fr2.push ⟨rfl,_,rfl, .str _⟩⟩⟩
    · cases e3
  · obtain ⟨ys,ey,e3⟩:=Option.bind_eq_some_iff.mp e3
    split at e3
    · rename_i hl
      cases e3
      cases r with
      | tup h1 h2=>
        rw [fA ey] at h2
        rw [gl h2] at h1
        exact ⟨x,_,ys,rfl,rfl, .inr h1,by omega,q _ _ ⟨F,A',fr2.push ⟨rfl,_,rfl, .str _⟩⟩⟩
    · cases e3
  · cases e3
end
theorem eP {X:Cx} {st:Stmt}:SX X st (fun _=>none):=gY qF fun D σ H z=>by
  obtain ⟨B,E,xs,Xs,E',fl,fr,cl,e,q⟩:=z
  cases e
def g7:bW:=fun _=>none
end PL
namespace PL
open PySem L2 Nh
theorem wy {X:Cx}:SlR X (fun x lo hi H Q=>∃z,x= .str z∧z.length≤sizeLine∧Q (.str (Txt.slice z lo hi)) H):=by
  intro pins s σ H x v vl vu lo hi sl Q I rx hs pl pu h
  obtain ⟨z,rfl,hz,q⟩:=h
  obtain ⟨t,rfl⟩:=rx
  cases pl with
  | none=>
    cases pu with
    | none=>exact ⟨"str",_,PySem.F.slot_str_getitem.lookup,typeIs_str _ _ _,wpAny_getItem_str_slice (l:=none) (u:=none) (st:=none) hs rfl (post_val_or_str ⟨Nat.le_trans (Txt.slice_le z _ _) hz,fun t' k=>⟨.str _,H,I.tok _,⟨_,rfl⟩,q⟩⟩)⟩
    | int j uj=>exact ⟨"str",_,PySem.F.slot_str_getitem.lookup,typeIs_str _ _ _,wpAny_getItem_str_slice (l:=none) (u:=some (j,uj)) (st:=none) hs rfl (post_val_or_str ⟨Nat.le_trans (Txt.slice_le z _ _) hz,fun t' k=>⟨.str _,H,I.tok _,⟨_,rfl⟩,q⟩⟩)⟩
  | int i ui=>
    cases pu with
    | none=>exact ⟨"str",_,PySem.F.slot_str_getitem.lookup,typeIs_str _ _ _,wpAny_getItem_str_slice (l:=some (i,ui)) (u:=none) (st:=none) hs rfl (post_val_or_str ⟨Nat.le_trans (Txt.slice_le z _ _) hz,fun t' k=>⟨.str _,H,I.tok _,⟨_,rfl⟩,q⟩⟩)⟩
    | int j uj=>exact ⟨"str",_,PySem.F.slot_str_getitem.lookup,typeIs_str _ _ _,wpAny_getItem_str_slice (l:=some (i,ui)) (u:=some (j,uj)) (st:=none) hs rfl (post_val_or_str ⟨Nat.le_trans (Txt.slice_le z _ _) hz,fun t' k=>⟨.str _,H,I.tok _,⟨_,rfl⟩,q⟩⟩)⟩
def gM (m2:Bool) (f:bN) (lo hi:wg):bN:=fun E=>(f E).bind fun a=>if m2&&a.1.isBr then none else (lo a.2).bind fun b=>(hi b.2).bind fun c=>match look c.2 a.1 with
  | some (.list ds)=>if !hot c.2 a.1||aU (pX ds b.1 c.1) then some (.ow (pX ds b.1 c.1),c.2) else none
  | some (.str z)=>if z.length≤1000000 then some (.sh (.str (Txt.slice z b.1 c.1)),c.2) else none
  | _=>none
theorem jH {X:Cx} {e:Expr} {lo hi:Option Expr} {m1 m2 m3:Bool} {f:bN} {g h:wg} {pos p2:Pos} (he:EX X e m1 f) (hl:OX X lo m2 g) (hh:OX X hi m3 h):EX X (.Subscript e (.Slice lo hi none p2) pos) (m1||(m2||m3)) (gM (m2||m3) f g h):=by
  refine a7 (qZ (SlR.or ud wy) he hl hh) fun σ H Q z=>?_
  obtain ⟨B,E,xs,Xs,res,E',fr,cl,e,q⟩:=z
  obtain ⟨⟨s,E1⟩,e1,e⟩:=Option.bind_eq_some_iff.mp e
  by_cases hb:((m2||m3)&&s.isBr)=true
  · rw [if_pos hb] at e;cases e
  rw [if_neg hb] at e
  have n1:(m2||m3)=true→s.isBr=false:=fun z=>by
    cases hs:s.isBr with
    | false=>rfl
    | true=>exact absurd (by rw [z,hs];rfl) hb
  obtain ⟨⟨l,E2⟩,e2,e⟩:=Option.bind_eq_some_iff.mp e
  obtain ⟨⟨u,E3⟩,e3,e⟩:=Option.bind_eq_some_iff.mp e
  refine ⟨B,E,xs,Xs,s,E1,fr,fun z=>cl (by simp [z]),e1,fun v1 H1 fr1=>?_⟩
  refine ⟨B,E1,v1::xs,s::Xs,l,E2,fr1,fun z=>Calm.cons (cl (by simp [z])) (n1 (by simp [z])),e2,fun H2 fr2=>?_⟩
  refine ⟨B,E2,v1::xs,s::Xs,u,E3,fr2,fun z=>Calm.cons (cl (by simp [z])) (n1 (by simp [z])),e3,fun H3 ⟨F,A,fr3⟩=>?_⟩
  simp only at e
  split at e
  · rename_i ds ld
    split at e
    · rename_i hc
      cases e
      obtain ⟨v,ev,r,f0⟩:=fr3.look (k:=0) rfl ld
      cases ev
      obtain ⟨A',fr4⟩:=fr3.pop
      cases hh:hot E' s with
      | false=>
        obtain ⟨a,vs,rfl,h1,h2⟩:=f0 hh
        exact .inl ⟨a,vs,rfl,h1,fun p hp=>q _ _ ⟨F,_,fr4.newl (h2.cut l u) hp⟩⟩
      | true=>
        rw [hh] at hc
        cases r with
        | lst h1 h2=>exact .inl ⟨_,_,rfl,h1,fun p hp=>q _ _ ⟨F,_,fr4.newl (fr3.coldA (h2.cut l u) (by simpa using hc)) hp⟩⟩
    · cases e
  · rename_i z ld
    split at e
    · rename_i hc
      cases e
      have r:=(fr3.look0 ld).1
      cases r
      obtain ⟨A',fr4⟩:=fr3.pop
      exact .inr ⟨_,rfl,eM hc,q _ _ ⟨F,A',fr4.push ⟨rfl,_,rfl, .str _⟩⟩⟩
    · cases e
  · cases e
def ja (i:Nat) (f:bN):bN:=fun E=>match E[i]? with
  | some (.ow _)=>(f E).bind fun a=>match a.1,a.2[i]? with
    | .ow es,some (.ow ds)=>if ds.length+es.length≤1000000 then some (.sh .none,a.2.set i (.ow (ds++es))) else none
    | _,_=>none
  | _=>none
section
variable {X:Cx} {e:Expr} {m1:Bool} {f:bN} {x:Str} {p apos cpos:Pos}
theorem qc (i:Nat) (he:EX X e m1 f) (hN:X.N[i]? =some x:=by rfl) (hv:tP X.env.scope x:=by first | exact Or.inl rfl | exact Or.inr (Or.inl rfl) | exact Or.inr (Or.inr rfl)) (hd:(x == ("__debug__":Str))=false:=by decide) (hcd:(x == ("__classdict__":Str))=false:=by decide)
    (hs:starEach [e] X.env=[(false,eval e X.env)]:=by rfl) (hbase:attributeBase (.Name x p) "extend" X.env (eval (.Name x p) X.env)=eval (.Name x p) X.env:=by rfl)
    (hfew:((backTo cpos (starEach [e] X.env)).all (fun x=> !x.1)&&(backToKw cpos (keywordEach [] X.env)).all (fun x=>x.1.isSome)
      &&decide (([e]:List Expr).length+([]:List Keyword).length+(if ([]:List Keyword).isEmpty then 0 else 1) < 30))=true:=by rfl) (hline:(apos.endLine == cpos.line)=true:=by rfl):
    EX X (.Call (.Attribute (.Name x p) "extend" apos) [e] [] cpos) true (ja i f):=by
  refine a7 (oK PySem.F.plainAttrs_list PySem.F.slot_list_extend PySem.F.type_list_extend pQ (gV hN hv hd hcd) (bU he dt hs) hbase hfew hline hs rfl) fun σ H Q z=>?_
  obtain ⟨B,E,xs,Xs,res,E',⟨F,A,fr⟩,cl,e,q⟩:=z
  unfold ja at e
  split at e
  · rename_i ds0 ei
    obtain ⟨⟨s,E1⟩,e1,e⟩:=Option.bind_eq_some_iff.mp e
    simp only at e
    split at e
    · rename_i s1 es ds ei2
      split at e
      · rename_i hc
        cases e
        obtain ⟨o,A1,eo,l,vs,rfl,rfl,hl0,_⟩:=fr.var ei
        refine ⟨_,eo, .inl ⟨rfl,_,SqL.of hl0⟩,B,E,xs,Xs,_,E1,⟨F,A,fr⟩,fun _=>cl rfl,e1,fun v H1 ⟨F1,A1,fr1⟩=>?_⟩
        obtain ⟨v',A3,ev,l2,us,el,rfl,hl2,ru⟩:=fr1.ext (k:=0) rfl
        cases ev;cases el
        obtain ⟨A4,fr3⟩:=fr1.pop
        obtain ⟨l',vs',eo',hl',r',put⟩:=fr3.mut ei2 (cl rfl)
        rw [eo] at eo'
        cases eo'
        have n1:=r'.len
        have n2:=ru.len
        have fr4:=put (vs'++us) (ds++es) (r'.append ru)
        exact ⟨l,l2,vs',us,rfl,rfl,hl',hl2,eM (by omega),q _ _ ⟨_,_,fr4.push ⟨rfl,_,rfl, .non⟩⟩⟩
      · cases e
    · cases e
  · cases e
end
def wz (K:PySem.W.Frag) (c:List PyData→List PyData→Option (Sl×List PyData)):Sp:=fun vs H Q _=>∃l us ds0 bj ds r ds',vs= .ref l::bj∧H l=some (.lst us)∧RpA K (tups H) us ds0∧RpA K H bj ds∧c ds0 ds=some (r,ds')∧
  ∀v H' us',SameBut l H H'→H' l=some (.lst us')→RpA K (tups H') us' ds'→iQ K H H' v r→Q v H'
def dR (i:Nat) (c:List PyData→List PyData→Option (Sl×List PyData)) (g:j4):bN:=fun E=>match E[i]? with
  | some (.ow _)=>(g E).bind fun a=>match a.2[i]? with
    | some (.ow ds0)=>if aU ds0 then (aw a.2 a.1).bind fun ds=>(c ds0 ds).map fun r=>(r.1,a.2.set i (.ow r.2)) else none
    | _=>none
  | _=>none
section
variable {K:PySem.W.Frag} {B F:Hp} {A:List Addr} {σ:hJ} {H H':Hp} {E:List Sl} {xs:List V} {Xs:List Sl}
theorem FrF.mutGrow {i:Nat} {ds ds':List PyData} {l:Addr} {us us':List V} (h:FrF K B F A σ H E xs Xs) (e:E[i]? =some (.ow ds)) (c:Calm Xs) (el:σ[i]? =some (some (.ref l))) (hl:H l=some (.lst us)) (sb:SameBut l H H') (hl':H' l=some (.lst us')) (r:RpA K (tups H') us' ds'):
    ∃F',FrF K B F' A σ H' (E.set i (.ow ds')) xs Xs:=by
  have g:Same H (upd H' l (.lst us)):=fun b o q=>by
    by_cases eb:b=l
    · subst eb;rw [az,←hl];exact q
    · rw [au eb];exact sb b o eb q
  have h1:=h.grow g
  obtain ⟨l1,us1,el1,hl1,r1,put⟩:=h1.mut e c
  rw [el] at el1
  cases el1
  have r2:RpA K _ us' ds':=RpA.same h1.tf (by rw [jt hl'];exact r)
  have h2:=put us' ds' r2
  have eH:upd (upd H' l (.lst us)) l (.lst us')=H':=by
    rw [tM]
    funext b
    by_cases eb:b=l
    · subst eb;rw [az,hl']
    · rw [au eb]
  rw [eH] at h2
  exact ⟨_,h2⟩
end
theorem FrF.toldIO {K:PySem.W.Frag} {B F:Hp} {A:List Addr} {σ:hJ} {H H':Hp} {E:List Sl} {xs:List V} {Xs:List Sl} {v:V} {d:PyData} (h:FrF K B F A σ H' E xs Xs) (q:iQ K H H' v (.sh d)):Frm K B σ H' E (v::xs) (.sh d::Xs):=⟨F,A,h.push ⟨rfl,v,rfl,Rp.same h.tf q⟩⟩
theorem sx {X:Cx} (i:Nat) {k:Nat} {x y:Str} {ps:List Str} {c:List PyData→List PyData→Option (Sl×List PyData)} {p p2 pos:Pos} {es:List Expr} {m:Bool} {g:j4} (D:Own X.prog X.w X.K X.mg X.base k x ps (wz X.K c)) (hc:∀ds0 ds r,c ds0 ds=some r→∃d,r.1= .sh d) (hr:Room k X.A) (hg:Gl X x) (ha:AX X es m g)
    (hN:X.N[i]? =some y:=by rfl) (hv:tP X.env.scope y:=by first | exact Or.inl rfl | exact Or.inr (Or.inl rfl) | exact Or.inr (Or.inr rfl)) (hd:(y == ("__debug__":Str))=false:=by decide) (hcd:(y == ("__classdict__":Str))=false:=by decide)
    (hdb:(x == ("__debug__":Str))=false:=by decide) (he:starEach (.Name y p2::es) X.env=(false,eval (.Name y p2) X.env)::starEach es X.env:=by rfl) (hpl:(backTo pos (starEach es X.env)).any (·.1)=false:=by rfl):
    EX X (.Call (.Name x p) (.Name y p2::es) [] pos) true (dR i c g):=by
  refine a7 (rC D hr hg (bU (gV hN hv hd hcd) ha he) hdb he hpl) fun σ H Q z=>?_
  obtain ⟨B,E,xs,Xs,res,E',⟨F,A,fr⟩,cl,e,q⟩:=z
  unfold dR at e
  split at e
  · rename_i ds0 ei
    obtain ⟨⟨rs,E1⟩,e1,e⟩:=Option.bind_eq_some_iff.mp e
    simp only at e
    split at e
    · rename_i ds1 ei1
      split at e
      · rename_i hf
        obtain ⟨ds,e2,e⟩:=Option.bind_eq_some_iff.mp e
        obtain ⟨⟨r,ds'⟩,e3,e⟩:=Option.map_eq_some_iff.mp e
        obtain ⟨d,ed⟩:=hc _ _ _ e3
        simp only at ed
        subst ed
        cases e
        obtain ⟨o,A1,eo,l,vs,rfl,rfl,hl0,_⟩:=fr.var ei
        refine ⟨_,eo,B,E,xs,Xs,rs,E1,⟨F,A,fr⟩,fun _=>cl rfl,e1,fun us H1 hl ⟨F1,A1,fr1⟩=>?_⟩
        obtain ⟨r1,A',fr2⟩:=fr1.looks hl e2
        obtain ⟨l',vs',eo',hl',r',_⟩:=fr2.mut ei1 (cl rfl)
        rw [eo] at eo'
        cases eo'
        refine ⟨l,vs',ds1,us,ds, .sh d,ds',by rw [List.append_nil],hl',(r'.same fr2.fh).cold hf,r1,e3,fun v H' us' sb h1 h2 h3=>?_⟩
        obtain ⟨F',fr3⟩:=fr2.mutGrow ei1 (cl rfl) eo hl' sb h1 h2
        exact q _ _ (fr3.toldIO h3)
      · cases e
    · cases e
  · cases e
structure Bn (mg:Str→Option Value):Prop where
  len:mg "len"=none
  range:mg "range"=none
  abs:mg "abs"=none
  min:mg "min"=none
  max:mg "max"=none
  reversed:mg "reversed"=none
  enumerate:mg "enumerate"=none
  isinstance:mg "isinstance"=none
  list:mg "list"=none
  tuple:mg "tuple"=none
  str:mg "str"=none
  int:mg "int"=none
  bool:mg "bool"=none
  sorted:mg "sorted"=none
  zip:mg "zip"=none
  sum:mg "sum"=none
  any:mg "any"=none
  all:mg "all"=none
  set:mg "set"=none
  dict:mg "dict"=none
theorem xX {K:PySem.W.Frag} {h:Heap} {mg:Str→Option Value} (X:K.In h) (G:h.Ns mainGlobals mg)
    (z1:PySem.W.nsIn K mainGlobals "len"=some none) (z2:PySem.W.nsIn K mainGlobals "range"=some none) (z3:PySem.W.nsIn K mainGlobals "abs"=some none) (z4:PySem.W.nsIn K mainGlobals "min"=some none) (z5:PySem.W.nsIn K mainGlobals "max"=some none) (z6:PySem.W.nsIn K mainGlobals "reversed"=some none) (z7:PySem.W.nsIn K mainGlobals "enumerate"=some none) (z8:PySem.W.nsIn K mainGlobals "isinstance"=some none) (z9:PySem.W.nsIn K mainGlobals "list"=some none) (z10:PySem.W.nsIn K mainGlobals "tuple"=some none) (z11:PySem.W.nsIn K mainGlobals "str"=some none) (z12:PySem.W.nsIn K mainGlobals "int"=some none) (z13:PySem.W.nsIn K mainGlobals "bool"=some none) (z14:PySem.W.nsIn K mainGlobals "sorted"=some none) (z15:PySem.W.nsIn K mainGlobals "zip"=some none) (z16:PySem.W.nsIn K mainGlobals "sum"=some none) (z17:PySem.W.nsIn K mainGlobals "any"=some none) (z18:PySem.W.nsIn K mainGlobals "all"=some none) (z19:PySem.W.nsIn K mainGlobals "set"=some none) (z20:PySem.W.nsIn K mainGlobals "dict"=some none):Bn mg:=
  ⟨PySem.W.mg_none_of X G z1,PySem.W.mg_none_of X G z2,PySem.W.mg_none_of X G z3,PySem.W.mg_none_of X G z4,PySem.W.mg_none_of X G z5,PySem.W.mg_none_of X G z6,PySem.W.mg_none_of X G z7,PySem.W.mg_none_of X G z8,PySem.W.mg_none_of X G z9,PySem.W.mg_none_of X G z10,PySem.W.mg_none_of X G z11,PySem.W.mg_none_of X G z12,PySem.W.mg_none_of X G z13,PySem.W.mg_none_of X G z14,PySem.W.mg_none_of X G z15,PySem.W.mg_none_of X G z16,PySem.W.mg_none_of X G z17,PySem.W.mg_none_of X G z18,PySem.W.mg_none_of X G z19,PySem.W.mg_none_of X G z20⟩
end PL
namespace PL
open PySem L2 Nh
abbrev zR:=List Sl→Option (List Sl×Bool)
end PL
namespace PL
open PySem L2 Nh
def n5:Pt→Sl
  | .fl d=> .sh d
  | .ol ds=> .ow ds
section
variable {K:PySem.W.Frag} {F H:Hp}
theorem PtsOk.append:∀{us:List V} {ts:List Pt} {A:List Addr} {us':List V} {ts':List Pt} {A':List Addr},PtsOk K F H us ts A→PtsOk K F H us' ts' A'→PtsOk K F H (us++us') (ts++ts') (A++A')
  | [],[],A,_,_,_,h,h'=>by rw [show A=[] from h];exact h'
  | v::vs, .fl d::ps,A,_,_,_,h,h'=>⟨h.1,PtsOk.append h.2 h'⟩
  | v::vs, .ol ds::ps,A,_,_,_,h,h'=>by
    obtain ⟨l,us,A1,rfl,rfl,hl,hr,q⟩:=h
    exact ⟨l,us,_,rfl,rfl,hl,hr,q.append h'⟩
  | [],_::_,_,_,_,_,h,_=>False.elim h
  | _::_,[],_,_,_,_,h,_=>False.elim h
theorem PtsOk.rev:∀{us:List V} {ts:List Pt} {A:List Addr},PtsOk K F H us ts A→PtsOk K F H us.reverse ts.reverse A.reverse
  | [],[],A,h=>by rw [show A=[] from h];exact rfl
  | v::vs, .fl d::ps,A,h=>by
    rw [List.reverse_cons,List.reverse_cons,←List.append_nil A.reverse]
    exact (PtsOk.rev h.2).append (us':=[v]) (ts':=[.fl d]) (A':=[]) ⟨h.1,rfl⟩
  | v::vs, .ol ds::ps,A,h=>by
    obtain ⟨l,us,A1,rfl,rfl,hl,hr,q⟩:=h
    rw [List.reverse_cons,List.reverse_cons,List.reverse_cons]
    exact q.rev.append (us':=[.ref l]) (ts':=[.ol ds]) (A':=[l]) ⟨l,us,[],rfl,rfl,hl,hr,rfl⟩
  | [],_::_,_,h=>False.elim h
  | _::_,[],_,h=>False.elim h
theorem PtsOk.len:∀{us:List V} {ts:List Pt} {A:List Addr},PtsOk K F H us ts A→us.length=ts.length
  | [],[],A,_=>rfl
  | v::vs, .fl d::ps,A,h=>congrArg (· +1) h.2.len
  | v::vs, .ol ds::ps,A,h=>by
    obtain ⟨l,us,A1,rfl,rfl,hl,hr,q⟩:=h
    exact congrArg (· +1) q.len
  | [],_::_,_,h=>False.elim h
  | _::_,[],_,h=>False.elim h
end
section
variable {K:PySem.W.Frag} {B F:Hp} {A:List Addr} {σ:hJ} {H:Hp} {E:List Sl} {xs:List V} {Xs:List Sl}
theorem sy:∀{us:List V} {ts:List Pt} {os:List (Option V)} {ss:List Sl} {A:List Addr},us.length=ts.length→SAll (SlOk K F H σ) (us.map some++os) (ts.map n5++ss) A→∃A1 A2,A=A1++A2∧PtsOk K F H us ts A1∧SAll (SlOk K F H σ) os ss A2
  | [],[],os,ss,A,_,h=>⟨[],A,rfl,rfl,h⟩
  | u::us,t::ts,os,ss,A,hl,h=>by
    have h':SAll (SlOk K F H σ) (some u::(us.map some++os)) (n5 t::(ts.map n5++ss)) A:=h
    cases h' with
    | cons q r=>
      obtain ⟨A1,A2,rfl,hp,hs⟩:=sy (by simpa using hl) r
      cases t with
      | fl d=>
        obtain ⟨rfl,w,ew,rw'⟩:=q
        cases ew
        exact ⟨A1,A2,rfl,⟨rw',hp⟩,hs⟩
      | ol ds=>
        obtain ⟨l,vs,el,rfl,hl',r'⟩:=q
        cases el
        exact ⟨l::A1,A2,rfl,⟨l,vs,A1,rfl,rfl,hl',r',hp⟩,hs⟩
  | [],_::_,_,_,_,e,_=>by cases e
  | _::_,[],_,_,_,e,_=>by cases e
theorem FrF.newx {p:Addr} {vs:List V} {ps:List Pt} (hl:vs.length=ps.length) (h:FrF K B F A σ H E (vs.reverse++xs) (ps.reverse.map n5++Xs)) (hp:H p=none):Frm K B σ (upd H p (.tup vs)) E (.ref p::xs) (.tx ps::Xs):=by
  have nA:=h.newA hp
  have sl:=h.sl
  rw [List.map_append,List.append_assoc,List.append_assoc] at sl
  obtain ⟨A1,A2,rfl,hpt,hs⟩:=sy (by simpa using hl) sl
  have g:Same H (upd H p (.tup vs)):=ft hp _
  have gF:Same F (upd F p (.tup vs)):=ft (h.fh.free hp) _
  have hr:=hpt.rev
  rw [List.reverse_reverse,List.reverse_reverse] at hr
  have n1:∀b∈A1,b≠p:=fun b hb z=>nA (by rw [←z];exact List.mem_append_left _ hb)
  have n2:∀b∈A2,b≠p:=fun b hb z=>nA (by rw [←z];exact List.mem_append_right _ hb)
  refine ⟨upd F p (.tup vs),A1.reverse++A2,h.bf.trans gF,fun b o e=>?_,fun b o e=>?_, .cons ⟨p,vs,rfl,az,hr.stay gF fun b hb=>au (n1 b (List.mem_reverse.mp hb))⟩ (hs.mono fun o s C _ hC q=>q.stay gF (fun b hb=>au (n2 b (hC b hb))) fun _=>g),?_,fun a ha=>?_,?_,h.pl⟩
  · by_cases hb:b=p
    · subst hb;rw [az] at e ⊢;exact e
    · rw [au hb] at e ⊢;exact h.fh _ _ e
  · obtain ⟨e1,e2⟩:=Option.filter_eq_some_iff.mp e
    by_cases hb:b=p
    · subst hb;rw [az] at e1 ⊢;exact e1
    · rw [au hb] at e1 ⊢;exact h.tf b o (dP e1 e2)
  · exact (List.Perm.append_right _ (List.reverse_perm A1)).nodup_iff.mpr h.nd
  · have ne:a≠p:=(List.mem_append.mp ha).elim (fun z=>n1 a (List.mem_reverse.mp z)) (n2 a)
    rw [au ne]
    exact h.fr a ((List.mem_append.mp ha).elim (fun z=>List.mem_append_left _ (List.mem_reverse.mp z)) (fun z=>List.mem_append_right _ z))
  · have:=h.len
    simp only [List.length_append,List.length_reverse,List.length_map] at this
    simp only [List.length_cons]
    omega
end
def takeP (E:List Sl):Sl→Option (Pt×List Sl)
  | .sh d=>some (.fl d,E)
  | .ow ds=>some (.ol ds,E)
  | .br d=>if a8 d then some (.fl d,E) else none
  | .al i=>match E[i]? with
    | some (.ow ds)=>some (.ol ds,E.set i .no)
    | some (.sh d)=>some (.fl d,E)
    | _=>none
  | _=>none
abbrev wA:=List Sl→Option (List Pt×List Sl)
def zJ (K:PySem.W.Frag) (m:Bool) (f:wA):TA:=fun σ H Q=>∃B E xs Xs ps E',Frm K B σ H E xs Xs∧(m=true→Calm Xs)∧f E=some (ps,E')∧∀vs H',vs.length=ps.length→Frm K B σ H' E' (vs.reverse++xs) (ps.reverse.map n5++Xs)→Q vs H'
def MX (X:Cx) (es:List Expr) (m:Bool) (f:wA):Prop:=PA X es (zJ X.K m f)
def mZ:wA:=fun E=>some ([],E)
def gm (f:bN) (g:wA):wA:=fun E=>(f E).bind fun a=>(takeP a.2 a.1).bind fun b=>(g b.2).map fun c=>(b.1::c.1,c.2)
def iS (f:wA):bN:=fun E=>(f E).bind fun a=>if a.1.length≤1000000 then some (.tx a.1,a.2) else none
section
variable {X:Cx} {e:Expr} {es:List Expr} {m1 m2:Bool} {f:bN} {g:wA} {pos:Pos} {K:PySem.W.Frag}
theorem FrF.takeP {B F:Hp} {A:List Addr} {σ:hJ} {H:Hp} {E E':List Sl} {xs:List V} {Xs:List Sl} {v:V} {s:Sl} {p:Pt} (h:FrF K B F A σ H E (v::xs) (s::Xs)) (q:PL.takeP E s=some (p,E')):Frm K B σ H E' (v::xs) (n5 p::Xs):=by
  cases s with
  | sh d=>cases q;exact ⟨F,A,h⟩
  | ow ds=>cases q;exact ⟨F,A,h⟩
  | br d=>
    simp only [PL.takeP] at q
    split at q
    · rename_i hf
      cases q
      have r:=(h.look0 (d:=d) rfl).1
      obtain ⟨A',h'⟩:=h.pop
      exact ⟨F,A',h'.push ⟨rfl,v,rfl,h.cold r hf⟩⟩
    · cases q
  | al i=>
    simp only [PL.takeP] at q
    split at q
    · rename_i ds ei
      cases q
      exact h.move ei
    · rename_i d ei
      cases q
      obtain ⟨v',A1,ev,rfl,w,ew,hw⟩:=h.ext (k:=0) rfl
      cases ev;cases ew
      obtain ⟨o,A2,eo,rfl,w,ew,r⟩:=h.var ei
      rw [hw] at eo
      cases eo
      cases ew
      obtain ⟨A',h'⟩:=h.pop
      exact ⟨F,A',h'.push ⟨rfl,_,rfl,r⟩⟩
    · cases q
  | no=>cases q
  | od kvs=>cases q
  | oi kvs=>cases q
  | tx ps=>cases q
theorem n6:MX X [] false mZ:=by
  refine ip dt fun σ H Q z=>?_
  obtain ⟨B,E,xs,Xs,res,E',fr,cl,e,q⟩:=z
  cases e
  exact q [] H rfl fr
theorem gE (ha:EX X e m1 f) (hr:MX X es m2 g) (hs:starEach (e::es) X.env=(false,eval e X.env)::starEach es X.env:=by rfl):MX X (e::es) (m1||m2) (gm f g):=by
  refine ip (bU ha hr hs) fun σ H Q z=>?_
  obtain ⟨B,E,xs,Xs,res,E',fr,cl,e,q⟩:=z
  obtain ⟨⟨s,E1⟩,e1,e⟩:=Option.bind_eq_some_iff.mp e
  obtain ⟨⟨p,E2⟩,e2,e⟩:=Option.bind_eq_some_iff.mp e
  obtain ⟨⟨rs,E3⟩,e3,e⟩:=Option.map_eq_some_iff.mp e
  cases e
  refine ⟨B,E,xs,Xs,s,E1,fr,fun z=>cl (by simp [z]),e1,fun v1 H1 ⟨F,A,fr1⟩=>?_⟩
  refine ⟨B,E2,v1::xs,n5 p::Xs,rs,E3,fr1.takeP e2,fun z=>Calm.cons (cl (by simp [z])) (by cases p <;> rfl),e3,fun vs H2 hl fr2=>?_⟩
  exact q (v1::vs) H2 (by simp [hl]) (by simpa using fr2)
theorem lL {x1} (h:MX X es m1 g):EX X (.Tuple es x1 pos) m1 (iS g):=by
  refine a7 (qX h) fun σ H Q z=>?_
  obtain ⟨B,E,xs,Xs,res,E',fr,cl,e,q⟩:=z
  obtain ⟨⟨ps,E1⟩,e1,e⟩:=Option.bind_eq_some_iff.mp e
  simp only at e
  split at e
  · rename_i hl
    cases e
    refine ⟨B,E,xs,Xs,ps,_,fr,cl,e1,fun vs H1 hv ⟨F,A,fr1⟩=>?_⟩
    exact ⟨eM (by omega),fun p hp=>q _ _ (fr1.newx hv hp)⟩
  · cases e
end
def sC:Pt→Bool
  | .fl _=>true
  | _=>false
def iT (f:bN):bN:=fun E=>(f E).bind fun a=>match a.1 with
  | .tx ps=>if ps.all sC then some (.sh (.tuple (ps.map Pt.val)),a.2) else some a
  | _=>some a
theorem lM {X:Cx} {e:Expr} {m:Bool} {f:bN} (h:EX X e m f):EX X e m (iT f):=by
  refine a7 h fun σ H Q z=>?_
  obtain ⟨B,E,xs,Xs,res,E',fr,cl,e,q⟩:=z
  obtain ⟨⟨s,E1⟩,e1,e⟩:=Option.bind_eq_some_iff.mp e
  refine ⟨B,E,xs,Xs,s,E1,fr,cl,e1,fun v H1 fr1=>?_⟩
  simp only at e
  split at e
  · split at e
    · cases e
      obtain ⟨F,A,fr1⟩:=fr1
      obtain ⟨F2,A2,fr2⟩:=fr1.frz0 (d:= .tuple _) rfl
      exact q _ _ ⟨F2,A2,fr2⟩
    · cases e
      exact q _ _ fr1
  · cases e
    exact q _ _ fr1
end PL
namespace PL
open PySem PySem.Spec L2 Nh PyProof.Rows
def zK (i:Int):Prop:= -1000000≤i∧i≤1000000
instance (i:Int):Decidable (zK i):=inferInstanceAs (Decidable (_∧_))
theorem fits {i:Int} (h: -10000000≤i∧i≤10000000):Builtin.Range.rangeFitsLong i=true:=by
  unfold Builtin.Range.rangeFitsLong
  simp only [Bool.and_eq_true,decide_eq_true_eq]
  omega
end PL
namespace PL
open PySem L2 Nh
section
variable {K:PySem.W.Frag} {B F:Hp} {A:List Addr} {σ:hJ} {H H':Hp} {E:List Sl}
theorem DlOk.len:∀{us:List (cX×V)} {kvs:List (cX×List PyData)} {A:List Addr},DlOk K F H us kvs A→us.length=kvs.length
  | [],[],A,h=>rfl
  | p::us,q::kvs,A,h=>by
    obtain ⟨l,vs,A',rfl,rfl,hl,hr,k⟩:=h
    simp [k.len]
  | [],_::_,_,h=>False.elim h
  | _::_,[],_,h=>False.elim h
end
end PL
namespace PL
open PySem PySem.SeqAt
open AutoSeq1 (wpAny_loadPart')
open MeetsSeq MeetsSeq2 MeetsSeq3 SeqRoads2
def RcLtAt (A:Around) (s:Shared) (y x:Value) (b:Bool):Prop:=
  ∀(prog:Program) (w:World) (E:Value→Shared→Prop) (Q:Value→Shared→Prop),Q (.bool b) s→wpAny (model prog w) A (richCompare .Lt y x) Q E s
def iC (e r:Nat→Bool) (fin:Bool):List Nat→Bool
  | []=>fin
  | j::js=>if e j then iC e r fin js else r j
theorem qd (l b:Addr) (items items2:Array Value) (n n2:Nat) (dd dd2:Option Addr) (sl sl2:Array (Option Value)) (e r:Nat→Bool) (k:Nat):
    ∀i:Nat,min items.size items2.size - i=k→Meets (Builtin.«list.__eq__.loop» ⟨[.ref l, .ref b,rawInt i,rawInt 0],[]⟩)
      (fun A R s=>s.heap.get? l=some {cls:= .type "list",dict:=dd,data:= .seq items n,slots:=sl}∧s.heap.get? b=some {cls:= .type "list",dict:=dd2,data:= .seq items2 n2,slots:=sl2}∧
        (∀j (h1:j < items.size) (h2:j < items2.size),EqAt A.in1 s items[j] items2[j] (e j))∧(∀j (h1:j < items.size) (h2:j < items2.size),e j=false→RcLtAt A.in1 s items[j] items2[j] (r j))∧
        R (.ok (.ret (.bool (iC e r (decide (items.size < items2.size)) ((List.range (min items.size items2.size)).drop i))))) s):=by
  induction k with
  | zero=>
    intro i hk prog w A R s h
    obtain ⟨hp,g,d,tk,os⟩:=s;obtain ⟨hl,hb,he,hr,h⟩:=h
    wp_walk using wpAny_loadPart' hl,wpAny_loadPart' hb
    have hd:(List.range (min items.size items2.size)).drop i=[]:=by simp;omega
    rw [hd] at h
    have hi:items[((i:Nat):Int).toNat]? =none∨items2[((i:Nat):Int).toNat]? =none:=by
      simp
      omega
    have fin:R (.ok (.ret (.bool (decide (items.size < items2.size))))) ⟨hp,g,d,tk,os⟩:=h
    rcases h1:items[((i:Nat):Int).toNat]? with _ | x1
    · wp_walk using wpAny_loadPart' hl,wpAny_loadPart' hb
      exact fin
    · rcases h2:items2[((i:Nat):Int).toNat]? with _ | x2
      · wp_walk using wpAny_loadPart' hl,wpAny_loadPart' hb
        exact fin
      · rw [h1,h2] at hi
        rcases hi with hi | hi <;> cases hi
  | succ k ih=>
    intro i hk prog w A R s h
    obtain ⟨hp,g,d,tk,os⟩:=s;obtain ⟨hl,hb,he,hr,h⟩:=h
    wp_walk using wpAny_loadPart' hl,wpAny_loadPart' hb
    have hm:i < min items.size items2.size:=by omega
    have hlt:i < items.size:=by omega
    have hlt2:i < items2.size:=by omega
    have hi1:items[((i:Nat):Int).toNat]? =some items[i]:=by simp [hlt]
    have hi2:items2[((i:Nat):Int).toNat]? =some items2[i]:=by simp [hlt2]
    have hd:(List.range (min items.size items2.size)).drop i=i::(List.range (min items.size items2.size)).drop (i+1):=by simp [List.drop_eq_getElem_cons,hm]
    have hc:((i:Int)+1)=((i+1:Nat):Int):=by push_cast;rfl
    rw [hd,iC] at h
    rw [hi1,hi2]
    refine wpAny_bind (he i hlt hlt2 prog w _ _ ?_)
    cases hb':e i with
    | true=>
      rw [hb',if_pos rfl] at h
      wp_walk
      rw [hc]
      exact ⟨plainId_quiet plain_eq_loop _,codeAny_builtin entry_eq_loop (by
        rw [Around.under_plainId plain_eq_loop _]
        exact ih (i+1) (by omega) prog w A R _ ⟨hl,hb,he,hr,h⟩)⟩
    | false=>
      rw [hb',if_neg (by decide)] at h
      wp_walk using wpAny_loadPart' hl,wpAny_loadPart' hb
      rw [hi1,hi2]
      refine wpAny_bind (hr i hlt hlt2 hb' prog w _ _ ?_)
      wp_walk
      exact h
theorem qe (l b:Addr) (items items2:Array Value) (n n2:Nat) (dd dd2:Option Addr) (sl sl2:Array (Option Value)) (e r:Nat→Bool):
    Meets (Builtin.«list.__lt__» ⟨[.ref l, .ref b],[]⟩)
      (fun A R s=>s.heap.get? l=some {cls:= .type "list",dict:=dd,data:= .seq items n,slots:=sl}∧s.heap.get? b=some {cls:= .type "list",dict:=dd2,data:= .seq items2 n2,slots:=sl2}∧
        (∀j (h1:j < items.size) (h2:j < items2.size),EqAt A.in1 s items[j] items2[j] (e j))∧(∀j (h1:j < items.size) (h2:j < items2.size),e j=false→RcLtAt A.in1 s items[j] items2[j] (r j))∧
        R (.ok (.ret (.bool (iC e r (decide (items.size < items2.size)) (List.range (min items.size items2.size)))))) s):=by
  intro prog w A R s h
  obtain ⟨hp,g,d,tk,os⟩:=s;obtain ⟨hl,hb,he,hr,h⟩:=h
  have f3:=AutoSeq1.sub_list_list
  wp_walk using wpAny_loadPart' hl,wpAny_loadPart' hb
  exact ⟨plainId_quiet plain_eq_loop _,codeAny_builtin entry_eq_loop (by
    rw [Around.under_plainId plain_eq_loop _]
    exact qd l b items items2 n n2 dd dd2 sl sl2 e r _ 0 rfl prog w A R _ ⟨hl,hb,he,hr,by simpa using h⟩)⟩
theorem n8 (l b:Addr) (items items2:Array Value) (n n2:Nat) (dd dd2:Option Addr) (sl sl2:Array (Option Value)) (e r:Nat→Bool):
    Meets (Builtin.«tuple.__lt__» ⟨[.ref l, .ref b],[]⟩)
      (fun A R s=>s.heap.get? l=some {cls:= .type "tuple",dict:=dd,data:= .seq items n,slots:=sl}∧s.heap.get? b=some {cls:= .type "tuple",dict:=dd2,data:= .seq items2 n2,slots:=sl2}∧
        (∀j (h1:j < items.size) (h2:j < items2.size),EqAt A.in1 s items[j] items2[j] (e j))∧(∀j (h1:j < items.size) (h2:j < items2.size),e j=false→RcLtAt A.in1 s items[j] items2[j] (r j))∧
        R (.ok (.ret (.bool (iC e r (decide (items.size < items2.size)) (List.range (min items.size items2.size)))))) s):=
  .of_wp fun prog w A R s h=>by
    obtain ⟨hp,g,d,tk,os⟩:=s;obtain ⟨hl,hb,he,hr,h⟩:=h
    have f2:=AutoSeq1.sub_tuple_tuple
    have hZ:(items.toList.zip items2.toList).length=min items.size items2.size:=by simp
    wp_walk using wpAny_loadPart' hl,wpAny_loadPart' hb,wpAny_forIn_list _ (fun bj b s'=>b.1=none∧s'=⟨hp,g,d,tk,os⟩∧∃i,bj=(items.toList.zip items2.toList).drop i∧
      R (.ok (.ret (.bool (iC e r (decide (items.size < items2.size)) ((List.range (min items.size items2.size)).drop i))))) ⟨hp,g,d,tk,os⟩) _
    case turn=>
      rintro ⟨y,x⟩ bj b s' ⟨hb',rfl,i,hz,hR⟩
      have hlt:i < (items.toList.zip items2.toList).length:=by
        rcases Nat.lt_or_ge i (items.toList.zip items2.toList).length with h' | h'
        · exact h'
        · rw [List.drop_of_length_le h'] at hz;cases hz
      have hm:i < min items.size items2.size:=hZ▸hlt
      have h1:i < items.size:=Nat.lt_of_lt_of_le hm (Nat.min_le_left _ _)
      have h2:i < items2.size:=Nat.lt_of_lt_of_le hm (Nat.min_le_right _ _)
      rw [List.drop_eq_getElem_cons hlt] at hz
      injection hz with hyx hrest
      have hy:y=items[i]:=by have:=congrArg Prod.fst hyx;simpa using this
      have hx:x=items2[i]:=by have:=congrArg Prod.snd hyx;simpa using this
      subst hy hx
      have hd:(List.range (min items.size items2.size)).drop i=i::(List.range (min items.size items2.size)).drop (i+1):=by simp [List.drop_eq_getElem_cons,hm]
      rw [hd,iC] at hR
      refine wpAny_bind (he i h1 h2 prog w _ _ ?_)
      cases hy:e i with
      | true=>
        rw [hy,if_pos rfl] at hR
        wp_walk
        exact ⟨rfl,rfl,i+1,hrest,hR⟩
      | false=>
        rw [hy,if_neg (by decide)] at hR
        rw [show (!false)=true from rfl,if_pos rfl]
        refine wpAny_bind (wpAny_rule (wpAny_bind (hr i h1 h2 hy prog w _ _ ?_)))
        wp_walk
        exact ⟨_,rfl,hR⟩
    case fin=>
      rintro ⟨b1,b2⟩ s' ⟨hb',rfl,i,hz,hR⟩
      simp only at hb'
      subst hb'
      have hge:min items.size items2.size≤i:=by
        rcases Nat.lt_or_ge i (items.toList.zip items2.toList).length with h' | h'
        · rw [List.drop_eq_getElem_cons h'] at hz;cases hz
        · exact hZ▸h'
      rw [List.drop_of_length_le (by simpa using hge)] at hR
      wp_walk
      exact ⟨_,rfl,hR⟩
    case h=>
      exact ⟨rfl,rfl,0,rfl,by simpa using h⟩
section
variable {A:Around} {s:Shared}
theorem RcLtAt.lists {l b:Addr} {items items2:Array Value} {e r:Nat→Bool} (hl:s.heap.IsList l items) (hb:s.heap.IsList b items2) (hu:A.units < cLine)
    (he:∀j (h1:j < items.size) (h2:j < items2.size),EqAt A.in1 s items[j] items2[j] (e j)) (hr:∀j (h1:j < items.size) (h2:j < items2.size),e j=false→RcLtAt A.in1 s items[j] items2[j] (r j)):RcLtAt A s (.ref l) (.ref b) (iC e r (decide (items.size < items2.size)) (List.range (min items.size items2.size))):=fun prog w E Q h=>by
  obtain ⟨⟨cls,dd,data,sl⟩,ho,hc,n,hd⟩:=id hl
  obtain ⟨⟨cls2,dd2,data2,sl2⟩,ho2,hc2,n2,mr⟩:=id hb
  simp only at hc hd hc2 mr
  subst hc hd hc2 mr
  exact richCompare_meets_room (op:= .Lt) ⟨_,ho,rfl⟩ ⟨_,ho2,rfl⟩ F.slot_list_lt F.entry_list_lt (F.args_list_lt_2 _ _) (qe l b items items2 n n2 dd dd2 sl sl2 e r)
    ⟨ho,ho2,he,hr,show Value.bool _≠Value.notImplemented∧Q (.bool _) s from ⟨(fun x=>nomatch x),h⟩⟩ hu
theorem RcLtAt.tuples {l b:Addr} {items items2:Array Value} {e r:Nat→Bool} (hl:s.heap.IsTuple l items) (hb:s.heap.IsTuple b items2) (hu:A.units < cLine)
    (he:∀j (h1:j < items.size) (h2:j < items2.size),EqAt A.in1 s items[j] items2[j] (e j)) (hr:∀j (h1:j < items.size) (h2:j < items2.size),e j=false→RcLtAt A.in1 s items[j] items2[j] (r j)):RcLtAt A s (.ref l) (.ref b) (iC e r (decide (items.size < items2.size)) (List.range (min items.size items2.size))):=fun prog w E Q h=>by
  obtain ⟨⟨cls,dd,data,sl⟩,ho,hc,n,hd⟩:=id hl
  obtain ⟨⟨cls2,dd2,data2,sl2⟩,ho2,hc2,n2,mr⟩:=id hb
  simp only at hc hd hc2 mr
  subst hc hd hc2 mr
  exact richCompare_meets_room (op:= .Lt) ⟨_,ho,rfl⟩ ⟨_,ho2,rfl⟩ F.slot_tuple_lt F.entry_tuple_lt (F.args_tuple_lt_2 _ _) (n8 l b items items2 n n2 dd dd2 sl sl2 e r)
    ⟨ho,ho2,he,hr,show Value.bool _≠Value.notImplemented∧Q (.bool _) s from ⟨(fun x=>nomatch x),h⟩⟩ hu
theorem RcLtAt.ints (i j:Int) (t u:Tok):RcLtAt A s (.int i t) (.int j u) (decide (i < j)):=fun prog w E Q h=>PyProof.Rows.lt_int h
end
end PL
namespace PL
open PySem PySem.SeqAt L2 Nh
abbrev wW:=PyData→PyData→Option Bool
def zx:wW
  | .int i, .int j=>some (decide (i < j))
  | .str a, .str b=>some (decide (a.cps.toList < b.cps.toList))
  | _,_=>none
def uJ (lt:wW):List PyData→List PyData→Option Bool
  | [],ys=>some (!ys.isEmpty)
  | _::_,[]=>some false
  | x::xs,y::ys=>if PyData.eqv x y then uJ lt xs ys else (lt x y).bind fun b=>(uJ lt xs ys).map fun _=>b
def zy (lt:wW):wW
  | .list xs, .list ys=>uJ lt xs ys
  | .tuple xs, .tuple ys=>uJ lt xs ys
  | d,e=>zx d e
def rF (lt:wW) (xs ys:List PyData) (j:Nat):Bool:=match xs[j]?,ys[j]? with
  | some x,some y=>(lt x y).getD false
  | _,_=>false
def yr:wW:=zy (zy zx)
end PL
namespace PL
open PySem L2 Nh
section
variable {X:Cx} {e:Expr} {es:List Expr} {m1:Bool} {g:j4} {p pos:Pos}
def wB (K:PySem.W.Frag):List V→Hp→VK→Prop:=fun xs H Q=>∃(p:Addr) (ns:List Int),xs=[.ref p]∧SqL K H p (ns.map V.int)∧Q (.int ns.sum) H
theorem fo:∀{ns:List Int} {us:List Value},Vals (ns.map V.int) us→us.length=ns.length∧∀(i:Nat) (v:Value),us[i]? =some v→∃t,v=Value.int (ns.getD i 0) t
  | [],_, .nil=>⟨rfl,fun i v h=>by simp at h⟩
  | n::ns,_, .cons h t=>by
    obtain ⟨tk,rfl⟩:=h
    obtain ⟨h1,h2⟩:=fo t
    refine ⟨by simp [h1],fun i v h=>?_⟩
    cases i with
    | zero=>simp at h;subst h;exact ⟨tk,rfl⟩
    | succ i=>simpa using h2 i v (by simpa using h)
theorem iU (ns:List Int):∀k,k≤ns.length→preSum (fun i=>ns.getD i 0) k=(ns.take k).sum
  | 0,_=>by simp [preSum]
  | k+1,h=>by
    have hk:k < ns.length:=by omega
    rw [preSum,iU ns k (by omega),List.take_add_one,List.getElem?_eq_getElem hk,List.sum_append]
    simp [List.getD_eq_getElem?_getD,hk]
theorem qf (hc:X.calm=true):CallR X (.builtin "sum") (wB X.K):=by
  intro pins s σ H xs us Q I r h
  obtain ⟨a,ns,rfl,hq,q⟩:=h
  cases r with
  | cons r rr=>
    cases rr
    cases r
    obtain ⟨its,rv,pl,hz⟩:=I.list hq
    obtain ⟨hl,hv⟩:=fo rv
    obtain ⟨o,n,eo,_⟩:=id pl
    have hlt:a < s.heap.objs.size:=Heap.lt_size eo
    refine call_sum_walkG (wpAny_pyIter_list pl.isList ?_)
    refine ⟨s.heap.objs.size,_,_,_,_,_,fun i=>ns.getD i 0,rfl,Walks.list (A:=X.A.in1) (I.ok.hd hc) s.heap.objs.size a (Nat.ne_of_lt hlt) its.toArray,?_,?_,?_,?_⟩
    · exact ⟨⟨_,Heap.get?_push_size _ rfl,rfl,rfl⟩,pl.isList.at fun o e=>Heap.get?_push_of_some _ e⟩
    · intro b hb
      have hsz:∀o,(s.heap.push o).objs.size=s.heap.objs.size+1:=fun o=>by simp [Heap.push]
      show b < (s.heap.push _).objs.size
      rw [hsz]
      rcases List.mem_cons.mp hb with rfl | hb
      · exact Nat.lt_succ_self _
      · have:b=a:=by simpa using hb
        subst this
        exact Nat.lt_succ_of_lt hlt
    · intro i v h
      exact hv i v (by simpa using h)
    · intro h' tk t' hk
      refine ⟨.int _,H,I.kept (t':=tk) fun b o e=>hk b o (fun z=>?_) (Heap.get?_push_of_some _ e),⟨t',rfl⟩,?_⟩
      · have:b=s.heap.objs.size:=by simpa using z
        exact Nat.lt_irrefl _ (this▸Heap.lt_size e)
      · rw [show its.toArray.size=ns.length by simpa using hl,iU ns _ (Nat.le_refl _),List.take_length]
        exact q
end
end PL
namespace PL
open PySem L2 Nh
theorem SAll.memA {P:Option V→Sl→List Addr→Prop} {os:List (Option V)} {ss:List Sl} {A:List Addr} {k:Nat} {s:Sl} (h:SAll P os ss A) (e:ss[k]? =some s):∃o A1,os[k]? =some o∧P o s A1∧∀a∈A1,a∈A:=by
  obtain ⟨o,A0,A1,A2,eA,eo,hp,_⟩:=h.at e
  exact ⟨o,A1,eo,hp,fun a ha=>by rw [eA];exact List.mem_append_right _ (List.mem_append_left _ ha)⟩
theorem SAll.two {P:Option V→Sl→List Addr→Prop}:∀{os:List (Option V)} {ss:List Sl} {A:List Addr} {i j:Nat} {s t:Sl},SAll P os ss A→ss[i]? =some s→ss[j]? =some t→i≠j→A.Nodup→
    ∃o1 A1 o2 A2,os[i]? =some o1∧P o1 s A1∧os[j]? =some o2∧P o2 t A2∧(∀a∈A1,a∈A)∧(∀a∈A2,a∈A)∧∀a∈A1,a∉A2
  | _,_,_,_,_,_,_, .nil,e,_,_,_=>by simp at e
  | _,_,_,0,0,_,_, .cons h r,_,_,n,_=>absurd rfl n
  | _,_,_,0,j+1,s,t, .cons (o:=o) (A:=A) (B:=B) h r,e1,e2,_,nd=>by
    simp at e1
    subst e1
    obtain ⟨o2,A2,eo,hp,sub⟩:=r.memA (k:=j) (by simpa using e2)
    exact ⟨o,A,o2,A2,rfl,h,by simpa using eo,hp,fun a ha=>List.mem_append_left _ ha,fun a ha=>List.mem_append_right _ (sub a ha),fun a ha hb=>(List.nodup_append.mp nd).2.2 a ha a (sub a hb) rfl⟩
  | _,_,_,i+1,0,s,t, .cons (o:=o) (A:=A) (B:=B) h r,e1,e2,_,nd=>by
    simp at e2
    subst e2
    obtain ⟨o2,A2,eo,hp,sub⟩:=r.memA (k:=i) (by simpa using e1)
    exact ⟨o2,A2,o,A,by simpa using eo,hp,rfl,h,fun a ha=>List.mem_append_right _ (sub a ha),fun a ha=>List.mem_append_left _ ha,fun a ha hb=>(List.nodup_append.mp nd).2.2 a hb a (sub a ha) rfl⟩
  | _,_,_,i+1,j+1,s,t, .cons (o:=o) (A:=A) (B:=B) h r,e1,e2,n,nd=>by
    obtain ⟨o1,A1,o2,A2,q1,q2,q3,q4,q5,q6,q7⟩:=r.two (i:=i) (j:=j) (by simpa using e1) (by simpa using e2) (fun z=>n (by rw [z])) (List.nodup_append.mp nd).2.1
    exact ⟨o1,A1,o2,A2,by simpa using q1,q2,by simpa using q3,q4,fun a ha=>List.mem_append_right _ (q5 a ha),fun a ha=>List.mem_append_right _ (q6 a ha),q7⟩
end PL
namespace NhMaxD
open PySem PyProof.Rows
theorem sD (a d:Value):argsOk "max" ⟨[a],[("default",d)]⟩:=by unfold argsOk;kernel_rfl
section
variable {prog:Program} {w:World} {A:Around} {E:Value→Shared→Prop} {R:Result→Shared→Prop} {I:Addr} {fp wr:List Addr} {St:Nat→Heap→Prop}
abbrev xY (h:Heap) (S:Addr) (vs:Array Value):Prop:=∃c,h.get? S=some {cls:= .type "list",dict:=none,data:= .seq vs c,slots:=#[]}
theorem pA {ns:List Int} (W:Walks prog w A.in1 I fp wr ns.length (fun i v=>∃t,v= .int (ns.getD i 0) t) St) (S:Addr) (hSf:S∉fp) (d:Value):
    ∀(k j:Nat) (s:Shared) (m:Int) (t:Tok),ns.length - j=k→j≤ns.length→St j s.heap→xY s.heap S #[.int m t, .int m t]→
      (∀t' h' tk,(∀b o,b∉S::wr→s.heap.get? b=some o→h'.get? b=some o)→R (.ok (.ret (.int ((ns.drop j).foldl max m) t'))) {s with heap:=h',toks:=tk})→
      codeAny (model prog w) A (.builtin "max.loop" ⟨[.ref I, .none, .ref S],[("default",d)]⟩) R s:=by
  have hSw:S∉wr:=fun h=>hSf (W.sub _ h)
  have hnm:(toString "max"++toString ".loop":String)="max.loop":=by decide
  intro k
  induction k with
  | zero=>
    rintro j s m t hk hj st ⟨c,hS⟩ hR
    have hjn:j=ns.length:=by omega
    refine codeAny_builtin PySem.F.entry_max_loop ?_
    rw [Around.under_plainId PySem.F.plain_max_loop _]
    refine wpAny_bind (m:=seqItems? (.ref S)) (wpAny_seqItems hS rfl ?_)
    refine wpAny_bind (m:=tryCatch (pyNext (.ref I)) _) (wpAny_tryCatch (W.done s _ _ (by rw [←hjn];exact st) fun h' tk kp=>?_))
    refine wpAny_bind (m:=updateSeq S (fun _=>#[])) (wpAny_updateSeq (kp S _ hSw hS) rfl (wpAny_bind (wpAny_letGo (wpAny_pure ?_))))
    have e:(ns.drop j).foldl max m=m:=by rw [hjn,List.drop_length];rfl
    rw [e] at hR
    exact hR t _ tk fun b o hb q=>(Heap.get?_update_other _ _ (fun z:S=b=>hb (by rw [←z];exact List.mem_cons_self ..))).trans (kp b o (fun z=>hb (List.mem_cons_of_mem _ z)) q)
  | succ k ih=>
    rintro j s m t hk hj st ⟨c,hS⟩ hR
    have hlt:j < ns.length:=by omega
    refine codeAny_builtin PySem.F.entry_max_loop ?_
    rw [Around.under_plainId PySem.F.plain_max_loop _]
    refine wpAny_bind (m:=seqItems? (.ref S)) (wpAny_seqItems hS rfl ?_)
    refine wpAny_bind (m:=tryCatch (pyNext (.ref I)) _) (wpAny_tryCatch (W.item j s _ _ hlt st fun v h' tk hv st' kp=>?_))
    obtain ⟨u,rfl⟩:=hv
    have hS':=kp S _ hSw hS
    have eg:ns.getD j 0=ns[j]:=by simp [hlt]
    rw [eg]
    have ed:(ns.drop j).foldl max m=(ns.drop (j+1)).foldl max (max m ns[j]):=by rw [List.drop_eq_getElem_cons hlt,List.foldl_cons]
    rw [ed] at hR
    have cmp:=CmpOf.ints_gt (prog:=prog) (w:=w) (A:=A.in1) (P:=fun i v=>∃t,v= .int (if i=0 then ns[j] else m) t) (fun i=>if i=0 then ns[j] else m) (fun _ _ z=>z)
    refine wpAny_bind (m:=tryCatch (holding [.int ns[j] u, .int ns[j] u] (richCompare .Gt (.int ns[j] u) (.int m t) >>= _)) _) (wpAny_tryCatch (wpAny_holding (wpAny_bind (cmp 0 1 _ _ _ _ _ ⟨u,rfl⟩ ⟨t,rfl⟩ ?_))))
    refine wpAny_bind (wpAny_holding (wpAny_truthy_bool ?_))
    refine wpAny_bind (wpAny_letGo (wpAny_pure ?_))
    simp only [if_true,Nat.one_ne_zero,if_false]
    by_cases hb:ns[j] > m
    · simp only [hb,decide_true,if_true]
      refine wpAny_bind (wpAny_updateSeq hS' rfl (wpAny_bind (wpAny_letGo ?_)))
      rw [hnm]
      rw [show max m ns[j]=ns[j] by omega] at hR
      refine wpAny_pure ⟨plainId_quiet PySem.F.plain_max_loop _,ih (j+1) _ ns[j] u (by omega) hlt (W.frame _ _ _ st' fun b hbf o e=>?_) ⟨_,Heap.get?_update_self _ hS' rfl⟩ fun t' h2 tk2 k2=>?_⟩
      · exact (Heap.get?_update_other _ _ (fun z:S=b=>hSf (by rw [z];exact hbf))).trans e
      · exact hR t' h2 tk2 fun b o hbb e=>k2 b o hbb ((Heap.get?_update_other _ _ (fun z:S=b=>hbb (by rw [←z];exact List.mem_cons_self ..))).trans (kp b o (fun z=>hbb (List.mem_cons_of_mem _ z)) e))
    · simp only [hb,decide_false,Bool.false_eq_true,if_false]
      refine wpAny_bind (wpAny_letGo ?_)
      rw [hnm]
      rw [show max m ns[j]=m by omega] at hR
      refine wpAny_pure ⟨plainId_quiet PySem.F.plain_max_loop _,ih (j+1) _ m t (by omega) hlt st' ⟨_,hS'⟩ fun t' h2 tk2 k2=>?_⟩
      exact hR t' h2 tk2 fun b o hbb e=>k2 b o hbb (kp b o (fun z=>hbb (List.mem_cons_of_mem _ z)) e)
def zb:List Int→Int→Int
  | [],d=>d
  | n::r,_=>r.foldl max n
theorem call {s:Shared} {l:Addr} {items:Array Value} {ns:List Int} {d:Int} {td:Tok} {Q:Value→Shared→Prop} (hh:A.handled=none) (hl:s.heap.IsList l items) (hi:IntsAre items.toList ns)
    (h:∀t h' tk,(∀b o,s.heap.get? b=some o→h'.get? b=some o)→Q (.int (zb ns d) t) {s with heap:=h',toks:=tk}):
    wpAny (model prog w) A (PySem.call (.builtin "max") [.ref l] [("default", .int d td)]) Q E s:=by
  have hnm:(toString "max"++toString ".loop":String)="max.loop":=by decide
  refine wpAny_call (codeAny_call_builtin PySem.F.plain_max PySem.F.entry_max ?_)
  simp only [checkBuiltinCall,PySem.F.kind_max]
  have key:wpAny (model prog w) A.in1 (Builtin.«max» ⟨[.ref l],[("default", .int d td)]⟩) (fun fin s'=>match fin with
      | .done f=>(match (Except.ok f:Result) with | .ok (.ret v)=>Q v s' | .ok _=>False | .error e=>E e s')
      | .again c'=>c'.quiet=true∧codeAny (model prog w) A c' (fun r s'=>match r with | .ok (.ret v)=>Q v s' | .ok _=>False | .error e=>E e s') s') E s:=by
    refine wpAny_bind (m:=Builtin.Builtins.bindParams "max" ["key","default"] 0 ⟨[],[("default", .int d td)]⟩) (wpAny_of_eq (a:=[none,some (.int d td)]) rfl ?_)
    refine wpAny_bind (wpAny_pure ?_)
    refine wpAny_bind (wpAny_pyIter_list hl ?_)
    refine wpAny_bind (wpAny_newObj_type ?_)
    rw [hnm]
    have hlen:items.size=ns.length:=by have:=hi.length;simpa using this
    have hlt:l < s.heap.objs.size:=let ⟨_,ho,_⟩:=hl;Heap.lt_size ho
    have hI:(s.heap.push {cls:= .type "list_iterator",data:= .fields #[.ref l, .int 0 0]}).objs.size=s.heap.objs.size+1:=by rw [Heap.size_push]
    have W0:=Walks.list (prog:=prog) (w:=w) (A:=A.in1) (by simpa using hh) s.heap.objs.size l (Nat.ne_of_lt hlt) items
    have W:Walks prog w A.in1 s.heap.objs.size [s.heap.objs.size,l] [s.heap.objs.size] ns.length (fun i v=>∃t,v= .int (ns.getD i 0) t) (fun i h=>h.IsListIter s.heap.objs.size l i∧h.IsList l items):=by
      rw [←hlen]
      exact ⟨W0.sub,W0.frame,fun i s Q E hi' st hQ=>W0.item i s Q E hi' st fun v h' tk hv st' kp=>hQ v h' tk (IntsAre.int_at hi i v (by rw [Array.getElem?_toList];exact hv)) st' kp,W0.done,W0.self⟩
    have hSf:(s.heap.push {cls:= .type "list_iterator",data:= .fields #[.ref l, .int 0 0]}).objs.size∉[s.heap.objs.size,l]:=by
      rw [hI]
      intro z
      rcases List.mem_cons.mp z with z | z
      · exact absurd z (Nat.ne_of_gt (Nat.lt_succ_self _))
      · exact absurd (List.mem_singleton.mp z) (Nat.ne_of_gt (Nat.lt_succ_of_lt hlt))
    have st0:∀o,(fun i (h:Heap)=>h.IsListIter s.heap.objs.size l i∧h.IsList l items) 0 ((s.heap.push {cls:= .type "list_iterator",data:= .fields #[.ref l, .int 0 0]}).push o):=fun o=>
      ⟨⟨_,Heap.get?_push_of_some _ (Heap.get?_push_size _ rfl),rfl,rfl⟩,(hl.push _).push _⟩
    have old:∀b o q,s.heap.get? b=some o→((s.heap.push {cls:= .type "list_iterator",data:= .fields #[.ref l, .int 0 0]}).push q).get? b=some o∧b∉[(s.heap.push {cls:= .type "list_iterator",data:= .fields #[.ref l, .int 0 0]}).objs.size,s.heap.objs.size]:=fun b o q e=>by
      have hb:=Heap.lt_size e
      refine ⟨Heap.get?_push_of_some _ (Heap.get?_push_of_some _ e),fun z=>?_⟩
      rw [hI] at z
      rcases List.mem_cons.mp z with z | z
      · exact absurd z (Nat.ne_of_lt (Nat.lt_succ_of_lt hb))
      · exact absurd (List.mem_singleton.mp z) (Nat.ne_of_lt hb)
    refine wpAny_pure ⟨plainId_quiet PySem.F.plain_max_loop _,codeAny_builtin PySem.F.entry_max_loop ?_⟩
    rw [Around.under_plainId PySem.F.plain_max_loop _]
    refine wpAny_bind (m:=seqItems? (.ref _)) (wpAny_seqItems (Heap.get?_push_size _ rfl) rfl ?_)
    cases ns with
    | nil=>
      refine wpAny_bind (m:=tryCatch (pyNext (.ref s.heap.objs.size)) _) (wpAny_tryCatch (W.done _ _ _ (st0 _) fun h' tk kp=>?_))
      refine wpAny_bind (wpAny_rule (wpAny_pure ?_))
      exact h td h' tk fun b o e=>kp b o (fun z=>(old b o {cls:= .none} e).2 (List.mem_cons_of_mem _ z)) (old b o _ e).1
    | cons n r=>
      refine wpAny_bind (m:=tryCatch (pyNext (.ref s.heap.objs.size)) _) (wpAny_tryCatch (W.item 0 _ _ _ (by simp) (st0 _) fun v h' tk hv st' kp=>?_))
      obtain ⟨u,rfl⟩:=hv
      have hS':=kp _ _ (fun z=>hSf (W.sub _ z)) (Heap.get?_push_size _ rfl)
      refine wpAny_bind (m:=updateSeq _ (fun _=>#[.int n u, .int n u])) (wpAny_updateSeq hS' rfl ?_)
      rw [hnm]
      refine wpAny_pure ⟨plainId_quiet PySem.F.plain_max_loop _,pA W _ hSf _ _ 1 _ n u rfl (by simp) (W.frame _ _ _ st' fun b hbf o e=>?_) ⟨_,Heap.get?_update_self _ hS' rfl⟩ fun t' h2 tk2 k2=>?_⟩
      · exact (Heap.get?_update_other _ _ (fun z=>hSf (by rw [z];exact hbf))).trans e
      · refine h t' h2 tk2 fun b o e=>k2 b o (old b o {cls:= .none} e).2 ((Heap.get?_update_other _ _ (fun z=>(old b o {cls:= .none} e).2 (by rw [←z];exact List.mem_cons_self ..))).trans (kp b o (fun z=>(old b o {cls:= .none} e).2 (List.mem_cons_of_mem _ z)) (old b o _ e).1))
  cases hsig:Manifest.signature? "max" with
  | none=>exact wpAny_pure key
  | some sig=>
    have ha:=sD (.ref l) (.int d td)
    simp only [argsOk,hsig] at ha
    show wpAny _ A.in1 (Bind.checkArgs "max" sig ⟨[.ref l],[("default", .int d td)]⟩) _ _ s
    rw [show Bind.checkArgs "max" sig ⟨[.ref l],[("default", .int d td)]⟩=pure () from ha]
    exact wpAny_pure key
end
end NhMaxD
namespace PL
open PySem L2 Nh
def m6:PyData→PyData→Option PyData
  | .str a, .int k=>if a.length≤1000∧ -1000≤k∧k≤1000 then some (.str (Txt.mul a k)) else none
  | _,_=>none
def o8:P2:=bS m6
def vo:R2:=fun x y H Q=>∃a k,x= .str a∧y= .int k∧a.length≤1000∧ -1000≤k∧k≤1000∧Q (.str (Txt.mul a k)) H
theorem sE {a:Str} {k:Int} (h1:a.length≤1000) (h2:k≤1000):(Txt.mul a k).length≤sizeLine:=by
  have e:=PyProof.Rows.len_mul a k
  rw [sizeLine_eq]
  by_cases n:k < 0
  · simp only [n,decide_true,if_true,Int.mul_zero] at e
    omega
  · simp only [n,decide_false,Bool.false_eq_true,if_false] at e
    have:(a.length:Int)*k≤1000*1000:=Int.mul_le_mul (by omega) h2 (by omega) (by omega)
    omega
theorem uK {X:Cx}:OpR X (binaryOp .Mult) vo:=by
  intro pins s σ H x y v u Q I rx ry h
  obtain ⟨a,k,rfl,rfl,h1,h2,h3,q⟩:=h
  obtain ⟨t,rfl⟩:=rx
  obtain ⟨u,rfl⟩:=ry
  obtain ⟨o1,o2,o3⟩:=PyProof.Rows.mulOk_of (x:=a) (n:=k) 1000 1000 h1 h3 (by omega) (by decide) (by decide)
  refine P.mul_str o1 o2 o3 ?_
  have hz:=sE h1 h3
  unfold Txt.mul at hz q
  by_cases c1:k < 1
  · rw [if_pos c1] at hz q ⊢
    exact ⟨hz, .str _,H,I.tok _,⟨_,rfl⟩,q⟩
  · rw [if_neg c1] at hz q ⊢
    by_cases c2:(k == 1||a.length == 0)=true
    · rw [if_pos c2] at hz q ⊢
      exact ⟨.str _,H,I,⟨_,rfl⟩,q⟩
    · rw [if_neg c2] at hz q ⊢
      exact ⟨hz, .str _,H,I.tok _,⟨_,rfl⟩,q⟩
section
variable {X:Cx} {K:PySem.W.Frag} {a b:Expr} {m1 m2:Bool} {f g:bN} {pos:Pos}
theorem sG:lC K vo m6:=fun d1 d2 d v1 v2 H Q e r1 r2=>by
  unfold m6 at e
  split at e
  · split at e
    · rename_i hc
      cases e;cases r1;cases r2
      exact ⟨_,rfl,fun q=>⟨_,_,rfl,rfl,hc.1,hc.2.1,hc.2.2,q⟩⟩
    · cases e
  · cases e
theorem uL (ha:EX X a m1 f) (hb:EX X b m2 g):EX X (.BinOp a .Mult b pos) (m1||m2) (ae o8 m2 f g):=jw uK (iq sG) ha hb
end
end PL
namespace NhSet
open PySem PyProof.Rows
structure SS (w:World) (b:Bool) (ks:List Str) (es:Array (Int×Value)) (t:SetTable):Prop where
  perm:(es.toList.map (fun e=>strOf e.2)).Perm ks
  elems:∀e∈es.toList,∃x tk,e=(hashStr w x,Value.str x tk)
  bound:es.size < scanBound
  fits:t.fits es.size=true
  led:t.led=b
  plain:es.size≠0→t.plain=false
abbrev wC (es:Array (Int×Value)) (ep:Nat) (t:SetTable):Obj:={cls:= .type "set",dict:=none,data:= .set es ep t}
def StrSet (w:World) (h:Heap) (a:Addr) (b:Bool) (ks:List Str):Prop:=∃es ep t,h.get? a=some (wC es ep t)∧SS w b ks es t
theorem StrSet.obj {w:World} {h:Heap} {a:Addr} {b:Bool} {ks:List Str} (S:StrSet w h a b ks):∃o,h.get? a=some o:=let ⟨_,_,_,ho,_⟩:=S;⟨_,ho⟩
theorem StrSet.typeIs {w:World} {s:Shared} {a:Addr} {b:Bool} {ks:List Str} (S:StrSet w s.heap a b ks):s.TypeIs (.ref a) "set":=let ⟨_,_,_,ho,_⟩:=S;⟨_,ho,rfl⟩
theorem SS.len {w:World} {b:Bool} {ks:List Str} {es:Array (Int×Value)} {t:SetTable} (S:SS w b ks es t):es.size=ks.length:=by
  have:=S.perm.length_eq;simpa using this
theorem SS.mem {w:World} {b:Bool} {ks:List Str} {es:Array (Int×Value)} {t:SetTable} (S:SS w b ks es t) (x:Str):x∈ks↔∃e∈es.toList,Value.isStrOf x e.2=true:=by
  rw [←S.perm.mem_iff,List.mem_map]
  constructor
  · rintro ⟨e,he,rfl⟩
    obtain ⟨y,tk,rfl⟩:=S.elems e he
    exact ⟨_,he,by simp [Value.isStrOf,strOf]⟩
  · rintro ⟨e,he,hx⟩
    obtain ⟨y,tk,rfl⟩:=S.elems e he
    have:y=x:=by simpa [Value.isStrOf] using hx
    exact ⟨_,he,by simp [strOf,this]⟩
end NhSet
namespace PL
open PySem L2 Nh
theorem lN {X:Cx} {x:Str} {i:Int} {t:Tok} {pos:Pos} (hg:Gl X x) (hm:X.mg x=some (.int i t)) (hd:(x == ("__debug__":Str))=false:=by decide):EX X (.Name x pos) false (pC (.int i)):=by
  refine a7 (tQ (v:= .int i) hg hm ⟨t,rfl⟩ hd) fun σ H Q z=>?_
  obtain ⟨B,E,xs,Xs,res,E',⟨F,A,fr⟩,cl,e,q⟩:=z
  cases e
  exact q _ _ ⟨F,A,fr.push ⟨rfl,_,rfl, .int _⟩⟩
end PL
namespace PL
open PySem PySem.SeqAt
open AutoSeq1 (wpAny_loadPart')
open MeetsSeq MeetsSeq2 MeetsSeq3 SeqRoads2
def RcGtAt (A:Around) (s:Shared) (y x:Value) (b:Bool):Prop:=
  ∀(prog:Program) (w:World) (E:Value→Shared→Prop) (Q:Value→Shared→Prop),Q (.bool b) s→wpAny (model prog w) A (richCompare .Gt y x) Q E s
theorem n_ (l b:Addr) (items items2:Array Value) (n n2:Nat) (dd dd2:Option Addr) (sl sl2:Array (Option Value)) (e r:Nat→Bool):
    Meets (Builtin.«tuple.__gt__» ⟨[.ref l, .ref b],[]⟩)
      (fun A R s=>s.heap.get? l=some {cls:= .type "tuple",dict:=dd,data:= .seq items n,slots:=sl}∧s.heap.get? b=some {cls:= .type "tuple",dict:=dd2,data:= .seq items2 n2,slots:=sl2}∧
        (∀j (h1:j < items.size) (h2:j < items2.size),EqAt A.in1 s items[j] items2[j] (e j))∧(∀j (h1:j < items.size) (h2:j < items2.size),e j=false→RcGtAt A.in1 s items[j] items2[j] (r j))∧
        R (.ok (.ret (.bool (iC e r (decide (items2.size < items.size)) (List.range (min items.size items2.size)))))) s):=
  .of_wp fun prog w A R s h=>by
    obtain ⟨hp,g,d,tk,os⟩:=s;obtain ⟨hl,hb,he,hr,h⟩:=h
    have f2:=AutoSeq1.sub_tuple_tuple
    have hZ:(items.toList.zip items2.toList).length=min items.size items2.size:=by simp
    wp_walk using wpAny_loadPart' hl,wpAny_loadPart' hb,wpAny_forIn_list _ (fun bj b s'=>b.1=none∧s'=⟨hp,g,d,tk,os⟩∧∃i,bj=(items.toList.zip items2.toList).drop i∧
      R (.ok (.ret (.bool (iC e r (decide (items2.size < items.size)) ((List.range (min items.size items2.size)).drop i))))) ⟨hp,g,d,tk,os⟩) _
    case turn=>
      rintro ⟨y,x⟩ bj b s' ⟨hb',rfl,i,hz,hR⟩
      have hlt:i < (items.toList.zip items2.toList).length:=by
        rcases Nat.lt_or_ge i (items.toList.zip items2.toList).length with h' | h'
        · exact h'
        · rw [List.drop_of_length_le h'] at hz;cases hz
      have hm:i < min items.size items2.size:=hZ▸hlt
      have h1:i < items.size:=Nat.lt_of_lt_of_le hm (Nat.min_le_left _ _)
      have h2:i < items2.size:=Nat.lt_of_lt_of_le hm (Nat.min_le_right _ _)
      rw [List.drop_eq_getElem_cons hlt] at hz
      injection hz with hyx hrest
      have hy:y=items[i]:=by have:=congrArg Prod.fst hyx;simpa using this
      have hx:x=items2[i]:=by have:=congrArg Prod.snd hyx;simpa using this
      subst hy hx
      have hd:(List.range (min items.size items2.size)).drop i=i::(List.range (min items.size items2.size)).drop (i+1):=by simp [List.drop_eq_getElem_cons,hm]
      rw [hd,iC] at hR
      refine wpAny_bind (he i h1 h2 prog w _ _ ?_)
      cases hy:e i with
      | true=>
        rw [hy,if_pos rfl] at hR
        wp_walk
        exact ⟨rfl,rfl,i+1,hrest,hR⟩
      | false=>
        rw [hy,if_neg (by decide)] at hR
        rw [show (!false)=true from rfl,if_pos rfl]
        refine wpAny_bind (wpAny_rule (wpAny_bind (hr i h1 h2 hy prog w _ _ ?_)))
        wp_walk
        exact ⟨_,rfl,hR⟩
    case fin=>
      rintro ⟨b1,b2⟩ s' ⟨hb',rfl,i,hz,hR⟩
      simp only at hb'
      subst hb'
      have hge:min items.size items2.size≤i:=by
        rcases Nat.lt_or_ge i (items.toList.zip items2.toList).length with h' | h'
        · rw [List.drop_eq_getElem_cons h'] at hz;cases hz
        · exact hZ▸h'
      rw [List.drop_of_length_le (by simpa using hge)] at hR
      wp_walk
      exact ⟨_,rfl,hR⟩
    case h=>
      exact ⟨rfl,rfl,0,rfl,by simpa using h⟩
section
variable {A:Around} {s:Shared}
theorem RcGtAt.tuples {l b:Addr} {items items2:Array Value} {e r:Nat→Bool} (hl:s.heap.IsTuple l items) (hb:s.heap.IsTuple b items2) (hu:A.units < cLine)
    (he:∀j (h1:j < items.size) (h2:j < items2.size),EqAt A.in1 s items[j] items2[j] (e j)) (hr:∀j (h1:j < items.size) (h2:j < items2.size),e j=false→RcGtAt A.in1 s items[j] items2[j] (r j)):RcGtAt A s (.ref l) (.ref b) (iC e r (decide (items2.size < items.size)) (List.range (min items.size items2.size))):=fun prog w E Q h=>by
  obtain ⟨⟨cls,dd,data,sl⟩,ho,hc,n,hd⟩:=id hl
  obtain ⟨⟨cls2,dd2,data2,sl2⟩,ho2,hc2,n2,mr⟩:=id hb
  simp only at hc hd hc2 mr
  subst hc hd hc2 mr
  exact richCompare_meets_room (op:= .Gt) ⟨_,ho,rfl⟩ ⟨_,ho2,rfl⟩ F.slot_tuple_gt F.entry_tuple_gt (F.args_tuple_gt_2 _ _) (n_ l b items items2 n n2 dd dd2 sl sl2 e r)
    ⟨ho,ho2,he,hr,show Value.bool _≠Value.notImplemented∧Q (.bool _) s from ⟨(fun x=>nomatch x),h⟩⟩ hu
theorem RcGtAt.ints (i j:Int) (t u:Tok):RcGtAt A s (.int i t) (.int j u) (decide (j < i)):=fun prog w E Q h=>PyProof.Rows.gt_int h
end
end PL
namespace Nh
open PySem L2
theorem NailsOk.stp {r:List Pc} {p:Pc} (h:NailsOk r) (hp:p.1 < 128):NailsOk (NH.stp r p):=by
  cases r with
  | nil=>
    show NailsOk (if p.2=0 then [] else [p])
    split
    · exact h
    · intro q hq;rw [List.mem_singleton.mp hq];exact hp
  | cons x r=>
    rw [NH.gf]
    intro q hq
    rcases List.mem_append.mp hq with h1 | h1
    · unfold NH.mr at h1
      split at h1
      · split at h1
        · cases h1
        · rw [List.mem_singleton.mp h1];exact hp
      · split at h1
        · rw [List.mem_singleton.mp h1];exact h x (List.mem_cons_self ..)
        · rcases List.mem_cons.mp h1 with h2 | h2
          · rw [h2];exact hp
          · rw [List.mem_singleton.mp h2];exact h x (List.mem_cons_self ..)
    · exact h q (List.mem_cons_of_mem _ h1)
theorem NailsOk.foldl:∀(c:List Pc) {r:List Pc},NailsOk r→NailsOk c→NailsOk (c.foldl NH.stp r)
  | [],_,h,_=>h
  | p::c,_,h,hc=>NailsOk.foldl c (h.stp (hc p (List.mem_cons_self ..))) fun q hq=>hc q (List.mem_cons_of_mem _ hq)
theorem NailsOk.take {c:List Pc} (h:NailsOk c) (i:Nat):NailsOk (c.take i):=fun p hp=>h p (List.mem_of_mem_take hp)
theorem NailsOk.drop {c:List Pc} (h:NailsOk c) (i:Nat):NailsOk (c.drop i):=fun p hp=>h p (List.mem_of_mem_drop hp)
theorem NailsOk.reverse {c:List Pc} (h:NailsOk c):NailsOk c.reverse:=fun p hp=>h p (List.mem_reverse.mp hp)
theorem NailsOk.append {c d:List Pc} (h:NailsOk c) (h':NailsOk d):NailsOk (c++d):=fun p hp=>(List.mem_append.mp hp).elim (h p) (h' p)
theorem NailsOk.contr {c:List Pc} (h:NailsOk c):NailsOk (NH.contr c):=fun p hp=>by
  obtain ⟨q,hq,e⟩:=List.mem_map.mp hp
  subst e
  exact h q (List.mem_reverse.mp hq)
theorem NailsOk.short {c:List Pc} (h:NailsOk c):NailsOk (NH.short c):=(NailsOk.foldl c (fun _ z=>by cases z) h).reverse
end Nh
namespace Nh
open PySem L2 PL
theorem NailsOk.rep {c:List Pc} (h:NailsOk c) (k:Nat):NailsOk (List.replicate k c).flatten:=fun p hp=>by
  obtain ⟨l,hl,hpl⟩:=List.mem_flatten.mp hp
  rw [(List.mem_replicate.mp hl).2] at hpl
  exact h p hpl
theorem NailsOk.cutL {c:List Pc} (h:NailsOk c) (lo hi:Option Int):NailsOk (cutL c lo hi):=fun p hp=>h p (jE hp)
theorem uM {i j:Int} (h1: -(2 ^ 64) < j) (h2:j < 2 ^ 64):dE i j=true:=by
  simp only [dE,Bool.or_eq_true,decide_eq_true_eq]
  exact .inl (.inr ⟨h1,h2⟩)
theorem h6 {i j:Int} (h1: -(2 ^ 64) < i) (h2:i < 2 ^ 64):dE i j=true:=by
  simp only [dE,Bool.or_eq_true,decide_eq_true_eq]
  exact .inl (.inl ⟨h1,h2⟩)
theorem jI {j:Int} (h1:0 < j) (h2:j < 2 ^ 200):dq j=true:=decide_eq_true ⟨h1,h2⟩
theorem aJ (i j:Int):j5 (.int i) (.int j)=some (decide (i=j)):=rfl
theorem dh (i j:Str):j5 (.str i) (.str j)=some (decide (i=j)):=rfl
theorem m7 {c d:List Pc} (hc:NailsOk c) (hd:NailsOk d):j5 (.list (c.map aB)) (.list (d.map aB))=some (decide (c=d)):=by
  have e:j5 (.list (c.map aB)) (.list (d.map aB))=(if SeqAt.shaped (gO c)&&SeqAt.shaped (gO d) then some (PyData.eqv (gO c) (gO d)) else none):=rfl
  rw [e,iN hc,iN hd,rH]
  rfl
theorem jb (a b:Nat):((⟨#[a]⟩:Str)=⟨#[b]⟩)=(a=b):=propext ⟨fun h=>by
  injection h with h
  simpa using congrArg Array.toList h,fun h=>by rw [h]⟩
end Nh
namespace L2
open PySem PySem.Spec PyProof.Rows
def o9 (K:PySem.W.Frag) (h:Heap):Prop:=∀b q,jf K b=some q→h.get? b=some (PySem.W.tabObj #[])∧(∃c,PySem.W.CodeHd h c b)∧K.lookup b=none
def cu (K:PySem.W.Frag) (a:Addr) (so:Option HO):Hp:=fun b=>match jf K b with
  | some q=>some (.tbl q)
  | none=>if b=a then so else none
theorem oa {K:PySem.W.Frag} {a b:Addr} {so:Option HO} {q:Str} (e:jf K b=some q):cu K a so b=some (.tbl q):=by unfold cu;rw [e]
theorem qg {K:PySem.W.Frag} {a:Addr} {so:Option HO} (e:jf K a=none):cu K a so a=so:=by unfold cu;rw [e];exact if_pos rfl
theorem dI {K:PySem.W.Frag} {a b:Addr} {so:Option HO} {u:HO} (e:cu K a so b=some u):(∃q,jf K b=some q∧u= .tbl q)∨(b=a∧so=some u):=by
  unfold cu at e
  split at e
  · rename_i q h;cases e;exact .inl ⟨q,h,rfl⟩
  · by_cases hb:b=a
    · rw [if_pos hb] at e;exact .inr ⟨hb,e⟩
    · rw [if_neg hb] at e;cases e
section
variable {P:Program} {w:World} {K:PySem.W.Frag} {mg mb:Str→Option Value} {CX:qy} {k:Nat} {fa a:Addr} {fd:FuncData} {x:Str} {sp:Sp} {s₁:Shared} {vs:List Value} {ns:List Int}
theorem uN (KX:K.In s₁.heap) (hns:s₁.heap.Ns mainGlobals mg) (hb:s₁.heap.Ns builtinsNs mb) (hbb:∀x:Str,x≠"__name__"→mb x=bootBuiltins x) (hlim:s₁.heap.NoLimit) (hg:s₁.gens=#[]) (hbm:∃bm ob,mg "__builtins__"=some (.ref bm)∧bm≠builtinsNs∧s₁.heap.get? bm=some ob∧ob.cls= .type "module"∧ob.dict=some builtinsNs∧ob.data= .plain) (hT:o9 K s₁.heap)
    (ha:s₁.heap.get? a=some {cls:= .type "list",data:= .seq vs.toArray}) (hi:IntsAre vs ns) (hl:ns.length≤sizeLine) (hr:Room k callerA)
    (F:∀base:Heap,K.In base→base.Ns mainGlobals mg→FnOk P w K mg base CX k fa fd [x] sp) (hbind:∀(s:Shared) (u:Value),BindsTo s fd ⟨[u],[]⟩ [(x,u)])
    (hsp:∀H:Hp,SqL K H a (ns.map V.int)→sp [.ref a] H (fun v _=>v= .bl true) fun _ _ _=>False)
    (hCX:∀H e s',CX [] H s₁ (fun _ _ _=>False) e s'→False):
    codeAny (model P w) callerA (.call (.ref fa) ⟨[.ref a],[]⟩) (fun r s'=>r= .ok (.ret (.bool true))∧OldK s₁.heap s'.heap∧s'.os=s₁.os∧AllBare s'.gens) s₁:=by
  have rv:=fo hi
  have lenV:=hi.length
  have tabA:jf K a=none:=by
    cases q:jf K a with
    | none=>rfl
    | some z=>
      have e:=(hT a z q).1
      rw [ha] at e
      cases e
  have main:∀so:Option HO,(so=none∨(so=some (.frz {cls:= .type "list",data:= .seq vs.toArray} (.lst (ns.map V.int)))∧K.lookup a=none))→SqL K (cu K a so) a (ns.map V.int)→
      codeAny (model P w) callerA (.call (.ref fa) ⟨[.ref a],[]⟩) (fun r s'=>r= .ok (.ret (.bool true))∧OldK s₁.heap s'.heap∧s'.os=s₁.os∧AllBare s'.gens) s₁:=by
    intro so hso hS
    have hok:HOk P w (cu K a so) s₁.heap:=fun b u e=>by
      rcases dI e with ⟨q,e1,rfl⟩ | ⟨rfl,e1⟩
      · exact ObjOk.tbl0 (hT b q e1).1
      · rcases hso with z | ⟨z,_⟩
        · rw [z] at e1;cases e1
        · rw [z] at e1;cases e1
          exact ⟨ha,by rw [List.length_map];exact hl,vs,_,rv,ha⟩
    have free:∀{b:Addr} {o:Obj} {es:Array DictEntry} {ep:Nat},s₁.heap.get? b=some o→o.data= .dict es ep→cu K a so b=none:=fun {b o es ep} e d=>by
      cases q:cu K a so b with
      | none=>rfl
      | some u=>
        rcases dI q with ⟨z,e1,_⟩ | ⟨rfl,_⟩
        · rw [(hT b z e1).1] at e;cases e;cases d
        · rw [ha] at e;cases e;cases d
    have nsK:∀{b:Addr} {m:Str→Option Value},s₁.heap.Ns b m→(mw s₁.heap (cu K a so)).Ns b m:=fun {b m} ⟨o,es,ep,e,d,r⟩=>⟨o,es,ep,je e (free e d),d,r⟩
    have kin:K.In (mw s₁.heap (cu K a so)):=fun b o e=>je (KX b o e) (by
      cases q:cu K a so b with
      | none=>rfl
      | some u=>
        rcases dI q with ⟨z,e1,_⟩ | ⟨rfl,e1⟩
        · rw [(hT b z e1).2.2] at e;cases e
        · rcases hso with z | ⟨_,z⟩
          · rw [z] at e1;cases e1
          · rw [z] at e;cases e)
    have bmK:∃bm ob,mg "__builtins__"=some (.ref bm)∧bm≠builtinsNs∧(mw s₁.heap (cu K a so)).get? bm=some ob∧ob.cls= .type "module"∧ob.dict=some builtinsNs∧ob.data= .plain:=by
      obtain ⟨bm,ob,c1,c2,c3,c4,c5⟩:=hbm
      refine ⟨bm,ob,c1,c2,je c3 ?_,c4,c5⟩
      cases q:cu K a so bm with
      | none=>rfl
      | some u=>
        rcases dI q with ⟨z,e1,_⟩ | ⟨rfl,_⟩
        · rw [(hT bm z e1).1] at c3;cases c3;cases c4
        · rw [ha] at c3
          cases c3
          injection c4 with c6
          exact absurd c6 (by decide)
    have e0:Env0 P w K mg (mw s₁.heap (cu K a so)) callerA [] s₁ (cu K a so):=
      ⟨rfl,⟨kin,nsK hns,⟨mb,nsK hb,hbb⟩,let ⟨mc,h1,h2⟩:=hlim;⟨mc,nsK h1,h2⟩,bmK⟩,fun b o e=>tN e,Nat.le_of_eq (pB _ _),trivial,fun b hb=>absurd (show b∈([]:List Addr) from hb) (by simp),hok, .of_eq hg,fun b q e=>oa e⟩
    refine codeAny_mono ((F _ kin (nsK hns)).run callerA [] s₁ _ ⟨[.ref a],[]⟩ [.ref a] [.ref a] _ _ hr e0 (hbind s₁ (.ref a)) (.cons rfl .nil) (hsp _ hS)) fun r s' h=>?_
    cases r with
    | error e=>exact (hCX _ e s' h).elim
    | ok fl=>
      cases fl with
      | next=>exact False.elim h
      | brk=>exact False.elim h
      | cont=>exact False.elim h
      | ret u=>
        obtain ⟨v,H',os,bare,un,hok',r',q⟩:=h
        have q':v= .bl true:=q
        subst q'
        obtain rfl:u=Value.bool true:=r'
        have nofs:∀b,b∉qx ([]:List Env):=fun b z=>absurd (show b∈([]:List Addr) from z) (by simp)
        have step:∀b o,s₁.heap.get? b=some o→asItWas s₁.heap s'.heap b o∧∃o',s'.heap.get? b=some o':=fun b o e=>by
          cases q:cu K a so b with
          | none=>exact ⟨.inl (un.keep b o e q (nofs b) (by simp)),_,un.keep b o e q (nofs b) (by simp)⟩
          | some u=>
            rcases dI q with ⟨z,e1,rfl⟩ | ⟨rfl,e1⟩
            · obtain ⟨t1,⟨c,t2⟩,_⟩:=hT b z e1
              obtain ⟨ps,p1,_⟩:=hok' b _ (un.tbls b z q)
              rw [t1] at e
              cases e
              exact ⟨.inr (.inl ⟨(t2.tab t1).isCodeTable,rfl,#[],ps,rfl,by simpa using p1⟩),_,p1⟩
            · rcases hso with z | ⟨z,_⟩
              · rw [z] at e1;cases e1
              · rw [z] at e1;cases e1
                have z2:=un.frzs b _ _ q
                obtain ⟨e2,_⟩:=hok' b _ z2
                rw [ha] at e;cases e
                exact ⟨.inl e2,_,e2⟩
        exact ⟨rfl,⟨fun b o e=>(step b o e).1,fun b o e=>(step b o e).2⟩,os,bare⟩
  cases hk:K.lookup a with
  | some o=>
    have e:=KX a o hk
    rw [ha] at e
    cases e
    exact main none (.inl rfl) (.inr ⟨_,vs.toArray,_,hk,rfl,rfl,rfl,by rw [List.size_toArray,lenV];exact hl,by simpa using rv⟩)
  | none=>exact main _ (.inr ⟨rfl,hk⟩) (.inl (.inr ⟨_,qg tabA⟩))
end
theorem sH {l:PySem.W.OpenLaw} {n k:Nat} {q:Program} {loose:List Str} {XP:(Str→Option Value)→Heap→Prop} {YP:World→Heap→Prop} {d:DefRec} {K:Params→PySem.W.Frag} {CX:World→qy} {sp:World→Sp} {x:Str}
    (hn:l.most=some n) (hn2:n≤sizeLine) (hdf:d.params.defaults=[]) (hr:Room k callerA)
    (hY:∀(w:World) (h:Heap),YP w h→(K w.params).In h∧o9 (K w.params) h)
    (F:∀(w:World) (mg:Str→Option Value) (fa:Addr) (h:Heap),(K w.params).In h→h.Ns mainGlobals mg→mg d.name=some (.ref fa)→
      ∃fd:FuncData,(∀(s:Shared) (u:Value),BindsTo s fd ⟨[u],[]⟩ [(x,u)])∧
        ∀base:Heap,(K w.params).In base→base.Ns mainGlobals mg→FnOk l.prog w (K w.params) mg base (CX w) k fa fd [x] (sp w))
    (hsp:∀(w:World) (H:Hp) (a:Addr) (ns:List Int),ns.length≤n→SqL (K w.params) H a (ns.map V.int)→sp w [.ref a] H (fun v _=>v= .bl true) fun _ _ _=>False)
    (hCX:∀(w:World) (H:Hp) (s:Shared) (e:Value) (s':Shared),CX w [] H s (fun _ _ _=>False) e s'→False):
    PySem.W.WalkO q loose XP YP l.row.toRowW d [] (fun f vs=>PySem.call f vs):=by
  refine Att.mF hn hdf fun w s₀ s₁ mg mb fa o pm cd doc a vs ns G Y ho hd hcd hmg hobj hints hlen hg=>?_
  obtain ⟨KX,KT⟩:=hY w _ Y
  obtain ⟨fd,hb,hF⟩:=F w mg fa _ KX G.T.g hmg
  exact uN KX G.T.g G.T.b G.T.builtins G.T.nolimit hg G.T.bmain KT hobj hints (Nat.le_trans hlen hn2) hr hF hb (fun H hS=>hsp w H a ns hlen hS) fun H e s'=>hCX w H s₁ e s'
end L2
namespace NH
def zc:Nat→Nat→Nat
  | _,0=>1
  | 0,_+1=>0
  | n+1,k+1=>zc n (k+1)+zc n k
def zd:Nat→Nat→Int
  | _,0=>1
  | 0,_+1=>0
  | m+1,k+1=>zd m (k+1) - zd (m+1) k
def ch (n:Int) (k:Nat):Int:=match n with
  | .ofNat n=>(zc n k:Int)
  | .negSucc m=>zd (m+1) k
def ff (n:Int):Nat→Int
  | 0=>1
  | k+1=>ff n k*(n - k)
section
variable {α:Type}
def conv (f g:List α→Int):List α→Int
  | []=>f []*g []
  | a::w=>f []*g (a::w)+conv (fun u=>f (a::u)) g w
end
section
variable {α:Type} [DecidableEq α]
def vs (j:Nat) (m n:Int):Nat→Int
  | 0=>ch m j
  | k+1=>ch m j*ch n (k+1)+vs (j+1) m n k
def Unlike:List α→Prop
  | []=>True
  | [_]=>True
  | a::b::w=>a≠b∧Unlike (b::w)
theorem Unlike.tail {a:α} {w:List α} (h:Unlike (a::w)):Unlike w:=by
  cases w with
  | nil=>trivial
  | cons b w=>exact h.2
end
end NH
namespace NH
section
variable {α:Type} [DecidableEq α]
def Rot (a b:List (α×Int)):Prop:=∃u v,a=u++v∧b=v++u
theorem Rot.refl (a:List (α×Int)):Rot a a:=⟨[],a,rfl,by simp⟩
theorem Rot.symm {a b:List (α×Int)} (h:Rot a b):Rot b a:=let ⟨u,v,e,f⟩:=h;⟨v,u,f,e⟩
theorem Rot.trans {a b c:List (α×Int)} (h:Rot a b) (k:Rot b c):Rot a c:=by
  obtain ⟨u,v,rfl,e⟩:=h
  obtain ⟨x,y,e2,rfl⟩:=k
  rw [e] at e2
  rcases List.append_eq_append_iff.mp e2 with ⟨w,e3,e4⟩ | ⟨w,e3,e4⟩
  · subst e3 e4
    exact ⟨w,y++v,by simp,by simp⟩
  · subst e3 e4
    exact ⟨u++x,w,by simp,by simp⟩
theorem Rot.eq {a b:List (α×Int)} (h:a=b):Rot a b:=h▸Rot.refl a
theorem Rot.len {a b:List (α×Int)} (h:Rot a b):a.length=b.length:=by
  obtain ⟨u,v,rfl,rfl⟩:=h
  simp [Nat.add_comm]
end
end NH
namespace Nh
open PySem L2 PL
def lp (p q:Pc):Bool:=if p.1=q.1 then decide (p.2 < q.2) else decide (p.1 < q.1)
def ll:List Pc→List Pc→Bool
  | [],[]=>false
  | [],_::_=>true
  | _::_,[]=>false
  | x::xs,y::ys=>if x=y then ll xs ys else lp x y
theorem sI {p q:Pc} (h:p≠q):lp p q=true∨lp q p=true:=by
  unfold lp
  by_cases e:p.1=q.1
  · rw [if_pos e,if_pos e.symm]
    simp only [decide_eq_true_eq]
    have:p.2≠q.2:=fun z=>h (by cases p;cases q;simp_all)
    omega
  · rw [if_neg e,if_neg (fun z=>e z.symm)]
    simp only [decide_eq_true_eq]
    omega
theorem m8:∀{a b:List Pc},a≠b→ll a b=true∨ll b a=true
  | [],[],h=>absurd rfl h
  | [],_::_,_=> .inl rfl
  | _::_,[],_=> .inr rfl
  | x::a,y::b,h=>by
    unfold ll
    by_cases e:x=y
    · subst e
      rw [if_pos rfl,if_pos rfl]
      exact m8 fun z=>h (by rw [z])
    · rw [if_neg e,if_neg (fun z=>e z.symm)]
      exact sI e
def yx (a:List Pc) (p:Nat):List Pc:=a.drop p++a.take p
def Least (a w:List Pc):Prop:=(∃p,p≤a.length∧w=yx a p)∧∀p,p≤a.length→ll (yx a p) w=false
theorem Least.one {a w w':List Pc} (h:Least a w) (h':Least a w'):w=w':=by
  obtain ⟨⟨p,hp,rfl⟩,k⟩:=h
  obtain ⟨⟨p',hp',rfl⟩,k'⟩:=h'
  by_cases e:yx a p=yx a p'
  · exact e
  · rcases m8 e with z | z
    · rw [k' p hp] at z;cases z
    · rw [k p' hp'] at z;cases z
end Nh
namespace NH
variable {α:Type} [DecidableEq α]
end NH
namespace Nh
open PySem L2 PL
theorem wD {p q:Pc} (hp:p.1 < 128) (hq:q.1 < 128):j5 (aB p) (aB q)=some (decide (p=q)):=by
  have s:∀{p:Pc},p.1 < 128→SeqAt.shaped (aB p)=true:=fun {p} h=>by
    have h1:=vf h
    unfold SeqAt.shaped
    rw [h1]
    simp [aB,PyData.depth,PyData.depthAll]
  have e:j5 (aB p) (aB q)=(if SeqAt.shaped (aB p)&&SeqAt.shaped (aB q) then some (PyData.eqv (aB p) (aB q)) else none):=rfl
  rw [e,s hp,s hq,rG]
  rfl
end Nh
namespace NH
variable {α:Type} [DecidableEq α]
end NH
namespace Nh
open PySem L2 PL
def CordOk (c:List Pc):Prop:=∀p∈c,p.1 < 128∧p.2.natAbs < 2 ^ 100
theorem CordOk.n {c:List Pc} (h:CordOk c):NailsOk c:=fun p hp=>(h p hp).1
theorem CordOk.append {c d:List Pc} (h:CordOk c) (h':CordOk d):CordOk (c++d):=fun p hp=>(List.mem_append.mp hp).elim (h p) (h' p)
theorem CordOk.contr {c:List Pc} (h:CordOk c):CordOk (NH.contr c):=fun p hp=>by
  obtain ⟨q,hq,e⟩:=List.mem_map.mp hp
  subst e
  have:=h q (List.mem_reverse.mp hq)
  exact ⟨this.1,by simpa using this.2⟩
theorem CordOk.cutL {c:List Pc} (h:CordOk c) (lo hi:Option Int):CordOk (cutL c lo hi):=fun p hp=>h p (jE hp)
end Nh
namespace NH
variable {α:Type} [DecidableEq α]
theorem sJ (A X B:List (α×Int)):short (A++(X++contr X)++B)=short (A++B):=by
  have:=pU (A:=A) (B:=B) (X:=X++contr X) (Y:=[]) (rl X)
  simpa using this
end NH
namespace PL
open PySem L2 Nh PyProof.Rows
structure ClsOk (K:PySem.W.Frag) (mg:Str→Option Value) (cn:Str) (C:Addr):Prop where
  ns:PySem.W.nsIn K mainGlobals cn=some (some (.ref C))
  mg:mg cn=some (.ref C)
  cl:Cls K C
structure OwnM (P:Program) (w:World) (K:PySem.W.Frag) (mg:Str→Option Value) (base:Heap) (k:Nat) (C:Addr) (m:Str) (ps:List Str) (sp:Sp):Prop where
  ex:∃(f:Addr) (fd:FuncData),FnOk P w K mg base iK k f fd ps sp∧Binds K fd ps []∧Meth K C m f
def DispM (P:Program) (w:World) (K:PySem.W.Frag) (mg:Str→Option Value) (base:Heap) (k:Nat) (m:Str) (c:List PyData→Option Sl):Prop:=
  ∀(H:Hp) (v:V) (d:PyData) (r:Sl),c [d]=some r→Rp K H v d→∃(p C dx:Addr) (fs:List (Str×V)),v= .ref p∧H p=some (.ins C dx fs)∧fs.lookup m=none∧Cls K C∧∃c':List PyData→Option Sl,c' [d]=some r∧OwnM P w K mg base k C m ["self"] (da K c')
theorem oe {K:PySem.W.Frag} {H:Hp} {v:V} {cn:Str} {kvs:List (PyData×PyData)} (r:Rp K H v (f9 cn kvs)):∃(p C dx:Addr) (fs:List (Str×V)),v= .ref p∧PySem.W.nsIn K mainGlobals cn=some (some (.ref C))∧H p=some (.ins C dx fs)∧(∀m∈jr,fs.lookup m=none)∧RpN K H fs kvs:=by
  generalize e:f9 cn kvs=d at r
  cases r with
  | obj c h n r=>cases e;exact ⟨_,_,_,_,rfl,c,h,n,r⟩
  | dct h1 h2=>
    cases h2 with
    | nil=>cases e
    | @cons k x us d kvs a b=>cases k <;> cases e
  | _=>cases e
def gn (f:Str):List (PyData×PyData)→Option PyData
  | []=>none
  | (.str g,d)::r=>if g=f then some d else gn f r
  | _::r=>gn f r
theorem RpN.look {K:PySem.W.Frag} {H:Hp} {f:Str} {d:PyData} {fs:List (Str×V)}:∀{kvs:List (PyData×PyData)},RpN K H fs kvs→gn f kvs=some d→∃v,fs.lookup f=some v∧Rp K H v d
  | _, .nil,e=>by cases e
  | _, .cons l h r,e=>by
    unfold gn at e
    split at e
    · rename_i z
      cases e;subst z
      exact ⟨_,l,h⟩
    · exact r.look e
def fL (cs:List Str) (f:Str) (g:bN):bN:=fun E=>(g E).bind fun a=>(look a.2 a.1).bind fun d=>match d with
  | .dict ((.none, .tuple [.str cn])::kvs)=>if cs.contains cn then (gn f kvs).bind fun d'=>if !hot a.2 a.1||a8 d' then some (.sh d',a.2) else none else none
  | _=>none
def dO (c:List PyData→Option Sl) (g:bN):bN:=fun E=>(g E).bind fun a=>(look a.2 a.1).bind fun d=>(c [d]).map fun r=>(r,a.2)
def iV (cn:Str) (c:List PyData→Option (List (PyData×PyData))) (g:j4):bN:=fun E=>(g E).bind fun a=>(aw a.2 a.1).bind fun ds=>(c ds).map fun kvs=>(.sh (f9 cn kvs),a.2)
def qh (K:PySem.W.Frag) (C:Addr) (c:List PyData→Option (List (PyData×PyData))):Sp:=fun vs H Q _=>∃x dx vs' ds kvs,vs= .ref x::vs'∧H x=some (.ins C dx [])∧c ds=some kvs∧(∃H0,H0 x=none∧Same H0 H∧RpA K H0 vs' ds)∧
  ∀fs H',(∀b o,b≠x→H b=some o→H' b=some o)→H' x=some (.ins C dx fs)→(∀m∈jr,fs.lookup m=none)→RpN K (tups H') fs kvs→Q .non H'
structure MkOk (P:Program) (w:World) (K:PySem.W.Frag) (mg:Str→Option Value) (base:Heap) (k:Nat) (cn:Str) (ps:List Str) (c:List PyData→Option (List (PyData×PyData))):Prop where
  ex:∃(C f:Addr) (fd:FuncData),ClsOk K mg cn C∧Mk K C f∧FnOk P w K mg base iK k f fd ps (qh K C c)∧Binds K fd ps []
section
variable {X:Cx} {o e:Expr} {es:List Expr} {f m cn x:Str} {p pos apos:Pos} {m1:Bool} {g:bN} {ga:j4}
theorem fM {cs:List Str} (hc:∀cn∈cs,∀C,PySem.W.nsIn X.K mainGlobals cn=some (some (.ref C))→Cls X.K C∧NoAttr X.K C f) (he:EX X o m1 g) (hb:attributeBase o f X.env (eval o X.env)=eval o X.env:=by rfl):EX X (.Attribute o f pos) m1 (fL cs f g):=by
  refine a7 (vX he hb) fun σ H Q z=>?_
  obtain ⟨B,E,xs,Xs,res,E',fr,cl,e,q⟩:=z
  obtain ⟨⟨s,E1⟩,e1,e⟩:=Option.bind_eq_some_iff.mp e
  obtain ⟨d,e2,e⟩:=Option.bind_eq_some_iff.mp e
  refine ⟨B,E,xs,Xs,s,E1,fr,cl,e1,fun v H1 ⟨F,A,fr1⟩=>?_⟩
  split at e
  rotate_left
  · cases e
  rename_i cn kvs
  split at e
  rotate_left
  · cases e
  rename_i hcn
  obtain ⟨d',e3,e⟩:=Option.bind_eq_some_iff.mp e
  split at e
  rotate_left
  · cases e
  rename_i hh
  cases e
  obtain ⟨r,rf⟩:=fr1.look0 e2
  obtain ⟨p,C,dx,fs,rfl,ns,hp,_,rn⟩:=oe r
  obtain ⟨c1,c2⟩:=hc cn (by simpa using hcn) C ns
  obtain ⟨v',l,rv⟩:=rn.look e3
  refine ⟨p,C,dx,fs,v',rfl,hp,c1,c2,l,q _ _ ?_⟩
  obtain ⟨A',fr2⟩:=fr1.pop
  have rF:Rp X.K F v' d':=by
    rcases Bool.or_eq_true_iff.mp hh with z | z
    · have rr:Rp X.K F (.ref p) (f9 cn kvs):=rf (by simpa using z)
      obtain ⟨p2,C2,dx2,fs2,ep,ns2,hp2,_,rn2⟩:=oe rr
      cases ep
      have:=fr1.fh _ _ hp2
      rw [hp] at this
      cases this
      obtain ⟨v2,l2,rv2⟩:=rn2.look e3
      rw [l] at l2
      cases l2
      exact rv2
    · exact fr1.cold rv z
  exact ⟨F,A',fr2.push ⟨rfl,_,rfl,rF⟩⟩
theorem fN {k:Nat} {c:List PyData→Option Sl} {pl:Sem Bool} (D:DispM X.prog X.w X.K X.mg X.base k m c) (hr:Room k X.A) (he:EX X o m1 g)
    (ht:eval (.Call (.Attribute o m apos) [] [] pos) X.env=(do
      let ov ←eval o X.env
      standAt apos.atName
      let (f,first) ←holding [ov] (getMethod ov m pl)
      callWith pos f first (backTo pos (starEach [] X.env)) (backToKw pos (keywordEach [] X.env))):=by rfl):EX X (.Call (.Attribute o m apos) [] [] pos) m1 (dO c g):=by
  intro pins s σ H Q I z
  obtain ⟨B,E,xs,Xs,res,E',fr,cl,e,q⟩:=z
  obtain ⟨⟨s1,E1⟩,e1,e⟩:=Option.bind_eq_some_iff.mp e
  obtain ⟨d,e2,e⟩:=Option.bind_eq_some_iff.mp e
  obtain ⟨r,e3,e⟩:=Option.map_eq_some_iff.mp e
  cases e
  refine PySem.W.methodCall_KW (pl:=pl) (b8 (he pins s σ H (fun v H1=>Frm X.K B σ H1 E1 (v::xs) (s1::Xs)) I ⟨B,E,xs,Xs,s1,E1,fr,cl,e1,fun v H1 f=>f⟩) fun u t1 ⟨v,H1,I1,rv,F,A,fr1⟩=>?_) ht
  have rp:=(fr1.look0 e2).1
  obtain ⟨p,C,dx,fs,rfl,hp,l,c1,c',e3',f0,fd,Fk,b,mt⟩:=D H1 v d res e3 rp
  obtain rfl:u=Value.ref p:=rv
  obtain ⟨A',fr2⟩:=fr1.pop
  refine jk I1 hp c1 mt l ?_
  exact PySem.W.callWith_K0 (first:=[.ref p]) I1.kIn mt.kp (nP (us:=[.ref p]) (vs:=[.ref p]) Fk hr b .nil oM I1 (.cons rfl .nil) ⟨[d],res,e3', .cons rp .nil,fun v H' gg q'=>q v H' (fr2.told gg q')⟩)
theorem jc {k:Nat} {ps:List Str} {c:List PyData→Option (List (PyData×PyData))} (M:MkOk X.prog X.w X.K X.mg X.base k cn ps c) (hr:Room (k+1) X.A) (hg:Gl X cn) (ha:AX X (e::es) m1 ga) (hdb:(cn == ("__debug__":Str))=false:=by decide) (he:starEach (e::es) X.env=(false,eval e X.env)::starEach es X.env:=by rfl) (hpl:(backTo pos (starEach es X.env)).any (·.1)=false:=by rfl):
    EX X (.Call (.Name cn p) (e::es) [] pos) m1 (iV cn c ga):=by
  obtain ⟨C,f,fd,ck,mk,Fk,b⟩:=M.ex
  refine a7 (t_ mk Fk hr hg ck.mg b .nil oM ha hdb he hpl) fun σ H Q z=>?_
  obtain ⟨B,E,xs,Xs,res,E',fr,cl,e,q⟩:=z
  obtain ⟨⟨rs,E1⟩,e1,e⟩:=Option.bind_eq_some_iff.mp e
  obtain ⟨ds,e2,e⟩:=Option.bind_eq_some_iff.mp e
  obtain ⟨kvs,e3,e⟩:=Option.map_eq_some_iff.mp e
  cases e
  refine ⟨B,E,xs,Xs,rs,E1,fr,cl,e1,fun vs H1 hl ⟨F,A,fr1⟩=>fun x dx nx ndx ne=>?_⟩
  obtain ⟨r1,A',fr2⟩:=fr1.looks hl e2
  have g0:Same H1 (upd (upd H1 dx (.own x)) x (.ins C dx [])):=fun b o z=>by
    rw [au (aL z nx),au (aL z ndx)]
    exact z
  refine ⟨x,dx,vs++[],ds,kvs,rfl,az,e3,⟨H1,nx,g0,by rw [List.append_nil];exact r1⟩,fun fs H' k1 k2 k3 k4=>⟨rfl,?_⟩⟩
  have g1:Same H1 H':=fun b o z=>k1 b o (aL z nx) (g0 b o z)
  exact q _ _ (fr2.told g1 (show iQ X.K H1 H' (.ref x) (.sh (f9 cn kvs)) from .obj ck.ns (dP k2 rfl) k3 k4))
end
theorem wX {P:Program} {w:World} {K:PySem.W.Frag} {mg:Str→Option Value} {base:Heap} {x qn:Str} {st:Stmt} {N ps:List Str} {k a n:Nat} {g:bW} {f0:Addr} {fd:FuncData} (D:Fun K x qn st f0 fd) (S:FnScope N ps (ai st)) (hpa:ps.length=a) (hNn:N.length=n) (hps:a≤n)
    (hbody:∀(cdv:Value) (A:Around) (outer:List Env) (s:Shared) (H:Hp) (E:XK),Room k (A.deeper (PyProof.Rows.envOfC qn (ai st) s.heap.objs.size f0 cdv))→
      pW (j1 iK P w K mg base N qn (ai st) f0 cdv A outer s H E).nox (bo st) g):FnOk P w K mg base iK (k+1) f0 fd ps (da K (cr a n g)):=by
  subst hpa hNn
  refine D.ok S (fun vs H Q E h=>?_) (fun cdv A outer s H vs Q E hr h=>?_)
  · obtain ⟨ds,r,e,rp,_⟩:=h
    unfold cr at e
    split at e
    · rename_i hl
      rw [rp.len];exact hl
    · cases e
  obtain ⟨ds,r,e,rp,q⟩:=h
  unfold cr at e
  split at e
  · rename_i hl
    refine ⟨_,hbody cdv A outer s H E hr,?_⟩
    obtain ⟨⟨E',fl⟩,e1,e⟩:=Option.bind_eq_some_iff.mp e
    refine ⟨H,ay N.length ds,[],[],E',fl,⟨H,[],lI rp (by omega)⟩,rfl,e1,?_⟩
    cases fl with
    | nx=>
      cases e
      rintro σ' H' ⟨F',A',fr'⟩
      exact q _ _ (fr'.bf.trans fr'.fh) .non
    | bk=>cases e
    | ct=>cases e
    | rt r'=>
      rintro σ' v H' ⟨F',A',fr'⟩
      obtain ⟨s1,s2⟩:=fr'.resultO e
      exact q v H' s1 s2
  · cases e
end PL
namespace PL
open PySem L2 Nh PyProof.Rows
theorem qi {K:PySem.W.Frag} {a l:Addr} {xs:List V} {g:TG} {tt:TT} {te:TE} {Q:VK} {σi:L2.St} {H1:Hp} (Pv:Nat→L2.St→Hp→Prop) (h0:Pv 0 σi (upd H1 l (.lst []))) (hl:∀i σ H,i≤xs.length→Pv i σ H→SqL K H a xs)
    (hs:∀i x σ H,xs[i]? =some x→Pv i σ H→g x σ H fun σ3 H3=>tt σ3 H3 fun b H4=>if b=true then te σ3 H4 fun y H5=>∃ys,H5 l=some (.lst ys)∧ys.length < sizeLine∧Pv (i+1) σ3 (upd H5 l (.lst (ys++[y]))) else Pv (i+1) σ3 H4)
    (hd:∀σ H,Pv xs.length σ H→Q (.ref l) H):∃W:Nat→Nat→L2.St→Hp→Prop,(∃m,W 0 m σi (upd H1 l (.lst [])))∧
  ∀i m σ' H',W i m σ' H'→((wS K a).stop i H'∧Q (.ref l) H')∨((wS K a).go i H'∧∃N:L2.St→Hp→Prop,(∀σ' H',N σ' H'→∃m',m' < m∧W (i+1) m' σ' H')∧∀x H2,(wS K a).yld i H' x H2→g x σ' H2 fun σ3 H3=>tt σ3 H3 fun b H4=>
    if b=true then te σ3 H4 fun y H5=>∃ys,H5 l=some (.lst ys)∧ys.length < sizeLine∧N σ3 (upd H5 l (.lst (ys++[y]))) else N σ3 H4):=by
  refine ⟨fun i m σ H=>m=xs.length - i∧i≤xs.length∧Pv i σ H,⟨xs.length,by simp,Nat.zero_le _,h0⟩,?_⟩
  rintro i m σ H ⟨rfl,hi,p⟩
  have q:=hl i σ H hi p
  by_cases hlt:i < xs.length
  · refine .inr ⟨⟨xs,xs[i],q,by simp [hlt]⟩,Pv (i+1),fun σ' H' p'=>⟨xs.length - (i+1),by omega,rfl,hlt,p'⟩,fun x H' y=>?_⟩
    obtain ⟨e,y⟩:=y
    subst e
    exact hs i x σ _ (y xs q) p
  · have e:i=xs.length:=by omega
    subst e
    exact .inl ⟨⟨xs,q,Nat.le_refl _⟩,hd σ H p⟩
def lO (K:PySem.W.Frag) (c:List PyData→Option Sl) (ta:TE):TE:=fun σ H Q=>ta σ H fun v H1=>∃d r,c [d]=some r∧Rp K H1 v d∧∀v' H',Same H1 H'→iQ K H1 H' v' r→Q v' H'
theorem sK {X:Cx} {o:Expr} {m:Str} {pos apos:Pos} {ta:TE} {k:Nat} {c:List PyData→Option Sl} {pl:Sem Bool} (D:DispM X.prog X.w X.K X.mg X.base k m c) (hr:Room k X.A) (he:PE X o ta)
    (ht:eval (.Call (.Attribute o m apos) [] [] pos) X.env=(do
      let ov ←eval o X.env
      standAt apos.atName
      let (f,first) ←holding [ov] (getMethod ov m pl)
      callWith pos f first (backTo pos (starEach [] X.env)) (backToKw pos (keywordEach [] X.env))):=by rfl):PE X (.Call (.Attribute o m apos) [] [] pos) (lO X.K c ta):=by
  intro pins s σ H Q I z
  refine PySem.W.methodCall_KW (pl:=pl) (b8 (he pins s σ H _ I z) fun u t1 ⟨v,H1,I1,rv,d,r,e3,rp,q⟩=>?_) ht
  obtain ⟨p,C,dx,fs,rfl,hp,l,c1,c',e3',f0,fd,Fk,b,mt⟩:=D H1 v d r e3 rp
  obtain rfl:u=Value.ref p:=rv
  refine jk I1 hp c1 mt l ?_
  exact PySem.W.callWith_K0 (first:=[.ref p]) I1.kIn mt.kp (nP (us:=[.ref p]) (vs:=[.ref p]) Fk hr b .nil oM I1 (.cons rfl .nil) ⟨[d],r,e3', .cons rp .nil,q⟩)
def dS:List PyData→Option (List (PyData×PyData))
  | [.str n, .int t]=>some [(.str "nail", .str n),(.str "turns", .int t),(.str "size", .int 1)]
  | _=>none
def wY (c:List PyData→Option Sl):List PyData→Option (List Int)
  | []=>some []
  | d::r=>match c [d] with
    | some (.sh (.int z))=>(wY c r).map (z:: ·)
    | _=>none
def dA (c:List PyData→Option Sl):List PyData→Option (List (PyData×PyData))
  | [.list ds]=>(wY c ds).bind fun zs=>if aU ds&&decide (ds.length≤1000000) then some [(.str "kept", .tuple ds),(.str "size", .int zs.sum)] else none
  | _=>none
def jJ (t:List (Str×(List PyData→Option Sl))):List PyData→Option Sl
  | [.dict ((.none, .tuple [.str cn])::kvs)]=>(t.lookup cn).bind fun c=>c [f9 cn kvs]
  | _=>none
theorem uO {P:Program} {w:World} {K:PySem.W.Frag} {mg:Str→Option Value} {base:Heap} {k:Nat} {m:Str} {t:List (Str×(List PyData→Option Sl))} (hm:m∈jr) (h:∀cn c,t.lookup cn=some c→∃C,ClsOk K mg cn C∧OwnM P w K mg base k C m ["self"] (da K c)):DispM P w K mg base k m (jJ t):=by
  intro H v d r e rp
  unfold jJ at e
  split at e
  · rename_i ds cn kvs ed
    cases ed
    obtain ⟨c,e1,e2⟩:=Option.bind_eq_some_iff.mp e
    obtain ⟨C,ck,ow⟩:=h cn c e1
    obtain ⟨p,C',dx,fs,rfl,ns,hp,nm,_⟩:=oe rp
    rw [ck.ns] at ns
    cases ns
    exact ⟨p,C,dx,fs,rfl,hp,nm m hm,ck.cl,c,e2,ow⟩
  · cases e
theorem OwnM.mono {P:Program} {w:World} {K:PySem.W.Frag} {mg:Str→Option Value} {base:Heap} {j k:Nat} {C:Addr} {m:Str} {ps:List Str} {sp:Sp} (h:OwnM P w K mg base j C m ps sp) (l:j≤k):OwnM P w K mg base k C m ps sp:=by
  obtain ⟨f,fd,F,b,mt⟩:=h.ex
  exact ⟨f,fd,F.mono l,b,mt⟩
theorem DispM.mono {P:Program} {w:World} {K:PySem.W.Frag} {mg:Str→Option Value} {base:Heap} {j k:Nat} {m:Str} {c:List PyData→Option Sl} (h:DispM P w K mg base j m c) (l:j≤k):DispM P w K mg base k m c:=fun H v d r e rp=>by
  obtain ⟨p,C,dx,fs,e1,e2,e3,e4,c',e5,ow⟩:=h H v d r e rp
  exact ⟨p,C,dx,fs,e1,e2,e3,e4,c',e5,ow.mono l⟩
def uP (K:PySem.W.Frag):TS:=qD (nM K (gc 0) (gc 1) "nail") (qD (nM K (gc 0) (gc 2) "turns") (nM K (gc 0) (tC (.int 1)) "size"))
theorem xZ {a b c:Str} {x y z:V} (h:∀m∈jr,m≠a∧m≠b∧m≠c):∀m∈jr,(cC c z (cC b y (cC a x []))).lookup m=none:=fun m hm=>by
  obtain ⟨h1,h2,h3⟩:=h m hm
  rw [aR,if_neg h3,aR,if_neg h2,aR,if_neg h1]
  rfl
theorem fB (f:Str) (x:V) (fs:List (Str×V)):(cC f x fs).length≤fs.length+1:=by have:=gd f x fs;omega
theorem kY {K:PySem.W.Frag} {C:Addr} {H:Hp} {vs:List V} {Q:VK} {E:XK} {D:Ends} {N:List Str} (cl:Cls K C) (n1:NoAttr K C "nail") (n2:NoAttr K C "turns") (n3:NoAttr K C "size") (h:qh K C dS vs H Q E) (hD:∀σ H',Q .non H'→D.nx σ H') (hN:N.length=3:=by rfl):vs.length=3∧uP K D (L2.dD N vs) H:=by
  obtain ⟨x,dx,vs',ds,kvs,rfl,hx,e,⟨H0,x0,s0,r0⟩,k⟩:=h
  unfold dS at e
  split at e
  rotate_left
  · cases e
  rename_i n t
  cases e
  obtain ⟨v1,v2,rfl,r1,r2⟩:=r0.two
  cases r1;cases r2
  refine ⟨rfl,?_⟩
  have hst:L2.dD N [.ref x, .str n, .int t]=[some (.ref x),some (.str n),some (.int t)]:=by unfold L2.dD;rw [hN];rfl
  rw [hst]
  refine ⟨_,rfl,_,rfl,x,C,dx,_,rfl,hx,cl,n1,by show 0 < 1000;decide,?_⟩
  refine ⟨_,rfl,_,rfl,x,C,dx,_,rfl,az,cl,n2,by have:=fB "nail" (.str n) [];simp only [List.length_nil] at this;omega,?_⟩
  refine ⟨_,rfl,x,C,dx,_,rfl,az,cl,n3,by have:=fB "nail" (.str n) [];have:=fB "turns" (.int t) (cC "nail" (.str n) []);simp only [List.length_nil] at *;omega,?_⟩
  refine hD _ _ (k _ _ (fun b o hb hbo=>?_) az (xZ (by decide+kernel)) ?_)
  · rw [au hb,au hb,au hb];exact hbo
  · refine .cons (x:= .str n) ?_ (.str n) (.cons (x:= .int t) ?_ (.int t) (.cons (x:= .int 1) ?_ (.int 1) .nil))
    · rw [aR,if_neg (by decide+kernel),aR,if_neg (by decide+kernel),aR,if_pos rfl]
    · rw [aR,if_neg (by decide+kernel),aR,if_pos rfl]
    · rw [aR,if_pos rfl]
def wE (K:PySem.W.Frag):List V→Hp→VK→Prop:=fun xs H Q=>∃p ys,xs=[.ref p]∧(SqL K H p ys∨SqT K H p ys)∧∀l,H l=none→Q (.ref l) (upd H l (.lst ys))
def wF (K:PySem.W.Frag):List V→Hp→VK→Prop:=fun xs H Q=>∃p ys,xs=[.ref p]∧((SqL K H p ys∧∀l,H l=none→Q (.ref l) (upd H l (.tup ys)))∨(SqT K H p ys∧Q (.ref p) H))
def uQ (K:PySem.W.Frag) (c:List PyData→Option Sl):TS:=qD (nM K (gc 0) (wT (wE K) (oH (gc 1) t8)) "parts") (qD (nM K (gc 0) (wT (wF K) (oH (gc 1) t8)) "kept")
  (nM K (gc 0) (wT (wB K) (oH (oQ [none] (u_ K (gc 1)) (mz 0) rA (lO K c (gc 0))) t8)) "size"))
theorem o_ {c:List PyData→Option Sl}:∀{ds:List PyData} {zs:List Int},wY c ds=some zs→zs.length=ds.length∧∀(i:Nat) (d:PyData),ds[i]? =some d→∃z,zs[i]? =some z∧c [d]=some (.sh (.int z))
  | [],zs,e=>by cases e;exact ⟨rfl,fun i d h=>by simp at h⟩
  | d::r,zs,e=>by
    unfold wY at e
    split at e
    · rename_i z hc
      obtain ⟨zs',e1,rfl⟩:=Option.map_eq_some_iff.mp e
      obtain ⟨h1,h2⟩:=o_ e1
      refine ⟨by simp [h1],fun i d' h=>?_⟩
      cases i with
      | zero=>simp at h;subst h;exact ⟨z,rfl,hc⟩
      | succ i=>simpa using h2 i d' (by simpa using h)
    · cases e
theorem kZ {K:PySem.W.Frag} {C:Addr} {c:List PyData→Option Sl} {H:Hp} {vs:List V} {Q:VK} {E:XK} {D:Ends} {N:List Str} (cl:Cls K C) (n1:NoAttr K C "parts") (n2:NoAttr K C "kept") (n3:NoAttr K C "size") (h:qh K C (dA c) vs H Q E) (hD:∀σ H',Q .non H'→D.nx σ H') (hN:N.length=2:=by rfl):vs.length=2∧uQ K c D (L2.dD N vs) H:=by
  obtain ⟨x,dx,vs',ds,kvs,rfl,hx,e,⟨H0,x0,s0,r0⟩,k⟩:=h
  unfold dA at e
  split at e
  rotate_left
  · cases e
  rename_i ds
  obtain ⟨zs,ez,e⟩:=Option.bind_eq_some_iff.mp e
  split at e
  rotate_left
  · cases e
  rename_i hf
  cases e
  obtain ⟨hf,hlen⟩:=Bool.and_eq_true_iff.mp hf
  have hlen:ds.length≤1000000:=by simpa using hlen
  cases r0 with
  | @cons v _ _ _ r1 r2=>
  cases r2
  cases r1 with
  | @lst a ws _ hq hr=>
  obtain ⟨zl,zg⟩:=o_ ez
  have wl:=hr.len
  refine ⟨rfl,?_⟩
  have hst:L2.dD N [.ref x, .ref a]=[some (.ref x),some (.ref a)]:=by unfold L2.dD;rw [hN];rfl
  rw [hst]
  refine ⟨_,rfl,a,ws,rfl, .inl (s0.seq hq),fun l hl=>?_⟩
  have xl:x≠l:=fun z=>by rw [z,hl] at hx;cases hx
  refine ⟨_,rfl,x,C,dx,_,rfl,by rw [au xl];exact hx,cl,n1,by show 0 < 1000;decide,?_⟩
  have g2:Same H0 (upd (upd H l (.lst ws)) x (.ins C dx (cC "parts" (.ref l) []))):=fun b o z=>by
    rw [au (aL z x0),au (aL (s0 _ _ z) hl)];exact s0 _ _ z
  refine ⟨_,rfl,a,ws,rfl, .inl ⟨g2.seq hq,fun t ht=>?_⟩⟩
  have xt:x≠t:=fun z=>by rw [←z,az] at ht;cases ht
  have tl:t≠l:=fun z=>by rw [z,au xl.symm,az] at ht;cases ht
  have tH:H t=none:=by rw [au xt.symm,au tl] at ht;exact ht
  refine ⟨_,rfl,x,C,dx,_,rfl,by rw [au xt];exact az,cl,n2,by have:=fB "parts" (.ref l) [];simp only [List.length_nil] at this;omega,?_⟩
  generalize hH4:upd (upd (upd (upd H l (.lst ws)) x (.ins C dx (cC "parts" (.ref l) []))) t (.tup ws)) x (.ins C dx (cC "kept" (.ref t) (cC "parts" (.ref l) [])))=H4
  have x4:H4 x=some (.ins C dx (cC "kept" (.ref t) (cC "parts" (.ref l) []))):=by rw [←hH4,az]
  have t4:H4 t=some (.tup ws):=by rw [←hH4,au xt.symm,az]
  have b4:∀b o,b≠x→H b=some o→H4 b=some o:=fun b o hb z=>by
    rw [←hH4,au hb,au (aL z tH),au hb,au (aL z hl)];exact z
  have g4:Same H0 H4:=fun b o z=>b4 b o (aL z x0) (s0 _ _ z)
  refine ⟨_,rfl,a,rfl,⟨ws,g4.seq hq⟩,fun lc hlc=>?_⟩
  refine qi (K:=K) (a:=a) (xs:=ws) (g:=mz 0) (tt:=rA) (te:=lO K c (gc 0)) (σi:=[none]) (Q:=fun y H5=>wB K [y] H5 fun z H6=>gc 0 [some (.ref x),some (.ref a)] H6 fun u H7=>∃a' C' dx' fs',u= .ref a'∧H7 a'=some (.ins C' dx' fs')∧Cls K C'∧NoAttr K C' "size"∧fs'.length < 1000∧D.nx [some (.ref x),some (.ref a)] (upd H7 a' (.ins C' dx' (cC "size" z fs')))) (fun i σ H'=>(∃y,σ=[y])∧Same H4 H'∧H' lc=some (.lst ((zs.take i).map V.int))) ⟨⟨_,rfl⟩,ft hlc _,by rw [az];rfl⟩ (fun i σ H' _ ⟨_,s4,_⟩=>(g4.trans s4).seq hq) (fun i y σ H' hy ⟨⟨y0,es⟩,s4,hl4⟩=>?_) fun σ H' ⟨⟨y0,es⟩,s4,hl4⟩=>?_
  · subst es
    refine pV ?_
    obtain ⟨d,ed,rd⟩:=hr.getV hy
    obtain ⟨z,ez',ec⟩:=zg i d ed
    refine ⟨y,rfl,d,_,ec,rd.same (g4.trans s4),fun v' H5 s5 rv=>?_⟩
    have rv:Rp K (tups H5) v' (.int z):=rv
    cases rv
    have hi:i < ws.length:=(List.getElem?_eq_some_iff.mp hy).1
    refine ⟨_,s5 _ _ hl4,mK (by rw [List.length_map,List.length_take];omega),⟨_,rfl⟩,fun b o e=>?_,?_⟩
    · rw [au (aL e hlc)];exact s5 _ _ (s4 _ _ e)
    · rw [az,List.take_add_one,ez'];simp
  · subst es
    have tk:zs.take ws.length=zs:=List.take_of_length_le (by omega)
    rw [tk] at hl4
    refine ⟨lc,zs,rfl,SqL.of hl4,_,rfl,x,C,dx,_,rfl,s4 _ _ x4,cl,n3,by have:=fB "parts" (.ref l) [];have:=fB "kept" (.ref t) (cC "parts" (.ref l) []);simp only [List.length_nil] at *;omega,?_⟩
    refine hD _ _ (k _ _ (fun b o hb hbo=>?_) az (xZ (by decide+kernel)) ?_)
    · rw [au hb];exact s4 _ _ (b4 b o hb hbo)
    · have t6:(upd H' x (.ins C dx (cC "size" (.int zs.sum) (cC "kept" (.ref t) (cC "parts" (.ref l) []))))) t=some (.tup ws):=by rw [au xt.symm];exact s4 _ _ t4
      have g6:Same H0 (upd H' x (.ins C dx (cC "size" (.int zs.sum) (cC "kept" (.ref t) (cC "parts" (.ref l) []))))):=fun b o z=>by rw [au (aL z x0)];exact s4 _ _ (g4 _ _ z)
      refine .cons (x:= .ref t) ?_ (.tup (.inl (.inl (dP t6 rfl))) ((hr.same g6).cold hf)) (.cons (x:= .int zs.sum) ?_ (.int _) .nil)
      · rw [aR,if_neg (by decide+kernel),aR,if_pos rfl]
      · rw [aR,if_pos rfl]
end PL
namespace PL
open PySem L2 Nh
open PySem.W (nsIn codeIn keepIn fnOf findIn isFn)
structure CF (K:PySem.W.Frag) (cn:Str) (C:Addr):Prop where
  ns:nsIn K mainGlobals cn=some (some (.ref C))
  pg:PySem.W.plainGet K C Str.empty=true
  hd:PySem.W.hasDictIn K C=true
  po:PySem.W.plainOver K C=true
  sa:findIn K (.ref C) "__setattr__"=some (some (.builtin "object.__setattr__"))
  mi:PySem.W.makesIn K C=true
  kc:keepIn K (.ref C)=true
theorem CF.ok {K:PySem.W.Frag} {h:Heap} {mg:Str→Option Value} {cn:Str} {C:Addr} (c:CF K cn C) (X:K.In h) (G:h.Ns mainGlobals mg):ClsOk K mg cn C:=⟨c.ns,PySem.W.mg_of X G c.ns,c.pg,c.hd,c.po,c.sa⟩
def HM (K:PySem.W.Frag) (C:Addr) (m qn:Str) (st:Stmt):Prop:=∃(f:Addr) (oc:Value) (od an:Option Addr) (sl:Array (Option Value)) (kV dc pm cd ct:Value),findIn K (.ref C) m=some (some (.ref f))∧isFn K (.ref f)=true∧K.lookup f=some ⟨oc,od, .func (fnOf m qn (cw st) (bo st) (ai st) .none kV dc pm an cd ct),sl⟩∧codeIn K cd qn=true∧keepIn K (.ref f)=true
theorem vp {K:PySem.W.Frag} {C:Addr} {m qn:Str} {st:Stmt} {f:Addr} {oc:Value} {od an:Option Addr} {sl:Array (Option Value)} {kV dc pm cd ct:Value} (a:findIn K (.ref C) m=some (some (.ref f))) (i:isFn K (.ref f)=true) (l:K.lookup f=some ⟨oc,od, .func (fnOf m qn (cw st) (bo st) (ai st) .none kV dc pm an cd ct),sl⟩) (c:codeIn K cd qn=true) (k:keepIn K (.ref f)=true):HM K C m qn st:=⟨f,oc,od,an,sl,kV,dc,pm,cd,ct,a,i,l,c,k⟩
section
variable {P:Program} {w:World} {K:PySem.W.Frag} {mg:Str→Option Value} {base:Heap} {k:Nat} {C:Addr} {cn m qn:Str} {st:Stmt} {ps:List Str} {sp:Sp}
theorem HM.own (h:HM K C m qn st) (F:∀f fd,Fun K m qn st f fd→FnOk P w K mg base iK k f fd ps sp) (b:∀(kV doc pm:Value) (an:Option Addr) (cdv ct:Value) (us:List Value),us.length=ps.length→bindArgs (fnOf m qn (cw st) (bo st) (ai st) .none kV doc pm an cdv ct) ⟨us,[]⟩=pure (ps.zip us)):OwnM P w K mg base k C m ps sp:=by
  obtain ⟨f,oc,od,an,sl,kV,dc,pm,cd,ct,a,i,l,c,kp⟩:=h
  have D:=jp (st:=st) l c kp
  exact ⟨f,_,F _ _ D,D.binds b,a,i,kp⟩
theorem HM.mkOk {c:List PyData→Option (List (PyData×PyData))} (h:HM K C "__init__" qn st) (cf:CF K cn C) (ck:ClsOk K mg cn C) (F:∀f fd,Fun K "__init__" qn st f fd→FnOk P w K mg base iK k f fd ps (qh K C c)) (b:∀(kV doc pm:Value) (an:Option Addr) (cdv ct:Value) (us:List Value),us.length=ps.length→bindArgs (fnOf "__init__" qn (cw st) (bo st) (ai st) .none kV doc pm an cdv ct) ⟨us,[]⟩=pure (ps.zip us)):MkOk P w K mg base k cn ps c:=by
  obtain ⟨f,oc,od,an,sl,kV,dc,pm,cd,ct,a,i,l,c,kp⟩:=h
  have D:=jp (st:=st) l c kp
  exact ⟨C,f,_,ck,⟨cf.mi,a,i,cf.kc⟩,F _ _ D,D.binds b⟩
end
theorem x_ {α:Type} {cn x y:Str} {a b c:α} (h:([(x,a),(y,b)]:List (Str×α)).lookup cn=some c):(cn=x∧c=a)∨(cn=y∧c=b):=by
  rw [List.lookup_cons] at h
  split at h
  · rename_i z
    cases h
    exact .inl ⟨beq_iff_eq.mp z,rfl⟩
  · rw [List.lookup_cons] at h
    split at h
    · rename_i z
      cases h
      exact .inr ⟨beq_iff_eq.mp z,rfl⟩
    · cases h
theorem pb {P:Program} {w:World} {K:PySem.W.Frag} {mg:Str→Option Value} {base:Heap} {k:Nat} {m x y:Str} {C D:Addr} {a b:List PyData→Option Sl} (hm:m∈jr) (c:ClsOk K mg x C) (d:ClsOk K mg y D) (p:OwnM P w K mg base k C m ["self"] (da K a)) (q:OwnM P w K mg base k D m ["self"] (da K b)):DispM P w K mg base k m (jJ [(x,a),(y,b)]):=
  uO hm fun cn e h=>(x_ h).elim (fun ⟨h1,h2⟩=>h1▸h2▸⟨C,c,p⟩) fun ⟨h1,h2⟩=>h1▸h2▸⟨D,d,q⟩
theorem vq {P:Program} {w:World} {K:PySem.W.Frag} {mg:Str→Option Value} {base:Heap} {k:Nat} {m:Str}:DispM P w K mg base k m (fun _=>none):=fun _ _ _ _ e=>nomatch e
theorem ya {K:PySem.W.Frag} {mg:Str→Option Value} {f:Str} {cs:List Str} (h:∀cn∈cs,∃C,ClsOk K mg cn C∧NoAttr K C f):∀cn∈cs,∀C,nsIn K mainGlobals cn=some (some (.ref C))→Cls K C∧NoAttr K C f:=fun cn hc C ns=>by
  obtain ⟨D,d,n⟩:=h cn hc
  rw [d.ns] at ns
  cases ns
  exact ⟨d.cl,n⟩
end PL
namespace PL
open PySem PySem.Calls L2 Nh PyProof.Rows
def jK:List PyData→Option PyData
  | [.int n]=>if n.natAbs.log2 < 1920 then some (.str (Str.ofString (toString n))) else none
  | _=>none
def pc:List PyData→Option PyData
  | [.str x]=>if x.length≤640 then (PySem.intText? x).map PyData.int else none
  | _=>none
def qz (x:Str) (i:Int) (y:Str):Bool:=decide (x.cps.toList[i.toNat]? =y.cps.toList[0]?)
theorem qj {x y:Str} {i:Int} (hy:y.cps.toList.length=1) (hi:0≤i):(decide (fromIndex x.length i+y.length≤x.length)&&Builtin.Str.subAt x y (fromIndex x.length i))=qz x i y:=by
  have ei:fromIndex x.length i=i.toNat:=by
    unfold fromIndex
    rw [if_neg (by omega),Int.max_eq_right hi]
  obtain ⟨⟨ys⟩⟩:=y
  obtain ⟨⟨xs⟩⟩:=x
  have hy:ys.length=1:=hy
  obtain ⟨c,rfl⟩:∃c,ys=[c]:=List.length_eq_one_iff.mp hy
  rw [ei]
  have e1:(Builtin.Str.subAt ⟨⟨xs⟩⟩ ⟨⟨[c]⟩⟩ i.toNat)=(((xs.drop i.toNat).take 1) == [c]):=by
    show ((Array.mk xs).extract i.toNat (i.toNat+1) == #[c])=_
    have:(Array.mk xs).extract i.toNat (i.toNat+1)=((xs.drop i.toNat).take 1).toArray:=by
      apply Array.ext'
      simp [List.extract]
    rw [this]
    generalize (xs.drop i.toNat).take 1=l
    show (l.toArray == [c].toArray)=_
    simp
  rw [e1]
  show (decide (i.toNat+1≤xs.length)&&((xs.drop i.toNat).take 1 == [c]))=decide (xs[i.toNat]? =some c)
  by_cases h:i.toNat < xs.length
  · have:(xs.drop i.toNat).take 1=[xs[i.toNat]]:=by
      rw [List.drop_eq_getElem_cons h];rfl
    rw [this,List.getElem?_eq_getElem h,decide_eq_true (by omega:i.toNat+1≤xs.length),Bool.true_and]
    by_cases hc:xs[i.toNat]=c
    · rw [hc];simp
    · rw [decide_eq_false (by simpa using hc)]
      simpa using hc
  · rw [decide_eq_false (by omega:¬i.toNat+1≤xs.length),Bool.false_and,List.getElem?_eq_none (by omega)]
    rfl
section
variable {X:Cx} {e e2:Expr} {m1:Bool} {g:j4} {x:Str} {p pos apos cpos:Pos}
theorem qk:CallR X (.type "str") (fun xs H Q=>∃n,xs=[.int n]∧n.natAbs.log2 < 1920∧Q (.str (Str.ofString (toString n))) H):=by
  intro pins s σ H xs us Q I r h
  obtain ⟨n,rfl,hn,q⟩:=h
  obtain ⟨u,rfl,ru⟩:=r.one
  obtain ⟨t,rfl⟩:=ru
  exact PySem.P.str_of_int hn ⟨.str _,H,I.tok _,⟨_,rfl⟩,q⟩
theorem ql:CallR X (.type "int") (fun xs H Q=>∃x n,xs=[.str x]∧x.length≤640∧PySem.intText? x=some n∧Q (.int n) H):=by
  intro pins s σ H xs us Q I r h
  obtain ⟨x,n,rfl,hl,hn,q⟩:=h
  obtain ⟨u,rfl,ru⟩:=r.one
  obtain ⟨t,rfl⟩:=ru
  exact PySem.W.KIN.call_text hn hl ⟨.int _,H,I.tok _,⟨_,rfl⟩,q⟩
theorem pd (hg:Gl X "str") (hm:X.mg "str"=none) (ha:AX X [e] m1 g) (he:starEach [e] X.env=[(false,eval e X.env)]:=by rfl):EX X (.Call (.Name "str" p) [e] [] pos) m1 (bn jK g):=
  a7 (eK qk hg hm PyProof.Rows.boot_str ha (by decide) (by decide) he rfl) fun _ _ _ z=>lG (fun ds d vs H Q e r=>by
    unfold jK at e
    split at e
    · split at e
      · rename_i hn
        cases e
        obtain ⟨v,rfl,r'⟩:=r.one
        cases r'
        exact ⟨_,rfl,fun q=>⟨_,rfl,hn,q⟩⟩
      · cases e
    · cases e) z
theorem uR (hg:Gl X "int") (hm:X.mg "int"=none) (ha:AX X [e] m1 g) (he:starEach [e] X.env=[(false,eval e X.env)]:=by rfl):EX X (.Call (.Name "int" p) [e] [] pos) m1 (bn pc g):=
  a7 (eK ql hg hm PyProof.Rows.boot_int ha (by decide) (by decide) he rfl) fun _ _ _ z=>lG (fun ds d vs H Q e r=>by
    unfold pc at e
    split at e
    · split at e
      · rename_i hn
        obtain ⟨n,e1,e2⟩:=Option.map_eq_some_iff.mp e
        cases e2
        obtain ⟨v,rfl,r'⟩:=r.one
        cases r'
        exact ⟨_,rfl,fun q=>⟨_,_,rfl,hn,e1,q⟩⟩
      · cases e
    · cases e) z
def uS:V→List V→Hp→VK→Prop:=fun v vs H Q=>∃x y i,v= .str x∧vs=[.str y, .int i]∧y.cps.toList.length=1∧0≤i∧Q (.bl (qz x i y)) H
theorem qm:MtR X "str.startswith" uS:=by
  intro pins s σ H x vs v us Q I rx rv h
  obtain ⟨z,y,i,rfl,rfl,hy,hi,q⟩:=h
  obtain ⟨t,rfl⟩:=rx
  obtain ⟨u,w,rfl,ru,rw'⟩:=rv.two
  obtain ⟨tu,rfl⟩:=ru
  obtain ⟨tw,rfl⟩:=rw'
  refine call_gives F.slot_str_startswith (typeIs_str _ _ _) F.entry_str_startswith (F.args_str_startswith_3 _ _ _) (gives_str_startswith_from z y i t tu tw) ?_
  rw [qj hy hi]
  exact ⟨.bl _,H,I,rfl,q⟩
def cV (i:Nat) (g:j4):bN:=fun E=>match E[i]? with
  | some (.sh (.str x))=>(g E).bind fun a=>(aw a.2 a.1).bind fun ds=>match ds with
    | [.str y, .int n]=>if y.cps.toList.length=1∧0≤n then some (.sh (.bool (qz x n y)),a.2) else none
    | _=>none
  | _=>none
theorem iD (i:Nat) (ha:AX X [e,e2] m1 g) (hN:X.N[i]? =some x:=by rfl) (hv:tP X.env.scope x:=by first | exact Or.inl rfl | exact Or.inr (Or.inl rfl) | exact Or.inr (Or.inr rfl)) (hd:(x == ("__debug__":Str))=false:=by decide) (hcd:(x == ("__classdict__":Str))=false:=by decide)
    (hs:starEach [e,e2] X.env=(false,eval e X.env)::starEach [e2] X.env:=by rfl) (hpl:(backTo cpos (starEach [e2] X.env)).any (·.1)=false:=by rfl) (hbase:attributeBase (.Name x p) "startswith" X.env (eval (.Name x p) X.env)=eval (.Name x p) X.env:=by rfl)
    (hfew:((backTo cpos (starEach [e,e2] X.env)).all (fun x=> !x.1)&&(backToKw cpos (keywordEach [] X.env)).all (fun x=>x.1.isSome)
      &&decide (([e,e2]:List Expr).length+([]:List Keyword).length+(if ([]:List Keyword).isEmpty then 0 else 1) < 30))=true:=by rfl) (hline:(apos.endLine == cpos.line)=true:=by rfl):
    EX X (.Call (.Attribute (.Name x p) "startswith" apos) [e,e2] [] cpos) m1 (cV i g):=by
  refine a7 (oK PySem.F.plainAttrs_str PySem.F.slot_str_startswith PySem.F.type_str_startswith qm (gV hN hv hd hcd) ha hbase hfew hline hs hpl) fun σ H Q z=>?_
  obtain ⟨B,E,xs,Xs,res,E',⟨F,A,fr⟩,cl,e,q⟩:=z
  unfold cV at e
  split at e
  · rename_i z ei
    obtain ⟨⟨rs,E1⟩,e1,e⟩:=Option.bind_eq_some_iff.mp e
    obtain ⟨ds,e2,e⟩:=Option.bind_eq_some_iff.mp e
    simp only at e
    split at e
    · rename_i y n
      split at e
      · rename_i hc
        cases e
        obtain ⟨o,A1,eo,rfl,v0,rfl,rp⟩:=fr.var ei
        cases rp
        refine ⟨_,eo,rfl,B,E,xs,Xs,rs,E',⟨F,A,fr⟩,cl,e1,fun vs H1 hl ⟨F1,A1,fr1⟩=>?_⟩
        obtain ⟨r1,A',fr2⟩:=fr1.looks hl e2
        obtain ⟨v1,v2,rfl,ra,rb⟩:=r1.two
        cases ra;cases rb
        exact ⟨z,y,n,rfl,rfl,hc.1,hc.2,q _ _ ⟨F1,A',fr2.push ⟨rfl,_,rfl, .bl _⟩⟩⟩
      · cases e
    · cases e
  · cases e
end
end PL
namespace NH
open PySem PySem.NumText PyProof.Rows PySem.W PySem.W.KIN
def dg (m:Nat):List Nat:=(Nat.toDigits 10 m).map Char.toNat
theorem fD {m:Nat} (h:m < 10):dg m=[(Nat.digitChar m).toNat]:=by unfold dg;rw [Nat.toDigits_of_lt_base h];rfl
theorem lP {m:Nat} (h:¬m < 10):dg m=dg (m / 10)++dg (m % 10):=by
  have hm:m % 10 < 10:=Nat.mod_lt m (by decide)
  have t:Nat.toDigits 10 (m / 10)++Nat.toDigits 10 (m % 10)=Nat.toDigits 10 (10*(m / 10)+m % 10):=Nat.toDigits_append_toDigits (by decide) (by omega) hm
  rw [Nat.div_add_mod] at t
  unfold dg
  rw [←t,List.map_append]
theorem lQ (m:Nat):AllDigits (dg m):=fun c hc=>by
  obtain ⟨ch,hch,e⟩:=List.mem_map.mp hc
  rw [←e]
  exact digit_range (Nat.isDigit_of_mem_toDigits (by decide) (by decide) hch)
theorem m9 (m:Nat):dg m≠[]:=by
  by_cases h:m < 10
  · rw [fD h];simp
  · rw [lP h,fD (Nat.mod_lt m (by decide))];simp
theorem pe (m:Nat) (h0:m≠0):(dg m).head? ≠some 48:=by
  induction m using Nat.strongRecOn with
  | _ m ih=>
    by_cases h:m < 10
    · rw [fD h]
      have:∀d:Nat,d < 10→d≠0→some (Nat.digitChar d).toNat≠some 48:=by decide
      exact this m h h0
    · rw [lP h]
      have e:=ih (m / 10) (by omega) (by omega)
      have n:=m9 (m / 10)
      cases q:dg (m / 10) with
      | nil=>exact absurd q n
      | cons a r=>rw [q] at e;exact e
theorem lR (k:Nat):∀m:Nat,m < 10 ^ (k+1)→(dg m).length≤k+1:=by
  induction k with
  | zero=>intro m h;rw [fD (by simpa using h)];simp
  | succ k ih=>
    intro m h
    by_cases hm:m < 10
    · rw [fD hm];simp
    · rw [lP hm,fD (Nat.mod_lt m (by decide)),List.length_append]
      have:=ih (m / 10) (by rw [Nat.pow_succ] at h;omega)
      simp only [List.length_cons,List.length_nil]
      omega
theorem sL (m:Nat):digitsVal (dg m)=m:=val_back m
def jZ (t:Int):List Nat:=(Str.ofString (toString t)).cps.toList
theorem og (m:Nat):jZ (m:Int)=dg m:=signs_num m
theorem oh (m:Nat):jZ (Int.negSucc m)=45::dg (m+1):=by
  unfold jZ
  rw [signs_ofString]
  show (("-"++Nat.repr (m+1)).toList).map Char.toNat=_
  rw [String.toList_append,List.map_append,Nat.toList_repr]
  rfl
theorem m_ {t:Int} (h0:t≠0) (h1:t.natAbs < 10 ^ 30):∃s D,jZ t=s++D∧(s=[]∨s=[45])∧AllDigits D∧D≠[]∧D.head? ≠some 48∧D.length≤30∧PySem.intText? ⟨(jZ t).toArray⟩=some t:=by
  cases t with
  | ofNat m=>
    have hm:m≠0:=fun z=>h0 (by rw [z];rfl)
    have hl:(dg m).length≤30:=lR 29 m h1
    refine ⟨[],dg m,og m, .inl rfl,lQ m,m9 m,pe m hm,hl,?_⟩
    have e:jZ (Int.ofNat m)=dg m:=og m
    rw [e]
    have z:=intText_digits (x:=⟨(dg m).toArray⟩) (by simpa using lQ m) (by simpa using m9 m) (by show (dg m).toArray.size≤4300;simp;omega)
    rw [z]
    show some ((digitsVal (dg m).toArray.toList:Nat):Int)=_
    rw [show (dg m).toArray.toList=dg m by simp,sL]
    rfl
  | negSucc m=>
    have hl:(dg (m+1)).length≤30:=lR 29 (m+1) h1
    refine ⟨[45],dg (m+1),oh m, .inr rfl,lQ _,m9 _,pe _ (by omega),hl,?_⟩
    rw [oh]
    have z:=intText_neg (x:=⟨(45::dg (m+1)).toArray⟩) (cs:=dg (m+1)) (by simp) (lQ _) (m9 _) (by show (45::dg (m+1)).toArray.size≤4300;simp;omega)
    rw [z,sL]
    rfl
theorem oj {t:Int} (h1:t.natAbs < 10 ^ 30):(jZ t).length≤31:=by
  cases t with
  | ofNat m=>rw [show jZ (Int.ofNat m)=dg m from og m];have:(dg m).length≤30:=lR 29 m h1;omega
  | negSucc m=>rw [oh];have:(dg (m+1)).length≤30:=lR 29 (m+1) h1;simp;omega
end NH
namespace Nhk65
open PySem L2 Nh PL
def cK:bW:=(aC (mv (bp (ae eY false (ab 0) (pC (.int 1)))) (pC (.str "")) (bn jK (ad false (ab 0) ao))))
def bi:List PyData→Option Sl:=cr 1 1 cK
def dB:bW:=(aC (fL ["Piece","Parts"] "size" (ab 0)))
def bZ:List PyData→Option Sl:=cr 1 1 dB
def dU:bW:=(aC (dy (aO (eO (aO (fL ["Piece"] "nail" (ab 0)) (aO (fL ["Piece"] "turns" (ab 0)) bC))) bC)))
def bt:List PyData→Option Sl:=cr 1 1 dU
def dW:bW:=(aC (ae aG false (fL ["Piece"] "nail" (ab 0)) (ak bi (ad false (fL ["Piece"] "turns" (ab 0)) ao))))
def bu:List PyData→Option Sl:=cr 1 1 dW
def dJ (self:List PyData→Option Sl):bW:=(ap (aI (bp (ae (bS (bg .gt)) false (fL ["Piece","Parts"] "size" (ab 0)) (pC (.int 4000))))
  g7
  ax)
  (aC (mv (bp (ae (bS (bg .gt)) false (fL ["Piece","Parts"] "size" (ab 0)) (pC (.int 0)))) (dO self (ab 0)) (dy bC))))
def aK (self:List PyData→Option Sl):List PyData→Option Sl:=cr 1 1 (dJ self)
def bE:i9:=(a_ 2)
def bF (self:List PyData→Option Sl):bW:=(cy (ja 1 (dO self (ab 2))))
def dX (self:List PyData→Option Sl):bW:=(ap (av 1 (dy bC))
  (ap (gL (iz (fL ["Parts"] "kept" (ab 0))) bE
  (bF self))
  (aC (ab 1))))
def bP (self:List PyData→Option Sl):List PyData→Option Sl:=cr 1 3 (dX self)
def cW:i9:=(a_ 0)
def b_ (self:List PyData→Option Sl):bN:=(dO self (ab 0))
def dY (self:List PyData→Option Sl):bW:=(aC (sw "" (iR [none] (iz (fL ["Parts"] "kept" (ab 0))) cW gS (b_ self))))
def bQ (self:List PyData→Option Sl):List PyData→Option Sl:=cr 1 1 (dY self)
def bw:List PyData→Option Sl:=jJ [("Piece",bZ),("Parts",bZ)]
def cT:Nat→List PyData→Option Sl
  | 0=>fun _=>none
  | n+1=>jJ [("Piece",bu),("Parts",bQ (cT n))]
def tK (m:List PyData→Option Sl):List PyData→Option Sl:=jJ [("Piece",aK m),("Parts",aK m)]
def cM:Nat→List PyData→Option Sl
  | 0=>fun _=>none
  | n+1=>jJ [("Piece",bt),("Parts",bP (tK (cM n)))]
def cL:List PyData→Option Sl:=cT 2
def di:List PyData→Option Sl:=tK (cM 2)
def gG:bW:=(aC (oX (fu (f_ .str) (ab 0)) (oX (ae eY false (bn cq (ad false (ab 0) ao)) (pC (.int 1))) (bv (bg .le) (bg .le) false false (pC (.str "a")) (ab 0) (pC (.str "z"))))))
def cY:List PyData→Option Sl:=cr 1 1 gG
def aM:i9:=(dH 2 (bD (a_ 2) (bD (a_ 3) dG)))
def aN:bW:=(ap (av 4 (ab 3))
  (ap (aI (cH (cB (ab 1)) (bp (ae eY false (ae c_ false (ae c_ false (ab 1) (fu eN (pC (.int 1)))) (pC (.int 0))) (ab 2))))
  (av 4 (ae aG false (ae c_ false (gK 1) (pC (.int 1))) (ab 3)))
  ax)
  (aI (bp (ae fG false (ab 4) (pC (.int 0))))
  (cy (be 1 (eO (aO (ab 2) (aO (ab 4) bC)))))
  ax)))
def dZ:bW:=(ap (av 1 (dy bC))
  (ap (gL (iz (ab 0)) aM
  aN)
  (aC (ab 1))))
def ca:List PyData→Option Sl:=cr 1 5 dZ
def aE:ie:=(cH (bp (ae (bS (bg .lt)) false (ab 2) (bn cq (ad false (ab 0) ao)))) (bp (bv (bg .le) (bg .le) false false (pC (.str "0")) (ae c_ false (ab 0) (ab 2)) (pC (.str "9")))))
def b5:bW:=(av 2 (ae aG false (ab 2) (pC (.int 1))))
def dC:bW:=(ap (av 2 (ab 1))
  (ap (g5 aE b5)
  (aC (ab 2))))
def bx:List PyData→Option Sl:=cr 2 3 dC
def bh:bW:=(ap (aI (cB (cV 0 (ad false (pC (.str "0")) (ad false (ab 1) ao))))
  (aC (ae aG false (ab 1) (pC (.int 1))))
  ax)
  (ap (av 2 (mv (cB (cV 0 (ad false (pC (.str "-")) (ad false (ab 1) ao)))) (ae aG false (ab 1) (pC (.int 1))) (ab 1)))
  (ap (av 3 (ak bx (ad false (ab 0) (ad false (ab 2) ao))))
  (ap (aI (dv (cB (cV 0 (ad false (pC (.str "0")) (ad false (ab 2) ao)))) (bT (bp (bv (bg .le) (bg .le) false false (pC (.int 1)) (ae ir false (ab 3) (ab 2)) (pC (.int 30))))))
  (aC (ab 1))
  ax)
  (aC (ab 3))))))
def aA:List PyData→Option Sl:=cr 2 4 bh
def cN:bW:=(ap (av 2 (ak aA (ad false (ab 0) (ad false (ab 1) ao))))
  (aC (iT (iS (gm (mv (bp (ae eY false (ab 2) (ab 1))) (pC (.int 1)) (bn pc (ad false (gM false (ab 0) (dr (ab 1)) (dr (ab 2))) ao))) (gm (ab 2) mZ))))))
def aW:List PyData→Option Sl:=cr 2 3 cN
def d_:bW:=(ap (av 2 (ak aW (ad false (ab 0) (ad false (ae aG false (ab 1) (pC (.int 1))) ao))))
  (aC (iT (iS (gm (iV "Piece" dS (ad false (ae c_ false (ab 0) (ab 1)) (ad false (ae c_ false (ab 2) (pC (.int 0))) ao))) (gm (ae c_ false (ab 2) (pC (.int 1))) mZ))))))
def bR:List PyData→Option Sl:=cr 2 3 d_
def e8:bW:=(ap (aI (cB (ak cY (ad false (ae c_ false (ab 0) (ab 1)) ao)))
  (aC (ak bR (ad false (ab 0) (ad false (ab 1) ao))))
  ax)
  (ap (aI (bp (ae eY false (ae c_ false (ab 0) (ab 1)) (pC (.str "("))))
  g7
  ax)
  (ap (aI (bp (ae eY false (ae c_ false (ab 0) (ab 1)) (pC (.str "["))))
  g7
  ax)
  g7)))
def bI:List PyData→Option Sl:=cr 3 3 e8
def bc:ie:=(cH (bp (ae (bS (bg .lt)) false (ab 4) (bn cq (ad false (ab 0) ao)))) (bp (ae (yw true) false (ae c_ false (ab 0) (ab 4)) (pC (.str "),]")))))
def bG:bW:=(ap (av 5 (ak bI (ad false (ab 0) (ad false (ab 4) (ad false (ab 2) ao)))))
  (ap (cy (be 3 (ae c_ false (ab 5) (pC (.int 0)))))
  (av 4 (ae c_ false (ab 5) (pC (.int 1))))))
def ee:bW:=(ap (aI (bp (ae (bS (bg .gt)) false (ab 2) (pC (.int 30))))
  g7
  ax)
  (ap (av 3 (dy bC))
  (ap (av 4 (ab 1))
  (ap (g5 bc bG)
  (aC (iT (iS (gm (iV "Parts" (dA bw) (ad false (ab 3) ao)) (gm (ab 4) mZ)))))))))
def cb:List PyData→Option Sl:=cr 3 6 ee
def lS:bW:=(ap (aI (bT (cB (fu (f_ .str) (ab 0))))
  g7
  ax)
  (ap (av 1 (ak cb (ad false (ab 0) (ad false (pC (.int 0)) (ad false (pC (.int 0)) ao)))))
  (ap (aI (bp (ae (bS (bg .lt)) false (ae c_ false (ab 1) (pC (.int 1))) (bn cq (ad false (ab 0) ao))))
  g7
  ax)
  (aC (ae c_ false (ab 1) (pC (.int 0)))))))
def e9:List PyData→Option Sl:=cr 1 2 lS
def ef:i9:=(dH 2 (bD (a_ 0) (bD (a_ 1) dG)))
def eh:bN:=(iV "Piece" dS (ad false (ab 0) (ad false (ab 1) ao)))
def gH:bW:=(aC (dO cL (iV "Parts" (dA bw) (ad false (iR [none,none] (iz (ak ca (ad false (ab 0) ao))) ef gS eh) ao))))
def ba:List PyData→Option Sl:=cr 1 1 gH
def h7:bW:=(ap (aI (bp (ae (bS (bg .lt)) false (ab 1) (bn cq (ad false (ab 0) ao))))
  (aC (ae c_ false (ab 0) (ab 1)))
  ax)
  (aC (pC (.int 0))))
def aF:List PyData→Option Sl:=cr 2 2 h7
def gI:bW:=(ap (av 2 (ae aG false (ae aG false (ae cp false (ab 0) (pC (.int 2305843009213693951))) (ae dQ false (pC (.int 131)) (ab 1))) (pC (.int 17))))
  (ap (av 2 (ae cp false (ae dQ false (ab 2) (ae aG false (pC (.int 2862933555777941757)) (ae dQ false (ae dQ false (pC (.int 2)) (ab 1)) (ab 1)))) (pC (.int 2305843009213693951))))
  (aC (ae c8 false (ae cp false (ae dQ false (ae aG false (ae c8 false (ab 2) (pC (.int 8191))) (ae dQ false (ab 1) (ab 1))) (pC (.int 3935559000370003845))) (pC (.int 2305843009213693921))) (pC (.int 7))))))
def bz:List PyData→Option Sl:=cr 2 3 gI
def aY:List PyData→List PyData→Option (Sl×List PyData):=fun ds0 ds=>match ds0,ds with
  | [.int r],[.int m]=>if dq m then some (.sh (.int (r % m)),[.int (r / m)]) else none
  | _,_=>none
theorem fO (ds0 ds:List PyData) (r:Sl×List PyData) (h:aY ds0 ds=some r):∃d,r.1= .sh d:=by
  unfold aY at h
  split at h
  · split at h
    · cases h;exact ⟨_,rfl⟩
    · cases h
  · cases h
def e_:bW:=(ap (av 1 (pC (.str "abcdefghijklmnopqrstuvwxyz")))
  (ap (av 2 (ae c_ false (dy (sf [2,3,2,26,5,1])) (ae cp false (ab 0) (pC (.int 6)))))
  (ap (av 3 (ae cp false (ae c8 false (ab 0) (pC (.int 6))) (pC (.int 26))))
  (aC (gM false (ae aG false (ab 1) (ab 1)) (dr (ab 3)) (dr (ae aG false (ab 3) (ab 2))))))))
def bJ:List PyData→Option Sl:=cr 1 4 e_
def cO:i9:=(a_ 6)
def cR:bW:=(ap (av 7 (ae c_ true (ab 1) (dR 5 aY (ad false (bn cq (ad false (ab 1) ao)) ao))))
  (cy (be 4 (eO (aO (ab 7) (aO (ae ir false (dR 5 aY (ad false (ae aG false (ae dQ false (pC (.int 2)) (ab 2)) (pC (.int 1))) ao)) (ab 2)) bC))))))
def cc:i9:=(a_ 6)
def ce:bW:=(ap (av 7 (ae c_ false (ab 1) (ae cp false (ak bz (ad false (ab 0) (ad false (ae aG false (ae dQ false (pC (.int 2)) (ab 6)) (pC (.int 1))) ao))) (bn cq (ad false (ab 1) ao)))))
  (cy (be 4 (eO (aO (ab 7) (aO (ae ir false (ae cp false (ak bz (ad false (ab 0) (ad false (ae aG false (ae dQ false (pC (.int 2)) (ab 6)) (pC (.int 2))) ao))) (ae aG false (ae dQ false (pC (.int 2)) (ab 2)) (pC (.int 1)))) (ab 2)) bC))))))
def dz:bW:=(ap (av 4 (dy bC))
  (ap (aI (bT (bp (bv (bg .lt) (bg .lt) false false (fu eN (ae iZ false (pC (.int 10)) (pC (.int 18)))) (ab 0) (ae iZ false (pC (.int 10)) (pC (.int 18))))))
  (ap (av 5 (dy (aO (ab 0) bC)))
  (ap (gL (iy (ad false (dR 5 aY (ad false (ae aG false (ab 3) (pC (.int 1))) ao)) ao)) cO
  cR)
  (aC (ab 4))))
  ax)
  (ap (gL (iy (ad false (ae cp false (ak bz (ad false (ab 0) (ad false (pC (.int 0)) ao))) (ae aG false (ab 3) (pC (.int 1)))) ao)) cc
  ce)
  (aC (ab 4)))))
def aT:List PyData→Option Sl:=cr 4 8 dz
def cA:i9:=(dH 2 (bD (a_ 0) (bD (a_ 1) dG)))
def bK:bN:=(eO (aO (ab 0) (aO (fu eN (ab 1)) bC)))
def dk:bW:=(aC (iR [none,none] (r_ (ab 0)) cA gS bK))
def aZ:List PyData→Option Sl:=cr 1 1 dk
def cE:i9:=(dH 2 (bD (a_ 2) (bD (a_ 3) dG)))
def aX:bW:=(ap (aI (cH (bp (ae (bS (bg .gt)) false (bn cq (ad false (ab 1) ao)) (pC (.int 0)))) (bp (ae eY false (ae c_ false (ae c_ false (ab 1) (fu eN (pC (.int 1)))) (pC (.int 0))) (ab 2))))
  (ap (av 3 (ae aG false (ab 3) (ae c_ false (ae c_ false (ab 1) (fu eN (pC (.int 1)))) (pC (.int 1)))))
  (cy (gK 1)))
  ax)
  (aI (bp (ae fG false (ab 3) (pC (.int 0))))
  (cy (be 1 (eO (aO (ab 2) (aO (ab 3) bC)))))
  ax))
def fb:bW:=(ap (av 1 (dy bC))
  (ap (gL (iz (ab 0)) cE
  aX)
  (aC (ab 1))))
def bb:List PyData→Option Sl:=cr 1 4 fb
def cF:i9:=(dH 2 (bD (a_ 2) (bD (a_ 3) dG)))
def cG:bW:=(ap (aI (dv (bT (cB (fu (f_ .tuple) (ab 2)))) (dv (bp (ae fG false (bn cq (ad false (ab 2) ao)) (pC (.int 2)))) (bT (cB (fu (f_ .str) (ae c_ false (ab 2) (pC (.int 0))))))))
  (aC (pC (.bool false)))
  ax)
  (aI (dv (bT (cB (fu (f_ .int) (ae c_ false (ab 2) (pC (.int 1)))))) (dv (cB (fu (f_ .bool) (ae c_ false (ab 2) (pC (.int 1))))) (bp (ae fG false (ab 2) (ab 3)))))
  (aC (pC (.bool false)))
  ax))
def fc:bW:=(ap (aI (dv (bT (cB (fu (f_ .list) (ab 0)))) (bp (ae fG false (bn cq (ad false (ab 0) ao)) (bn cq (ad false (ab 1) ao)))))
  (aC (pC (.bool false)))
  ax)
  (ap (gL (sk (ab 0) (ab 1)) cF
  cG)
  (aC (pC (.bool true)))))
def bL:List PyData→Option Sl:=cr 2 4 fc
def cg:i9:=(dH 2 (bD (a_ 2) (bD (a_ 3) dG)))
def ci:bW:=(av 1 (ae aG false (ae aG false (ab 1) (ab 2)) (ae o8 false (bn jK (ad false (ab 3) ao)) (bn sv (ad false (ae fG false (ab 3) (pC (.int 1))) ao)))))
def fR:bW:=(ap (av 1 (pC (.str "")))
  (ap (gL (iz (ab 0)) cg
  ci)
  (aC (ab 1))))
def b6:List PyData→Option Sl:=cr 1 4 fR
def eQ:bW:=(ap (aI (bp (ae fG false (ae cp false (ab 1) (pC (.int 8))) (pC (.int 5))))
  (aC (ab 0))
  ax)
  (aC (gM false (ae dQ false (ab 0) (ae aG false (pC (.int 1)) (ae cp false (ae c8 false (ab 1) (pC (.int 8))) (pC (.int 60))))) gi (dr (pC (.int 1200))))))
def bM:List PyData→Option Sl:=cr 2 2 eQ
def k5:bW:=(ap (av 1 (ak bJ (ad false (ak aF (ad false (ab 0) (ad false (pC (.int 0)) ao))) ao)))
  (ap (av 2 (ae c_ false (dy (aO (pC (.int 1)) (aO (pC (.int 2)) (aO (pC (.int 3)) (aO (ae dQ false (pC (.int 4)) (ae iZ false (pC (.int 10)) (pC (.int 28)))) bC))))) (ae cp false (ae c8 false (ak aF (ad false (ab 0) (ad false (pC (.int 0)) ao))) (pC (.int 7))) (pC (.int 4)))))
  (ap (av 3 (ak aT (ad false (ak aF (ad false (ab 0) (ad false (pC (.int 2)) ao))) (ad false (ab 1) (ad false (ab 2) (ad false (pC (.int 24)) ao))))))
  (ap (aI (bp (ae (bS (bg .lt)) false (ab 2) (pC (.int 4))))
  (av 3 (ak bM (ad false (ab 3) (ad false (ak aF (ad false (ab 0) (ad false (pC (.int 5)) ao))) ao))))
  ax)
  (ap (aI (bp (ae eY false (ae cp false (ae c8 false (ak aF (ad false (ab 0) (ad false (pC (.int 1)) ao))) (pC (.int 2))) (pC (.int 3))) (pC (.int 1))))
  (ap (av 4 (ae cp false (ak aF (ad false (ab 0) (ad false (pC (.int 3)) ao))) (ae aG false (bn cq (ad false (ab 3) ao)) (pC (.int 1)))))
  (ap (av 5 (gM false (ab 3) gi (dr (ab 4))))
  (av 3 (ae aG false (ae aG false (ae aG false (ab 5) (ak aZ (ad false (ab 5) ao))) (ab 5)) (gM false (ab 3) (dr (ab 4)) gi)))))
  ax)
  (ap (av 6 (ak bb (ad false (ab 3) ao)))
  (ap (av 7 (jA (ab 3)))
  (ap (av 8 (ak ba (ad false (ab 7) ao)))
  (ap (aI (dv (bp (ae fG false (ab 7) (ab 3))) (dv (bT (cB (fu (f_ .str) (ab 8)))) (bp (ae fG false (ab 8) (ak b6 (ad false (ab 6) ao))))))
  (aC (pC (.bool false)))
  ax)
  (ap (av 9 (ak e9 (ad false (ab 8) ao)))
  (ap (aI (dv (bT (cB (ak bL (ad false (dO di (ab 9)) (ad false (ab 6) ao))))) (dv (bp (ae fG false (dO cL (ab 9)) (ab 8))) (bp (ae fG false (ak ba (ad false (dO di (ab 9)) ao)) (ab 8)))))
  (aC (pC (.bool false)))
  ax)
  (ap (av 10 (ak aT (ad false (ak aF (ad false (ab 0) (ad false (pC (.int 4)) ao))) (ad false (ab 1) (ad false (ab 2) (ad false (pC (.int 3)) ao))))))
  (ap (aI (bp (ae eY false (ae cp false (ak aF (ad false (ab 0) (ad false (pC (.int 4)) ao))) (pC (.int 3))) (pC (.int 0))))
  (av 10 (ae aG false (ae aG false (ab 3) (ab 10)) (ak aZ (ad false (ab 10) ao))))
  ax)
  (aC (ae eY false (ae eY false (ak ba (ad false (ab 10) ao)) (ab 8)) (ae eY false (ak bb (ad false (ab 10) ao)) (ab 6)))))))))))))))))
def g8:List PyData→Option Sl:=cr 1 11 k5
end Nhk65
namespace Nhk65
open PySem L2 Nh PL
def hM (i:Nat):Stmt:=PySem.Challenge.pw_nailhang_k65_written_and_read.main.body.getD i (.Pass ⟨0,0,0,0⟩)
section
variable {P:Program} {w:World} {K:PySem.W.Frag} {mg:Str→Option Value} {base:Heap}
abbrev fi:Stmt:=hM 12
theorem jL:FnScope ["number"] ["number"] (ai fi):=⟨rfl,rfl,rfl,by decide+kernel,rfl,by decide+kernel,by decide+kernel⟩
theorem jM (D:Def K mg "number_text" fi ["number"]) (B:Bn mg):Own P w K mg base 1 "number_text" ["number"] (da K bi):=by
  delta bi
  refine fw (g:=cK) D jL rfl rfl (by decide) fun f cdv A outer s H E hr=>?_
  delta cK
  exact (aj (aH (oY (iP hr.units (aa 0) ah) du (pd (by rfl) (by exact B.str) (af (aa 0) ar)))))
abbrev cj:Stmt:=eZ (hM 13) 1
theorem jN:FnScope ["self"] ["self"] (ai cj):=⟨rfl,rfl,rfl,by decide+kernel,rfl,by decide+kernel,by decide+kernel⟩
theorem gp {f0:Addr} {fd:FuncData} (D:Fun K "pieces" "Term.pieces" cj f0 fd) (B:Bn mg) (HF_size:∀cn∈(["Piece","Parts"]:List Str),∀C,PySem.W.nsIn K mainGlobals cn=some (some (.ref C))→Cls K C∧NoAttr K C "size"):FnOk P w K mg base iK 1 f0 fd ["self"] (da K (bZ)):=by
  delta bZ
  refine wX (g:=dB) D jN rfl rfl (by decide) fun cdv A outer s H E hr=>?_
  delta dB
  exact (aj (aH (fM HF_size (aa 0))))
abbrev ek:Stmt:=eZ (hM 14) 1
theorem j7:FnScope ["self"] ["self"] (ai ek):=⟨rfl,rfl,rfl,by decide+kernel,rfl,by decide+kernel,by decide+kernel⟩
theorem j8 {f0:Addr} {fd:FuncData} (D:Fun K "made" "Piece.made" ek f0 fd) (B:Bn mg) (HF_nail:∀cn∈(["Piece"]:List Str),∀C,PySem.W.nsIn K mainGlobals cn=some (some (.ref C))→Cls K C∧NoAttr K C "nail") (HF_turns:∀cn∈(["Piece"]:List Str),∀C,PySem.W.nsIn K mainGlobals cn=some (some (.ref C))→Cls K C∧NoAttr K C "turns"):FnOk P w K mg base iK 1 f0 fd ["self"] (da K (bt)):=by
  delta bt
  refine wX (g:=dU) D j7 rfl rfl (by decide) fun cdv A outer s H E hr=>?_
  delta dU
  exact (aj (aH (fg (bq (iw (bq (fM HF_nail (aa 0)) (bq (fM HF_turns (aa 0)) cI))) cI))))
abbrev en:Stmt:=eZ (hM 14) 2
theorem j9:FnScope ["self"] ["self"] (ai en):=⟨rfl,rfl,rfl,by decide+kernel,rfl,by decide+kernel,by decide+kernel⟩
theorem j_ {f0:Addr} {fd:FuncData} (D:Fun K "text" "Piece.text" en f0 fd) (B:Bn mg) (HF_nail:∀cn∈(["Piece"]:List Str),∀C,PySem.W.nsIn K mainGlobals cn=some (some (.ref C))→Cls K C∧NoAttr K C "nail") (HF_turns:∀cn∈(["Piece"]:List Str),∀C,PySem.W.nsIn K mainGlobals cn=some (some (.ref C))→Cls K C∧NoAttr K C "turns") (D_number_text:Own P w K mg base 1 "number_text" ["number"] (da K bi)):FnOk P w K mg base iK 2 f0 fd ["self"] (da K (bu)):=by
  delta bu
  refine wX (g:=dW) D j9 rfl rfl (by decide) fun cdv A outer s H E hr=>?_
  delta dW
  exact (aj (aH (bd (fM HF_nail (aa 0)) (aQ D_number_text (hr.mono (by decide)) (by rfl) (af (fM HF_turns (aa 0)) ar)))))
abbrev c9:Stmt:=eZ (hM 13) 2
theorem lT:FnScope ["self"] ["self"] (ai c9):=⟨rfl,rfl,rfl,by decide+kernel,rfl,by decide+kernel,by decide+kernel⟩
theorem h8 {f0:Addr} {fd:FuncData} (D:Fun K "cord" "Term.cord" c9 f0 fd) (B:Bn mg) {k:Nat} {self:List PyData→Option Sl} (DS:DispM P w K mg base k "made" self) (HF_size:∀cn∈(["Piece","Parts"]:List Str),∀C,PySem.W.nsIn K mainGlobals cn=some (some (.ref C))→Cls K C∧NoAttr K C "size") {t_LONGEST:Tok} (G_LONGEST:mg "LONGEST"=some (.int 4000 t_LONGEST)):FnOk P w K mg base iK (k+1) f0 fd ["self"] (da K (aK self)):=by
  delta aK
  refine wX (g:=dJ self) D lT rfl rfl (by decide) fun cdv A outer s H E hr=>?_
  delta dJ
  exact (ag (cz (hV .gt (fM HF_size (aa 0)) (lN (by rfl) (by exact G_LONGEST)))
  (aj eP)
  a9)
  (aj (aH (oY (hV .gt (fM HF_size (aa 0)) ah) (fN DS hr (aa 0)) (fg cI)))))
abbrev eB:Stmt:=eZ (hM 15) 1
theorem sc_Parts_made:FnScope ["self","told","part"] ["self"] (ai eB):=⟨rfl,rfl,rfl,by decide+kernel,rfl,by decide+kernel,by decide+kernel⟩
theorem kb {f0:Addr} {fd:FuncData} (D:Fun K "made" "Parts.made" eB f0 fd) (B:Bn mg) {k:Nat} {self:List PyData→Option Sl} (DS:DispM P w K mg base k "cord" self) (HF_kept:∀cn∈(["Parts"]:List Str),∀C,PySem.W.nsIn K mainGlobals cn=some (some (.ref C))→Cls K C∧NoAttr K C "kept"):FnOk P w K mg base iK (k+1) f0 fd ["self"] (da K (bP self)):=by
  delta bP
  refine wX (g:=dX self) D sc_Parts_made rfl rfl (by decide) fun cdv A outer s H E hr=>?_
  delta dX
  exact (ag (aD 1 sc_Parts_made.nd (fg cI))
  (ag (gZ PassesOwn.never (by rfl) (iA (fM HF_kept (aa 0))) (by delta bE;exact (bV 2 sc_Parts_made.nd))
  (by delta bF;exact (aj (fJ (qc 1 (fN DS hr (aa 2)))))))
  (aj (aH (aa 1)))))
abbrev eF:Stmt:=eZ (hM 15) 2
theorem ke:FnScope ["self"] ["self"] (ai eF):=⟨rfl,rfl,rfl,by decide+kernel,rfl,by decide+kernel,by decide+kernel⟩
theorem kf {f0:Addr} {fd:FuncData} (D:Fun K "text" "Parts.text" eF f0 fd) (B:Bn mg) {k:Nat} {self:List PyData→Option Sl} (DS:DispM P w K mg base k "text" self) (HF_kept:∀cn∈(["Parts"]:List Str),∀C,PySem.W.nsIn K mainGlobals cn=some (some (.ref C))→Cls K C∧NoAttr K C "kept"):FnOk P w K mg base iK (k+1) f0 fd ["self"] (da K (bQ self)):=by
  delta bQ
  refine wX (g:=dY self) D ke rfl rfl (by decide) fun cdv A outer s H E hr=>?_
  delta dY
  exact (aj (aH (uI (jC (N:=["part"]) (js:=[none]) fF (by rfl) (iA (fM HF_kept (aa 0))) (fun _ _ _ _=>(by delta cW;exact (bV 0 (show (["part"]:List Str).Nodup by decide+kernel)))) (fun _ _ _ _=>(by delta b_;exact (fN DS hr (aa 0))))))))
abbrev eI:Stmt:=eZ (hM 14) 0
theorem kh:FnScope ["self","nail","turns"] ["self","nail","turns"] (ai eI):=⟨rfl,rfl,rfl,by decide+kernel,rfl,by decide+kernel,by decide+kernel⟩
abbrev eJ:Stmt:=eZ (hM 15) 0
theorem ki:FnScope ["self","parts"] ["self","parts"] (ai eJ):=⟨rfl,rfl,rfl,by decide+kernel,rfl,by decide+kernel,by decide+kernel⟩
theorem kj {f0 C:Addr} {fd:FuncData} (D:Fun K "__init__" "Piece.__init__" eI f0 fd) (cl:Cls K C) (n1:NoAttr K C "nail") (n2:NoAttr K C "turns") (n3:NoAttr K C "size"):FnOk P w K mg base iK 1 f0 fd ["self","nail","turns"] (qh K C dS):=by
  refine D.ok kh (fun vs H Q E h=>(kY (D:={nx:=fun _ _=>True,rt:=fun _ _=>True}) (N:=["","",""]) cl n1 n2 n3 h fun _ _ _=>trivial).1) (fun cdv A outer s H vs Q E hr h=>?_)
  refine ⟨_,eL (ik (pv 0) (pv 1) rfl) (eL (ik (pv 0) (pv 2) rfl) (i6 (ik (pv 0) jg rfl))),?_⟩
  exact (kY cl n1 n2 n3 h fun _ _ z=>z).2
theorem kl {f0 C:Addr} {fd:FuncData} {c:List PyData→Option Sl} (D:Fun K "__init__" "Parts.__init__" eJ f0 fd) (B:Bn mg) (cl:Cls K C) (n1:NoAttr K C "parts") (n2:NoAttr K C "kept") (n3:NoAttr K C "size") (DP:DispM P w K mg base 1 "pieces" c):FnOk P w K mg base iK 2 f0 fd ["self","parts"] (qh K C (dA c)):=by
  refine D.ok ki (fun vs H Q E h=>(kZ (D:={nx:=fun _ _=>True,rt:=fun _ _=>True}) (N:=["",""]) cl n1 n2 n3 h fun _ _ _=>trivial).1) (fun cdv A outer s H vs Q E hr h=>?_)
  refine ⟨_,eL (ik (pv 0) (eK hO (by rfl) B.list PyProof.Rows.boot_list (bU (pv 1) dt)) rfl) (eL (ik (pv 0) (eK j3 (by rfl) B.tuple PyProof.Rows.boot_tuple (bU (pv 1) dt)) rfl)
    (i6 (ik (pv 0) (jm (qf rfl) (by rfl) B.sum PyProof.Rows.boot_sum (bU (oR (N:=["part"]) (js:=[none]) fF rfl (oC (pv 1)) (fun _ _ _ _=>oB (i:=0) (show (["part"]:List Str).Nodup by decide+kernel) rfl (Or.inl rfl)) (fun _ _ _ _=>oP) (te:=lO K c (gc 0)) (fun C0 s0 H0 fp=>?el)) dt)) rfl))),?_⟩
  case el=>exact sK DP hr (pv 0)
  exact (kZ cl n1 n2 n3 h fun _ _ z=>z).2
def HP (K:PySem.W.Frag):Prop:=∃C,CF K "Piece" C∧NoAttr K C "nail"∧NoAttr K C "turns"∧NoAttr K C "size"∧HM K C "pieces" "Term.pieces" cj∧HM K C "cord" "Term.cord" c9∧HM K C "made" "Piece.made" ek∧HM K C "text" "Piece.text" en∧HM K C "__init__" "Piece.__init__" eI
def HQ (K:PySem.W.Frag):Prop:=∃C,CF K "Parts" C∧NoAttr K C "parts"∧NoAttr K C "kept"∧NoAttr K C "size"∧HM K C "pieces" "Term.pieces" cj∧HM K C "cord" "Term.cord" c9∧HM K C "made" "Parts.made" eB∧HM K C "text" "Parts.text" eF∧HM K C "__init__" "Parts.__init__" eJ
theorem uT {h:Heap} (X:K.In h) (G:h.Ns mainGlobals mg) (B:Bn mg) (hp:HP K) (hq:HQ K) {t_LONGEST:Tok} (G_LONGEST:mg "LONGEST"=some (.int 4000 t_LONGEST)) (D_number_text:Own P w K mg base 1 "number_text" ["number"] (da K bi)):
    MkOk P w K mg base 1 "Piece" ["self","nail","turns"] dS∧MkOk P w K mg base 2 "Parts" ["self","parts"] (dA bw)∧DispM P w K mg base 1 "pieces" bw∧DispM P w K mg base 4 "text" cL∧DispM P w K mg base 6 "cord" di:=by
  obtain ⟨CP,fP,p1,p2,p3,pP,pC,pM,pT,pI⟩:=hp
  obtain ⟨CQ,fQ,q1,q2,q3,qP,qC,qM,qT,qI⟩:=hq
  have kP:=fP.ok X G
  have kQ:=fQ.ok X G
  have HF_Term_size:=ya (K:=K) (mg:=mg) (f:="size") (cs:=["Piece","Parts"]) fun cn hc=>by
    rcases List.mem_cons.mp hc with e | e
    · rw [e];exact ⟨CP,kP,p3⟩
    · rw [List.mem_singleton.mp e];exact ⟨CQ,kQ,q3⟩
  have one:∀{f cn:Str} {C:Addr},ClsOk K mg cn C→NoAttr K C f→∀n∈[cn],∀D,PySem.W.nsIn K mainGlobals n=some (some (.ref D))→Cls K D∧NoAttr K D f:=fun k n=>ya fun c hc=>by
    rw [List.mem_singleton.mp hc]
    exact ⟨_,k,n⟩
  have HF_Piece_nail:=one kP p1
  have HF_Piece_turns:=one kP p2
  have HF_Parts_kept:=one kQ q2
  have DP:DispM P w K mg base 1 "pieces" bw:=pb (by decide) kP kQ (pP.own (fun f fd D=>gp D B HF_Term_size) (fun _ _ _ _ _ _ us hl=>match us,hl with | [_],_=>rfl)) (qP.own (fun f fd D=>gp D B HF_Term_size) (fun _ _ _ _ _ _ us hl=>match us,hl with | [_],_=>rfl))
  have DT:∀n,DispM P w K mg base (2+n) "text" (cT n):=fun n=>by
    induction n with
    | zero=>exact vq
    | succ n ih=>exact pb (by decide) kP kQ ((pT.own (fun f fd D=>j_ D B HF_Piece_nail HF_Piece_turns D_number_text) (fun _ _ _ _ _ _ us hl=>match us,hl with | [_],_=>rfl)).mono (by omega)) (qT.own (fun f fd D=>kf D B ih HF_Parts_kept) (fun _ _ _ _ _ _ us hl=>match us,hl with | [_],_=>rfl))
  have co:∀{k:Nat} {c:List PyData→Option Sl},DispM P w K mg base k "made" c→DispM P w K mg base (k+1) "cord" (tK c):=fun d=>pb (by decide) kP kQ (pC.own (fun f fd D=>h8 D B d HF_Term_size G_LONGEST) (fun _ _ _ _ _ _ us hl=>match us,hl with | [_],_=>rfl)) (qC.own (fun f fd D=>h8 D B d HF_Term_size G_LONGEST) (fun _ _ _ _ _ _ us hl=>match us,hl with | [_],_=>rfl))
  have DM:∀n,DispM P w K mg base (1+2*n) "made" (cM n):=fun n=>by
    induction n with
    | zero=>exact vq
    | succ n ih=>exact pb (by decide) kP kQ ((pM.own (fun f fd D=>j8 D B HF_Piece_nail HF_Piece_turns) (fun _ _ _ _ _ _ us hl=>match us,hl with | [_],_=>rfl)).mono (by omega)) ((qM.own (fun f fd D=>kb D B (co ih) HF_Parts_kept) (fun _ _ _ _ _ _ us hl=>match us,hl with | [_],_=>rfl)).mono (by omega))
  exact ⟨pI.mkOk fP kP (fun f fd D=>kj D kP.cl p1 p2 p3) (fun _ _ _ _ _ _ us hl=>match us,hl with | [_,_,_],_=>rfl),qI.mkOk fQ kQ (fun f fd D=>kl D B kQ.cl q1 q2 q3 DP) (fun _ _ _ _ _ _ us hl=>match us,hl with | [_,_],_=>rfl),DP,DT 2,co (DM 2)⟩
abbrev iE:Stmt:=hM 6
theorem om:FnScope ["thing"] ["thing"] (ai iE):=⟨rfl,rfl,rfl,by decide+kernel,rfl,by decide+kernel,by decide+kernel⟩
theorem on (D:Def K mg "is_nail" iE ["thing"]) (B:Bn mg):Own P w K mg base 1 "is_nail" ["thing"] (da K cY):=by
  delta cY
  refine fw (g:=gG) D om rfl rfl (by decide) fun f cdv A outer s H E hr=>?_
  delta gG
  exact (aj (aH (rV (gj .str (by rfl) (by exact B.isinstance) (aa 0) (by rfl) (by exact B.str) PyProof.Rows.boot_str) (rV (oW hr.units (dN (by rfl) (by exact B.len) (af (aa 0) ar)) ah) (wd (xT .le .le du (aa 0) du))))))
abbrev fS:Stmt:=hM 7
theorem sc_short_form:FnScope ["cord","runs","nail","turns","total"] ["cord"] (ai fS):=⟨rfl,rfl,rfl,by decide+kernel,rfl,by decide+kernel,by decide+kernel⟩
theorem km (D:Def K mg "short_form" fS ["cord"]) (B:Bn mg):Own P w K mg base 1 "short_form" ["cord"] (da K ca):=by
  delta ca
  refine fw (g:=dZ) D sc_short_form rfl rfl (by decide) fun f cdv A outer s H E hr=>?_
  delta dZ
  exact (ag (aD 1 sc_short_form.nd (fg cI))
  (ag (gZ PassesOwn.never (by rfl) (iA (aa 0)) (by delta aM;exact (ix (by rfl) (b9 (bV 2 sc_short_form.nd) (b9 (bV 3 sc_short_form.nd) gB))))
  (by delta aN;exact (ag (aD 4 sc_short_form.nd (aa 3))
  (ag (cz (j6 (lD (dw (aa 1)) (i8 (iP hr.units (bX (bX (aa 1) (jx ah)) ah) (aa 2)))))
  (aj (aD 4 sc_short_form.nd (bd (bX (rZ 1) ah) (aa 3))))
  a9)
  (aj (cz (gQ hr.units (aa 4) ah)
  (aj (fJ (fv 1 (iw (bq (aa 2) (bq (aa 4) cI))))))
  a9))))))
  (aj (aH (aa 1)))))
abbrev fj:Stmt:=hM 21
theorem sc_figures_end:FnScope ["text","place","end"] ["text","place"] (ai fj):=⟨rfl,rfl,rfl,by decide+kernel,rfl,by decide+kernel,by decide+kernel⟩
theorem jO (D:Def K mg "figures_end" fj ["text","place"]) (B:Bn mg):Own P w K mg base 1 "figures_end" ["text","place"] (da K bx):=by
  delta bx
  refine fw (g:=dC) D sc_figures_end rfl rfl (by decide) fun f cdv A outer s H E hr=>?_
  delta dC
  exact (ag (aD 2 sc_figures_end.nd (aa 1))
  (ag (mU PassesOwn.never (by delta aE;exact (j6 (lD (hV .lt (aa 2) (dN (by rfl) (by exact B.len) (af (aa 0) ar))) (i8 (su .le .le du (bX (aa 0) (aa 2)) du)))))
  (by delta b5;exact (aj (aD 2 sc_figures_end.nd (bd (aa 2) ah)))))
  (aj (aH (aa 2)))))
abbrev fT:Stmt:=hM 22
theorem sc_number_end:FnScope ["text","place","start","end"] ["text","place"] (ai fT):=⟨rfl,rfl,rfl,by decide+kernel,rfl,by decide+kernel,by decide+kernel⟩
theorem ko (D:Def K mg "number_end" fT ["text","place"]) (B:Bn mg) {t_MOST_FIGURES:Tok} (G_MOST_FIGURES:mg "MOST_FIGURES"=some (.int 30 t_MOST_FIGURES)) (D_figures_end:Own P w K mg base 1 "figures_end" ["text","place"] (da K bx)):Own P w K mg base 2 "number_end" ["text","place"] (da K aA):=by
  delta aA
  refine fw (g:=bh) D sc_number_end rfl rfl (by decide) fun f cdv A outer s H E hr=>?_
  delta bh
  exact (ag (cz (dw (iD 0 (af du (af (aa 1) ar))))
  (aj (aH (bd (aa 1) ah)))
  a9)
  (ag (aD 2 sc_number_end.nd (oY (dw (iD 0 (af du (af (aa 1) ar)))) (bd (aa 1) ah) (aa 1)))
  (ag (aD 3 sc_number_end.nd (aQ D_figures_end (hr.mono (by decide)) (by rfl) (af (aa 0) (af (aa 2) ar))))
  (ag (cz (j6 (gR (dw (iD 0 (af du (af (aa 2) ar)))) (iu (fH (su .le .le ah (nV (aa 3) (aa 2)) (lN (by rfl) (by exact G_MOST_FIGURES)))))))
  (aj (aH (aa 1)))
  a9)
  (aj (aH (aa 3)))))))
abbrev fk:Stmt:=hM 23
theorem sc_read_number:FnScope ["text","place","end"] ["text","place"] (ai fk):=⟨rfl,rfl,rfl,by decide+kernel,rfl,by decide+kernel,by decide+kernel⟩
theorem jP (D:Def K mg "read_number" fk ["text","place"]) (B:Bn mg) (D_number_end:Own P w K mg base 2 "number_end" ["text","place"] (da K aA)):Own P w K mg base 3 "read_number" ["text","place"] (da K aW):=by
  delta aW
  refine fw (g:=cN) D sc_read_number rfl rfl (by decide) fun f cdv A outer s H E hr=>?_
  delta cN
  exact (ag (aD 2 sc_read_number.nd (aQ D_number_end (hr.mono (by decide)) (by rfl) (af (aa 0) (af (aa 1) ar))))
  (aj (aH (lM (lL (gE (oY (iP hr.units (aa 2) (aa 1)) ah (uR (by rfl) (by exact B.int) (af (jH (aa 0) (fI (aa 1)) (fI (aa 2))) ar))) (gE (aa 2) n6)))))))
abbrev fU:Stmt:=hM 25
theorem sc_read_piece:FnScope ["text","place","number"] ["text","place"] (ai fU):=⟨rfl,rfl,rfl,by decide+kernel,rfl,by decide+kernel,by decide+kernel⟩
theorem kq (D:Def K mg "read_piece" fU ["text","place"]) (B:Bn mg) (D_read_number:Own P w K mg base 3 "read_number" ["text","place"] (da K aW)) (D_mk_Piece:MkOk P w K mg base 1 "Piece" ["self","nail","turns"] dS):Own P w K mg base 4 "read_piece" ["text","place"] (da K bR):=by
  delta bR
  refine fw (g:=d_) D sc_read_piece rfl rfl (by decide) fun f cdv A outer s H E hr=>?_
  delta d_
  exact (ag (aD 2 sc_read_piece.nd (aQ D_read_number (hr.mono (by decide)) (by rfl) (af (aa 0) (af (bd (aa 1) ah) ar))))
  (aj (aH (lM (lL (gE (jc D_mk_Piece (hr.mono (by decide)) (by rfl) (af (bX (aa 0) (aa 1)) (af (bX (aa 2) ah) ar))) (gE (bX (aa 2) ah) n6)))))))
abbrev gq:Stmt:=hM 28
theorem lU:FnScope ["text","place","depth"] ["text","place","depth"] (ai gq):=⟨rfl,rfl,rfl,by decide+kernel,rfl,by decide+kernel,by decide+kernel⟩
theorem lV (D:Def K mg "read_part" gq ["text","place","depth"]) (B:Bn mg) (D_is_nail:Own P w K mg base 1 "is_nail" ["thing"] (da K cY)) (D_read_piece:Own P w K mg base 4 "read_piece" ["text","place"] (da K bR)):Own P w K mg base 5 "read_part" ["text","place","depth"] (da K bI):=by
  delta bI
  refine fw (g:=e8) D lU rfl rfl (by decide) fun f cdv A outer s H E hr=>?_
  delta e8
  exact (ag (cz (dw (aQ D_is_nail (hr.mono (by decide)) (by rfl) (af (bX (aa 0) (aa 1)) ar)))
  (aj (aH (aQ D_read_piece (hr.mono (by decide)) (by rfl) (af (aa 0) (af (aa 1) ar)))))
  a9)
  (ag (cz (iP hr.units (bX (aa 0) (aa 1)) du)
  (aj eP)
  a9)
  (ag (cz (iP hr.units (bX (aa 0) (aa 1)) du)
  (aj eP)
  a9)
  (aj eP))))
abbrev fV:Stmt:=hM 29
theorem sc_read_parts:FnScope ["text","start","depth","parts","place","part"] ["text","start","depth"] (ai fV):=⟨rfl,rfl,rfl,by decide+kernel,rfl,by decide+kernel,by decide+kernel⟩
theorem kr (D:Def K mg "read_parts" fV ["text","start","depth"]) (B:Bn mg) {t_DEEPEST:Tok} (G_DEEPEST:mg "DEEPEST"=some (.int 30 t_DEEPEST)) (D_read_part:Own P w K mg base 5 "read_part" ["text","place","depth"] (da K bI)) (D_mk_Parts:MkOk P w K mg base 2 "Parts" ["self","parts"] (dA bw)):Own P w K mg base 6 "read_parts" ["text","start","depth"] (da K cb):=by
  delta cb
  refine fw (g:=ee) D sc_read_parts rfl rfl (by decide) fun f cdv A outer s H E hr=>?_
  delta ee
  exact (ag (cz (hV .gt (aa 2) (lN (by rfl) (by exact G_DEEPEST)))
  (aj eP)
  a9)
  (ag (aD 3 sc_read_parts.nd (fg cI))
  (ag (aD 4 sc_read_parts.nd (aa 1))
  (ag (mU PassesOwn.never (by delta bc;exact (j6 (lD (hV .lt (aa 4) (dN (by rfl) (by exact B.len) (af (aa 0) ar))) (i8 (wx (bX (aa 0) (aa 4)) du)))))
  (by delta bG;exact (ag (aD 5 sc_read_parts.nd (aQ D_read_part (hr.mono (by decide)) (by rfl) (af (aa 0) (af (aa 4) (af (aa 2) ar)))))
  (ag (fJ (fv 3 (bX (aa 5) ah)))
  (aj (aD 4 sc_read_parts.nd (bX (aa 5) ah)))))))
  (aj (aH (lM (lL (gE (jc D_mk_Parts (hr.mono (by decide)) (by rfl) (af (aa 3) ar)) (gE (aa 4) n6))))))))))
abbrev oo:Stmt:=hM 30
theorem sc_read:FnScope ["text","found"] ["text"] (ai oo):=⟨rfl,rfl,rfl,by decide+kernel,rfl,by decide+kernel,by decide+kernel⟩
theorem uU (D:Def K mg "read" oo ["text"]) (B:Bn mg) (D_read_parts:Own P w K mg base 6 "read_parts" ["text","start","depth"] (da K cb)):Own P w K mg base 7 "read" ["text"] (da K e9):=by
  delta e9
  refine fw (g:=lS) D sc_read rfl rfl (by decide) fun f cdv A outer s H E hr=>?_
  delta lS
  exact (ag (cz (fH (dw (gj .str (by rfl) (by exact B.isinstance) (aa 0) (by rfl) (by exact B.str) PyProof.Rows.boot_str)))
  (aj eP)
  a9)
  (ag (aD 1 sc_read.nd (aQ D_read_parts (hr.mono (by decide)) (by rfl) (af (aa 0) (af ah (af ah ar)))))
  (ag (cz (hV .lt (bX (aa 1) ah) (dN (by rfl) (by exact B.len) (af (aa 0) ar)))
  (aj eP)
  a9)
  (aj (aH (bX (aa 1) ah))))))
abbrev iF:Stmt:=hM 31
theorem oq:FnScope ["cord"] ["cord"] (ai iF):=⟨rfl,rfl,rfl,by decide+kernel,rfl,by decide+kernel,by decide+kernel⟩
theorem ot (D:Def K mg "written" iF ["cord"]) (B:Bn mg) (D_short_form:Own P w K mg base 1 "short_form" ["cord"] (da K ca)) (D_mk_Piece:MkOk P w K mg base 1 "Piece" ["self","nail","turns"] dS) (D_mk_Parts:MkOk P w K mg base 2 "Parts" ["self","parts"] (dA bw)) (D_m_text:DispM P w K mg base 4 "text" cL):Own P w K mg base 5 "written" ["cord"] (da K ba):=by
  delta ba
  refine fw (g:=gH) D oq rfl rfl (by decide) fun f cdv A outer s H E hr=>?_
  delta gH
  exact (aj (aH (fN D_m_text (hr.mono (by decide)) (jc D_mk_Parts (hr.mono (by decide)) (by rfl) (af (jC (N:=["nail","turns"]) (js:=[none,none]) fF (by rfl) (iA (aQ D_short_form (hr.mono (by decide)) (by rfl) (af (aa 0) ar))) (fun _ _ _ _=>(by delta ef;exact (ix (by rfl) (b9 (bV 0 (show (["nail","turns"]:List Str).Nodup by decide+kernel)) (b9 (bV 1 (show (["nail","turns"]:List Str).Nodup by decide+kernel)) gB))))) (fun _ _ _ _=>(by delta eh;exact (jc D_mk_Piece (hr.mono (by decide)) (by rfl) (af (aa 0) (af (aa 1) ar)))))) ar)))))
abbrev jQ:Stmt:=hM 33
theorem qo:FnScope ["_law_script","_law_k"] ["_law_script","_law_k"] (ai jQ):=⟨rfl,rfl,rfl,by decide+kernel,rfl,by decide+kernel,by decide+kernel⟩
theorem qp (D:Def K mg "_law_at" jQ ["_law_script","_law_k"]) (B:Bn mg):Own P w K mg base 1 "_law_at" ["_law_script","_law_k"] (da K aF):=by
  delta aF
  refine fw (g:=h7) D qo rfl rfl (by decide) fun f cdv A outer s H E hr=>?_
  delta h7
  exact (ag (cz (hV .lt (aa 1) (dN (by rfl) (by exact B.len) (af (aa 0) ar)))
  (aj (aH (bX (aa 0) (aa 1))))
  a9)
  (aj (aH ah)))
abbrev iG:Stmt:=hM 34
theorem sc_law_mix:FnScope ["_law_cell","_law_k","_law_value"] ["_law_cell","_law_k"] (ai iG):=⟨rfl,rfl,rfl,by decide+kernel,rfl,by decide+kernel,by decide+kernel⟩
theorem ou (D:Def K mg "_law_mix" iG ["_law_cell","_law_k"]) (B:Bn mg):Own P w K mg base 1 "_law_mix" ["_law_cell","_law_k"] (da K bz):=by
  delta bz
  refine fw (g:=gI) D sc_law_mix rfl rfl (by decide) fun f cdv A outer s H E hr=>?_
  delta gI
  exact (ag (aD 2 sc_law_mix.nd (bd (bd (df (aa 0) ah) (dM ah (aa 1))) ah))
  (ag (aD 2 sc_law_mix.nd (df (dM (aa 2) (bd ah (dM (dM ah (aa 1)) (aa 1)))) ah))
  (aj (aH (gA (df (dM (bd (gA (aa 2) ah) (dM (aa 1) (aa 1))) ah) ah) ah)))))
abbrev gr:Stmt:=hM 35
theorem sc_law_digit:FnScope ["_law_rest","_law_m","_law_digit_here"] ["_law_rest","_law_m"] (ai gr):=⟨rfl,rfl,rfl,by decide+kernel,rfl,by decide+kernel,by decide+kernel⟩
theorem lW (D:Def K mg "_law_digit" gr ["_law_rest","_law_m"]) (B:Bn mg):Own P w K mg base 1 "_law_digit" ["_law_rest","_law_m"] (wz K aY):=by
  refine D.own sc_law_digit (fun vs H Q E h=>?_) (fun f cdv A outer s H vs Q E hr h=>?_)
  · obtain ⟨l,us,ds0,bj,ds,r,ds',rfl,_,_,rd,e,_⟩:=h
    unfold aY at e
    split at e
    · rw [List.length_cons,rd.len];rfl
    · cases e
  obtain ⟨l,us,ds0,bj,ds,r,ds',rfl,hl,r0,rd,e,q⟩:=h
  unfold aY at e
  split at e
  · split at e
    · rename_i z m hm
      cases e
      obtain ⟨v,rfl,rv⟩:=r0.one
      cases rv
      obtain ⟨u,rfl,ru⟩:=rd.one
      cases ru
      have h1:=(of_decide_eq_true hm).1
      refine ⟨_,(eL (qH (i:=2) sc_law_digit.nd rfl (Or.inl rfl) (qL qN (q9 ix_list (pv 0) jg (fun _ _=>rfl)) (pv 1))) (eL (vM (qL mL (q9 ix_list (pv 0) jg (fun _ _=>rfl)) (pv 1)) (vL (pv 0) jg q_)) (i6 (qE (pv 2))))),?_⟩
      refine ⟨_,rfl,l,[.int z],_, .int z,rfl,rfl,SqL.of hl,rfl,_,rfl,_,_,rfl,rfl,h1,?_⟩
      refine ⟨_,rfl,l,[.int z],_, .int z,rfl,rfl,SqL.of hl,rfl,_,rfl,_,_,rfl,rfl,hm,?_⟩
      refine ⟨_,rfl,l,[.int z],_,0,rfl,rfl,hl,rfl,?_⟩
      refine ⟨_,rfl,?_⟩
      exact q _ _ [.int (z / m)] (SameBut.upd _) az (.cons (.int _) .nil) (.int _)
    · cases e
  · cases e
abbrev gs:Stmt:=hM 36
theorem sc_law_nails:FnScope ["_law_cell","_law_some","_law_many","_law_at_here"] ["_law_cell"] (ai gs):=⟨rfl,rfl,rfl,by decide+kernel,rfl,by decide+kernel,by decide+kernel⟩
theorem lX (D:Def K mg "_law_nails" gs ["_law_cell"]) (B:Bn mg):Own P w K mg base 1 "_law_nails" ["_law_cell"] (da K bJ):=by
  delta bJ
  refine fw (g:=e_) D sc_law_nails rfl rfl (by decide) fun f cdv A outer s H E hr=>?_
  refine nY 1 [2,3,2,26,5,1] rfl rfl fun es hes=>?_
  delta e_
  exact (ag (aD 1 sc_law_nails.nd du)
  (ag (aD 2 sc_law_nails.nd (bX (fg (o6 hes)) (df (aa 0) ah)))
  (ag (aD 3 sc_law_nails.nd (df (gA (aa 0) ah) ah))
  (aj (aH (jH (bd (aa 1) (aa 1)) (fI (aa 3)) (fI (bd (aa 3) (aa 2)))))))))
abbrev g9:Stmt:=hM 38
theorem sc_law_cord:FnScope ["_law_cell","_law_nails_here","_law_wide_here","_law_most","_law_cord_here","_law_rest","_law_k","_law_nail"] ["_law_cell","_law_nails_here","_law_wide_here","_law_most"] (ai g9):=⟨rfl,rfl,rfl,by decide+kernel,rfl,by decide+kernel,by decide+kernel⟩
theorem nb (D:Def K mg "_law_cord" g9 ["_law_cell","_law_nails_here","_law_wide_here","_law_most"]) (B:Bn mg) (D_law_digit:Own P w K mg base 1 "_law_digit" ["_law_rest","_law_m"] (wz K aY)) (D_law_mix:Own P w K mg base 1 "_law_mix" ["_law_cell","_law_k"] (da K bz)):Own P w K mg base 2 "_law_cord" ["_law_cell","_law_nails_here","_law_wide_here","_law_most"] (da K aT):=by
  delta aT
  refine fw (g:=dz) D sc_law_cord rfl rfl (by decide) fun f cdv A outer s H E hr=>?_
  delta dz
  exact (ag (aD 4 sc_law_cord.nd (fg cI))
  (ag (cz (fH (su .lt .lt (jx (nW ah ah)) (aa 0) (nW ah ah)))
  (ag (aD 5 sc_law_cord.nd (fg (bq (aa 0) cI)))
  (ag (gZ PassesOwn.never (by rfl) (kO (by rfl) (by exact B.range) (af (sx 5 D_law_digit fO (hr.mono (by decide)) (by rfl) (af (bd (aa 3) ah) ar)) ar)) (by delta cO;exact (bV 6 sc_law_cord.nd))
  (by delta cR;exact (ag (aD 7 sc_law_cord.nd (bX (aa 1) (sx 5 D_law_digit fO (hr.mono (by decide)) (by rfl) (af (dN (by rfl) (by exact B.len) (af (aa 1) ar)) ar))))
  (aj (fJ (fv 4 (iw (bq (aa 7) (bq (nV (sx 5 D_law_digit fO (hr.mono (by decide)) (by rfl) (af (bd (dM ah (aa 2)) ah) ar)) (aa 2)) cI)))))))))
  (aj (aH (aa 4)))))
  a9)
  (ag (gZ PassesOwn.never (by rfl) (kO (by rfl) (by exact B.range) (af (df (aQ D_law_mix (hr.mono (by decide)) (by rfl) (af (aa 0) (af ah ar))) (bd (aa 3) ah)) ar)) (by delta cc;exact (bV 6 sc_law_cord.nd))
  (by delta ce;exact (ag (aD 7 sc_law_cord.nd (bX (aa 1) (df (aQ D_law_mix (hr.mono (by decide)) (by rfl) (af (aa 0) (af (bd (dM ah (aa 6)) ah) ar))) (dN (by rfl) (by exact B.len) (af (aa 1) ar)))))
  (aj (fJ (fv 4 (iw (bq (aa 7) (bq (nV (df (aQ D_law_mix (hr.mono (by decide)) (by rfl) (af (aa 0) (af (bd (dM ah (aa 6)) ah) ar))) (bd (dM ah (aa 2)) ah)) (aa 2)) cI)))))))))
  (aj (aH (aa 4))))))
abbrev eU:Stmt:=hM 39
theorem i3:FnScope ["_law_cord_here"] ["_law_cord_here"] (ai eU):=⟨rfl,rfl,rfl,by decide+kernel,rfl,by decide+kernel,by decide+kernel⟩
theorem i4 (D:Def K mg "_law_contrary" eU ["_law_cord_here"]) (B:Bn mg):Own P w K mg base 1 "_law_contrary" ["_law_cord_here"] (da K aZ):=by
  delta aZ
  refine fw (g:=dk) D i3 rfl rfl (by decide) fun f cdv A outer s H E hr=>?_
  delta dk
  exact (aj (aH (jC (N:=["_law_nail","_law_turns"]) (js:=[none,none]) fF (by rfl) (wm (by rfl) (by exact B.reversed) (aa 0)) (fun _ _ _ _=>(by delta cA;exact (ix (by rfl) (b9 (bV 0 (show (["_law_nail","_law_turns"]:List Str).Nodup by decide+kernel)) (b9 (bV 1 (show (["_law_nail","_law_turns"]:List Str).Nodup by decide+kernel)) gB))))) (fun _ _ _ _=>(by delta bK;exact (iw (bq (aa 0) (bq (jx (aa 1)) cI))))))))
abbrev gu:Stmt:=hM 40
theorem sc_law_short:FnScope ["_law_cord_here","_law_runs","_law_nail","_law_turns"] ["_law_cord_here"] (ai gu):=⟨rfl,rfl,rfl,by decide+kernel,rfl,by decide+kernel,by decide+kernel⟩
theorem lY (D:Def K mg "_law_short" gu ["_law_cord_here"]) (B:Bn mg):Own P w K mg base 1 "_law_short" ["_law_cord_here"] (da K bb):=by
  delta bb
  refine fw (g:=fb) D sc_law_short rfl rfl (by decide) fun f cdv A outer s H E hr=>?_
  delta fb
  exact (ag (aD 1 sc_law_short.nd (fg cI))
  (ag (gZ PassesOwn.never (by rfl) (iA (aa 0)) (by delta cE;exact (ix (by rfl) (b9 (bV 2 sc_law_short.nd) (b9 (bV 3 sc_law_short.nd) gB))))
  (by delta aX;exact (ag (cz (j6 (lD (hV .gt (dN (by rfl) (by exact B.len) (af (aa 1) ar)) ah) (i8 (iP hr.units (bX (bX (aa 1) (jx ah)) ah) (aa 2)))))
  (ag (aD 3 sc_law_short.nd (bd (aa 3) (bX (bX (aa 1) (jx ah)) ah)))
  (aj (fJ (rZ 1))))
  a9)
  (aj (cz (gQ hr.units (aa 3) ah)
  (aj (fJ (fv 1 (iw (bq (aa 2) (bq (aa 3) cI))))))
  a9)))))
  (aj (aH (aa 1)))))
abbrev gv:Stmt:=hM 41
theorem sc_law_right:FnScope ["_law_found","_law_due","_law_one","_law_other"] ["_law_found","_law_due"] (ai gv):=⟨rfl,rfl,rfl,by decide+kernel,rfl,by decide+kernel,by decide+kernel⟩
theorem lZ (D:Def K mg "_law_right" gv ["_law_found","_law_due"]) (B:Bn mg):Own P w K mg base 1 "_law_right" ["_law_found","_law_due"] (da K bL):=by
  delta bL
  refine fw (g:=fc) D sc_law_right rfl rfl (by decide) fun f cdv A outer s H E hr=>?_
  delta fc
  exact (ag (cz (j6 (gR (fH (dw (gj .list (by rfl) (by exact B.isinstance) (aa 0) (by rfl) (by exact B.list) PyProof.Rows.boot_list))) (iu (gQ hr.units (dN (by rfl) (by exact B.len) (af (aa 0) ar)) (dN (by rfl) (by exact B.len) (af (aa 1) ar))))))
  (aj (aH kN))
  a9)
  (ag (gZ PassesOwn.never (by rfl) (wv (by rfl) (by exact B.zip) (aa 0) (aa 1)) (by delta cF;exact (ix (by rfl) (b9 (bV 2 sc_law_right.nd) (b9 (bV 3 sc_law_right.nd) gB))))
  (by delta cG;exact (ag (cz (j6 (gR (fH (dw (gj .tuple (by rfl) (by exact B.isinstance) (aa 2) (by rfl) (by exact B.tuple) PyProof.Rows.boot_tuple))) (gR (gQ hr.units (dN (by rfl) (by exact B.len) (af (aa 2) ar)) ah) (iu (fH (dw (gj .str (by rfl) (by exact B.isinstance) (bX (aa 2) ah) (by rfl) (by exact B.str) PyProof.Rows.boot_str)))))))
  (aj (aH kN))
  a9)
  (aj (cz (j6 (gR (fH (dw (gj .int (by rfl) (by exact B.isinstance) (bX (aa 2) ah) (by rfl) (by exact B.int) PyProof.Rows.boot_int))) (gR (dw (gj .bool (by rfl) (by exact B.isinstance) (bX (aa 2) ah) (by rfl) (by exact B.bool) PyProof.Rows.boot_bool)) (iu (gQ hr.units (aa 2) (aa 3))))))
  (aj (aH kN))
  a9)))))
  (aj (aH kN))))
abbrev g_:Stmt:=hM 43
theorem sc_law_text:FnScope ["_law_cord_here","_law_words","_law_nail","_law_turns"] ["_law_cord_here"] (ai g_):=⟨rfl,rfl,rfl,by decide+kernel,rfl,by decide+kernel,by decide+kernel⟩
theorem ng (D:Def K mg "_law_text" g_ ["_law_cord_here"]) (B:Bn mg):Own P w K mg base 1 "_law_text" ["_law_cord_here"] (da K b6):=by
  delta b6
  refine fw (g:=fR) D sc_law_text rfl rfl (by decide) fun f cdv A outer s H E hr=>?_
  delta fR
  exact (ag (aD 1 sc_law_text.nd du)
  (ag (gZ PassesOwn.never (by rfl) (iA (aa 0)) (by delta cg;exact (ix (by rfl) (b9 (bV 2 sc_law_text.nd) (b9 (bV 3 sc_law_text.nd) gB))))
  (by delta ci;exact (aj (aD 1 sc_law_text.nd (bd (bd (aa 1) (aa 2)) (uL (pd (by rfl) (by exact B.str) (af (aa 3) ar)) (uH (by rfl) (by exact B.int) (af (xL hr.units (aa 3) ah) ar))))))))
  (aj (aH (aa 1)))))
abbrev hE:Stmt:=hM 44
theorem ni:FnScope ["_law_cord_here","_law_cell"] ["_law_cord_here","_law_cell"] (ai hE):=⟨rfl,rfl,rfl,by decide+kernel,rfl,by decide+kernel,by decide+kernel⟩
theorem nj (D:Def K mg "_law_long" hE ["_law_cord_here","_law_cell"]) (B:Bn mg):Own P w K mg base 1 "_law_long" ["_law_cord_here","_law_cell"] (da K bM):=by
  delta bM
  refine fw (g:=eQ) D ni rfl rfl (by decide) fun f cdv A outer s H E hr=>?_
  delta eQ
  exact (ag (cz (gQ hr.units (df (aa 1) ah) ah)
  (aj (aH (aa 0)))
  a9)
  (aj (aH (jH (dM (aa 0) (bd ah (df (gA (aa 1) ah) ah))) lE (fI ah)))))
abbrev jR:Stmt:=hM 45
theorem sc_law:FnScope ["_law_script","_law_nails_here","_law_wide_here","_law_cord_here","_law_at_here","_law_ahead","_law_runs","_law_handed","_law_shown","_law_term","_law_second"] ["_law_script"] (ai jR):=⟨rfl,rfl,rfl,by decide+kernel,rfl,by decide+kernel,by decide+kernel⟩
theorem wG {f0:Addr} {fd:FuncData} (D:Fun K "law" "law" jR f0 fd) (B:Bn mg) (D_law_at:Own P w K mg base 1 "_law_at" ["_law_script","_law_k"] (da K aF)) (D_law_nails:Own P w K mg base 1 "_law_nails" ["_law_cell"] (da K bJ)) (D_law_cord:Own P w K mg base 2 "_law_cord" ["_law_cell","_law_nails_here","_law_wide_here","_law_most"] (da K aT)) (D_law_long:Own P w K mg base 1 "_law_long" ["_law_cord_here","_law_cell"] (da K bM)) (D_law_contrary:Own P w K mg base 1 "_law_contrary" ["_law_cord_here"] (da K aZ)) (D_law_short:Own P w K mg base 1 "_law_short" ["_law_cord_here"] (da K bb)) (D_written:Own P w K mg base 5 "written" ["cord"] (da K ba)) (D_law_text:Own P w K mg base 1 "_law_text" ["_law_cord_here"] (da K b6)) (D_read:Own P w K mg base 7 "read" ["text"] (da K e9)) (D_m_cord:DispM P w K mg base 6 "cord" di) (D_law_right:Own P w K mg base 1 "_law_right" ["_law_found","_law_due"] (da K bL)) (D_m_text:DispM P w K mg base 4 "text" cL):FnOk P w K mg base iK 8 f0 fd ["_law_script"] (da K g8):=by
  delta g8
  refine zI (g:=k5) D sc_law rfl rfl (by decide) fun cdv A outer s H E hr=>?_
  delta k5
  exact (ag (aD 1 sc_law.nd (aQ D_law_nails (hr.mono (by decide)) (by rfl) (af (aQ D_law_at (hr.mono (by decide)) (by rfl) (af (aa 0) (af ah ar))) ar)))
  (ag (aD 2 sc_law.nd (bX (fg (bq ah (bq ah (bq ah (bq (dM ah (nW ah ah)) cI))))) (df (gA (aQ D_law_at (hr.mono (by decide)) (by rfl) (af (aa 0) (af ah ar))) ah) ah)))
  (ag (aD 3 sc_law.nd (aQ D_law_cord (hr.mono (by decide)) (by rfl) (af (aQ D_law_at (hr.mono (by decide)) (by rfl) (af (aa 0) (af ah ar))) (af (aa 1) (af (aa 2) (af ah ar))))))
  (ag (cz (hV .lt (aa 2) ah)
  (aj (aD 3 sc_law.nd (aQ D_law_long (hr.mono (by decide)) (by rfl) (af (aa 3) (af (aQ D_law_at (hr.mono (by decide)) (by rfl) (af (aa 0) (af ah ar))) ar)))))
  a9)
  (ag (cz (iP hr.units (df (gA (aQ D_law_at (hr.mono (by decide)) (by rfl) (af (aa 0) (af ah ar))) ah) ah) ah)
  (ag (aD 4 sc_law.nd (df (aQ D_law_at (hr.mono (by decide)) (by rfl) (af (aa 0) (af ah ar))) (bd (dN (by rfl) (by exact B.len) (af (aa 3) ar)) ah)))
  (ag (aD 5 sc_law.nd (jH (aa 3) lE (fI (aa 4))))
  (aj (aD 3 sc_law.nd (bd (bd (bd (aa 5) (aQ D_law_contrary (hr.mono (by decide)) (by rfl) (af (aa 5) ar))) (aa 5)) (jH (aa 3) (fI (aa 4)) lE))))))
  a9)
  (ag (aD 6 sc_law.nd (aQ D_law_short (hr.mono (by decide)) (by rfl) (af (aa 3) ar)))
  (ag (aD 7 sc_law.nd (uC (by rfl) (by exact B.list) (aa 3)))
  (ag (aD 8 sc_law.nd (aQ D_written (hr.mono (by decide)) (by rfl) (af (aa 7) ar)))
  (ag (cz (j6 (gR (gQ hr.units (aa 7) (aa 3)) (gR (fH (dw (gj .str (by rfl) (by exact B.isinstance) (aa 8) (by rfl) (by exact B.str) PyProof.Rows.boot_str))) (iu (gQ hr.units (aa 8) (aQ D_law_text (hr.mono (by decide)) (by rfl) (af (aa 6) ar)))))))
  (aj (aH kN))
  a9)
  (ag (aD 9 sc_law.nd (aQ D_read (hr.mono (by decide)) (by rfl) (af (aa 8) ar)))
  (ag (cz (j6 (gR (fH (dw (aQ D_law_right (hr.mono (by decide)) (by rfl) (af (fN D_m_cord (hr.mono (by decide)) (aa 9)) (af (aa 6) ar))))) (gR (gQ hr.units (fN D_m_text (hr.mono (by decide)) (aa 9)) (aa 8)) (iu (gQ hr.units (aQ D_written (hr.mono (by decide)) (by rfl) (af (fN D_m_cord (hr.mono (by decide)) (aa 9)) ar)) (aa 8))))))
  (aj (aH kN))
  a9)
  (ag (aD 10 sc_law.nd (aQ D_law_cord (hr.mono (by decide)) (by rfl) (af (aQ D_law_at (hr.mono (by decide)) (by rfl) (af (aa 0) (af ah ar))) (af (aa 1) (af (aa 2) (af ah ar))))))
  (ag (cz (iP hr.units (df (aQ D_law_at (hr.mono (by decide)) (by rfl) (af (aa 0) (af ah ar))) ah) ah)
  (aj (aD 10 sc_law.nd (bd (bd (aa 3) (aa 10)) (aQ D_law_contrary (hr.mono (by decide)) (by rfl) (af (aa 10) ar)))))
  a9)
  (aj (aH (oW hr.units (oW hr.units (aQ D_written (hr.mono (by decide)) (by rfl) (af (aa 10) ar)) (aa 8)) (oW hr.units (aQ D_law_short (hr.mono (by decide)) (by rfl) (af (aa 10) ar)) (aa 6))))))))))))))))))
end
end Nhk65
namespace Nhk65
open PySem L2 Nh PL
theorem bB (w:List Nat):(⟨w.toArray⟩:Str).length=w.length:=by show w.toArray.size=_;simp
theorem cm (ns:List Int) (k:Nat):aF [.list (ns.map .int), .int k]=some (.sh (.int (ns.getD k 0))):=by
  simp only [aF,cr,List.length_cons,List.length_nil,Nat.zero_add,Nat.reduceAdd,b7,h7,ap,aI,bp,ae,ab,ay,List.map_cons,List.map_nil,Nat.sub_self,List.replicate,List.cons_append,List.nil_append,List.getElem?_cons_succ,List.getElem?_cons_zero,Sl.isBr,Bool.false_and,Bool.false_eq_true,bn,ad,ao,Option.map_some,if_false,cq,bS,look,Sl.val,bg,Cm.i,Cm.s,Option.bind_some,aw,aC,c_,hot,aV,ax,pC,bO,aS,if_true]
  by_cases h:k < ns.length
  · simp [h,cD,a8,bO,aS]
  · simp [h,List.getElem?_eq_none (Nat.le_of_not_lt h),a8,bO,aS]
theorem wH (cell k:Int) (a:∀i:Int,dE i k=true) (b:∀i j:Int,dE (i % 2305843009213693951 / 8191+k*k) j=true) (c:∀j:Int,dE (cell % 2305843009213693951+131*k+17) j=true):∃z:Int,bz [.int cell, .int k]=some (.sh (.int z)):=by
  have d1:dq 8191=true∧dq 7=true:=by decide
  simp only [bz,cr,List.length_cons,List.length_nil,Nat.zero_add,Nat.reduceAdd,b7,gI,ap,av,ae,ab,ay,List.map_cons,List.map_nil,Nat.reduceSub,List.replicate,List.cons_append,List.nil_append,List.getElem?_cons_zero,Sl.isBr,Bool.false_and,Bool.false_eq_true,pC,cp,bS,look,Sl.val,gP,Option.bind_some,if_false,Int.reduceLT,decide_true,if_true,Option.map_some,dQ,hot,aV,Bool.not_false,Bool.true_or,Bool.and_true,aG,List.getElem?_cons_succ,a,PL.settle,frz,frzAll,Nat.reduceLT,List.set_cons_succ,List.set_cons_zero,aC,c8,c,d1.1,b,d1.2,bO,aS,a8]
  exact ⟨_,rfl⟩
theorem hG (cell:Int) (k:Nat) (h:k≤100000):∃z:Int,bz [.int cell, .int k]=some (.sh (.int z)):=by
  refine wH cell k (fun i=>uM (by omega) (by omega)) (fun i j=>?_) fun j=>?_
  · have h1:=Int.emod_nonneg i (show (2305843009213693951:Int)≠0 by omega)
    have h2:=Int.emod_lt_of_pos i (show (0:Int) < 2305843009213693951 by omega)
    have kk:(k:Int)*k≤100000*100000:=Int.mul_le_mul (by omega) (by omega) (by omega) (by omega)
    have kn:0≤(k:Int)*k:=Int.mul_nonneg (by omega) (by omega)
    generalize i % 2305843009213693951=z at h1 h2
    exact h6 (by omega) (by omega)
  · have h1:=Int.emod_nonneg cell (show (2305843009213693951:Int)≠0 by omega)
    have h2:=Int.emod_lt_of_pos cell (show (0:Int) < 2305843009213693951 by omega)
    generalize cell % 2305843009213693951=z at h1 h2
    exact h6 (by omega) (by omega)
theorem qr:∀i,i < 6→∀j,j < 26→0 < (Txt.slice (Str.ofString "abcdefghijklmnopqrstuvwxyz"++Str.ofString "abcdefghijklmnopqrstuvwxyz") (some ((j:Nat):Int)) (some (((j:Nat):Int)+[2,3,2,26,5,1].getD i 0))).cps.toList.length∧(Txt.slice (Str.ofString "abcdefghijklmnopqrstuvwxyz"++Str.ofString "abcdefghijklmnopqrstuvwxyz") (some ((j:Nat):Int)) (some (((j:Nat):Int)+[2,3,2,26,5,1].getD i 0))).cps.toList.length≤26∧(Txt.slice (Str.ofString "abcdefghijklmnopqrstuvwxyz"++Str.ofString "abcdefghijklmnopqrstuvwxyz") (some ((j:Nat):Int)) (some (((j:Nat):Int)+[2,3,2,26,5,1].getD i 0))).cps.toList.all (fun a=>decide (97≤a∧a≤122))=true:=by decide+kernel
theorem wI:∀i,i < 6→[PyData.int 2, .int 3, .int 2, .int 26, .int 5, .int 1][i]? =some (.int ([2,3,2,26,5,1].getD i 0))
  | 0,_=>rfl
  | 1,_=>rfl
  | 2,_=>rfl
  | 3,_=>rfl
  | 4,_=>rfl
  | 5,_=>rfl
theorem uV:(Str.ofString "abcdefghijklmnopqrstuvwxyz").length+(Str.ofString "abcdefghijklmnopqrstuvwxyz").length≤1000000:=by decide+kernel
theorem sM:(Str.ofString "abcdefghijklmnopqrstuvwxyz"++Str.ofString "abcdefghijklmnopqrstuvwxyz").length≤1000000:=by decide+kernel
theorem l4 (z:Int):∃w:List Nat,bJ [.int z]=some (.sh (.str ⟨w.toArray⟩))∧0 < w.length∧w.length≤26∧∀a∈w,97≤a∧a≤122:=by
  have m0:=Int.emod_nonneg z (show (6:Int)≠0 by decide)
  have m1:=Int.emod_lt_of_pos z (show (0:Int) < 6 by decide)
  have n0:=Int.emod_nonneg (z / 6) (show (26:Int)≠0 by decide)
  have n1:=Int.emod_lt_of_pos (z / 6) (show (0:Int) < 26 by decide)
  obtain ⟨i,hi⟩:∃i:Nat,z % 6=i:=⟨(z % 6).toNat,by omega⟩
  obtain ⟨j,hj⟩:∃j:Nat,z / 6 % 26=j:=⟨(z / 6 % 26).toNat,by omega⟩
  obtain ⟨l0,l1,l2⟩:=qr i (by omega) j (by omega)
  have dd:dq 6=true∧dq 26=true:=by decide
  have s6:=wI i (by omega)
  refine ⟨(Txt.slice (Str.ofString "abcdefghijklmnopqrstuvwxyz"++Str.ofString "abcdefghijklmnopqrstuvwxyz") (some ((j:Nat):Int)) (some (((j:Nat):Int)+[2,3,2,26,5,1].getD i 0))).cps.toList,?_,l0,l1,fun a ha=>by simpa using List.all_eq_true.mp l2 a ha⟩
  have fin:∀s:Str,(⟨s.cps.toList.toArray⟩:Str)=s:=fun s=>by cases s;simp
  rw [fin]
  simp only [bJ,cr,List.length_cons,List.length_nil,Nat.zero_add,b7,e_,ap,av,pC,ay,List.map_cons,List.map_nil,Nat.reduceSub,List.replicate,List.cons_append,List.nil_append,PL.settle,frz,frzAll,Option.bind_some,Nat.reduceAdd,Nat.reduceLT,List.set_cons_succ,List.set_cons_zero,if_true,ae,dy,sf,Nat.reduceLeDiff,Sl.isBr,Bool.false_and,Bool.false_eq_true,ab,cp,bS,look,Sl.val,gP,if_false,c_,hot,aV,c8,aC,gM,aG,dr,List.getElem?_cons_zero,Int.reduceLT,decide_true,hi,Option.map_some,cD,s6,dd.1,hj,List.getElem?_cons_succ,Bool.not_false,Bool.true_or,Bool.and_true,uV,sM,bO,aS,a8]
def CkW (W:Int) (c:List Pc):Prop:=∀p∈c,(97≤p.1∧p.1≤122)∧p.2.natAbs≤W.natAbs
theorem pf {W:Int}:CkW W []:=fun _ z=>nomatch z
theorem CkW.append {W:Int} {c d:List Pc} (h:CkW W c) (h':CkW W d):CkW W (c++d):=fun p hp=>(List.mem_append.mp hp).elim (h p) (h' p)
theorem sN {w:List Nat} (h:0 < w.length) (z:Int):∃y,y∈w∧atI w (z % (w.length:Int))=some y:=by
  have m0:=Int.emod_nonneg z (show (w.length:Int)≠0 by omega)
  have m1:=Int.emod_lt_of_pos z (show (0:Int) < w.length by omega)
  obtain ⟨i,hi⟩:∃i:Nat,z % (w.length:Int)=i:=⟨(z % (w.length:Int)).toNat,by omega⟩
  refine ⟨w[i]'(by omega),List.getElem_mem _,?_⟩
  rw [hi,cD,List.getElem?_eq_getElem]
theorem ph {W z:Int} (h1:1≤W) (h2:W < 2 ^ 100 - 1):(z % (2*W+1) - W).natAbs≤W.natAbs:=by
  have m0:=Int.emod_nonneg z (show 2*W+1≠0 by omega)
  have m1:=Int.emod_lt_of_pos z (show 0 < 2*W+1 by omega)
  generalize z % (2*W+1)=y at m0 m1
  omega
section
variable (w:List Nat) (W:Int) (hw:0 < w.length) (hw2:w.length≤26) (hn:∀a∈w,97≤a∧a≤122) (h1:1≤W) (h2:W < 2 ^ 100 - 1)
include hw hw2 hn h1 h2
theorem gw (x0 x3:Sl):∀(n lo:Nat) (bj:Int) (c:List Pc) (a b:Sl),c.length+n≤1000→CkW W c→
    ∃(rest':Int) (c':List Pc) (a' b':Sl),cJ cO cR (jB lo n) [x0, .sh (.str ⟨w.toArray⟩), .sh (.int W),x3, .ow (c.map aB), .ow [.int bj],a,b]=some ([x0, .sh (.str ⟨w.toArray⟩), .sh (.int W),x3, .ow (c'.map aB), .ow [.int rest'],a',b'], .nx)∧c'.length=c.length+n∧CkW W c'
  | 0,lo,bj,c,a,b,_,hc=>⟨bj,c,a,b,rfl,rfl,hc⟩
  | n+1,lo,bj,c,a,b,hl,hc=>by
    obtain ⟨y,hy,ey⟩:=sN hw bj
    have d1:dq (w.length:Int)=true:=jI (by omega) (by omega)
    have d2:dq (2*W+1)=true:=jI (by omega) (by omega)
    have m2:dE 2 W=true:=h6 (by decide) (by decide)
    have lw:w.length≤1000000:=by omega
    have lb:c.length < 1000000:=by omega
    have tt:=ph (z:=bj / (w.length:Int)) h1 h2
    have step:(cO (.int lo) [x0, .sh (.str ⟨w.toArray⟩), .sh (.int W),x3, .ow (c.map aB), .ow [.int bj],a,b]).bind cR=some ([x0, .sh (.str ⟨w.toArray⟩), .sh (.int W),x3, .ow ((c++[((y,bj / (w.length:Int) % (2*W+1) - W):Pc)]).map aB), .ow [.int (bj / (w.length:Int) / (2*W+1))], .sh (.int lo), .sh (.str ⟨#[y]⟩)], .nx):=by
      simp only [cO,a_,List.length_cons,List.length_nil,Nat.zero_add,Nat.reduceAdd,Nat.reduceLT,List.set_cons_succ,List.set_cons_zero,if_true,cR,ir,Option.bind_some,ap,av,ae,ab,List.getElem?_cons_succ,List.getElem?_cons_zero,Sl.isBr,Bool.true_and,dR,ad,bn,Bool.false_and,Bool.false_eq_true,ao,Option.map_some,if_false,cq,aY,c_,look,Sl.val,hot,aV,aw,bB,lw,aU,a8,Bool.and_true,d1,ey,PL.settle,frz,frzAll,cy,be,eO,aO,pC,dQ,Int.reduceNeg,Bool.not_false,Bool.true_or,aG,bS,gP,bC,m2,d2,Nat.reduceLeDiff,List.length_map,lb,List.map_append,List.map_cons,aB,List.map_nil]
    obtain ⟨r',c',a',b',e,l,k⟩:=gw x0 x3 n (lo+1) (bj / (w.length:Int) / (2*W+1)) (c++[((y,bj / (w.length:Int) % (2*W+1) - W):Pc)]) (.sh (.int lo)) (.sh (.str ⟨#[y]⟩)) (by simp;omega) (hc.append fun q hq=>by rw [List.mem_singleton.mp hq];exact ⟨hn y hy,tt⟩)
    refine ⟨r',c',a',b',?_,by rw [l];simp;omega,k⟩
    rw [kU,cJ,step]
    exact e
end
theorem jS (w:List Nat) (cell W K Ln z1 z2:Int) (y:Nat) (c:List Pc) (x3 x5 a b:Sl) (hLn:(w.length:Int)=Ln) (p1:0 < Ln) (p2:0 < 2*W+1) (lw:w.length≤1000000) (lb:c.length < 1000000) (m2:dE 2 W=true) (m3:dE 2 K=true) (ey:atI w (z1 % Ln)=some y)
    (e1:bz [.int cell, .int (2*K+1)]=some (.sh (.int z1))) (e2:bz [.int cell, .int (2*K+2)]=some (.sh (.int z2))):
    (cc (.int K) [.sh (.int cell), .sh (.str ⟨w.toArray⟩), .sh (.int W),x3, .ow (c.map aB),x5,a,b]).bind ce=some ([.sh (.int cell), .sh (.str ⟨w.toArray⟩), .sh (.int W),x3, .ow ((c++[((y,z2 % (2*W+1) - W):Pc)]).map aB),x5, .sh (.int K), .sh (.str ⟨#[y]⟩)], .nx):=by
  simp only [cc,a_,List.length_cons,List.length_nil,Nat.zero_add,Nat.reduceAdd,Nat.reduceLT,List.set_cons_succ,List.set_cons_zero,if_true,ce,cp,ir,Option.bind_some,ap,av,ae,ab,List.getElem?_cons_succ,List.getElem?_cons_zero,Sl.isBr,Bool.false_and,Bool.false_eq_true,ak,ad,pC,dQ,look,Sl.val,Int.reduceNeg,hot,aV,if_false,Bool.not_false,Bool.true_or,Bool.and_true,aG,ao,Option.map_some,bn,cq,bS,gP,c_,m3,aw,e1,bB,lw,hLn,p1,decide_true,ey,PL.settle,frz,frzAll,cy,be,eO,aO,bC,e2,m2,p2,Nat.reduceLeDiff,List.length_map,lb,List.map_append,List.map_cons,aB,List.map_nil]
section
variable (w:List Nat) (W:Int) (hw:0 < w.length) (hw2:w.length≤26) (hn:∀a∈w,97≤a∧a≤122) (h1:1≤W) (h2:W < 2 ^ 100 - 1)
include hw hw2 hn h1 h2
theorem gx (cell:Int) (x3 x5:Sl):∀(n lo:Nat) (c:List Pc) (a b:Sl),lo+n≤1000→c.length+n≤1000→CkW W c→
    ∃(c':List Pc) (a' b':Sl),cJ cc ce (jB lo n) [.sh (.int cell), .sh (.str ⟨w.toArray⟩), .sh (.int W),x3, .ow (c.map aB),x5,a,b]=some ([.sh (.int cell), .sh (.str ⟨w.toArray⟩), .sh (.int W),x3, .ow (c'.map aB),x5,a',b'], .nx)∧c'.length=c.length+n∧CkW W c'
  | 0,lo,c,a,b,_,_,hc=>⟨c,a,b,rfl,rfl,hc⟩
  | n+1,lo,c,a,b,hlo,hl,hc=>by
    obtain ⟨z1,e1⟩:=hG cell (2*lo+1) (by omega)
    obtain ⟨z2,e2⟩:=hG cell (2*lo+2) (by omega)
    rw [show ((2*lo+1:Nat):Int)=2*(lo:Int)+1 by omega] at e1
    rw [show ((2*lo+2:Nat):Int)=2*(lo:Int)+2 by omega] at e2
    generalize hL:(lo:Int)=K at e1 e2
    obtain ⟨y,hy,ey⟩:=sN hw z1
    obtain ⟨Ln,hLn⟩:∃Ln:Int,(w.length:Int)=Ln:=⟨_,rfl⟩
    have p1:0 < Ln:=by omega
    rw [hLn] at ey
    have p2:0 < 2*W+1:=by omega
    have m2:dE 2 W=true:=h6 (by decide) (by decide)
    have m3:dE 2 K=true:=h6 (by decide) (by decide)
    have lw:w.length≤1000000:=by omega
    have lb:c.length < 1000000:=by omega
    have tt:=ph (z:=z2) h1 h2
    have step:=jS w cell W K Ln z1 z2 y c x3 x5 a b hLn p1 p2 lw lb m2 m3 ey e1 e2
    obtain ⟨c',a',b',e,l,k⟩:=gx cell x3 x5 n (lo+1) (c++[((y,z2 % (2*W+1) - W):Pc)]) (.sh (.int K)) (.sh (.str ⟨#[y]⟩)) (by omega) (by simp;omega) (hc.append fun q hq=>by rw [List.mem_singleton.mp hq];exact ⟨hn y hy,tt⟩)
    refine ⟨c',a',b',?_,by rw [l];simp;omega,k⟩
    rw [kU,cJ,step]
    show cJ cc ce (jB (K+1) n) _=_
    rw [←hL] at e ⊢
    exact e
end
section
variable (w:List Nat) (W:Int) (hw:0 < w.length) (hw2:w.length≤26) (hn:∀a∈w,97≤a∧a≤122) (h1:1≤W) (h2:W < 2 ^ 100 - 1)
include hw hw2 hn h1 h2
theorem iW (cell:Int) (most:Nat) (hm:most≤100):∃c:List Pc,aT [.int cell, .str ⟨w.toArray⟩, .int W, .int most]=some (.ow (c.map aB))∧c.length≤most∧CkW W c:=by
  have dm:dq ((most:Int)+1)=true:=jI (by omega) (by omega)
  have pm:0 < (most:Int)+1:=by omega
  by_cases big: -1000000000000000000 < cell∧cell < 1000000000000000000
  · obtain ⟨z,ez⟩:=hG cell 0 (by omega)
    simp only [Int.natCast_zero] at ez
    have m0:=Int.emod_nonneg z (show (most:Int)+1≠0 by omega)
    have m1:=Int.emod_lt_of_pos z pm
    obtain ⟨n,hn'⟩:∃n:Nat,z % ((most:Int)+1)=n:=⟨(z % ((most:Int)+1)).toNat,by omega⟩
    obtain ⟨c',a',b',e,l,k⟩:=gx w W hw hw2 hn h1 h2 cell (.sh (.int most)) .no n 0 [] .no .no (by omega) (by simp;omega) pf
    refine ⟨c',?_,by rw [l];simp;omega,k⟩
    have ob: -1000000≤(n:Int)∧(n:Int)≤1000000:=by omega
    simp only [List.map_nil,Int.natCast_zero] at e
    simp only [aT,cr,List.length_cons,List.length_nil,Nat.zero_add,Nat.reduceAdd,b7,dz,ap,av,dy,bC,ay,List.map_cons,List.map_nil,Nat.reduceSub,List.replicate,List.cons_append,List.nil_append,Option.bind_some,Nat.reduceLeDiff,if_true,PL.settle,frz,frzAll,Nat.reduceLT,List.set_cons_succ,List.set_cons_zero,aI,bT,bp,bv,fu,ae,pC,Sl.isBr,Bool.false_and,Bool.false_eq_true,iZ,bS,look,Sl.val,gP,Int.reducePow,Int.reduceNeg,if_false,Int.reduceLE,Int.reduceLT,and_self,decide_true,Int.reduceToNat,Option.map_some,eN,Bool.or_false,ab,bg,Cm.i,Cm.s,aO,gL,iy,ad,dR,aG,hot,aV,Bool.not_false,Bool.true_or,Bool.and_true,ao,aC,ax,ak,cp,List.getElem?_cons_zero,big.2,big.1,Bool.not_true,List.getElem?_cons_succ,aU,a8,aw,ez,pm,hn',ob,Int.toNat_natCast,e,bO,aS,bY]
  · have m0:=Int.emod_nonneg cell (show (most:Int)+1≠0 by omega)
    have m1:=Int.emod_lt_of_pos cell pm
    obtain ⟨n,hn'⟩:∃n:Nat,cell % ((most:Int)+1)=n:=⟨(cell % ((most:Int)+1)).toNat,by omega⟩
    obtain ⟨r',c',a',b',e,l,k⟩:=gw w W hw hw2 hn h1 h2 (.sh (.int cell)) (.sh (.int most)) n 0 (cell / ((most:Int)+1)) [] .no .no (by simp;omega) pf
    refine ⟨c',?_,by rw [l];simp;omega,k⟩
    have ob: -1000000≤(n:Int)∧(n:Int)≤1000000:=by omega
    simp only [List.map_nil,Int.natCast_zero] at e
    by_cases b1: -1000000000000000000 < cell
    · have b2:¬cell < 1000000000000000000:=fun z=>big ⟨b1,z⟩
      simp only [aT,cr,List.length_cons,List.length_nil,Nat.zero_add,Nat.reduceAdd,b7,dz,ap,av,dy,bC,ay,List.map_cons,List.map_nil,Nat.reduceSub,List.replicate,List.cons_append,List.nil_append,Option.bind_some,Nat.reduceLeDiff,if_true,PL.settle,frz,frzAll,Nat.reduceLT,List.set_cons_succ,List.set_cons_zero,aI,bT,bp,bv,fu,ae,pC,Sl.isBr,Bool.false_and,Bool.false_eq_true,iZ,bS,look,Sl.val,gP,Int.reducePow,Int.reduceNeg,if_false,Int.reduceLE,Int.reduceLT,and_self,decide_true,Int.reduceToNat,Option.map_some,eN,Bool.or_false,ab,bg,Cm.i,Cm.s,aO,gL,iy,ad,dR,aG,hot,aV,Bool.not_false,Bool.true_or,Bool.and_true,ao,aY,aC,ax,ak,cp,List.getElem?_cons_zero,b2,decide_false,b1,List.getElem?_cons_succ,aU,a8,aw,dm,hn',ob,Int.toNat_natCast,e,bO,aS,bY]
    · simp only [aT,cr,List.length_cons,List.length_nil,Nat.zero_add,Nat.reduceAdd,b7,dz,ap,av,dy,bC,ay,List.map_cons,List.map_nil,Nat.reduceSub,List.replicate,List.cons_append,List.nil_append,Option.bind_some,Nat.reduceLeDiff,if_true,PL.settle,frz,frzAll,Nat.reduceLT,List.set_cons_succ,List.set_cons_zero,aI,bT,bp,bv,fu,ae,pC,Sl.isBr,Bool.false_and,Bool.false_eq_true,iZ,bS,look,Sl.val,gP,Int.reducePow,Int.reduceNeg,if_false,Int.reduceLE,Int.reduceLT,and_self,decide_true,Int.reduceToNat,Option.map_some,eN,Bool.or_false,ab,bg,Cm.i,Cm.s,aO,gL,iy,ad,dR,aG,hot,aV,Bool.not_false,Bool.true_or,Bool.and_true,ao,aY,aC,ax,ak,cp,List.getElem?_cons_zero,b1,decide_false,List.getElem?_cons_succ,aU,a8,aw,dm,hn',ob,Int.toNat_natCast,e,bO,aS,bY]
end
theorem nk (c:List Pc) (z:Int) {W:Int} (hc:CkW W c) (hl:c.length≤100):∃(c':List Pc) (r:Sl),bM [.list (c.map aB), .int z]=some r∧(r= .br (.list (c'.map aB))∨r= .ow (c'.map aB))∧c'.length≤1200∧CkW W c':=by
  have dd:dq 8=true:=by decide
  by_cases h5:z % 8=5
  · have m0:=Int.emod_nonneg (z / 8) (show (60:Int)≠0 by decide)
    have m1:=Int.emod_lt_of_pos (z / 8) (show (0:Int) < 60 by decide)
    obtain ⟨k,hk⟩:∃k:Int,z / 8 % 60=k:=⟨_,rfl⟩
    rw [hk] at m0 m1
    have lm:c.length*(1+k).toNat≤100*60:=Nat.mul_le_mul (by omega) (by omega)
    have lm2:c.length*(1+k).toNat≤1000000∧ -1000000≤1+k∧1+k≤1000000:=by omega
    refine ⟨cutL (List.replicate (1+k).toNat c).flatten none (some 1200),_,?_,Or.inr rfl,by have:=p7 (List.replicate (1+k).toNat c).flatten (show (0:Int)≤1200 by decide);omega,fun p hp=>?_⟩
    · simp only [bM,cr,List.length_cons,List.length_nil,Nat.zero_add,Nat.reduceAdd,b7,eQ,ap,aI,bp,ae,ab,ay,List.map_cons,List.map_nil,Nat.sub_self,List.replicate,List.cons_append,List.nil_append,List.getElem?_cons_succ,List.getElem?_cons_zero,Sl.isBr,Bool.false_and,Bool.false_eq_true,pC,cp,bS,look,Sl.val,gP,Option.bind_some,if_false,Int.reduceLT,decide_true,h5,if_true,Option.map_some,fG,aJ,Bool.not_true,aC,ax,gM,c8,aG,hot,aV,Bool.not_false,Bool.true_or,Bool.and_true,dQ,Int.reduceNeg,gi,dr,dd,hk,List.length_map,lm2,and_self,uF,jD,bY,Bool.or_true,bO,aS]
    · obtain ⟨l,hl',hpl⟩:=List.mem_flatten.mp (jE hp)
      rw [(List.mem_replicate.mp hl').2] at hpl
      exact hc p hpl
  · refine ⟨c, .br (.list (c.map aB)),?_,Or.inl rfl,by omega,hc⟩
    simp only [bM,cr,List.length_cons,List.length_nil,Nat.zero_add,Nat.reduceAdd,b7,eQ,ap,aI,bp,ae,ab,ay,List.map_cons,List.map_nil,Nat.sub_self,List.replicate,List.cons_append,List.nil_append,List.getElem?_cons_succ,List.getElem?_cons_zero,Sl.isBr,Bool.false_and,Bool.false_eq_true,pC,cp,bS,look,Sl.val,gP,Option.bind_some,if_false,Int.reduceLT,decide_true,if_true,Option.map_some,fG,aJ,h5,decide_false,Bool.not_false,aC,ax,gM,c8,aG,hot,aV,Bool.true_or,Bool.and_true,dQ,Int.reduceNeg,gi,dr,bO,aS,a8]
theorem l_ (x0 a b:Sl) (p:Pc) (st:List Pc) (lb:st.length+1≤300001):∃a' b',(cE (aB p) [x0, .ow (st.reverse.map aB),a,b]).bind aX=some ([x0, .ow ((NH.stp st p).reverse.map aB),a',b'], .nx):=by
  have et:∀ds,cE (aB p) [x0, .ow ds,a,b]=some [x0, .ow ds, .sh (.str ⟨#[p.1]⟩), .sh (.int p.2)]:=fun _=>rfl
  rw [et,Option.bind_some]
  cases st with
  | nil=>
    by_cases z:p.2=0
    · simp only [aX,ap,aI,cH,bp,ae,bn,ad,ab,List.reverse_nil,List.map_nil,z,List.getElem?_cons_succ,List.getElem?_cons_zero,Sl.isBr,Bool.false_and,Bool.false_eq_true,ao,Option.map_some,if_false,Option.bind_some,cq,aw,look,Sl.val,List.length_nil,Int.cast_ofNat_Int,pC,bS,bg,Cm.i,Cm.s,Int.reduceLT,decide_false,fu,eN,Int.reduceNeg,c_,hot,aV,eY,Option.any_some,av,aG,PL.settle,frz,frzAll,cy,gK,ax,Bool.not_false,Bool.true_or,Bool.and_true,fG,be,eO,aO,bC,aJ,decide_true,Bool.not_true,List.length_cons,Nat.zero_add,Nat.reduceAdd,Nat.reduceLeDiff,if_true,Nat.reduceLT,List.nil_append,List.set_cons_succ,List.set_cons_zero,NH.stp]
      exact ⟨_,_,rfl⟩
    · simp only [aX,ap,aI,cH,bp,ae,bn,ad,ab,List.reverse_nil,List.map_nil,List.getElem?_cons_succ,List.getElem?_cons_zero,Sl.isBr,Bool.false_and,Bool.false_eq_true,ao,Option.map_some,if_false,Option.bind_some,cq,aw,look,Sl.val,List.length_nil,Int.cast_ofNat_Int,pC,bS,bg,Cm.i,Cm.s,Int.reduceLT,decide_false,fu,eN,Int.reduceNeg,c_,hot,aV,eY,Option.any_some,av,aG,PL.settle,frz,frzAll,cy,gK,ax,Bool.not_false,Bool.true_or,Bool.and_true,fG,be,eO,aO,bC,aJ,z,List.length_cons,Nat.zero_add,Nat.reduceAdd,Nat.reduceLeDiff,if_true,Nat.reduceLT,List.nil_append,List.set_cons_succ,List.set_cons_zero,NH.stp]
      exact ⟨_,_,rfl⟩
  | cons q st=>
    have lb1:st.length < 1000000∧st.length+1 < 1000000∧st.length+1≤1000000:=by simp at lb;omega
    have gt:((st.length+1:Nat):Int) > 0:=by omega
    have gt2:0 < ((st.length+1:Nat):Int):=by omega
    by_cases e:q.1=p.1
    · by_cases z:q.2+p.2=0
      · simp only [aX,ap,aI,cH,bp,ae,bn,ad,ab,List.reverse_cons,List.map_append,List.map_cons,List.map_nil,List.getElem?_cons_succ,List.getElem?_cons_zero,Sl.isBr,Bool.false_and,Bool.false_eq_true,ao,Option.map_some,if_false,Option.bind_some,cq,aw,look,Sl.val,List.length_append,List.length_map,List.length_reverse,List.length_cons,List.length_nil,Nat.zero_add,pC,bS,bg,Cm.i,Cm.s,gt,decide_true,fu,eN,Int.reduceNeg,c_,hot,aV,eY,Option.any_some,cU,if_true,av,aG,PL.settle,frz,frzAll,cy,gK,ax,fG,be,eO,aO,bC,NH.stp]
        simp only [aB,e,fz,Option.map_some,Option.bind_some,List.getElem?_cons_succ,List.getElem?_cons_zero,dh,decide_true,Int.reduceNeg,Sl.val,Option.any_some,aV,Bool.false_and,Bool.false_eq_true,if_false,cU,f6,Bool.not_false,Bool.true_or,Bool.and_true,Int.add_comm p.2 q.2,z,List.length_cons,List.length_nil,Nat.zero_add,Nat.reduceAdd,Nat.reduceLT,List.set_cons_succ,List.set_cons_zero,if_true,List.dropLast_concat,gD,aJ,Bool.not_true,Nat.reduceLeDiff]
        simp [aB]
      · simp only [aX,ap,aI,cH,bp,ae,bn,ad,ab,List.reverse_cons,List.map_append,List.map_cons,List.map_nil,List.getElem?_cons_succ,List.getElem?_cons_zero,Sl.isBr,Bool.false_and,Bool.false_eq_true,ao,Option.map_some,if_false,Option.bind_some,cq,aw,look,Sl.val,List.length_append,List.length_map,List.length_reverse,List.length_cons,List.length_nil,Nat.zero_add,pC,bS,bg,Cm.i,Cm.s,gt,decide_true,fu,eN,Int.reduceNeg,c_,hot,aV,eY,Option.any_some,cU,if_true,av,aG,PL.settle,frz,frzAll,cy,gK,ax,fG,be,eO,aO,bC,NH.stp]
        simp only [aB,e,fz,Option.map_some,Option.bind_some,List.getElem?_cons_succ,List.getElem?_cons_zero,dh,decide_true,Int.reduceNeg,Sl.val,Option.any_some,aV,Bool.false_and,Bool.false_eq_true,if_false,cU,f6,Bool.not_false,Bool.true_or,Bool.and_true,Int.add_comm p.2 q.2,List.length_cons,List.length_nil,Nat.zero_add,Nat.reduceAdd,Nat.reduceLT,List.set_cons_succ,List.set_cons_zero,if_true,List.dropLast_concat,gD,aJ,z,decide_false,Nat.reduceLeDiff,List.length_map,List.length_reverse,lb1]
        simp [aB]
    · by_cases z:p.2=0
      · simp only [aX,ap,aI,cH,bp,ae,bn,ad,ab,List.reverse_cons,List.map_append,List.map_cons,List.map_nil,List.getElem?_cons_succ,List.getElem?_cons_zero,Sl.isBr,Bool.false_and,Bool.false_eq_true,ao,Option.map_some,if_false,Option.bind_some,cq,aw,look,Sl.val,List.length_append,List.length_map,List.length_reverse,List.length_cons,List.length_nil,Nat.zero_add,pC,bS,bg,Cm.i,Cm.s,gt,decide_true,fu,eN,Int.reduceNeg,c_,hot,aV,eY,Option.any_some,cU,if_true,av,aG,PL.settle,frz,frzAll,cy,gK,ax,fG,be,eO,aO,bC,NH.stp]
        simp only [aB,z,fz,Option.map_some,Option.bind_some,List.getElem?_cons_succ,List.getElem?_cons_zero,dh,jb,e,decide_false,Int.reduceNeg,Bool.false_eq_true,Sl.val,Option.any_some,aV,Bool.false_and,if_false,cU,f6,Bool.not_false,Bool.true_or,Bool.and_true,List.length_cons,List.length_nil,Nat.zero_add,Nat.reduceAdd,Nat.reduceLT,List.set_cons_succ,List.set_cons_zero,if_true,List.dropLast_concat,gD,aJ,decide_true,Bool.not_true,Nat.reduceLeDiff]
        simp [aB]
      · simp only [aX,ap,aI,cH,bp,ae,bn,ad,ab,List.reverse_cons,List.map_append,List.map_cons,List.map_nil,List.getElem?_cons_succ,List.getElem?_cons_zero,Sl.isBr,Bool.false_and,Bool.false_eq_true,ao,Option.map_some,if_false,Option.bind_some,cq,aw,look,Sl.val,List.length_append,List.length_map,List.length_reverse,List.length_cons,List.length_nil,Nat.zero_add,pC,bS,bg,Cm.i,Cm.s,gt,decide_true,fu,eN,Int.reduceNeg,c_,hot,aV,eY,Option.any_some,cU,if_true,av,aG,PL.settle,frz,frzAll,cy,gK,ax,fG,be,eO,aO,bC,NH.stp]
        simp only [aB,fz,Option.map_some,Option.bind_some,List.getElem?_cons_succ,List.getElem?_cons_zero,dh,jb,e,decide_false,Int.reduceNeg,Bool.false_eq_true,Sl.val,Option.any_some,aV,Bool.false_and,if_false,cU,f6,Bool.not_false,Bool.true_or,Bool.and_true,List.length_cons,List.length_nil,Nat.zero_add,Nat.reduceAdd,Nat.reduceLT,List.set_cons_succ,List.set_cons_zero,if_true,List.dropLast_concat,List.length_append,List.length_map,List.length_reverse,aJ,z,Nat.reduceLeDiff,lb1]
        simp [aB]
theorem h9 (x0:Sl):∀(c:List Pc) (st:List Pc) (a b:Sl),st.length+c.length≤300000→∃a' b',cJ cE aX (c.map aB) [x0, .ow (st.reverse.map aB),a,b]=some ([x0, .ow ((c.foldl NH.stp st).reverse.map aB),a',b'], .nx)
  | [],st,a,b,_=>⟨a,b,rfl⟩
  | p::c,st,a,b,h=>by
    obtain ⟨a',b',e⟩:=l_ x0 a b p st (by simp at h;omega)
    obtain ⟨a2,b2,e2⟩:=h9 x0 c (NH.stp st p) a' b' (by have:=NH.lq st p;simp at h;omega)
    refine ⟨a2,b2,?_⟩
    rw [List.map_cons,cJ,e]
    exact e2
theorem fW (c:List Pc) (h:c.length≤300000):bb [.list (c.map aB)]=some (.ow ((NH.short c).map aB)):=by
  obtain ⟨a,b,e⟩:=h9 (.sh (.list (c.map aB))) c [] .no .no (by simpa using h)
  simp only [List.reverse_nil,List.map_nil] at e
  simp only [bb,cr,List.length_cons,List.length_nil,Nat.zero_add,b7,fb,ap,av,dy,bC,ay,List.map_cons,List.map_nil,Nat.reduceSub,List.replicate,List.cons_append,List.nil_append,Option.bind_some,Nat.reduceLeDiff,if_true,PL.settle,frz,frzAll,Nat.reduceAdd,Nat.reduceLT,List.set_cons_succ,List.set_cons_zero,gL,iz,ab,aC,List.getElem?_cons_zero,e,List.getElem?_cons_succ,Option.map_some,bO,aS,bY,Option.some.injEq]
  rfl
theorem f7:∀(d:List Pc) (x0 x1:Sl),fZ cA gS bK (d.map aB) [x0,x1]=some ((d.map fun p=>((p.1,-p.2):Pc)).map aB)
  | [],x0,x1=>rfl
  | p::d,x0,x1=>by
    have e:(cA (aB p) [x0,x1])=some [.sh (.str ⟨#[p.1]⟩), .sh (.int p.2)]:=rfl
    have e2:bK [.sh (.str ⟨#[p.1]⟩), .sh (.int p.2)]=some (.sh (aB (p.1,-p.2)),[.sh (.str ⟨#[p.1]⟩), .sh (.int p.2)]):=by
      simp only [bK,eO,aO,ab,List.getElem?_cons_zero,frz,fu,look,Sl.val,eN,bC,Option.map_some,Option.bind_some,List.getElem?_cons_succ,List.length_cons,List.length_nil,Nat.zero_add,Nat.reduceAdd,Nat.reduceLeDiff,if_true,aB]
    rw [List.map_cons,fZ,e,Option.bind_some]
    simp only [gS,frz,Option.bind_some,e2,f7 d,Option.map_some,if_true,List.map_cons]
theorem f8 (c:List Pc) (h:c.length≤1000000):aZ [.list (c.map aB)]=some (.ow ((NH.contr c).map aB)):=by
  have hl:(NH.contr c).length=c.length:=NH.de c
  have e:(c.reverse.map fun p=>((p.1,-p.2):Pc))=NH.contr c:=rfl
  have k:=f7 c.reverse .no .no
  rw [e,List.map_reverse] at k
  simp only [aZ,cr,List.length_cons,List.length_nil,Nat.zero_add,b7,dk,aC,iR,r_,ab,ay,List.map_cons,List.map_nil,Nat.sub_self,List.replicate,List.cons_append,List.nil_append,List.getElem?_cons_zero,frz,Option.bind_some,g3,mR,k,bY,List.length_map,hl,h,decide_true,Bool.and_true,if_true,bO,aS]
theorem gT (x0:Sl):∀(c:List Pc) (st:List Pc) (a b d:Sl),st.length+c.length≤100000→∃a' b' d',cJ aM aN (c.map aB) [x0, .ow (st.reverse.map aB),a,b,d]=some ([x0, .ow ((c.foldl NH.stp st).reverse.map aB),a',b',d'], .nx)
  | [],st,a,b,d,_=>⟨a,b,d,rfl⟩
  | p::c,st,a,b,d,h=>by
    have step:∃a' b' d',(aM (aB p) [x0, .ow (st.reverse.map aB),a,b,d]).bind aN=some ([x0, .ow ((NH.stp st p).reverse.map aB),a',b',d'], .nx):=by
      cases st with
      | nil=>
        by_cases z:p.2=0
        · simp only [aM,dH,aB,z,List.length_cons,List.length_nil,Nat.zero_add,Nat.reduceAdd,bD,a_,List.reverse_nil,List.map_nil,Nat.reduceLT,List.set_cons_succ,List.set_cons_zero,if_true,Option.bind_some,dG,List.isEmpty_nil,aN,eY,fG,ap,av,ab,List.getElem?_cons_succ,List.getElem?_cons_zero,PL.settle,frz,frzAll,aI,cH,cB,Sl.val,bp,ae,Sl.isBr,Bool.false_and,Bool.false_eq_true,fu,pC,look,eN,Option.map_some,c_,hot,aV,if_false,bS,gK,aG,ax,cy,be,eO,aO,bC,dF,Bool.not_true,Option.any_some,Nat.reduceSub,aJ,decide_true,Nat.reduceLeDiff,List.nil_append,NH.stp]
          exact ⟨_,_,_,rfl⟩
        · simp only [aM,dH,aB,List.length_cons,List.length_nil,Nat.zero_add,Nat.reduceAdd,bD,a_,List.reverse_nil,List.map_nil,Nat.reduceLT,List.set_cons_succ,List.set_cons_zero,if_true,Option.bind_some,dG,List.isEmpty_nil,aN,eY,fG,ap,av,ab,List.getElem?_cons_succ,List.getElem?_cons_zero,PL.settle,frz,frzAll,aI,cH,cB,Sl.val,bp,ae,Sl.isBr,Bool.false_and,Bool.false_eq_true,fu,pC,look,eN,Option.map_some,c_,hot,aV,if_false,bS,gK,aG,ax,cy,be,eO,aO,bC,dF,Bool.not_true,Option.any_some,Nat.reduceSub,aJ,z,decide_false,Bool.not_false,Nat.reduceLeDiff,List.nil_append,NH.stp]
          exact ⟨_,_,_,rfl⟩
      | cons q st=>
        have lb:st.length < 1000000∧st.length+1 < 1000000:=by simp at h;omega
        by_cases e:q.1=p.1
        · by_cases z:q.2+p.2=0
          · simp only [aM,dH,bD,a_,List.reverse_cons,List.map_append,List.map_cons,List.map_nil,List.length_cons,List.length_nil,Nat.zero_add,Nat.reduceAdd,Nat.reduceLT,List.set_cons_succ,List.set_cons_zero,if_true,Option.bind_some,dG,aN,eY,fG,NH.stp]
            simp only [aB,List.length_cons,List.length_nil,Nat.zero_add,Nat.reduceAdd,List.isEmpty_nil,e,if_true,Option.bind_some,ap,av,ab,List.getElem?_cons_succ,List.getElem?_cons_zero,PL.settle,frz,frzAll,Nat.reduceLT,List.set_cons_succ,List.set_cons_zero,aI,cH,cB,Sl.val,bp,ae,Sl.isBr,Bool.false_and,Bool.false_eq_true,fu,pC,look,eN,Option.map_some,c_,hot,aV,if_false,bS,gK,aG,ax,cy,be,eO,aO,bC,dF,i_,Bool.not_false,Option.any_some,cU,fz,dh,decide_true,List.dropLast_concat,gD,f6,Bool.true_or,Bool.and_true,z,aJ,Bool.not_true,Nat.reduceLeDiff]
            simp [aB]
          · simp only [aM,dH,bD,a_,List.reverse_cons,List.map_append,List.map_cons,List.map_nil,List.length_cons,List.length_nil,Nat.zero_add,Nat.reduceAdd,Nat.reduceLT,List.set_cons_succ,List.set_cons_zero,if_true,Option.bind_some,dG,aN,eY,fG,NH.stp]
            simp only [aB,List.length_cons,List.length_nil,Nat.zero_add,Nat.reduceAdd,List.isEmpty_nil,e,if_true,Option.bind_some,ap,av,ab,List.getElem?_cons_succ,List.getElem?_cons_zero,PL.settle,frz,frzAll,Nat.reduceLT,List.set_cons_succ,List.set_cons_zero,aI,cH,cB,Sl.val,bp,ae,Sl.isBr,Bool.false_and,Bool.false_eq_true,fu,pC,look,eN,Option.map_some,c_,hot,aV,if_false,bS,gK,aG,ax,cy,be,eO,aO,bC,dF,i_,Bool.not_false,Option.any_some,cU,fz,dh,decide_true,List.dropLast_concat,gD,f6,Bool.true_or,Bool.and_true,aJ,z,decide_false,Nat.reduceLeDiff,List.length_map,List.length_reverse,lb]
            simp [aB]
        · by_cases z:p.2=0
          · simp only [aM,dH,bD,a_,List.reverse_cons,List.map_append,List.map_cons,List.map_nil,List.length_cons,List.length_nil,Nat.zero_add,Nat.reduceAdd,Nat.reduceLT,List.set_cons_succ,List.set_cons_zero,if_true,Option.bind_some,dG,aN,eY,fG,NH.stp]
            simp only [aB,z,List.length_cons,List.length_nil,Nat.zero_add,Nat.reduceAdd,List.isEmpty_nil,if_true,Option.bind_some,ap,av,ab,List.getElem?_cons_succ,List.getElem?_cons_zero,PL.settle,frz,frzAll,Nat.reduceLT,List.set_cons_succ,List.set_cons_zero,aI,cH,cB,Sl.val,bp,ae,Sl.isBr,Bool.false_and,Bool.false_eq_true,fu,pC,look,eN,Option.map_some,c_,hot,aV,if_false,bS,gK,aG,ax,cy,be,eO,aO,bC,dF,i_,Bool.not_false,Option.any_some,cU,fz,dh,jb,e,decide_false,List.dropLast_concat,gD,f6,Bool.true_or,Bool.and_true,aJ,decide_true,Bool.not_true,Nat.reduceLeDiff]
            simp [aB]
          · simp only [aM,dH,bD,a_,List.reverse_cons,List.map_append,List.map_cons,List.map_nil,List.length_cons,List.length_nil,Nat.zero_add,Nat.reduceAdd,Nat.reduceLT,List.set_cons_succ,List.set_cons_zero,if_true,Option.bind_some,dG,aN,eY,fG,NH.stp]
            simp only [aB,List.length_cons,List.length_nil,Nat.zero_add,Nat.reduceAdd,List.isEmpty_nil,if_true,Option.bind_some,ap,av,ab,List.getElem?_cons_succ,List.getElem?_cons_zero,PL.settle,frz,frzAll,Nat.reduceLT,List.set_cons_succ,List.set_cons_zero,aI,cH,cB,Sl.val,bp,ae,Sl.isBr,Bool.false_and,Bool.false_eq_true,fu,pC,look,eN,Option.map_some,c_,hot,aV,if_false,bS,gK,aG,ax,cy,be,eO,aO,bC,dF,i_,Bool.not_false,Option.any_some,cU,fz,dh,jb,e,decide_false,List.dropLast_concat,List.length_append,List.length_map,List.length_reverse,aJ,z,Nat.reduceLeDiff,lb]
            simp [aB]
    obtain ⟨a',b',d',e⟩:=step
    have ih:=gT x0 c (NH.stp st p) a' b' d' (by have:=NH.lq st p;simp at h;omega)
    obtain ⟨a2,b2,d2,e2⟩:=ih
    refine ⟨a2,b2,d2,?_⟩
    rw [List.map_cons,cJ,e]
    exact e2
theorem ku (c:List Pc) (h:c.length≤100000):ca [.list (c.map aB)]=some (.ow ((NH.short c).map aB)):=by
  obtain ⟨a,b,d,e⟩:=gT (.sh (.list (c.map aB))) c [] .no .no .no (by simpa using h)
  simp only [List.reverse_nil,List.map_nil] at e
  simp only [ca,cr,List.length_cons,List.length_nil,Nat.zero_add,b7,dZ,ap,av,dy,bC,ay,List.map_cons,List.map_nil,Nat.reduceSub,List.replicate,List.cons_append,List.nil_append,Option.bind_some,Nat.reduceLeDiff,if_true,PL.settle,frz,frzAll,Nat.reduceAdd,Nat.reduceLT,List.set_cons_succ,List.set_cons_zero,gL,iz,ab,aC,List.getElem?_cons_zero,e,List.getElem?_cons_succ,Option.map_some,bO,aS,bY,Option.some.injEq]
  rfl
theorem ia (x0 x1:Sl):∀(W:List Pc) (a b:Sl),NailsOk W→∃a' b',cJ cF cG (hU (W.map aB) (W.map aB)) [x0,x1,a,b]=some ([x0,x1,a',b'], .nx)
  | [],a,b,_=>⟨a,b,rfl⟩
  | p::W,a,b,h=>by
    have q:=wD (h p (List.mem_cons_self ..)) (h p (List.mem_cons_self ..))
    rw [decide_eq_true rfl] at q
    have q2:j5 (.tuple [.str ⟨#[p.1]⟩, .int p.2]) (.tuple [.str ⟨#[p.1]⟩, .int p.2])=some true:=q
    have e:(cF (.tuple [aB p,aB p]) [x0,x1,a,b]).bind cG=some ([x0,x1, .sh (aB p), .sh (aB p)], .nx):=by
      simp only [cF,dH,aB,List.length_cons,List.length_nil,Nat.zero_add,Nat.reduceAdd,bD,a_,Nat.reduceLT,List.set_cons_succ,List.set_cons_zero,if_true,Option.bind_some,dG,List.isEmpty_nil,cG,fG,ap,aI,dv,bT,cB,fu,ab,List.getElem?_cons_succ,List.getElem?_cons_zero,look,Sl.val,f_,Ty.is,tJ,Option.map_some,dF,Bool.not_true,bp,ae,bn,ad,Sl.isBr,Bool.false_and,Bool.false_eq_true,ao,if_false,cq,pC,bS,c_,hot,aV,aw,Int.cast_ofNat_Int,aJ,decide_true,fz,aC,ax,f6,q2]
    obtain ⟨a',b',ih⟩:=ia x0 x1 W (.sh (aB p)) (.sh (aB p)) fun r hr=>h r (List.mem_cons_of_mem _ hr)
    refine ⟨a',b',?_⟩
    rw [List.map_cons,hU,cJ,e]
    exact ih
theorem ma (W:List Pc) (h:NailsOk W) (hl:W.length≤100000):bL [.list (W.map aB), .list (W.map aB)]=some (.sh (.bool true)):=by
  obtain ⟨a,b,e⟩:=ia (.sh (.list (W.map aB))) (.sh (.list (W.map aB))) W .no .no h
  have lb:W.length≤1000000:=by omega
  simp only [bL,cr,List.length_cons,List.length_nil,Nat.zero_add,Nat.reduceAdd,b7,fc,ap,aI,dv,bT,cB,fu,ab,ay,List.map_cons,List.map_nil,Nat.reduceSub,List.replicate,List.cons_append,List.nil_append,List.getElem?_cons_zero,look,Sl.val,f_,Ty.is,tJ,Option.bind_some,Option.map_some,dF,Bool.not_true,bp,ae,bn,ad,Sl.isBr,Bool.false_and,Bool.false_eq_true,ao,if_false,cq,fG,bS,aw,List.length_map,List.getElem?_cons_succ,aJ,decide_true,aC,pC,ax,gL,sk,frz,e,bO,aS,a8,if_true]
theorem pi:(Str.ofString "0").cps.toList=[48]:=by decide+kernel
theorem vt:(Str.ofString "9").cps.toList=[57]:=by decide+kernel
theorem vv:(Str.ofString "-").cps.toList=[45]:=by decide+kernel
theorem sO (a b:Nat):decide ([a] < [b])=decide (a < b):=by
  by_cases h:a < b
  · rw [decide_eq_true h,decide_eq_true (List.cons_lt_cons_iff.mpr (.inl h))]
  · rw [decide_eq_false h]
    refine decide_eq_false fun z=>?_
    rcases List.cons_lt_cons_iff.mp z with z | z
    · omega
    · exact absurd z.2 (by simp)
def Dg (c:Nat):Prop:=48≤c∧c≤57
def yb (R:List Nat):Prop:=∀c,R.head? =some c→97≤c∧c≤122
theorem sP (T:List Nat) (x1:Sl) (n:Nat) (N c:Nat) (hN:T.length=N) (hT:N≤1000000) (hn:n < N) (hc:T[n]? =some c) (d:Dg c):aE [.sh (.str ⟨T.toArray⟩),x1, .sh (.int n)]=some (true,[.sh (.str ⟨T.toArray⟩),x1, .sh (.int n)]):=by
  have h1:decide (c < 48)=false:=decide_eq_false (by have:=d.1;omega)
  have h2:decide (57 < c)=false:=decide_eq_false (by have:=d.2;omega)
  have e1:((n:Int) < (N:Int))=True:=eq_true (by omega)
  simp only [aE,cH,bp,ae,ab,List.getElem?_cons_succ,List.getElem?_cons_zero,Sl.isBr,Bool.false_and,Bool.false_eq_true,bn,ad,ao,Option.map_some,if_false,cq,bS,look,Sl.val,bg,Cm.i,Cm.s,Option.bind_some,aw,bB,hN,hT,if_true,e1,decide_true,bv,pC,Bool.or_false,c_,hot,aV,cD,hc,vt,sO,h2,Bool.not_false,pi,h1]
theorem sQ (T:List Nat) (x1:Sl) (n:Nat) (N c:Nat) (hN:T.length=N) (hT:N≤1000000) (hn:n < N) (hc:T[n]? =some c) (d:97≤c):aE [.sh (.str ⟨T.toArray⟩),x1, .sh (.int n)]=some (false,[.sh (.str ⟨T.toArray⟩),x1, .sh (.int n)]):=by
  have h1:decide (c < 48)=false:=decide_eq_false (by omega)
  have h2:decide (57 < c)=true:=decide_eq_true (by omega)
  have e1:((n:Int) < (N:Int))=True:=eq_true (by omega)
  simp only [aE,cH,bp,ae,ab,List.getElem?_cons_succ,List.getElem?_cons_zero,Sl.isBr,Bool.false_and,Bool.false_eq_true,bn,ad,ao,Option.map_some,if_false,cq,bS,look,Sl.val,bg,Cm.i,Cm.s,Option.bind_some,aw,bB,hN,hT,if_true,e1,decide_true,bv,pC,Bool.or_false,c_,hot,aV,cD,hc,vt,sO,h2,Bool.not_true,pi,h1,Bool.not_false]
theorem sR (T:List Nat) (x1:Sl) (n:Nat) (N:Nat) (hN:T.length=N) (hT:N≤1000000) (hn:¬n < N):aE [.sh (.str ⟨T.toArray⟩),x1, .sh (.int n)]=some (false,[.sh (.str ⟨T.toArray⟩),x1, .sh (.int n)]):=by
  have e1:((n:Int) < (N:Int))=False:=eq_false (by omega)
  simp only [aE,cH,bp,ae,ab,List.getElem?_cons_succ,List.getElem?_cons_zero,Sl.isBr,Bool.false_and,Bool.false_eq_true,bn,ad,ao,Option.map_some,if_false,cq,bS,look,Sl.val,bg,Cm.i,Cm.s,Option.bind_some,aw,bB,hN,hT,if_true,e1,decide_false,bv,pC,Bool.or_false,c_,hot,aV]
theorem sS (x0 x1:Sl) (n:Nat):b5 [x0,x1, .sh (.int n)]=some ([x0,x1, .sh (.int ((n+1:Nat):Int))], .nx):=by
  simp only [b5,av,ae,ab,List.getElem?_cons_succ,List.getElem?_cons_zero,Sl.isBr,Bool.false_and,Bool.false_eq_true,pC,aG,look,Sl.val,hot,aV,Option.bind_some,Bool.not_false,Bool.true_or,Bool.and_true,if_false,PL.settle,frz,frzAll,List.length_cons,List.length_nil,Nat.zero_add,Nat.reduceAdd,Nat.reduceLT,List.set_cons_succ,List.set_cons_zero,if_true]
  rfl
theorem jd {T D:List Nat} {n c:Nat} (h:T.drop n=c::D):T[n]? =some c∧n < T.length∧T.drop (n+1)=D:=by
  have hn:n < T.length:=by
    rcases Nat.lt_or_ge n T.length with z | z
    · exact z
    · rw [List.drop_of_length_le z] at h;cases h
  rw [List.drop_eq_getElem_cons hn] at h
  injection h with h1 h2
  exact ⟨by rw [List.getElem?_eq_getElem hn,h1],hn,h2⟩
theorem sT (T:List Nat) (x1:Sl) (hT:T.length≤1000000):∀(D R:List Nat) (n:Nat),n≤T.length→T.drop n=D++R→(∀c∈D,Dg c)→yb R→bA aE b5 (D.length+1) [.sh (.str ⟨T.toArray⟩),x1, .sh (.int n)]=some ([.sh (.str ⟨T.toArray⟩),x1, .sh (.int ((n+D.length:Nat):Int))], .nx)
  | [],R,n,hn,h,hd,hs=>by
    have e:aE [.sh (.str ⟨T.toArray⟩),x1, .sh (.int n)]=some (false,[.sh (.str ⟨T.toArray⟩),x1, .sh (.int n)]):=by
      cases R with
      | nil=>
        refine sR T x1 n _ rfl hT fun z=>?_
        have:=congrArg List.length h
        simp at this
        omega
      | cons c R=>
        obtain ⟨a1,a2,a3⟩:=jd (by simpa using h)
        exact sQ T x1 n _ c rfl hT a2 a1 (hs c rfl).1
    rw [bA,e]
    rfl
  | d::D,R,n,hn,h,hd,hs=>by
    obtain ⟨a1,a2,a3⟩:=jd (D:=D++R) (by simpa using h)
    have e:=sP T x1 n _ d rfl hT a2 a1 (hd d (List.mem_cons_self ..))
    rw [bA,e,Option.bind_some]
    simp only [if_true,sS,Option.bind_some]
    have:=sT T x1 hT D R (n+1) a2 a3 (fun c hc=>hd c (List.mem_cons_of_mem _ hc)) hs
    rw [show n+(d::D).length=n+1+D.length by simp;omega]
    exact this
theorem eV (T D R:List Nat) (n:Nat) (hT:T.length≤1000000) (hn:n≤T.length) (h:T.drop n=D++R) (hd:∀c∈D,Dg c) (hs:yb R):bx [.str ⟨T.toArray⟩, .int n]=some (.sh (.int ((n+D.length:Nat):Int))):=by
  have w:=kW (sT T (.sh (.int n)) hT D R n hn h hd hs)
  simp only [bx,cr,List.length_cons,List.length_nil,Nat.zero_add,Nat.reduceAdd,b7,dC,ap,av,ab,ay,List.map_cons,List.map_nil,Nat.reduceSub,List.replicate,List.cons_append,List.nil_append,List.getElem?_cons_succ,List.getElem?_cons_zero,PL.settle,frz,frzAll,Option.bind_some,Nat.reduceLT,List.set_cons_succ,List.set_cons_zero,if_true,aC,w,bO,aS,a8]
theorem wJ (T:List Nat) (n:Nat):qz ⟨T.toArray⟩ (n:Int) (Str.ofString "0")=decide (T[n]? =some 48):=by
  unfold qz;rw [pi];simp
theorem yc (T:List Nat) (n:Nat):qz ⟨T.toArray⟩ (n:Int) (Str.ofString "-")=decide (T[n]? =some 45):=by
  unfold qz;rw [vv];simp
theorem jT:((Str.ofString "0").cps.toList.length=1)=True:=eq_true (by rw [pi];rfl)
theorem jU:((Str.ofString "-").cps.toList.length=1)=True:=eq_true (by rw [vv];rfl)
def ig (t:Int):List Nat:=if t=1 then [] else NH.jZ t
theorem fm (T:List Nat) (n a b:Nat) (res:Int) (h0:(T[n]? =some 48)=False) (ha:(if T[n]? =some 45 then n+1 else n)=a) (fe:bx [.str ⟨T.toArray⟩, .int a]=some (.sh (.int b)))
    (hr:(if T[a]? =some 48∨¬(1≤(b:Int) - a∧(b:Int) - a≤30) then (n:Int) else b)=res):aA [.str ⟨T.toArray⟩, .int n]=some (.sh (.int res)):=by
  have z:(0≤(n:Int))=True:=eq_true (by omega)
  have za:(0≤(a:Int))=True:=eq_true (by omega)
  have a0:qz ⟨T.toArray⟩ (n:Int) (Str.ofString "0")=false:=(wJ T n).trans (decide_eq_false (of_eq_false h0))
  by_cases hm:T[n]? =some 45
  · have am:qz ⟨T.toArray⟩ (n:Int) (Str.ofString "-")=true:=(yc T n).trans (decide_eq_true hm)
    rw [if_pos hm] at ha
    have ea:(n:Int)+1=(a:Int):=by omega
    by_cases q:T[a]? =some 48
    · have aq:qz ⟨T.toArray⟩ (a:Int) (Str.ofString "0")=true:=(wJ T a).trans (decide_eq_true q)
      rw [if_pos (.inl q)] at hr
      rw [←hr]
      simp only [aA,cr,List.length_cons,List.length_nil,Nat.zero_add,Nat.reduceAdd,b7,bh,ap,aI,cB,cV,ay,List.map_cons,List.map_nil,Nat.reduceSub,List.replicate,List.cons_append,List.nil_append,List.getElem?_cons_zero,ad,pC,Sl.isBr,Bool.false_and,Bool.false_eq_true,ab,ao,Option.map_some,if_false,Option.bind_some,List.getElem?_cons_succ,aw,look,Sl.val,jT,z,and_self,a0,if_true,dF,aC,ae,aG,hot,aV,Bool.not_false,Bool.true_or,Bool.and_true,ax,ea,av,mv,PL.settle,frz,frzAll,ak,dv,bT,bp,bv,Bool.or_false,ir,bS,gP,bg,Cm.i,Cm.s,jU,am,Nat.reduceLT,List.set_cons_succ,List.set_cons_zero,fe,za,aq,bO,aS,a8]
    · have aq:qz ⟨T.toArray⟩ (a:Int) (Str.ofString "0")=false:=(wJ T a).trans (decide_eq_false q)
      by_cases l1:1≤(b:Int) - a
      · by_cases l2:(b:Int) - a≤30
        · rw [if_neg (by simp [q,l1,l2])] at hr
          rw [←hr]
          simp only [aA,cr,List.length_cons,List.length_nil,Nat.zero_add,Nat.reduceAdd,b7,bh,ap,aI,cB,cV,ay,List.map_cons,List.map_nil,Nat.reduceSub,List.replicate,List.cons_append,List.nil_append,List.getElem?_cons_zero,ad,pC,Sl.isBr,Bool.false_and,Bool.false_eq_true,ab,ao,Option.map_some,if_false,Option.bind_some,List.getElem?_cons_succ,aw,look,Sl.val,jT,z,and_self,a0,if_true,dF,aC,ae,aG,hot,aV,Bool.not_false,Bool.true_or,Bool.and_true,ax,ea,av,mv,PL.settle,frz,frzAll,ak,dv,bT,bp,bv,Bool.or_false,ir,bS,gP,bg,Cm.i,Cm.s,jU,am,Nat.reduceLT,List.set_cons_succ,List.set_cons_zero,fe,za,aq,l2,decide_true,l1,Bool.not_true,bO,aS,a8]
        · rw [if_pos (by simp [q,l1,l2])] at hr
          rw [←hr]
          simp only [aA,cr,List.length_cons,List.length_nil,Nat.zero_add,Nat.reduceAdd,b7,bh,ap,aI,cB,cV,ay,List.map_cons,List.map_nil,Nat.reduceSub,List.replicate,List.cons_append,List.nil_append,List.getElem?_cons_zero,ad,pC,Sl.isBr,Bool.false_and,Bool.false_eq_true,ab,ao,Option.map_some,if_false,Option.bind_some,List.getElem?_cons_succ,aw,look,Sl.val,jT,z,and_self,a0,if_true,dF,aC,ae,aG,hot,aV,Bool.not_false,Bool.true_or,Bool.and_true,ax,ea,av,mv,PL.settle,frz,frzAll,ak,dv,bT,bp,bv,Bool.or_false,ir,bS,gP,bg,Cm.i,Cm.s,jU,am,Nat.reduceLT,List.set_cons_succ,List.set_cons_zero,fe,za,aq,l2,decide_false,l1,decide_true,bO,aS,a8]
      · rw [if_pos (by simp [q,l1])] at hr
        rw [←hr]
        simp only [aA,cr,List.length_cons,List.length_nil,Nat.zero_add,Nat.reduceAdd,b7,bh,ap,aI,cB,cV,ay,List.map_cons,List.map_nil,Nat.reduceSub,List.replicate,List.cons_append,List.nil_append,List.getElem?_cons_zero,ad,pC,Sl.isBr,Bool.false_and,Bool.false_eq_true,ab,ao,Option.map_some,if_false,Option.bind_some,List.getElem?_cons_succ,aw,look,Sl.val,jT,z,and_self,a0,if_true,dF,aC,ae,aG,hot,aV,Bool.not_false,Bool.true_or,Bool.and_true,ax,ea,av,mv,PL.settle,frz,frzAll,ak,dv,bT,bp,bv,Bool.or_false,ir,bS,gP,bg,Cm.i,Cm.s,jU,am,Nat.reduceLT,List.set_cons_succ,List.set_cons_zero,fe,za,aq,l1,decide_false,bO,aS,a8]
  · have am:qz ⟨T.toArray⟩ (n:Int) (Str.ofString "-")=false:=(yc T n).trans (decide_eq_false hm)
    rw [if_neg hm] at ha
    subst ha
    by_cases l1:1≤(b:Int) - n
    · by_cases l2:(b:Int) - n≤30
      · rw [if_neg (by simp [h0,l1,l2])] at hr
        rw [←hr]
        simp only [aA,cr,List.length_cons,List.length_nil,Nat.zero_add,Nat.reduceAdd,b7,bh,ap,aI,cB,cV,ay,List.map_cons,List.map_nil,Nat.reduceSub,List.replicate,List.cons_append,List.nil_append,List.getElem?_cons_zero,ad,pC,Sl.isBr,Bool.false_and,Bool.false_eq_true,ab,ao,Option.map_some,if_false,Option.bind_some,List.getElem?_cons_succ,aw,look,Sl.val,jT,z,and_self,a0,if_true,dF,aC,ae,aG,hot,aV,Bool.not_false,Bool.true_or,Bool.and_true,ax,av,mv,PL.settle,frz,frzAll,ak,dv,bT,bp,bv,Bool.or_false,ir,bS,gP,bg,Cm.i,Cm.s,jU,am,Nat.reduceLT,List.set_cons_succ,List.set_cons_zero,fe,l2,decide_true,l1,Bool.not_true,bO,aS,a8]
      · rw [if_pos (by simp [l1,l2])] at hr
        rw [←hr]
        simp only [aA,cr,List.length_cons,List.length_nil,Nat.zero_add,Nat.reduceAdd,b7,bh,ap,aI,cB,cV,ay,List.map_cons,List.map_nil,Nat.reduceSub,List.replicate,List.cons_append,List.nil_append,List.getElem?_cons_zero,ad,pC,Sl.isBr,Bool.false_and,Bool.false_eq_true,ab,ao,Option.map_some,if_false,Option.bind_some,List.getElem?_cons_succ,aw,look,Sl.val,jT,z,and_self,a0,if_true,dF,aC,ae,aG,hot,aV,Bool.not_false,Bool.true_or,Bool.and_true,ax,av,mv,PL.settle,frz,frzAll,ak,dv,bT,bp,bv,Bool.or_false,ir,bS,gP,bg,Cm.i,Cm.s,jU,am,Nat.reduceLT,List.set_cons_succ,List.set_cons_zero,fe,l2,decide_false,l1,decide_true,bO,aS,a8]
    · rw [if_pos (by simp [l1])] at hr
      rw [←hr]
      simp only [aA,cr,List.length_cons,List.length_nil,Nat.zero_add,Nat.reduceAdd,b7,bh,ap,aI,cB,cV,ay,List.map_cons,List.map_nil,Nat.reduceSub,List.replicate,List.cons_append,List.nil_append,List.getElem?_cons_zero,ad,pC,Sl.isBr,Bool.false_and,Bool.false_eq_true,ab,ao,Option.map_some,if_false,Option.bind_some,List.getElem?_cons_succ,aw,look,Sl.val,jT,z,and_self,a0,if_true,dF,aC,ae,aG,hot,aV,Bool.not_false,Bool.true_or,Bool.and_true,ax,av,mv,PL.settle,frz,frzAll,ak,dv,bT,bp,bv,Bool.or_false,ir,bS,gP,bg,Cm.i,Cm.s,jU,am,Nat.reduceLT,List.set_cons_succ,List.set_cons_zero,fe,l1,decide_false,bO,aS,a8]
theorem md {T R:List Nat} {n:Nat} (h:T.drop n=R):T[n]? =R.head? :=by
  rw [←h,List.head?_drop]
theorem kx (T R:List Nat) (n:Nat) (t:Int) (hT:T.length≤1000000) (hn:n≤T.length) (h:T.drop n=ig t++R) (t0:t≠0) (tb:t.natAbs < 10 ^ 30) (hs:yb R):aA [.str ⟨T.toArray⟩, .int n]=some (.sh (.int ((n+(ig t).length:Nat):Int))):=by
  by_cases h1:t=1
  · unfold ig at h ⊢
    rw [if_pos h1] at h ⊢
    have hh:=md h
    have nh:∀c,c < 97→(T[n]? =some c)=False:=fun c hc=>eq_false fun z=>by
      rw [hh] at z
      have:=(hs c z).1
      omega
    have fe:=eV T [] R n hT hn h (fun _ z=>nomatch z) hs
    refine fm T n n n _ (nh 48 (by decide)) (if_neg (by rw [nh 45 (by decide)];exact id)) fe ?_
    rw [if_pos (.inr (by omega))]
    simp
  · obtain ⟨s,D,e,hs1,hD,hne,hh,hl,_⟩:=NH.m_ t0 tb
    unfold ig at h ⊢
    rw [if_neg h1] at h ⊢
    rw [e] at h ⊢
    have hdg:∀c∈D,Dg c:=hD
    have l1:1≤D.length:=by cases D with | nil=>exact absurd rfl hne | cons=>simp
    obtain ⟨d0,D',eD⟩:∃d0 D',D=d0::D':=by cases D with | nil=>exact absurd rfl hne | cons a b=>exact ⟨a,b,rfl⟩
    have d0g:Dg d0:=hdg d0 (by rw [eD];simp)
    have d0n:d0≠48:=fun z=>hh (by rw [eD,z];rfl)
    rcases hs1 with rfl | rfl
    · have h':T.drop n=D++R:=by simpa using h
      have hh2:=md h'
      rw [eD] at hh2
      have hh3:T[n]? =some d0:=by simpa using hh2
      have fe:=eV T D R n hT hn h' hdg hs
      have n48:(T[n]? =some 48)=False:=eq_false fun z=>d0n (Option.some.inj (hh3.symm.trans z))
      have n45:¬T[n]? =some 45:=fun z=>by
        have:=Option.some.inj (hh3.symm.trans z)
        have:=d0g.1
        omega
      refine fm T n n (n+D.length) _ n48 (if_neg n45) fe ?_
      rw [if_neg (by rw [n48];simp;omega)]
      simp
    · obtain ⟨a1,a2,a3⟩:=jd (D:=D++R) (by simpa using h)
      have hh2:=md a3
      rw [eD] at hh2
      have hh3:T[n+1]? =some d0:=by simpa using hh2
      have fe:=eV T D R (n+1) hT a2 a3 hdg hs
      refine fm T n (n+1) (n+1+D.length) _ (eq_false fun z=>by rw [a1] at z;cases z) (if_pos a1) fe ?_
      rw [if_neg (by rw [hh3];simp;omega)]
      simp
      omega
def pj (n:Nat):Prop:=97≤n∧n≤122
theorem yd:(Str.ofString "a").cps.toList=[97]:=by decide+kernel
theorem ye:(Str.ofString "z").cps.toList=[122]:=by decide+kernel
theorem ze {n:Nat} (h:pj n):decide ([n] < (Str.ofString "a").cps.toList)=false:=by
  have h1:=h.1
  rw [yd]
  refine decide_eq_false fun z=>?_
  rcases List.cons_lt_cons_iff.mp z with z | z
  · omega
  · exact absurd z.2 (by simp)
theorem zf {n:Nat} (h:pj n):decide ((Str.ofString "z").cps.toList < [n])=false:=by
  have h2:=h.2
  rw [ye]
  refine decide_eq_false fun z=>?_
  rcases List.cons_lt_cons_iff.mp z with z | z
  · omega
  · exact absurd z.2 (by simp)
theorem ox (n:Nat) (h:pj n):cY [.str ⟨#[n]⟩]=some (.sh (.bool true)):=by
  have l:(⟨#[n]⟩:Str).length=1:=rfl
  have a:=ze h
  have z:=zf h
  simp only [cY,cr,List.length_cons,List.length_nil,Nat.zero_add,b7,gG,aC,oX,fu,ab,ay,List.map_cons,List.map_nil,Nat.sub_self,List.replicate,List.cons_append,List.nil_append,List.getElem?_cons_zero,look,Sl.val,f_,Ty.is,tJ,Option.bind_some,Option.map_some,ae,bn,ad,Sl.isBr,Bool.false_and,Bool.false_eq_true,ao,if_false,cq,pC,eY,bS,bv,Bool.or_false,bg,Cm.i,Cm.s,aw,l,Nat.reduceLeDiff,Int.cast_ofNat_Int,if_true,aJ,decide_true,z,Bool.not_false,a,bO,aS,a8]
theorem iH (T:List Nat) (n:Nat) (e:aA [.str ⟨T.toArray⟩, .int n]=some (.sh (.int n))):aW [.str ⟨T.toArray⟩, .int n]=some (.sh (.tuple [.int 1, .int n])):=by
  simp only [aW,cr,List.length_cons,List.length_nil,Nat.zero_add,Nat.reduceAdd,b7,cN,ap,av,ak,ad,ab,ay,List.map_cons,List.map_nil,Nat.reduceSub,List.replicate,List.cons_append,List.nil_append,List.getElem?_cons_zero,Sl.isBr,Bool.false_and,Bool.false_eq_true,ao,Option.map_some,if_false,Option.bind_some,List.getElem?_cons_succ,aw,look,Sl.val,e,PL.settle,frz,frzAll,Nat.reduceLT,List.set_cons_succ,List.set_cons_zero,if_true,aC,iT,iS,gm,mv,bp,ae,eY,bS,pC,bn,gM,dr,hot,aV,takeP,mZ,aJ,decide_true,Nat.reduceLeDiff,List.all_cons,sC,List.all_nil,Bool.and_true,Pt.val,bO,aS,a8,aU]
theorem iI (T:List Nat) (n m:Nat) (t:Int) (x:Str) (hT:(T.length≤1000000)=True) (hne:((m:Int)=(n:Int))=False) (hx:Txt.slice ⟨T.toArray⟩ (some (n:Int)) (some (m:Int))=x) (xl:(x.length≤640)=True) (xt:PySem.intText? x=some t) (e:aA [.str ⟨T.toArray⟩, .int n]=some (.sh (.int m))):aW [.str ⟨T.toArray⟩, .int n]=some (.sh (.tuple [.int t, .int m])):=by
  simp only [aW,cr,List.length_cons,List.length_nil,Nat.zero_add,Nat.reduceAdd,b7,cN,ap,av,ak,ad,ab,ay,List.map_cons,List.map_nil,Nat.reduceSub,List.replicate,List.cons_append,List.nil_append,List.getElem?_cons_zero,Sl.isBr,Bool.false_and,Bool.false_eq_true,ao,Option.map_some,if_false,Option.bind_some,List.getElem?_cons_succ,aw,look,Sl.val,e,PL.settle,frz,frzAll,Nat.reduceLT,List.set_cons_succ,List.set_cons_zero,if_true,aC,iT,iS,gm,mv,bp,ae,eY,bS,pC,bn,gM,dr,hot,aV,pc,takeP,mZ,aJ,hne,decide_false,bB,hT,hx,xl,xt,Nat.reduceLeDiff,List.all_cons,sC,List.all_nil,Bool.and_true,Pt.val,bO,aS,a8,aU]
def db (p:Pc):PyData:=f9 "Piece" [(.str "nail", .str ⟨#[p.1]⟩),(.str "turns", .int p.2),(.str "size", .int 1)]
def ky (r:List Pc):PyData:=f9 "Parts" [(.str "kept", .tuple (r.map db)),(.str "size", .int r.length)]
theorem kz (T:List Nat) (n m c:Nat) (t:Int) (hT:(T.length≤1000000)=True) (hc:T[n]? =some c) (e:aW [.str ⟨T.toArray⟩, .int ((n:Int)+1)]=some (.sh (.tuple [.int t, .int m]))):bR [.str ⟨T.toArray⟩, .int n]=some (.sh (.tuple [db (c,t), .int m])):=by
  simp only [bR,cr,List.length_cons,List.length_nil,Nat.zero_add,Nat.reduceAdd,b7,d_,ap,av,ak,ad,ab,ay,List.map_cons,List.map_nil,Nat.reduceSub,List.replicate,List.cons_append,List.nil_append,List.getElem?_cons_zero,Sl.isBr,Bool.false_and,Bool.false_eq_true,ae,pC,aG,look,Sl.val,hot,aV,Option.bind_some,Bool.not_false,Bool.true_or,Bool.and_true,if_false,ao,Option.map_some,List.getElem?_cons_succ,aw,e,PL.settle,frz,frzAll,Nat.reduceLT,List.set_cons_succ,List.set_cons_zero,if_true,aC,iT,iS,gm,iV,c_,dS,takeP,mZ,bB,hT,cD,hc,fz,f6,Nat.reduceLeDiff,List.all_cons,sC,List.all_nil,Pt.val,bO,aS,a8,aU]
  rfl
theorem me (T:List Nat) (n c:Nat) (r:PyData) (hT:(T.length≤1000000)=True) (hc:T[n]? =some c) (hn:cY [.str ⟨#[c]⟩]=some (.sh (.bool true))) (e:bR [.str ⟨T.toArray⟩, .int n]=some (.sh r)) (hf:a8 r=true) (z:PyData):bI [.str ⟨T.toArray⟩, .int n,z]=some (.sh r):=by
  simp only [bI,cr,List.length_cons,List.length_nil,Nat.zero_add,Nat.reduceAdd,b7,e8,ap,aI,cB,ak,ad,ae,ab,ay,List.map_cons,List.map_nil,Nat.sub_self,List.replicate,List.cons_append,List.nil_append,List.getElem?_cons_zero,Sl.isBr,Bool.false_and,Bool.false_eq_true,c_,look,Sl.val,hot,aV,if_false,Option.bind_some,List.getElem?_cons_succ,bB,hT,if_true,cD,hc,Option.map_some,ao,aw,hn,dF,aC,ax,e,bp,pC,eY,bS,bO,aS,hf]
theorem qu (w:List Nat) (i j:Nat) (h1:i≤j) (h2:j≤w.length):Txt.slice (⟨w.toArray⟩:Str) (some (i:Int)) (some (j:Int))=⟨((w.drop i).take (j - i)).toArray⟩:=by
  have e:(⟨w.toArray⟩:Str).cps.toList=w:=by simp
  show PySem.StrLaws.sliceText _ _ _=_
  rw [PySem.StrLaws.sliceText_plain ⟨by omega,by omega,by rw [e];omega⟩,e]
  rw [show ((j:Int) - (i:Int)).toNat=j - i by omega,Int.toNat_natCast]
theorem jV (T R:List Nat) (n:Nat) (t:Int) (hT:T.length≤1000000) (hn:n≤T.length) (h:T.drop n=ig t++R) (t0:t≠0) (tb:t.natAbs < 10 ^ 30) (hs:yb R):aW [.str ⟨T.toArray⟩, .int n]=some (.sh (.tuple [.int t, .int ((n+(ig t).length:Nat):Int)])):=by
  have e:=kx T R n t hT hn h t0 tb hs
  by_cases h1:t=1
  · have z:ig t=[]:=by unfold ig;rw [if_pos h1]
    rw [z] at e ⊢
    subst h1
    exact iH T n (by simpa using e)
  · have z:ig t=NH.jZ t:=by unfold ig;rw [if_neg h1]
    rw [z] at e h ⊢
    obtain ⟨s,D,e2,hs1,hD,hne,hh,hl,hv⟩:=NH.m_ t0 tb
    have l1:1≤(NH.jZ t).length:=by
      rw [e2,List.length_append]
      cases D with
      | nil=>exact absurd rfl hne
      | cons a b=>simp;omega
    have l2:=NH.oj tb
    have lt:n+(NH.jZ t).length≤T.length:=by
      have:=congrArg List.length h
      simp only [List.length_drop,List.length_append] at this
      omega
    refine iI T n _ t ⟨(NH.jZ t).toArray⟩ (eq_true hT) (eq_false (by omega)) ?_ (eq_true (by rw [bB];omega)) hv e
    rw [qu T n _ (by omega) lt,h,Nat.add_sub_cancel_left,List.take_left]
def gU (p:Pc):List Nat:=p.1::ig p.2
def gb (r:List Pc):List Nat:=r.flatMap gU
def tL (p:Pc):Prop:=pj p.1∧p.2≠0∧p.2.natAbs < 10 ^ 30
theorem uW {r:List Pc} (h:∀p∈r,tL p):yb (gb r):=by
  cases r with
  | nil=>intro c hc;cases hc
  | cons p r=>intro c hc;cases hc;exact (h p (List.mem_cons_self ..)).1
theorem mf (T:List Nat) (n:Nat) (p:Pc) (r:List Pc) (hT:T.length≤1000000) (h:T.drop n=gb (p::r)) (hr:∀q∈p::r,tL q) (z:PyData):bI [.str ⟨T.toArray⟩, .int n,z]=some (.sh (.tuple [db p, .int ((n+(gU p).length:Nat):Int)]))∧n < T.length∧T[n]? =some p.1∧T.drop (n+(gU p).length)=gb r:=by
  have h':T.drop n=p.1::(ig p.2++gb r):=by rw [h];rfl
  obtain ⟨a1,a2,a3⟩:=jd h'
  obtain ⟨q1,q2,q3⟩:=hr p (List.mem_cons_self ..)
  have e:=jV T (gb r) (n+1) p.2 hT a2 a3 q2 q3 (uW fun q hq=>hr q (List.mem_cons_of_mem _ hq))
  have e2:=kz T n _ p.1 p.2 (eq_true hT) a1 (by rw [show ((n:Int)+1)=((n+1:Nat):Int) by omega];exact e)
  have e3:=me T n p.1 _ (eq_true hT) a1 (ox _ q1) e2 rfl z
  refine ⟨?_,a2,a1,?_⟩
  · rw [show n+(gU p).length=n+1+(ig p.2).length by simp [gU];omega]
    exact e3
  · rw [show n+(gU p).length=n+1+(ig p.2).length by simp [gU];omega,←List.drop_drop,a3,List.drop_left]
theorem jW {cs:List Str} {f cn:Str} {kvs:List (PyData×PyData)} {d:PyData} {E:List Sl} {i:Nat} (e:E[i]? =some (.sh (f9 cn kvs))) (hc:cs.contains cn=true) (l:gn f kvs=some d):fL cs f (ab i) E=some (.sh d,E):=by
  simp only [fL,ab,e,Option.bind_some,look,Sl.val,hc,if_true,l,hot,aV,Bool.not_false,Bool.true_or]
theorem yf {f:Str} {d:PyData} {r:List (PyData×PyData)}:gn f ((.str f,d)::r)=some d:=by unfold gn;rw [if_pos rfl]
theorem yy {f g:Str} {d:PyData} {r:List (PyData×PyData)} (h:g≠f):gn f ((.str g,d)::r)=gn f r:=by
  conv=>lhs;unfold gn
  rw [if_neg h]
theorem mh {a b:List PyData→Option Sl} {kvs:List (PyData×PyData)}:jJ [("Piece",a),("Parts",b)] [f9 "Piece" kvs]=a [f9 "Piece" kvs]:=by
  unfold jJ f9
  simp only [List.lookup_cons,beq_self_eq_true,Option.bind_some]
theorem oy {a b:List PyData→Option Sl} {kvs:List (PyData×PyData)}:jJ [("Piece",a),("Parts",b)] [f9 "Parts" kvs]=b [f9 "Parts" kvs]:=by
  have z:(Str.ofString "Parts" == Str.ofString "Piece")=false:=by decide+kernel
  unfold jJ f9
  simp only [List.lookup_cons,z,beq_self_eq_true,Option.bind_some]
theorem zh:(["Piece","Parts"]:List Str).contains "Piece"=true:=by decide+kernel
theorem zi:(["Piece","Parts"]:List Str).contains "Parts"=true:=by decide+kernel
theorem cP:(["Piece"]:List Str).contains "Piece"=true:=by decide+kernel
theorem cQ:(["Parts"]:List Str).contains "Parts"=true:=by decide+kernel
theorem sU (p:Pc) {E:List Sl} {i:Nat} (e:E[i]? =some (.sh (db p))):fL ["Piece"] "nail" (ab i) E=some (.sh (.str ⟨#[p.1]⟩),E):=jW e cP yf
theorem pk (p:Pc) {E:List Sl} {i:Nat} (e:E[i]? =some (.sh (db p))):fL ["Piece"] "turns" (ab i) E=some (.sh (.int p.2),E):=jW e cP ((yy (by decide+kernel)).trans yf)
theorem sV (p:Pc) {E:List Sl} {i:Nat} (e:E[i]? =some (.sh (db p))):fL ["Piece","Parts"] "size" (ab i) E=some (.sh (.int 1),E):=jW e zh ((yy (by decide+kernel)).trans ((yy (by decide+kernel)).trans yf))
theorem sW (r:List Pc) {E:List Sl} {i:Nat} (e:E[i]? =some (.sh (ky r))):fL ["Piece","Parts"] "size" (ab i) E=some (.sh (.int r.length),E):=jW e zi ((yy (by decide+kernel)).trans yf)
theorem sX (r:List Pc) {E:List Sl} {i:Nat} (e:E[i]? =some (.sh (ky r))):fL ["Parts"] "kept" (ab i) E=some (.sh (.tuple (r.map db)),E):=jW e cQ yf
theorem qv (p:Pc):bw [db p]=some (.sh (.int 1)):=by
  have h:=sV p (E:=[.sh (db p)]) (i:=0) rfl
  have e:bw [db p]=bZ [db p]:=mh
  rw [e]
  simp only [bZ,cr,List.length_cons,List.length_nil,Nat.zero_add,b7,dB,aC,ay,List.map_cons,List.map_nil,Nat.sub_self,List.replicate,List.cons_append,List.nil_append,h,Option.bind_some,bO,aS,a8,if_true]
theorem sY:∀r:List Pc,∃zs,wY bw (r.map db)=some zs∧zs.sum=(r.length:Int)
  | []=>⟨[],rfl,rfl⟩
  | p::r=>by
    obtain ⟨zs,e1,e2⟩:=sY r
    refine ⟨1::zs,?_,by rw [List.sum_cons,e2];simp;omega⟩
    rw [List.map_cons,wY,qv p]
    simp only [e1,Option.map_some]
theorem sZ (p:Pc):a8 (db p)=true:=rfl
theorem gJ:∀r:List Pc,aU (r.map db)=true
  | []=>rfl
  | p::r=>by rw [List.map_cons,aU,sZ,gJ r];rfl
theorem nq (r:List Pc) (h:r.length≤1000000):dA bw [.list (r.map db)]=some [(.str "kept", .tuple (r.map db)),(.str "size", .int r.length)]:=by
  obtain ⟨zs,e1,e2⟩:=sY r
  have hl:decide ((r.map db).length≤1000000)=true:=decide_eq_true (by rw [List.length_map];exact h)
  unfold dA
  simp only [e1,Option.bind_some,gJ,hl,e2,Bool.and_self,if_true]
theorem nr (r:List Pc):a8 (ky r)=true:=by
  have:=gJ r
  simp [ky,a8,rJ,mI,rK,wa,this]
theorem oz {c:Nat} (h:pj c):(Builtin.Str.occurrences (Str.ofString "),]") ⟨#[c]⟩ 0 (Str.ofString "),]").length 1).isEmpty=true:=by
  have h1:=PySem.StrLaws.found_one (Str.ofString "),]") c
  have e:(Str.ofString "),]").cps.toList=[41,44,93]:=by decide+kernel
  rw [e] at h1
  have n:decide (c∈[41,44,93])=false:=decide_eq_false (by have:=h.1;simp;omega)
  rw [n] at h1
  simpa using h1
theorem uX (T:List Nat) (x1 x2 x3 x5:Sl) (n N c:Nat) (hN:T.length=N) (hT:(N≤1000000)=True) (hn:n < N) (hc:T[n]? =some c) (h:pj c):bc [.sh (.str ⟨T.toArray⟩),x1,x2,x3, .sh (.int n),x5]=some (true,[.sh (.str ⟨T.toArray⟩),x1,x2,x3, .sh (.int n),x5]):=by
  have e1:((n:Int) < (N:Int))=True:=eq_true (by omega)
  have e2:=oz h
  simp only [bc,cH,bp,ae,ab,List.getElem?_cons_succ,List.getElem?_cons_zero,Sl.isBr,Bool.false_and,Bool.false_eq_true,bn,ad,ao,Option.map_some,if_false,cq,bS,look,Sl.val,bg,Cm.i,Cm.s,Option.bind_some,aw,bB,hN,hT,if_true,e1,decide_true,c_,hot,aV,pC,yw,xU,cD,hc,e2,Bool.not_true,Bool.not_false]
theorem uY (T:List Nat) (x1 x2 x3 x5:Sl) (n N:Nat) (hN:T.length=N) (hT:(N≤1000000)=True) (hn:¬n < N):bc [.sh (.str ⟨T.toArray⟩),x1,x2,x3, .sh (.int n),x5]=some (false,[.sh (.str ⟨T.toArray⟩),x1,x2,x3, .sh (.int n),x5]):=by
  have e1:((n:Int) < (N:Int))=False:=eq_false (by omega)
  simp only [bc,cH,bp,ae,ab,List.getElem?_cons_succ,List.getElem?_cons_zero,Sl.isBr,Bool.false_and,Bool.false_eq_true,bn,ad,ao,Option.map_some,if_false,cq,bS,look,Sl.val,bg,Cm.i,Cm.s,Option.bind_some,aw,bB,hN,hT,if_true,e1,decide_false,c_,hot,aV,pC,yw,xU]
theorem uZ (T:List Nat) (x1:Sl) (z o:PyData) (ds:List PyData) (n m:Int) (x5:Sl) (e:bI [.str ⟨T.toArray⟩, .int n,z]=some (.sh (.tuple [o, .int m]))) (hl:(ds.length < 1000000)=True):bG [.sh (.str ⟨T.toArray⟩),x1, .sh z, .ow ds, .sh (.int n),x5]=some ([.sh (.str ⟨T.toArray⟩),x1, .sh z, .ow (ds++[o]), .sh (.int m), .sh (.tuple [o, .int m])], .nx):=by
  simp only [bG,ap,av,ak,ad,ab,List.getElem?_cons_zero,Sl.isBr,Bool.false_and,Bool.false_eq_true,ao,Option.map_some,if_false,Option.bind_some,List.getElem?_cons_succ,aw,look,Sl.val,e,PL.settle,frz,frzAll,List.length_cons,List.length_nil,Nat.zero_add,Nat.reduceAdd,Nat.reduceLT,List.set_cons_succ,List.set_cons_zero,if_true,cy,be,ae,pC,c_,hot,aV,fz,hl,f6]
theorem vw (T:List Nat) (x1:Sl) (z:PyData) (hT:T.length≤1000000):∀(r acc:List Pc) (n:Nat) (x5:Sl),n≤T.length→T.drop n=gb r→(∀q∈r,tL q)→acc.length+r.length≤900000→∃x5',bA bc bG (r.length+1) [.sh (.str ⟨T.toArray⟩),x1, .sh z, .ow (acc.map db), .sh (.int n),x5]=some ([.sh (.str ⟨T.toArray⟩),x1, .sh z, .ow ((acc++r).map db), .sh (.int T.length),x5'], .nx)
  | [],acc,n,x5,hn,h,hr,hl=>by
    have hn2:n=T.length:=by
      have:=congrArg List.length h
      simp [gb] at this
      omega
    subst hn2
    refine ⟨x5,?_⟩
    rw [bA,uY T x1 (.sh z) _ x5 _ _ rfl (eq_true hT) (by omega),Option.bind_some,List.append_nil]
    rfl
  | p::r,acc,n,x5,hn,h,hr,hl=>by
    obtain ⟨e,a1,a2,a3⟩:=mf T n p r hT h hr z
    have hc:=uX T x1 (.sh z) (.ow (acc.map db)) x5 n _ p.1 rfl (eq_true hT) a1 a2 (hr p (List.mem_cons_self ..)).1
    have hg:=uZ T x1 z (db p) (acc.map db) n _ x5 e (eq_true (by rw [List.length_map];simp at hl;omega))
    have n2:n+(gU p).length≤T.length:=by
      have:=congrArg List.length h
      simp [gb] at this
      omega
    obtain ⟨x5',ih⟩:=vw T x1 z hT r (acc++[p]) (n+(gU p).length) (.sh (.tuple [db p, .int ((n+(gU p).length:Nat):Int)])) n2 a3 (fun q hq=>hr q (List.mem_cons_of_mem _ hq)) (by simp at hl ⊢;omega)
    refine ⟨x5',?_⟩
    rw [bA,hc,Option.bind_some]
    simp only [if_true,hg,Option.bind_some]
    rw [show acc++p::r=acc++[p]++r by simp,←ih,List.map_append]
    rfl
theorem kA (r:List Pc) (hT:(gb r).length≤1000000) (hr:∀q∈r,tL q) (hl:r.length≤900000):cb [.str ⟨(gb r).toArray⟩, .int 0, .int 0]=some (.sh (.tuple [ky r, .int (gb r).length])):=by
  obtain ⟨x5',e⟩:=vw (gb r) (.sh (.int 0)) (.int 0) hT r [] 0 .no (by omega) rfl hr (by simpa using hl)
  have w:=kW e
  rw [List.nil_append] at w
  have m:=nq r (by omega)
  have w':g5 bc bG [.sh (.str ⟨(gb r).toArray⟩), .sh (.int 0), .sh (.int 0), .ow [], .sh (.int 0), .no]=_:=w
  simp only [cb,cr,List.length_cons,List.length_nil,Nat.zero_add,Nat.reduceAdd,b7,ee,ap,aI,bp,ae,ab,ay,List.map_cons,List.map_nil,Nat.reduceSub,List.replicate,List.cons_append,List.nil_append,List.getElem?_cons_succ,List.getElem?_cons_zero,Sl.isBr,Bool.false_and,Bool.false_eq_true,pC,bS,look,Sl.val,bg,Cm.i,Cm.s,Option.bind_some,if_false,Int.reduceLT,decide_false,Option.map_some,ax,av,dy,bC,Nat.reduceLeDiff,if_true,PL.settle,frz,frzAll,aC,iT,iS,gm,iV,ad,ao,takeP,mZ,Nat.reduceLT,List.set_cons_succ,List.set_cons_zero,w',aw,m,List.all_cons,sC,List.all_nil,Bool.and_true,Pt.val,bO,aS,a8,aU]
  exact if_pos (nr r)
theorem mj (r:List Pc) (hT:(gb r).length≤1000000) (hr:∀q∈r,tL q) (hl:r.length≤900000):e9 [.str ⟨(gb r).toArray⟩]=some (.sh (ky r)):=by
  have e:=kA r hT hr hl
  have f:=nr r
  have t:((gb r).length≤1000000)=True:=eq_true hT
  simp only [e9,cr,List.length_cons,List.length_nil,Nat.zero_add,b7,lS,ap,aI,bT,cB,fu,ab,ay,List.map_cons,List.map_nil,Nat.reduceSub,List.replicate,List.cons_append,List.nil_append,List.getElem?_cons_zero,look,Sl.val,f_,Ty.is,tJ,Option.bind_some,Option.map_some,dF,Bool.not_true,ax,Bool.false_eq_true,if_false,av,ak,ad,Sl.isBr,Bool.false_and,pC,ao,PL.settle,frz,frzAll,bp,ae,c_,hot,aV,bn,cq,bS,bg,Cm.i,Cm.s,aC,aw,e,Nat.reduceAdd,Nat.reduceLT,List.set_cons_succ,List.set_cons_zero,if_true,List.getElem?_cons_succ,f6,bB,t,Int.lt_irrefl,decide_false,fz,bO,aS,f]
def qw (w:List Nat):Str:=⟨w.toArray⟩
theorem vx (t:Int):Str.ofString (toString t)=⟨(NH.jZ t).toArray⟩:=by
  unfold NH.jZ
  generalize Str.ofString (toString t)=x
  cases x
  simp
theorem pp (u v:List Nat):(⟨u.toArray⟩:Str)++(⟨v.toArray⟩:Str)=⟨(u++v).toArray⟩:=by
  show (⟨u.toArray++v.toArray⟩:Str)=_
  simp
theorem s_ {t:Int} (h:t.natAbs < 10 ^ 30):t.natAbs.log2 < 1920:=by
  by_cases z:t.natAbs=0
  · rw [z];decide
  · exact (Nat.log2_lt z).mpr (Nat.lt_of_lt_of_le h (by decide+kernel))
theorem jX (t:Int) (h:t.natAbs < 10 ^ 30):bi [.int t]=some (.sh (.str ⟨(ig t).toArray⟩)):=by
  have l:(t.natAbs.log2 < 1920)=True:=eq_true (s_ h)
  by_cases h1:t=1
  · have e:ig t=[]:=by unfold ig;rw [if_pos h1]
    rw [e]
    simp only [bi,cr,h1,List.length_cons,List.length_nil,Nat.zero_add,b7,cK,aC,mv,bp,ae,ab,ay,List.map_cons,List.map_nil,Nat.sub_self,List.replicate,List.cons_append,List.nil_append,List.getElem?_cons_zero,Sl.isBr,Bool.false_and,Bool.false_eq_true,pC,eY,bS,look,Sl.val,Option.bind_some,if_false,aJ,decide_true,Option.map_some,bn,ad,ao,aw,if_true,bO,aS,a8]
    rfl
  · have e:ig t=NH.jZ t:=by unfold ig;rw [if_neg h1]
    rw [e,←vx]
    simp only [bi,cr,List.length_cons,List.length_nil,Nat.zero_add,b7,cK,aC,mv,bp,ae,ab,ay,List.map_cons,List.map_nil,Nat.sub_self,List.replicate,List.cons_append,List.nil_append,List.getElem?_cons_zero,Sl.isBr,Bool.false_and,Bool.false_eq_true,pC,eY,bS,look,Sl.val,Option.bind_some,if_false,aJ,h1,decide_false,Option.map_some,bn,ad,ao,jK,aw,l,if_true,bO,aS,a8]
theorem mn {t:Int} (h:t.natAbs < 10 ^ 30):(ig t).length≤31:=by
  unfold ig
  split
  · simp
  · exact NH.oj h
theorem tj (p:Pc) (h:p.2.natAbs < 10 ^ 30):bu [db p]=some (.sh (.str ⟨(gU p).toArray⟩)):=by
  have f1:=sU p (E:=[.sh (db p)]) (i:=0) rfl
  have f2:=pk p (E:=[.sh (db p)]) (i:=0) rfl
  have e:=jX p.2 h
  have l:=mn h
  have hl:((⟨#[p.1]⟩:Str).length+(⟨(ig p.2).toArray⟩:Str).length≤1000000)=True:=eq_true (by show 1+(ig p.2).toArray.size≤1000000;rw [List.size_toArray];omega)
  have a:(⟨#[p.1]⟩:Str)++(⟨(ig p.2).toArray⟩:Str)=⟨(gU p).toArray⟩:=pp [p.1] _
  simp only [bu,cr,List.length_cons,List.length_nil,Nat.zero_add,b7,dW,aC,ae,ay,List.map_cons,List.map_nil,Nat.sub_self,List.replicate,List.cons_append,List.nil_append,f1,Sl.isBr,Bool.false_and,Bool.false_eq_true,ak,ad,ao,Option.map_some,if_false,aG,look,Sl.val,hot,aV,Option.bind_some,f2,aw,e,Bool.not_false,Bool.true_or,Bool.and_true,hl,a,if_true,bO,aS,a8]
theorem tm (p:Pc):bt [db p]=some (.ow [aB p]):=by
  have f1:=sU p (E:=[.sh (db p)]) (i:=0) rfl
  have f2:=pk p (E:=[.sh (db p)]) (i:=0) rfl
  simp only [bt,cr,List.length_cons,List.length_nil,Nat.zero_add,b7,dU,aC,dy,aO,eO,ay,List.map_cons,List.map_nil,Nat.sub_self,List.replicate,List.cons_append,List.nil_append,f1,frz,bC,Option.map_some,Option.bind_some,f2,Nat.reduceAdd,Nat.reduceLeDiff,if_true,bO,aS,aU,a8,Bool.and_true,aB]
theorem pq {self:List PyData→Option Sl} {d:PyData} {z:Int} {ds:List PyData} (f:fL ["Piece","Parts"] "size" (ab 0) [.sh d]=some (.sh (.int z),[.sh d])) (h1:0 < z) (h2:z≤4000) (e:self [d]=some (.ow ds)) (hf:aU ds=true):aK self [d]=some (.ow ds):=by
  have l1:(4000 < z)=False:=eq_false (by omega)
  have l2:(0 < z)=True:=eq_true h1
  simp only [aK,cr,List.length_cons,List.length_nil,Nat.zero_add,b7,dJ,ap,aI,bp,ae,ay,List.map_cons,List.map_nil,Nat.sub_self,List.replicate,List.cons_append,List.nil_append,f,Sl.isBr,Bool.false_and,Bool.false_eq_true,pC,bS,look,Sl.val,bg,Cm.i,Cm.s,Option.bind_some,if_false,l1,decide_false,Option.map_some,ax,aC,mv,dO,ab,dy,bC,Nat.reduceLeDiff,if_true,l2,decide_true,List.getElem?_cons_zero,e,bO,aS,hf]
theorem u0 {self:List PyData→Option Sl} {d:PyData} (f:fL ["Piece","Parts"] "size" (ab 0) [.sh d]=some (.sh (.int 0),[.sh d])):aK self [d]=some (.ow []):=by
  simp only [aK,cr,List.length_cons,List.length_nil,Nat.zero_add,b7,dJ,ap,aI,bp,ae,ay,List.map_cons,List.map_nil,Nat.sub_self,List.replicate,List.cons_append,List.nil_append,f,Sl.isBr,Bool.false_and,Bool.false_eq_true,pC,bS,look,Sl.val,bg,Cm.i,Cm.s,Option.bind_some,if_false,Int.reduceLT,decide_false,Option.map_some,ax,aC,mv,dy,bC,Nat.reduceLeDiff,if_true,bO,aS,aU]
theorem tp (p:Pc) (n:Nat):tK (cM (n+1)) [db p]=some (.ow [aB p]):=by
  have e:tK (cM (n+1)) [db p]=aK (cM (n+1)) [db p]:=mh (a:=aK (cM (n+1))) (b:=aK (cM (n+1)))
  rw [e]
  refine pq (sV p rfl) (by decide) (by decide) ?_ rfl
  have e2:cM (n+1) [db p]=bt [db p]:=mh (a:=bt) (b:=bP (tK (cM n)))
  rw [e2,tm]
theorem nt (self:List PyData→Option Sl) (hs:∀p,self [db p]=some (.ow [aB p])) (x0:Sl):∀(r acc:List Pc) (a:Sl),acc.length+r.length≤900000→∃a',cJ bE (bF self) (r.map db) [x0, .ow (acc.map aB),a]=some ([x0, .ow ((acc++r).map aB),a'], .nx)
  | [],acc,a,_=>⟨a,by rw [List.append_nil];rfl⟩
  | p::r,acc,a,hl=>by
    have h1:((acc.map aB).length+1≤1000000)=True:=eq_true (by rw [List.length_map];simp at hl;omega)
    have st:(bE (db p) [x0, .ow (acc.map aB),a]).bind (bF self)=some ([x0, .ow ((acc++[p]).map aB), .sh (db p)], .nx):=by
      simp only [bE,a_,List.length_cons,List.length_nil,Nat.zero_add,Nat.reduceAdd,Nat.reduceLT,List.set_cons_succ,List.set_cons_zero,if_true,bF,Option.bind_some,cy,ja,List.getElem?_cons_succ,List.getElem?_cons_zero,dO,ab,look,Sl.val,hs,Option.map_some,h1,List.map_append,List.map_cons,List.map_nil]
    obtain ⟨a',e⟩:=nt self hs x0 r (acc++[p]) (.sh (db p)) (by simp at hl ⊢;omega)
    refine ⟨a',?_⟩
    rw [List.map_cons,cJ,st]
    rw [show acc++p::r=acc++[p]++r by simp]
    exact e
theorem u3 (r:List Pc) (h:r.length≤4000):di [ky r]=some (.ow (r.map aB)):=by
  have e:di [ky r]=aK (cM 2) [ky r]:=oy (a:=aK (cM 2)) (b:=aK (cM 2))
  rw [e]
  cases r with
  | nil=>exact u0 (sW [] rfl)
  | cons p r=>
    have z1:(0:Int) < ((p::r).length:Int):=by rw [List.length_cons];omega
    refine pq (sW (p::r) rfl) z1 (by omega) ?_ (bY _)
    have e2:cM 2 [ky (p::r)]=bP (tK (cM 1)) [ky (p::r)]:=oy (a:=bt) (b:=bP (tK (cM 1)))
    rw [e2]
    obtain ⟨a',l⟩:=nt (tK (cM 1)) (fun q=>tp q 0) (.sh (ky (p::r))) (p::r) [] .no (by simp at h ⊢;omega)
    have k:=sX (p::r) (E:=[.sh (ky (p::r)), .ow [], .no]) (i:=0) rfl
    rw [List.nil_append] at l
    have l':cJ bE (bF (tK (cM 1))) ((p::r).map db) [.sh (ky (p::r)), .ow [], .no]=_:=l
    generalize (p::r).map db=q at k l'
    have fy:=bY (p::r)
    generalize (p::r).map aB=y at l' fy ⊢
    simp only [bP,cr,List.length_cons,List.length_nil,Nat.zero_add,b7,dX,ap,av,dy,bC,ay,List.map_cons,List.map_nil,Nat.reduceSub,List.replicate,List.cons_append,List.nil_append,Option.bind_some,Nat.reduceLeDiff,if_true,PL.settle,frz,frzAll,Nat.reduceAdd,Nat.reduceLT,List.set_cons_succ,List.set_cons_zero,gL,iz,aC,ab,k,l',List.getElem?_cons_succ,List.getElem?_cons_zero,Option.map_some,bO,aS,fy]
theorem nu (self:List PyData→Option Sl) (x0:Sl):∀r:List Pc,(∀p∈r,self [db p]=some (.sh (.str ⟨(gU p).toArray⟩)))→fZ cW gS (b_ self) (r.map db) [x0]=some (((r.map gU).map qw).map PyData.str)
  | [],_=>rfl
  | p::r,h=>by
    have e:cW (db p) [x0]=some [.sh (db p)]:=rfl
    have e2:b_ self [.sh (db p)]=some (.sh (.str ⟨(gU p).toArray⟩),[.sh (db p)]):=by
      simp only [b_,dO,ab,List.getElem?_cons_zero,look,Sl.val,Option.bind_some,h p (List.mem_cons_self ..),Option.map_some]
    have ih:=nu self (.sh (db p)) r fun q hq=>h q (List.mem_cons_of_mem _ hq)
    rw [List.map_cons,fZ,e,Option.bind_some]
    simp only [gS,frz,Option.bind_some,e2,ih,Option.map_some,if_true,List.map_cons]
    rfl
theorem u4:∀F:List (List Nat),Txt.join "" (F.map qw)=⟨F.flatten.toArray⟩:=by
  intro F
  show Builtin.Str.glued "" _=_
  rw [StrLaws.glued_eq_join]
  induction F with
  | nil=>rfl
  | cons a F ih=>
    cases F with
    | nil=>simp [Str.join,qw]
    | cons b F=>
      have e:Str.join "" ((a::b::F).map qw)=(qw a)++""++Str.join "" ((b::F).map qw):=rfl
      rw [e,ih]
      show (⟨(a.toArray++(Str.ofString "").cps)++(b::F).flatten.toArray⟩:Str)=_
      rw [show (Str.ofString "").cps=#[] by decide+kernel]
      simp
theorem tz:∀F:List (List Nat),((F.map qw).map (·.length)).sum+(F.map qw).length*(Str.ofString "").length=F.flatten.length:=by
  intro F
  have:(Str.ofString "").length=0:=rfl
  rw [this,Nat.mul_zero,Nat.add_zero]
  induction F with
  | nil=>rfl
  | cons a F ih=>
    simp only [List.map_cons,List.sum_cons,ih,List.flatten_cons,List.length_append]
    rw [show (qw a).length=a.length from bB a]
theorem wK (r:List Pc) (h:(gb r).length≤1000000):o7 (Str.ofString "") (.list (((r.map gU).map qw).map PyData.str))=some (.str ⟨(gb r).toArray⟩):=by
  have e1:=n4 ((r.map gU).map qw)
  have e2:=tz (r.map gU)
  have e3:=u4 (r.map gU)
  have e4:(r.map gU).flatten=gb r:=by unfold gb;rw [List.flatMap_def]
  rw [e4] at e2 e3
  unfold o7
  simp only [e1,Option.bind_some]
  rw [e2,if_pos h,e3]
theorem ib:∀{r:List Pc},(∀p∈r,p.2.natAbs < 10 ^ 30)→(gb r).length≤32*r.length
  | [],_=>Nat.le_refl _
  | p::r,h=>by
    have l:=mn (h p (List.mem_cons_self ..))
    have ih:=ib fun q hq=>h q (List.mem_cons_of_mem _ hq)
    have e:gb (p::r)=gU p++gb r:=rfl
    rw [e,List.length_append]
    simp only [gU,List.length_cons] at *
    omega
theorem pw (r:List Pc) (h:∀p∈r,p.2.natAbs < 10 ^ 30) (hl:r.length≤10000):cL [ky r]=some (.sh (.str ⟨(gb r).toArray⟩)):=by
  have e:cL [ky r]=bQ (cT 1) [ky r]:=oy (a:=bu) (b:=bQ (cT 1))
  rw [e]
  have k:=sX r (E:=[.sh (ky r)]) (i:=0) rfl
  have c:=nu (cT 1) .no r fun p hp=>(show cT 1 [db p]=bu [db p] from mh (a:=bu) (b:=bQ (cT 0))).trans (tj p (h p hp))
  have j:=wK r (by have:=ib h;omega)
  have ll:decide ((((r.map gU).map qw).map PyData.str).length≤1000000)=true:=decide_eq_true (by simp only [List.length_map];omega)
  generalize hq:((r.map gU).map qw).map PyData.str=q at c j ll
  have fq:aU q=true:=by rw [←hq];exact p6 _
  simp only [bQ,cr,List.length_cons,List.length_nil,Nat.zero_add,b7,dY,aC,sw,fu,iR,iz,ay,List.map_cons,List.map_nil,Nat.sub_self,List.replicate,List.cons_append,List.nil_append,k,frz,Option.bind_some,g3,mR,c,fq,ll,Bool.and_true,if_true,look,Sl.val,j,Option.map_some,bO,aS,a8]
theorem jY (x0 x1:Sl):∀r:List Pc,fZ ef gS eh (r.map aB) [x0,x1]=some (r.map db)
  | []=>rfl
  | p::r=>by
    have e:ef (aB p) [x0,x1]=some [.sh (.str ⟨#[p.1]⟩), .sh (.int p.2)]:=rfl
    have e2:eh [.sh (.str ⟨#[p.1]⟩), .sh (.int p.2)]=some (.sh (db p),[.sh (.str ⟨#[p.1]⟩), .sh (.int p.2)]):=rfl
    have ih:=jY (.sh (.str ⟨#[p.1]⟩)) (.sh (.int p.2)) r
    rw [List.map_cons,fZ,e,Option.bind_some]
    simp only [gS,frz,Option.bind_some,e2,ih,Option.map_some,if_true,List.map_cons]
theorem fX (c:List Pc) (hl:c.length≤10000) (h:∀p∈NH.short c,p.2.natAbs < 10 ^ 30):ba [.list (c.map aB)]=some (.sh (.str ⟨(gb (NH.short c)).toArray⟩)):=by
  have sl:(NH.short c).length≤c.length:=NH.im c
  have e1:=ku c (by omega)
  have e2:=jY .no .no (NH.short c)
  have e3:=nq (NH.short c) (by omega)
  have e4:cL [f9 "Parts" [(.str "kept", .tuple ((NH.short c).map db)),(.str "size", .int (NH.short c).length)]]=_:=pw (NH.short c) h (by omega)
  have ll:decide (((NH.short c).map db).length≤1000000)=true:=decide_eq_true (by rw [List.length_map];omega)
  have fq:=gJ (NH.short c)
  generalize (NH.short c).map db=q at e2 e3 e4 ll fq
  simp only [ba,cr,List.length_cons,List.length_nil,Nat.zero_add,b7,gH,aC,dO,iV,ad,iR,iz,ak,ab,ay,List.map_cons,List.map_nil,Nat.sub_self,List.replicate,List.cons_append,List.nil_append,List.getElem?_cons_zero,Sl.isBr,Bool.false_and,Bool.false_eq_true,ao,Option.map_some,if_false,Option.bind_some,aw,look,Sl.val,e1,frz,g3,mR,e2,fq,ll,Bool.and_true,if_true,e3,e4,bO,aS,a8]
def tot (c:List Pc):Nat:=(c.map fun p=>p.2.natAbs).sum
def wZ (r:List Pc) (s:Nat):Prop:=(∀p∈r,pj p.1∧p.2≠0)∧tot r≤s
theorem dn (p:Pc) (r:List Pc):tot (p::r)=p.2.natAbs+tot r:=by simp [tot]
theorem wL {r:List Pc} {p:Pc} {s:Nat} (h:wZ r s) (hp:pj p.1):wZ (NH.stp r p) (s+p.2.natAbs):=by
  obtain ⟨h1,h2⟩:=h
  cases r with
  | nil=>
    show wZ (if p.2=0 then [] else [p]) _
    split
    · exact ⟨fun _ z=>(nomatch z),by simp [tot]⟩
    · rename_i z
      exact ⟨fun q hq=>by rw [List.mem_singleton.mp hq];exact ⟨hp,z⟩,by rw [dn];simp [tot]⟩
  | cons q r=>
    rw [dn] at h2
    have hq:=h1 q (List.mem_cons_self ..)
    have hr:∀x∈r,pj x.1∧x.2≠0:=fun x hx=>h1 x (List.mem_cons_of_mem _ hx)
    show wZ (if q.1=p.1 then (if q.2+p.2=0 then r else (p.1,q.2+p.2)::r) else (if p.2=0 then q::r else p::q::r)) _
    split
    · split
      · exact ⟨hr,by omega⟩
      · rename_i z
        refine ⟨fun x hx=>?_,by rw [dn];show (q.2+p.2).natAbs+_≤_;omega⟩
        rcases List.mem_cons.mp hx with e | e
        · rw [e];exact ⟨hp,z⟩
        · exact hr x e
    · split
      · exact ⟨h1,by rw [dn];omega⟩
      · rename_i z
        refine ⟨fun x hx=>?_,by rw [dn,dn];omega⟩
        rcases List.mem_cons.mp hx with e | e
        · rw [e];exact ⟨hp,z⟩
        · exact h1 x e
theorem px:∀(c:List Pc) {r:List Pc} {s:Nat},wZ r s→(∀p∈c,pj p.1)→wZ (c.foldl NH.stp r) (s+tot c)
  | [],r,s,h,_=>by simpa [tot] using h
  | p::c,r,s,h,hc=>by
    have:=px c (wL h (hc p (List.mem_cons_self ..))) fun q hq=>hc q (List.mem_cons_of_mem _ hq)
    rw [dn,←Nat.add_assoc]
    exact this
theorem py:∀{c:List Pc} {p:Pc},p∈c→p.2.natAbs≤tot c
  | q::c,p,h=>by
    rw [dn]
    rcases List.mem_cons.mp h with e | e
    · rw [e];omega
    · have:=py e;omega
theorem nv {c:List Pc} (hc:∀p∈c,pj p.1) (ht:tot c < 10 ^ 30):∀p∈NH.short c,tL p:=fun p hp=>by
  obtain ⟨h1,h2⟩:=px c (r:=[]) (s:=0) ⟨fun _ z=>(nomatch z),Nat.le_refl _⟩ hc
  have hm:p∈c.foldl NH.stp []:=List.mem_reverse.mp hp
  have:=py hm
  exact ⟨(h1 p hm).1,(h1 p hm).2,by omega⟩
theorem CkW.tot {W:Int}:∀{c:List Pc},CkW W c→tot c≤c.length*W.natAbs
  | [],_=>Nat.zero_le _
  | p::c,h=>by
    have h1:=(h p (List.mem_cons_self ..)).2
    have ih:=CkW.tot (c:=c) fun q hq=>h q (List.mem_cons_of_mem _ hq)
    rw [dn,List.length_cons,Nat.add_mul]
    omega
theorem CkW.l {W:Int} {c:List Pc} (h:CkW W c):∀p∈c,pj p.1:=fun p hp=>(h p hp).1
theorem CkW.nails {W:Int} {c:List Pc} (h:CkW W c):NailsOk c:=fun p hp=>by have:=(h p hp).1;omega
theorem CkW.contr {W:Int} {c:List Pc} (h:CkW W c):CkW W (NH.contr c):=fun p hp=>by
  obtain ⟨q,hq,e⟩:=List.mem_map.mp hp
  rw [←e]
  have:=h q (List.mem_reverse.mp hq)
  exact ⟨this.1,by show (-q.2).natAbs≤_;rw [Int.natAbs_neg];exact this.2⟩
theorem u5 {p q:Pc} (h:db p=db q):p=q:=by
  unfold db f9 at h
  injection h with h
  injection h with _ h
  injection h with h1 h
  injection h with h2 _
  injection h1 with _ h1
  injection h2 with _ h2
  injection h1 with h1
  injection h2 with h2
  have h3:(#[p.1]:Array Nat)=#[q.1]:=congrArg Str.cps h1
  have h4:p.1=q.1:=by simpa using h3
  exact Prod.ext h4 h2
theorem nw:∀{r s:List Pc},r.map db=s.map db→r=s
  | [],[],_=>rfl
  | [],_::_,h=>by cases h
  | _::_,[],h=>by cases h
  | p::r,q::s,h=>by
    rw [List.map_cons,List.map_cons] at h
    injection h with h1 h2
    rw [u5 h1,nw h2]
theorem u6 {r s:List Pc} (hr:∀p∈r,tL p) (hs:∀p∈s,tL p) (lr:r.length≤10000) (ls:s.length≤10000) (h:gb r=gb s):r=s:=by
  have t1:=ib fun p hp=>(hr p hp).2.2
  have t2:=ib fun p hp=>(hs p hp).2.2
  have e1:=mj r (by omega) hr (by omega)
  have e2:=mj s (by omega) hs (by omega)
  rw [h,e2] at e1
  have e3:ky s=ky r:=by injection e1 with e;injection e
  unfold ky f9 at e3
  injection e3 with e
  injection e with _ e
  injection e with e _
  injection e with _ e
  injection e with e
  exact (nw e).symm
theorem wM (w:List Nat):Txt.mul ⟨w.toArray⟩ 0=⟨([]:List Nat).toArray⟩:=rfl
theorem u7 (w:List Nat):Txt.mul ⟨w.toArray⟩ 1=⟨w.toArray⟩:=by
  unfold Txt.mul
  rw [if_neg (by decide)]
  exact if_pos (by simp)
theorem ny (x0 a b:Sl) (acc:List Nat) (p:Pc) (h:p.2.natAbs < 10 ^ 30) (la:acc.length≤900000):(cg (aB p) [x0, .sh (.str ⟨acc.toArray⟩),a,b]).bind ci=some ([x0, .sh (.str ⟨(acc++gU p).toArray⟩), .sh (.str ⟨#[p.1]⟩), .sh (.int p.2)], .nx):=by
  have l1:((⟨acc.toArray⟩:Str).length+(⟨#[p.1]⟩:Str).length≤1000000)=True:=eq_true (by show acc.toArray.size+1≤_;rw [List.size_toArray];omega)
  have a1:(⟨acc.toArray⟩:Str)++(⟨#[p.1]⟩:Str)=⟨(acc++[p.1]).toArray⟩:=pp acc [p.1]
  have lg:(p.2.natAbs.log2 < 1920)=True:=eq_true (s_ h)
  have nl:=NH.oj h
  have e0:=vx p.2
  have ml:((⟨(NH.jZ p.2).toArray⟩:Str).length≤1000)=True:=eq_true (by rw [bB];omega)
  by_cases h1:p.2=1
  · have e:ig p.2=[]:=by unfold ig;rw [if_pos h1]
    have l2:((⟨(acc++[p.1]).toArray⟩:Str).length+(⟨([]:List Nat).toArray⟩:Str).length≤1000000)=True:=eq_true (by rw [bB,bB];simp;omega)
    have a2:(⟨(acc++[p.1]).toArray⟩:Str)++(⟨([]:List Nat).toArray⟩:Str)=⟨(acc++gU p).toArray⟩:=by rw [pp];unfold gU;rw [e];simp
    have hd:decide (p.2=1)=true:=decide_eq_true h1
    have m0:=wM (NH.jZ p.2)
    simp only [cg,dH,aB,List.length_cons,List.length_nil,Nat.zero_add,Nat.reduceAdd,bD,a_,Nat.reduceLT,List.set_cons_succ,List.set_cons_zero,if_true,Option.bind_some,dG,List.isEmpty_nil,ci,o8,fG,av,ae,ab,List.getElem?_cons_succ,List.getElem?_cons_zero,Sl.isBr,Bool.false_and,Bool.false_eq_true,aG,look,Sl.val,hot,aV,if_false,Bool.not_false,Bool.true_or,Bool.and_true,l1,a1,bn,ad,ao,Option.map_some,jK,pC,bS,sv,m6,Int.reduceNeg,aw,lg,e0,aJ,hd,Bool.not_true,ml,Int.reduceLE,and_self,m0,l2,a2,PL.settle,frz,frzAll]
  · have e:ig p.2=NH.jZ p.2:=by unfold ig;rw [if_neg h1]
    have l2:((⟨(acc++[p.1]).toArray⟩:Str).length+(⟨(NH.jZ p.2).toArray⟩:Str).length≤1000000)=True:=eq_true (by rw [bB,bB];simp;omega)
    have a2:(⟨(acc++[p.1]).toArray⟩:Str)++(⟨(NH.jZ p.2).toArray⟩:Str)=⟨(acc++gU p).toArray⟩:=by rw [pp];unfold gU;rw [e];simp
    have hd:decide (p.2=1)=false:=decide_eq_false h1
    have m0:=u7 (NH.jZ p.2)
    simp only [cg,dH,aB,List.length_cons,List.length_nil,Nat.zero_add,Nat.reduceAdd,bD,a_,Nat.reduceLT,List.set_cons_succ,List.set_cons_zero,if_true,Option.bind_some,dG,List.isEmpty_nil,ci,o8,fG,av,ae,ab,List.getElem?_cons_succ,List.getElem?_cons_zero,Sl.isBr,Bool.false_and,Bool.false_eq_true,aG,look,Sl.val,hot,aV,if_false,Bool.not_false,Bool.true_or,Bool.and_true,l1,a1,bn,ad,ao,Option.map_some,jK,pC,bS,sv,m6,Int.reduceNeg,aw,lg,e0,aJ,hd,ml,Int.reduceLE,and_self,m0,l2,a2,PL.settle,frz,frzAll]
theorem iX (x0:Sl):∀(r:List Pc) (acc:List Nat) (a b:Sl),(∀p∈r,p.2.natAbs < 10 ^ 30)→acc.length+32*r.length≤900000→∃a' b',cJ cg ci (r.map aB) [x0, .sh (.str ⟨acc.toArray⟩),a,b]=some ([x0, .sh (.str ⟨(acc++gb r).toArray⟩),a',b'], .nx)
  | [],acc,a,b,_,_=>⟨a,b,by rw [show gb []=[] from rfl,List.append_nil];rfl⟩
  | p::r,acc,a,b,h,hl=>by
    have hp:=h p (List.mem_cons_self ..)
    have st:=ny x0 a b acc p hp (by omega)
    have ln:=mn hp
    obtain ⟨a',b',e⟩:=iX x0 r (acc++gU p) (.sh (.str ⟨#[p.1]⟩)) (.sh (.int p.2)) (fun q hq=>h q (List.mem_cons_of_mem _ hq)) (by simp only [List.length_append,gU,List.length_cons] at hl ⊢;omega)
    refine ⟨a',b',?_⟩
    rw [List.map_cons,cJ,st]
    rw [show acc++gb (p::r)=acc++gU p++gb r by rw [List.append_assoc];rfl]
    exact e
theorem nz (r:List Pc) (h:∀p∈r,p.2.natAbs < 10 ^ 30) (hl:r.length≤20000):b6 [.list (r.map aB)]=some (.sh (.str ⟨(gb r).toArray⟩)):=by
  obtain ⟨a',b',e⟩:=iX (.sh (.list (r.map aB))) r [] .no .no h (by simp;omega)
  rw [List.nil_append] at e
  have e0:Str.ofString ""=⟨([]:List Nat).toArray⟩:=by decide+kernel
  simp only [b6,cr,List.length_cons,List.length_nil,Nat.zero_add,b7,fR,ap,av,pC,e0,ay,List.map_cons,List.map_nil,Nat.reduceSub,List.replicate,List.cons_append,List.nil_append,PL.settle,frz,frzAll,Option.bind_some,Nat.reduceAdd,Nat.reduceLT,List.set_cons_succ,List.set_cons_zero,if_true,gL,iz,ab,aC,List.getElem?_cons_zero,e,List.getElem?_cons_succ,bO,aS,a8]
theorem cZ {f g:bW} {E E1:List Sl} (h:f E=some (E1, .nx)):ap f g E=g E1:=by
  unfold ap
  rw [h]
  rfl
def zj:bW:=(av 1 (ak bJ (ad false (ak aF (ad false (ab 0) (ad false (pC (.int 0)) ao))) ao)))
def w5:bW:=(av 2 (ae c_ false (dy (aO (pC (.int 1)) (aO (pC (.int 2)) (aO (pC (.int 3)) (aO (ae dQ false (pC (.int 4)) (ae iZ false (pC (.int 10)) (pC (.int 28)))) bC))))) (ae cp false (ae c8 false (ak aF (ad false (ab 0) (ad false (pC (.int 0)) ao))) (pC (.int 7))) (pC (.int 4)))))
def zk:bW:=(av 3 (ak aT (ad false (ak aF (ad false (ab 0) (ad false (pC (.int 2)) ao))) (ad false (ab 1) (ad false (ab 2) (ad false (pC (.int 24)) ao))))))
def wN:bW:=(aI (bp (ae (bS (bg .lt)) false (ab 2) (pC (.int 4))))
  (av 3 (ak bM (ad false (ab 3) (ad false (ak aF (ad false (ab 0) (ad false (pC (.int 5)) ao))) ao))))
  ax)
def wO:bW:=(aI (bp (ae eY false (ae cp false (ae c8 false (ak aF (ad false (ab 0) (ad false (pC (.int 1)) ao))) (pC (.int 2))) (pC (.int 3))) (pC (.int 1))))
  (ap (av 4 (ae cp false (ak aF (ad false (ab 0) (ad false (pC (.int 3)) ao))) (ae aG false (bn cq (ad false (ab 3) ao)) (pC (.int 1)))))
  (ap (av 5 (gM false (ab 3) gi (dr (ab 4))))
  (av 3 (ae aG false (ae aG false (ae aG false (ab 5) (ak aZ (ad false (ab 5) ao))) (ab 5)) (gM false (ab 3) (dr (ab 4)) gi)))))
  ax)
def w6:bW:=(av 6 (ak bb (ad false (ab 3) ao)))
def w_:bW:=(av 7 (jA (ab 3)))
def yg:bW:=(av 8 (ak ba (ad false (ab 7) ao)))
def xa:bW:=(aI (dv (bp (ae fG false (ab 7) (ab 3))) (dv (bT (cB (fu (f_ .str) (ab 8)))) (bp (ae fG false (ab 8) (ak b6 (ad false (ab 6) ao))))))
  (aC (pC (.bool false)))
  ax)
def yh:bW:=(av 9 (ak e9 (ad false (ab 8) ao)))
def tB:bW:=(aI (dv (bT (cB (ak bL (ad false (dO di (ab 9)) (ad false (ab 6) ao))))) (dv (bp (ae fG false (dO cL (ab 9)) (ab 8))) (bp (ae fG false (ak ba (ad false (dO di (ab 9)) ao)) (ab 8)))))
  (aC (pC (.bool false)))
  ax)
def tD:bW:=(av 10 (ak aT (ad false (ak aF (ad false (ab 0) (ad false (pC (.int 4)) ao))) (ad false (ab 1) (ad false (ab 2) (ad false (pC (.int 3)) ao))))))
def nC:bW:=(aI (bp (ae eY false (ae cp false (ak aF (ad false (ab 0) (ad false (pC (.int 4)) ao))) (pC (.int 3))) (pC (.int 0))))
  (av 10 (ae aG false (ae aG false (ab 3) (ab 10)) (ak aZ (ad false (ab 10) ao))))
  ax)
def tE:bW:=(aC (ae eY false (ae eY false (ak ba (ad false (ab 10) ao)) (ab 8)) (ae eY false (ak bb (ad false (ab 10) ao)) (ab 6))))
theorem tF:k5=(ap zj (ap w5 (ap zk (ap wN (ap wO (ap w6 (ap w_ (ap yg (ap xa (ap yh (ap tB (ap tD (ap nC tE))))))))))))):=rfl
section
variable (ns:List Int) (w:List Nat) (W:Int)
abbrev SL:Sl:= .sh (.list (ns.map .int))
theorem l0 (x:PyData) (e:bJ [.int (ns.getD 0 0)]=some (.sh x)):zj [SL ns, .no, .no, .no, .no, .no, .no, .no, .no, .no, .no]=some ([SL ns, .sh x, .no, .no, .no, .no, .no, .no, .no, .no, .no], .nx):=by
  have a0:=cm ns 0
  simp only [Int.natCast_zero] at a0
  simp only [zj,av,ak,ad,ab,SL,List.getElem?_cons_zero,Sl.isBr,Bool.false_and,Bool.false_eq_true,pC,ao,Option.map_some,if_false,Option.bind_some,aw,look,Sl.val,a0,e,PL.settle,frz,frzAll,List.length_cons,List.length_nil,Nat.zero_add,Nat.reduceAdd,Nat.reduceLT,List.set_cons_succ,List.set_cons_zero,if_true]
theorem l1 (x1:Sl):∃W:Int,w5 [SL ns,x1, .no, .no, .no, .no, .no, .no, .no, .no, .no]=some ([SL ns,x1, .sh (.int W), .no, .no, .no, .no, .no, .no, .no, .no], .nx)∧(W=1∨W=2∨W=3∨W=40000000000000000000000000000):=by
  have a0:=cm ns 0
  simp only [Int.natCast_zero] at a0
  have dd:dq 7=true∧dq 4=true:=by decide
  have m0:=Int.emod_nonneg (ns.getD 0 0 / 7) (show (4:Int)≠0 by decide)
  have m1:=Int.emod_lt_of_pos (ns.getD 0 0 / 7) (show (0:Int) < 4 by decide)
  have mm:dE 4 10000000000000000000000000000=true:=by decide
  obtain ⟨k,hk⟩:∃k:Int,ns.getD 0 0 / 7 % 4=k:=⟨_,rfl⟩
  rw [hk] at m0 m1
  have hc:k=0∨k=1∨k=2∨k=3:=by omega
  rcases hc with rfl | rfl | rfl | rfl
  · exact ⟨1,by simp only [w5,av,ae,dy,aO,pC,SL,frz,Sl.isBr,Bool.false_and,Bool.false_eq_true,iZ,bS,look,Sl.val,gP,Int.reducePow,Int.reduceNeg,Option.bind_some,if_false,Int.reduceLE,Int.reduceLT,and_self,decide_true,Int.reduceToNat,if_true,Option.map_some,dQ,hot,aV,Bool.not_false,Bool.true_or,Bool.and_true,mm,Int.reduceMul,bC,List.length_cons,List.length_nil,Nat.zero_add,Nat.reduceAdd,Nat.reduceLeDiff,ak,ad,ab,ao,c8,cp,c_,List.getElem?_cons_zero,aw,a0,dd.1,hk,fz,PL.settle,frzAll,Nat.reduceLT,List.set_cons_succ,List.set_cons_zero];try rfl, .inl rfl⟩
  · exact ⟨2,by simp only [w5,av,ae,dy,aO,pC,SL,frz,Sl.isBr,Bool.false_and,Bool.false_eq_true,iZ,bS,look,Sl.val,gP,Int.reducePow,Int.reduceNeg,Option.bind_some,if_false,Int.reduceLE,Int.reduceLT,and_self,decide_true,Int.reduceToNat,if_true,Option.map_some,dQ,hot,aV,Bool.not_false,Bool.true_or,Bool.and_true,mm,Int.reduceMul,bC,List.length_cons,List.length_nil,Nat.zero_add,Nat.reduceAdd,Nat.reduceLeDiff,ak,ad,ab,ao,c8,cp,c_,List.getElem?_cons_zero,aw,a0,dd.1,hk,f6,PL.settle,frzAll,Nat.reduceLT,List.set_cons_succ,List.set_cons_zero];try rfl, .inr (.inl rfl)⟩
  · exact ⟨3,by simp only [w5,av,ae,dy,aO,pC,SL,frz,Sl.isBr,Bool.false_and,Bool.false_eq_true,iZ,bS,look,Sl.val,gP,Int.reducePow,Int.reduceNeg,Option.bind_some,if_false,Int.reduceLE,Int.reduceLT,and_self,decide_true,Int.reduceToNat,if_true,Option.map_some,dQ,hot,aV,Bool.not_false,Bool.true_or,Bool.and_true,mm,Int.reduceMul,bC,List.length_cons,List.length_nil,Nat.zero_add,Nat.reduceAdd,Nat.reduceLeDiff,ak,ad,ab,ao,c8,cp,c_,List.getElem?_cons_zero,aw,a0,dd.1,hk,xS,PL.settle,frzAll,Nat.reduceLT,List.set_cons_succ,List.set_cons_zero];try rfl, .inr (.inr (.inl rfl))⟩
  · exact ⟨40000000000000000000000000000,by simp only [w5,av,ae,dy,aO,pC,SL,frz,Sl.isBr,Bool.false_and,Bool.false_eq_true,iZ,bS,look,Sl.val,gP,Int.reducePow,Int.reduceNeg,Option.bind_some,if_false,Int.reduceLE,Int.reduceLT,and_self,decide_true,Int.reduceToNat,if_true,Option.map_some,dQ,hot,aV,Bool.not_false,Bool.true_or,Bool.and_true,mm,Int.reduceMul,bC,List.length_cons,List.length_nil,Nat.zero_add,Nat.reduceAdd,Nat.reduceLeDiff,ak,ad,ab,ao,c8,cp,c_,List.getElem?_cons_zero,aw,a0,dd.1,hk,PL.settle,frzAll];try rfl, .inr (.inr (.inr rfl))⟩
theorem l2 (c:List Pc) (e:aT [.int (ns.getD 2 0), .str ⟨w.toArray⟩, .int W, .int 24]=some (.ow (c.map aB))):zk [SL ns, .sh (.str ⟨w.toArray⟩), .sh (.int W), .no, .no, .no, .no, .no, .no, .no, .no]=some ([SL ns, .sh (.str ⟨w.toArray⟩), .sh (.int W), .ow (c.map aB), .no, .no, .no, .no, .no, .no, .no], .nx):=by
  have a2:=cm ns 2
  rw [show ((2:Nat):Int)=2 from rfl] at a2
  simp only [zk,av,ak,ad,ab,SL,List.getElem?_cons_zero,Sl.isBr,Bool.false_and,Bool.false_eq_true,pC,ao,Option.map_some,if_false,Option.bind_some,aw,look,Sl.val,a2,List.getElem?_cons_succ,e,PL.settle,frz,frzAll,List.length_cons,List.length_nil,Nat.zero_add,Nat.reduceAdd,Nat.reduceLT,List.set_cons_succ,List.set_cons_zero,if_true]
def Cs (c:List Pc) (x:Sl):Prop:=x= .ow (c.map aB)∨x= .sh (.list (c.map aB))
theorem zL (x1 x3:Sl) (h:¬W < 4):wN [SL ns,x1, .sh (.int W),x3, .no, .no, .no, .no, .no, .no, .no]=some ([SL ns,x1, .sh (.int W),x3, .no, .no, .no, .no, .no, .no, .no], .nx):=by
  simp only [wN,aI,bp,ae,ab,SL,List.getElem?_cons_succ,List.getElem?_cons_zero,Sl.isBr,Bool.false_and,Bool.false_eq_true,pC,bS,look,Sl.val,bg,Cm.i,Cm.s,Option.bind_some,if_false,h,decide_false,Option.map_some,av,ak,ad,ao,PL.settle,frz,frzAll,ax]
theorem zM (x1:PyData) (c g:List Pc) (r:Sl) (h:W < 4) (e:bM [.list (c.map aB), .int (ns.getD 5 0)]=some r) (hr:r= .br (.list (g.map aB))∨r= .ow (g.map aB)):∃x3,wN [SL ns, .sh x1, .sh (.int W), .ow (c.map aB), .no, .no, .no, .no, .no, .no, .no]=some ([SL ns, .sh x1, .sh (.int W),x3, .no, .no, .no, .no, .no, .no, .no], .nx)∧Cs g x3:=by
  have a5:=cm ns 5
  rw [show ((5:Nat):Int)=5 from rfl] at a5
  rcases hr with rfl | rfl
  · refine ⟨.sh (.list (g.map aB)),?_, .inr rfl⟩
    simp only [wN,aI,bp,ae,ab,SL,List.getElem?_cons_succ,List.getElem?_cons_zero,Sl.isBr,Bool.false_and,Bool.false_eq_true,pC,bS,look,Sl.val,bg,Cm.i,Cm.s,Option.bind_some,if_false,h,decide_true,Option.map_some,av,ak,ad,ao,PL.settle,frz,frzAll,ax,aw,a5,e,a8,List.map_cons,oZ,List.map_nil,List.length_cons,List.length_nil,Nat.zero_add,Nat.reduceAdd,Nat.reduceLT,List.set_cons_succ,List.set_cons_zero,if_true]
  · refine ⟨_,?_, .inl rfl⟩
    simp only [wN,aI,bp,ae,ab,SL,List.getElem?_cons_succ,List.getElem?_cons_zero,Sl.isBr,Bool.false_and,Bool.false_eq_true,pC,bS,look,Sl.val,bg,Cm.i,Cm.s,Option.bind_some,if_false,h,decide_true,Option.map_some,av,ak,ad,ao,PL.settle,frz,frzAll,ax,aw,a5,e,List.length_cons,List.length_nil,Nat.zero_add,Nat.reduceAdd,Nat.reduceLT,List.set_cons_succ,List.set_cons_zero,if_true]
theorem zN (x1 x2 x3:Sl) (h:¬ns.getD 1 0 / 2 % 3=1):wO [SL ns,x1,x2,x3, .no, .no, .no, .no, .no, .no, .no]=some ([SL ns,x1,x2,x3, .no, .no, .no, .no, .no, .no, .no], .nx):=by
  have a1:=cm ns 1
  simp only [Int.natCast_one] at a1
  have dd:dq 2=true∧dq 3=true:=by decide
  simp only [wO,aI,bp,ae,ak,ad,ab,SL,List.getElem?_cons_zero,Sl.isBr,Bool.false_and,Bool.false_eq_true,pC,ao,Option.map_some,if_false,Option.bind_some,aw,look,Sl.val,a1,c8,bS,gP,dd.1,if_true,cp,Int.reduceLT,decide_true,eY,aJ,h,decide_false,ap,av,bn,cq,aG,hot,aV,Bool.not_false,Bool.true_or,Bool.and_true,PL.settle,frz,frzAll,gM,gi,dr,ax]
theorem zO (x1 x2 x3:Sl) (c:List Pc) (m:Nat) (hx:Cs c x3) (lc:c.length≤2000) (h:ns.getD 1 0 / 2 % 3=1) (hm:ns.getD 3 0 % ((c.length:Int)+1)=m):∃x4 x5,wO [SL ns,x1,x2,x3, .no, .no, .no, .no, .no, .no, .no]=some ([SL ns,x1,x2, .ow ((c.take m++NH.contr (c.take m)++c.take m++c.drop m).map aB),x4,x5, .no, .no, .no, .no, .no], .nx):=by
  have a1:=cm ns 1
  have a3:=cm ns 3
  simp only [Int.natCast_one] at a1
  rw [show ((3:Nat):Int)=3 from rfl] at a3
  have dd:dq 2=true∧dq 3=true:=by decide
  have pm:0 < (c.length:Int)+1:=by omega
  have lc2:(c.length≤1000000)=True:=eq_true (by omega)
  have tk:(c.take m).length≤2000:=by rw [List.length_take];omega
  have ec:=f8 (c.take m) (by omega)
  have k1:cutL c none (some (m:Int))=c.take m:=by rw [p8 _ (by omega),Int.toNat_natCast]
  have k2:cutL c (some (m:Int)) none=c.drop m:=by rw [p9 _ (by omega),Int.toNat_natCast]
  have cl:(NH.contr (c.take m)).length=(c.take m).length:=NH.de _
  have dl:(c.drop m).length≤2000:=by rw [List.length_drop];omega
  have l1:((c.take m).length+(NH.contr (c.take m)).length≤1000000)=True:=eq_true (by omega)
  have l2:((c.take m++NH.contr (c.take m)).length+(c.take m).length≤1000000)=True:=eq_true (by rw [List.length_append];omega)
  have l3:((c.take m++NH.contr (c.take m)++c.take m).length+(c.drop m).length≤1000000)=True:=eq_true (by rw [List.length_append,List.length_append];omega)
  rcases hx with rfl | rfl
  · exact ⟨.sh (.int m), .ow ((c.take m).map aB),by simp only [wO,aI,bp,ae,ak,ad,ab,SL,List.getElem?_cons_zero,Sl.isBr,Bool.false_and,Bool.false_eq_true,pC,ao,Option.map_some,if_false,Option.bind_some,aw,look,Sl.val,a1,c8,bS,gP,dd.1,if_true,cp,Int.reduceLT,decide_true,h,eY,aJ,ap,av,bn,cq,aG,hot,aV,Bool.not_false,Bool.true_or,Bool.and_true,PL.settle,frz,frzAll,gM,gi,dr,ax,a3,List.getElem?_cons_succ,List.length_map,pm,hm,List.length_cons,List.length_nil,Nat.zero_add,Nat.reduceAdd,Nat.reduceLT,List.set_cons_succ,List.set_cons_zero,Option.any_some,jD,k1,bY,Bool.or_true,ec,l1,←List.map_append,l2,k2,l3]⟩
  · exact ⟨.sh (.int m), .ow ((c.take m).map aB),by simp only [wO,aI,bp,ae,ak,ad,ab,SL,List.getElem?_cons_zero,Sl.isBr,Bool.false_and,Bool.false_eq_true,pC,ao,Option.map_some,if_false,Option.bind_some,aw,look,Sl.val,a1,c8,bS,gP,dd.1,if_true,cp,Int.reduceLT,decide_true,h,eY,aJ,ap,av,bn,cq,aG,hot,aV,Bool.not_false,Bool.true_or,Bool.and_true,PL.settle,frz,frzAll,gM,gi,dr,ax,a3,List.getElem?_cons_succ,List.length_map,pm,hm,List.length_cons,List.length_nil,Nat.zero_add,Nat.reduceAdd,Nat.reduceLT,List.set_cons_succ,List.set_cons_zero,jD,bY,Bool.or_true,k1,ec,Option.any_some,l1,←List.map_append,l2,k2,l3]⟩
end
section
variable (ns:List Int) (x1 x4 x5:Sl) (W:Int) (w:List Nat)
theorem l5 (x2 x3:Sl) (c R:List Pc) (hx:Cs c x3) (e:bb [.list (c.map aB)]=some (.ow (R.map aB))):w6 [SL ns,x1,x2,x3,x4,x5, .no, .no, .no, .no, .no]=some ([SL ns,x1,x2,x3,x4,x5, .ow (R.map aB), .no, .no, .no, .no], .nx):=by
  rcases hx with rfl | rfl
  · simp only [w6,av,ak,ad,ab,SL,List.getElem?_cons_succ,List.getElem?_cons_zero,Sl.isBr,Bool.false_and,Bool.false_eq_true,ao,Option.map_some,if_false,Option.bind_some,aw,look,Sl.val,e,PL.settle,frz,frzAll,List.length_cons,List.length_nil,Nat.zero_add,Nat.reduceAdd,Nat.reduceLT,List.set_cons_succ,List.set_cons_zero,if_true]
  · simp only [w6,av,ak,ad,ab,SL,List.getElem?_cons_succ,List.getElem?_cons_zero,Sl.isBr,Bool.false_and,Bool.false_eq_true,ao,Option.map_some,if_false,Option.bind_some,aw,look,Sl.val,e,PL.settle,frz,frzAll,List.length_cons,List.length_nil,Nat.zero_add,Nat.reduceAdd,Nat.reduceLT,List.set_cons_succ,List.set_cons_zero,if_true]
theorem l6 (x2 x3 x6:Sl) (c:List Pc) (hx:Cs c x3):w_ [SL ns,x1,x2,x3,x4,x5,x6, .no, .no, .no, .no]=some ([SL ns,x1,x2,x3,x4,x5,x6, .ow (c.map aB), .no, .no, .no], .nx):=by
  rcases hx with rfl | rfl
  · simp only [w_,av,jA,ab,SL,List.getElem?_cons_succ,List.getElem?_cons_zero,look,Sl.val,hot,aV,Option.bind_some,Option.any_some,Bool.not_false,bY,Bool.or_true,if_true,PL.settle,frz,frzAll,List.length_cons,List.length_nil,Nat.zero_add,Nat.reduceAdd,Nat.reduceLT,List.set_cons_succ,List.set_cons_zero]
  · simp only [w_,av,jA,ab,SL,List.getElem?_cons_succ,List.getElem?_cons_zero,look,Sl.val,hot,aV,Option.bind_some,Bool.not_false,bY,Bool.or_true,if_true,PL.settle,frz,frzAll,List.length_cons,List.length_nil,Nat.zero_add,Nat.reduceAdd,Nat.reduceLT,List.set_cons_succ,List.set_cons_zero]
theorem l7 (x2 x3 x6:Sl) (c:List Pc) (s:Str) (e:ba [.list (c.map aB)]=some (.sh (.str s))):yg [SL ns,x1,x2,x3,x4,x5,x6, .ow (c.map aB), .no, .no, .no]=some ([SL ns,x1,x2,x3,x4,x5,x6, .ow (c.map aB), .sh (.str s), .no, .no], .nx):=by
  simp only [yg,av,ak,ad,ab,SL,List.getElem?_cons_succ,List.getElem?_cons_zero,Sl.isBr,Bool.false_and,Bool.false_eq_true,ao,Option.map_some,if_false,Option.bind_some,aw,look,Sl.val,e,PL.settle,frz,frzAll,List.length_cons,List.length_nil,Nat.zero_add,Nat.reduceAdd,Nat.reduceLT,List.set_cons_succ,List.set_cons_zero,if_true]
theorem l8 (x2 x3:Sl) (c R:List Pc) (s:Str) (hx:Cs c x3) (q:j5 (.list (c.map aB)) (.list (c.map aB))=some true) (q2:j5 (.str s) (.str s)=some true) (e:b6 [.list (R.map aB)]=some (.sh (.str s))):xa [SL ns,x1,x2,x3,x4,x5, .ow (R.map aB), .ow (c.map aB), .sh (.str s), .no, .no]=some ([SL ns,x1,x2,x3,x4,x5, .ow (R.map aB), .ow (c.map aB), .sh (.str s), .no, .no], .nx):=by
  rcases hx with rfl | rfl
  · simp only [xa,aI,dv,bp,ae,ab,SL,List.getElem?_cons_succ,List.getElem?_cons_zero,Sl.isBr,Bool.false_and,Bool.false_eq_true,fG,bS,look,Sl.val,if_false,Option.bind_some,q,Option.map_some,Bool.not_true,bT,cB,fu,f_,Ty.is,tJ,ak,ad,ao,dF,aw,e,q2,aC,pC,ax]
  · simp only [xa,aI,dv,bp,ae,ab,SL,List.getElem?_cons_succ,List.getElem?_cons_zero,Sl.isBr,Bool.false_and,Bool.false_eq_true,fG,bS,look,Sl.val,if_false,Option.bind_some,q,Option.map_some,Bool.not_true,bT,cB,fu,f_,Ty.is,tJ,ak,ad,ao,dF,aw,e,q2,aC,pC,ax]
theorem l9 (x2 x3 x6 x7:Sl) (s:Str) (T:PyData) (e:e9 [.str s]=some (.sh T)):yh [SL ns,x1,x2,x3,x4,x5,x6,x7, .sh (.str s), .no, .no]=some ([SL ns,x1,x2,x3,x4,x5,x6,x7, .sh (.str s), .sh T, .no], .nx):=by
  simp only [yh,av,ak,ad,ab,SL,List.getElem?_cons_succ,List.getElem?_cons_zero,Sl.isBr,Bool.false_and,Bool.false_eq_true,ao,Option.map_some,if_false,Option.bind_some,aw,look,Sl.val,e,PL.settle,frz,frzAll,List.length_cons,List.length_nil,Nat.zero_add,Nat.reduceAdd,Nat.reduceLT,List.set_cons_succ,List.set_cons_zero,if_true]
theorem zP (x2 x3 x7:Sl) (R:List Pc) (s:Str) (T:PyData) (e1:di [T]=some (.ow (R.map aB))) (e2:cL [T]=some (.sh (.str s))) (e3:bL [.list (R.map aB), .list (R.map aB)]=some (.sh (.bool true))) (e4:ba [.list (R.map aB)]=some (.sh (.str s))) (q2:j5 (.str s) (.str s)=some true):tB [SL ns,x1,x2,x3,x4,x5, .ow (R.map aB),x7, .sh (.str s), .sh T, .no]=some ([SL ns,x1,x2,x3,x4,x5, .ow (R.map aB),x7, .sh (.str s), .sh T, .no], .nx):=by
  simp only [tB,aI,dv,bT,cB,ak,ad,dO,ab,SL,List.getElem?_cons_succ,List.getElem?_cons_zero,look,Sl.val,Option.bind_some,e1,Option.map_some,Sl.isBr,Bool.false_and,Bool.false_eq_true,ao,if_false,aw,e3,dF,Bool.not_true,bp,ae,fG,bS,e2,q2,e4,aC,pC,ax]
theorem zQ (x3 x6 x7 x8 x9:Sl) (d:List Pc) (e:aT [.int (ns.getD 4 0), .str ⟨w.toArray⟩, .int W, .int 3]=some (.ow (d.map aB))):tD [SL ns, .sh (.str ⟨w.toArray⟩), .sh (.int W),x3,x4,x5,x6,x7,x8,x9, .no]=some ([SL ns, .sh (.str ⟨w.toArray⟩), .sh (.int W),x3,x4,x5,x6,x7,x8,x9, .ow (d.map aB)], .nx):=by
  have a4:=cm ns 4
  rw [show ((4:Nat):Int)=4 from rfl] at a4
  simp only [tD,av,ak,ad,ab,SL,List.getElem?_cons_zero,Sl.isBr,Bool.false_and,Bool.false_eq_true,pC,ao,Option.map_some,if_false,Option.bind_some,aw,look,Sl.val,a4,List.getElem?_cons_succ,e,PL.settle,frz,frzAll,List.length_cons,List.length_nil,Nat.zero_add,Nat.reduceAdd,Nat.reduceLT,List.set_cons_succ,List.set_cons_zero,if_true]
theorem zm (x2 x3 x6 x7 x8 x9 x10:Sl) (h:¬ns.getD 4 0 % 3=0):nC [SL ns,x1,x2,x3,x4,x5,x6,x7,x8,x9,x10]=some ([SL ns,x1,x2,x3,x4,x5,x6,x7,x8,x9,x10], .nx):=by
  have a4:=cm ns 4
  rw [show ((4:Nat):Int)=4 from rfl] at a4
  simp only [nC,aI,bp,ae,ak,ad,ab,SL,List.getElem?_cons_zero,Sl.isBr,Bool.false_and,Bool.false_eq_true,pC,ao,Option.map_some,if_false,Option.bind_some,aw,look,Sl.val,a4,cp,bS,gP,Int.reduceLT,decide_true,if_true,eY,aJ,h,decide_false,av,aG,hot,aV,PL.settle,frz,frzAll,ax,List.getElem?_cons_succ]
theorem zn (x2 x3 x6 x7 x8 x9:Sl) (c d:List Pc) (hx:Cs c x3) (lc:c.length≤100000) (ld:d.length≤100) (h:ns.getD 4 0 % 3=0):nC [SL ns,x1,x2,x3,x4,x5,x6,x7,x8,x9, .ow (d.map aB)]=some ([SL ns,x1,x2,x3,x4,x5,x6,x7,x8,x9, .ow ((c++d++NH.contr d).map aB)], .nx):=by
  have a4:=cm ns 4
  rw [show ((4:Nat):Int)=4 from rfl] at a4
  have ec:=f8 d (by omega)
  have cl:(NH.contr d).length=d.length:=NH.de _
  have l1:(c.length+d.length≤1000000)=True:=eq_true (by omega)
  have l2:((c++d).length+(NH.contr d).length≤1000000)=True:=eq_true (by rw [List.length_append];omega)
  rcases hx with rfl | rfl
  · simp only [nC,aI,bp,ae,ak,ad,ab,SL,List.getElem?_cons_zero,Sl.isBr,Bool.false_and,Bool.false_eq_true,pC,ao,Option.map_some,if_false,Option.bind_some,aw,look,Sl.val,a4,cp,bS,gP,Int.reduceLT,decide_true,h,if_true,eY,aJ,av,aG,hot,aV,PL.settle,frz,frzAll,ax,List.getElem?_cons_succ,Option.any_some,Bool.not_false,Bool.true_or,Bool.and_true,List.length_map,l1,←List.map_append,ec,l2,List.length_cons,List.length_nil,Nat.zero_add,Nat.reduceAdd,Nat.reduceLT,List.set_cons_succ,List.set_cons_zero]
  · simp only [nC,aI,bp,ae,ak,ad,ab,SL,List.getElem?_cons_zero,Sl.isBr,Bool.false_and,Bool.false_eq_true,pC,ao,Option.map_some,if_false,Option.bind_some,aw,look,Sl.val,a4,cp,bS,gP,Int.reduceLT,decide_true,h,if_true,eY,aJ,av,aG,hot,aV,PL.settle,frz,frzAll,ax,List.getElem?_cons_succ,Bool.not_false,Bool.true_or,Bool.and_true,Option.any_some,List.length_map,l1,←List.map_append,ec,l2,List.length_cons,List.length_nil,Nat.zero_add,Nat.reduceAdd,Nat.reduceLT,List.set_cons_succ,List.set_cons_zero]
theorem zz (x2 x3 x7 x9:Sl) (R d R2:List Pc) (s s2:Str) (b:Bool) (e1:ba [.list (d.map aB)]=some (.sh (.str s2))) (e2:bb [.list (d.map aB)]=some (.ow (R2.map aB))) (q1:j5 (.str s2) (.str s)=some b) (q2:j5 (.list (R2.map aB)) (.list (R.map aB))=some b):∃E,tE [SL ns,x1,x2,x3,x4,x5, .ow (R.map aB),x7, .sh (.str s),x9, .ow (d.map aB)]=some (E, .rt (.sh (.bool true))):=by
  have q3:j5 (.bool b) (.bool b)=some true:=by cases b <;> rfl
  refine ⟨[SL ns,x1,x2,x3,x4,x5, .ow (R.map aB),x7, .sh (.str s),x9, .ow (d.map aB)],?_⟩
  simp only [tE,aC,ae,ak,ad,ab,SL,List.getElem?_cons_succ,List.getElem?_cons_zero,Sl.isBr,Bool.false_and,Bool.false_eq_true,ao,Option.map_some,if_false,Option.bind_some,aw,look,Sl.val,e1,eY,bS,q1,e2,q2,q3]
end
theorem dh (s t:Str):j5 (.str s) (.str t)=some (decide (s=t)):=rfl
theorem pz (ns:List Int) (w:List Nat) (W:Int) (x3 x4 x5:Sl) (c d:List Pc) (hx:Cs c x3) (lc:c.length≤4000) (ld:d.length≤3) (kc:∀p∈c,pj p.1) (kd:CkW W d) (hW:W.natAbs≤4*10 ^ 28)
    (hr:∀p∈NH.short c,tL p) (ed:aT [.int (ns.getD 4 0), .str ⟨w.toArray⟩, .int W, .int 3]=some (.ow (d.map aB))):
    ∃E,ap w6 (ap w_ (ap yg (ap xa (ap yh (ap tB (ap tD (ap nC tE))))))) [SL ns, .sh (.str ⟨w.toArray⟩), .sh (.int W),x3,x4,x5, .no, .no, .no, .no, .no]=some (E, .rt (.sh (.bool true))):=by
  have nc:NailsOk c:=fun p hp=>by have:=kc p hp;unfold pj at this;omega
  have nR:NailsOk (NH.short c):=nc.short
  have sl:=NH.im c
  have hb:∀p∈NH.short c,p.2.natAbs < 10 ^ 30:=fun p hp=>(hr p hp).2.2
  have tl:=ib hb
  have ss:=NH.mG c
  have eS:=fW c (by omega)
  have eW:=fX c (by omega) hb
  have eT:=nz (NH.short c) hb (by omega)
  have eR:=mj (NH.short c) (by omega) hr (by omega)
  have eC:=u3 (NH.short c) (by omega)
  have eX:=pw (NH.short c) hb (by omega)
  have eG:=ma (NH.short c) nR (by omega)
  have eW2:=fX (NH.short c) (by omega) (by rw [ss];exact hb)
  rw [ss] at eW2
  have q:=m7 nc nc
  rw [decide_eq_true rfl] at q
  have q2:j5 (.str (⟨(gb (NH.short c)).toArray⟩:Str)) (.str ⟨(gb (NH.short c)).toArray⟩)=some true:=by rw [dh,decide_eq_true rfl]
  have nd:NailsOk d:=kd.nails
  have fin:∀e:List Pc,e.length≤5000→NailsOk e→(∀p∈NH.short e,tL p)→∃b,j5 (.str (⟨(gb (NH.short e)).toArray⟩:Str)) (.str ⟨(gb (NH.short c)).toArray⟩)=some b∧j5 (.list ((NH.short e).map aB)) (.list ((NH.short c).map aB))=some b:=fun e le ne he=>by
    have sl2:=NH.im e
    refine ⟨decide (NH.short e=NH.short c),?_,m7 ne.short nR⟩
    rw [dh]
    congr 1
    by_cases z:NH.short e=NH.short c
    · rw [z,decide_eq_true rfl,decide_eq_true rfl]
    · rw [decide_eq_false z]
      refine decide_eq_false fun y=>z (u6 he hr (by omega) (by omega) ?_)
      have:=congrArg (fun s:Str=>s.cps.toList) y
      simpa using this
  rw [cZ (l5 ns _ x4 x5 _ x3 c _ hx eS),cZ (l6 ns _ x4 x5 _ x3 _ c hx),cZ (l7 ns _ x4 x5 _ x3 _ c _ eW),cZ (l8 ns _ x4 x5 _ x3 c _ _ hx q q2 eT),cZ (l9 ns _ x4 x5 _ x3 _ _ _ _ eR),cZ (zP ns _ x4 x5 _ x3 _ _ _ _ eC eX eG eW2 q2),cZ (zQ ns x4 x5 W w x3 _ _ _ _ d ed)]
  by_cases h3:ns.getD 4 0 % 3=0
  · rw [cZ (zn ns _ x4 x5 _ x3 _ _ _ _ c d hx (by omega) (by omega) h3)]
    have es:NH.short (c++d++NH.contr d)=NH.short c:=by
      have:=NH.sJ c d []
      rwa [List.append_nil,List.append_nil,←List.append_assoc] at this
    have cl:(NH.contr d).length=d.length:=NH.de _
    have ll:(c++d++NH.contr d).length≤5000:=by rw [List.length_append,List.length_append];omega
    have nn:NailsOk (c++d++NH.contr d):=(nc.append nd).append kd.contr.nails
    obtain ⟨b,b1,b2⟩:=fin _ ll nn (by rw [es];exact hr)
    exact zz ns _ x4 x5 _ x3 _ _ _ _ _ _ _ b (fX _ (by omega) (by rw [es];exact hb)) (fW _ (by omega)) b1 b2
  · rw [cZ (zm ns _ x4 x5 _ x3 _ _ _ _ _ h3)]
    have td:=kd.tot
    have td2:d.length*W.natAbs≤3*(4*10 ^ 28):=Nat.mul_le_mul ld hW
    have hd:=nv kd.l (by omega)
    obtain ⟨b,b1,b2⟩:=fin d (by omega) nd hd
    exact zz ns _ x4 x5 _ x3 _ _ _ _ _ _ _ b (fX _ (by omega) fun p hp=>(hd p hp).2.2) (fW _ (by omega)) b1 b2
theorem wP (ns:List Int) (hl:ns.length≤63):g8 [.list (ns.map .int)]=some (.sh (.bool true)):=by
  obtain ⟨w,ew,w1,w2,w3⟩:=l4 (ns.getD 0 0)
  obtain ⟨W,eW,hW⟩:=l1 ns (.sh (.str ⟨w.toArray⟩))
  have W1:1≤W∧W≤40000000000000000000000000000:=by rcases hW with h | h | h | h <;> omega
  have W2:W < 2 ^ 100 - 1:=Int.lt_of_le_of_lt W1.2 (by decide)
  have W3:W.natAbs≤4*10 ^ 28:=by omega
  obtain ⟨c,ec,lc,kc⟩:=iW w W w1 w2 w3 W1.1 W2 (ns.getD 2 0) 24 (by decide)
  obtain ⟨d,ed,ld,kd⟩:=iW w W w1 w2 w3 W1.1 W2 (ns.getD 4 0) 3 (by decide)
  rw [show ((24:Nat):Int)=24 from rfl] at ec
  rw [show ((3:Nat):Int)=3 from rfl] at ed
  -- the cord,made long where its numbers are mK
  obtain ⟨x3,g,e3,hx,lg,kg,tg⟩:∃x3 g,wN [SL ns, .sh (.str ⟨w.toArray⟩), .sh (.int W), .ow (c.map aB), .no, .no, .no, .no, .no, .no, .no]=some ([SL ns, .sh (.str ⟨w.toArray⟩), .sh (.int W),x3, .no, .no, .no, .no, .no, .no, .no], .nx)∧Cs g x3∧g.length≤1200∧CkW W g∧tot g < 10 ^ 30:=by
    by_cases h4:W < 4
    · obtain ⟨g,r,eg,hr,lg,kg⟩:=nk c (ns.getD 5 0) kc (by omega)
      obtain ⟨x3,e3,hx⟩:=zM ns W _ c g r h4 eg hr
      have t:=kg.tot
      have t2:g.length*W.natAbs≤1200*4:=Nat.mul_le_mul lg (by omega)
      exact ⟨x3,g,e3,hx,lg,kg,by omega⟩
    · have t:=kc.tot
      have t2:c.length*W.natAbs≤24*(4*10 ^ 28):=Nat.mul_le_mul lc W3
      exact ⟨_,c,zL ns W _ _ h4, .inl rfl,by omega,kc,by omega⟩
  have hr:=nv kg.l tg
  obtain ⟨E,he⟩:∃E,ap wO (ap w6 (ap w_ (ap yg (ap xa (ap yh (ap tB (ap tD (ap nC tE)))))))) [SL ns, .sh (.str ⟨w.toArray⟩), .sh (.int W),x3, .no, .no, .no, .no, .no, .no, .no]=some (E, .rt (.sh (.bool true))):=by
    by_cases h1:ns.getD 1 0 / 2 % 3=1
    · have m0:=Int.emod_nonneg (ns.getD 3 0) (show (g.length:Int)+1≠0 by omega)
      obtain ⟨m,hm⟩:∃m:Nat,ns.getD 3 0 % ((g.length:Int)+1)=m:=⟨(ns.getD 3 0 % ((g.length:Int)+1)).toNat,by omega⟩
      obtain ⟨x4,x5,e4⟩:=zO ns (.sh (.str ⟨w.toArray⟩)) (.sh (.int W)) x3 g m hx (by omega) h1 hm
      rw [cZ e4]
      have es:NH.short (g.take m++NH.contr (g.take m)++g.take m++g.drop m)=NH.short g:=by
        have:=NH.sJ [] (g.take m) (g.take m++g.drop m)
        rw [List.nil_append,List.nil_append,List.take_append_drop] at this
        rw [List.append_assoc (g.take m++NH.contr (g.take m)),List.take_append_drop]
        exact this
      have kt:CkW W (g.take m):=fun p hp=>kg p (List.mem_of_mem_take hp)
      have kd2:CkW W (g.drop m):=fun p hp=>kg p (List.mem_of_mem_drop hp)
      have ka:=((kt.append kt.contr).append kt).append kd2
      have tl:(g.take m).length≤1200:=by rw [List.length_take];omega
      have dl:(g.take m).length+(g.drop m).length=g.length:=by rw [List.length_take,List.length_drop];omega
      have cl:(NH.contr (g.take m)).length=(g.take m).length:=NH.de _
      exact pz ns w W _ x4 x5 _ d (.inl rfl) (by simp only [List.length_append];omega) ld ka.l kd W3 (by rw [es];exact hr) ed
    · rw [cZ (zN ns _ _ x3 h1)]
      exact pz ns w W x3 .no .no g d hx (by omega) ld kg.l kd W3 hr ed
  have run:k5 [SL ns, .no, .no, .no, .no, .no, .no, .no, .no, .no, .no]=some (E, .rt (.sh (.bool true))):=by
    rw [tF,cZ (l0 ns _ ew),cZ eW,cZ (l2 ns w W c ec),cZ e3,he]
  simp only [g8,cr,List.length_cons,List.length_nil,if_true,ay]
  show ((k5 [SL ns, .no, .no, .no, .no, .no, .no, .no, .no, .no, .no]).bind _)=_
  rw [run]
  rfl
end Nhk65
namespace Nhk65
open PySem L2 Nh PL
open PySem.W (nsIn codeIn keepIn fnOf)
theorem mo {fd:FuncData} {xs:List Str} (h:∀a0,bindArgs fd ⟨[a0],[]⟩=pure (xs.zip [a0])):∀us:List Value,us.length=1→bindArgs fd ⟨us,[]⟩=pure (xs.zip us)
  | [a0],_=>h a0
theorem mq {fd:FuncData} {xs:List Str} (h:∀a0 a1,bindArgs fd ⟨[a0,a1],[]⟩=pure (xs.zip [a0,a1])):∀us:List Value,us.length=2→bindArgs fd ⟨us,[]⟩=pure (xs.zip us)
  | [a0,a1],_=>h a0 a1
theorem yi {fd:FuncData} {xs:List Str} (h:∀a0 a1 a2,bindArgs fd ⟨[a0,a1,a2],[]⟩=pure (xs.zip [a0,a1,a2])):∀us:List Value,us.length=3→bindArgs fd ⟨us,[]⟩=pure (xs.zip us)
  | [a0,a1,a2],_=>h a0 a1 a2
theorem zo {fd:FuncData} {xs:List Str} (h:∀a0 a1 a2 a3,bindArgs fd ⟨[a0,a1,a2,a3],[]⟩=pure (xs.zip [a0,a1,a2,a3])):∀us:List Value,us.length=4→bindArgs fd ⟨us,[]⟩=pure (xs.zip us)
  | [a0,a1,a2,a3],_=>h a0 a1 a2 a3
abbrev HD (K:PySem.W.Frag) (n:Str) (st:Stmt):Prop:=∃(f:Addr) (oc:Value) (od an:Option Addr) (sl:Array (Option Value)) (kV dc pm cd ct:Value),nsIn K mainGlobals n=some (some (.ref f))∧K.lookup f=some ⟨oc,od, .func (fnOf n n (cw st) (bo st) (ai st) .none kV dc pm an cd ct),sl⟩∧codeIn K cd n=true∧keepIn K (.ref f)=true
theorem yj {K:PySem.W.Frag} {n:Str} {st:Stmt} {f:Addr} {oc:Value} {od an:Option Addr} {sl:Array (Option Value)} {kV dc pm cd ct:Value} (a:nsIn K mainGlobals n=some (some (.ref f))) (l:K.lookup f=some ⟨oc,od, .func (fnOf n n (cw st) (bo st) (ai st) .none kV dc pm an cd ct),sl⟩) (c:codeIn K cd n=true) (k:keepIn K (.ref f)=true):HD K n st:=⟨f,oc,od,an,sl,kV,dc,pm,cd,ct,a,l,c,k⟩
theorem cS {K:PySem.W.Frag} {h:Heap} {mg:Str→Option Value} {x:Str} {st:Stmt} {ps:List Str} (d:HD K x st) (X:K.In h) (G:h.Ns mainGlobals mg) (b:∀(kV doc pm:Value) (an:Option Addr) (cdv ct:Value) (us:List Value),us.length=ps.length→bindArgs (fnOf x x (cw st) (bo st) (ai st) .none kV doc pm an cdv ct) ⟨us,[]⟩=pure (ps.zip us)):Def K mg x st ps:=by
  obtain ⟨f,oc,od,an,sl,kV,dc,pm,cd,ct,a,l,c,k⟩:=d
  exact v_ X G a l c k b
theorem yk {K:PySem.W.Frag} {C:Addr} (c1:nsIn K mainGlobals "Piece"=some (some (.ref C))) (c2:PySem.W.plainGet K C Str.empty=true) (c3:PySem.W.hasDictIn K C=true) (c4:PySem.W.plainOver K C=true) (c5:PySem.W.findIn K (.ref C) "__setattr__"=some (some (.builtin "object.__setattr__"))) (c6:PySem.W.makesIn K C=true) (c7:keepIn K (.ref C)=true) (n1:PySem.W.findIn K (.ref C) "nail"=some none) (n2:PySem.W.findIn K (.ref C) "turns"=some none) (n3:PySem.W.findIn K (.ref C) "size"=some none)
    (m1:HM K C "pieces" "Term.pieces" cj) (m2:HM K C "cord" "Term.cord" c9) (m3:HM K C "made" "Piece.made" ek) (m4:HM K C "text" "Piece.text" en) (m5:HM K C "__init__" "Piece.__init__" eI):HP K:=⟨C,⟨c1,c2,c3,c4,c5,c6,c7⟩,n1,n2,n3,m1,m2,m3,m4,m5⟩
theorem ym {K:PySem.W.Frag} {C:Addr} (c1:nsIn K mainGlobals "Parts"=some (some (.ref C))) (c2:PySem.W.plainGet K C Str.empty=true) (c3:PySem.W.hasDictIn K C=true) (c4:PySem.W.plainOver K C=true) (c5:PySem.W.findIn K (.ref C) "__setattr__"=some (some (.builtin "object.__setattr__"))) (c6:PySem.W.makesIn K C=true) (c7:keepIn K (.ref C)=true) (n1:PySem.W.findIn K (.ref C) "parts"=some none) (n2:PySem.W.findIn K (.ref C) "kept"=some none) (n3:PySem.W.findIn K (.ref C) "size"=some none)
    (m1:HM K C "pieces" "Term.pieces" cj) (m2:HM K C "cord" "Term.cord" c9) (m3:HM K C "made" "Parts.made" eB) (m4:HM K C "text" "Parts.text" eF) (m5:HM K C "__init__" "Parts.__init__" eJ):HQ K:=⟨C,⟨c1,c2,c3,c4,c5,c6,c7⟩,n1,n2,n3,m1,m2,m3,m4,m5⟩
theorem wQ {l:PySem.W.OpenLaw} {w:World} {K:PySem.W.Frag} {h:Heap} {mg:Str→Option Value} {fa:Addr} (X:K.In h) (G:h.Ns mainGlobals mg) (hfa:mg "law"=some (.ref fa)) (B:Bn mg) (hp:HP K) (hq:HQ K)
    (d1:HD K "number_text" fi)
    (d2:HD K "is_nail" iE)
    (d3:HD K "short_form" fS)
    (d4:HD K "figures_end" fj)
    (d5:HD K "number_end" fT)
    (d6:HD K "read_number" fk)
    (d7:HD K "read_piece" fU)
    (d8:HD K "read_part" gq)
    (d9:HD K "read_parts" fV)
    (d10:HD K "read" oo)
    (d11:HD K "written" iF)
    (d12:HD K "_law_at" jQ)
    (d13:HD K "_law_mix" iG)
    (d14:HD K "_law_digit" gr)
    (d15:HD K "_law_nails" gs)
    (d16:HD K "_law_cord" g9)
    (d17:HD K "_law_contrary" eU)
    (d18:HD K "_law_short" gu)
    (d19:HD K "_law_right" gv)
    (d20:HD K "_law_text" g_)
    (d21:HD K "_law_long" hE)
    (d22:HD K "law" jR)
    {t_DEEPEST:Tok} (g_DEEPEST:nsIn K mainGlobals "DEEPEST"=some (some (.int 30 t_DEEPEST)))
    {t_LONGEST:Tok} (g_LONGEST:nsIn K mainGlobals "LONGEST"=some (some (.int 4000 t_LONGEST)))
    {t_MOST_FIGURES:Tok} (g_MOST_FIGURES:nsIn K mainGlobals "MOST_FIGURES"=some (some (.int 30 t_MOST_FIGURES))):
    ∃fd:FuncData,(∀(s:Shared) (v:Value),BindsTo s fd ⟨[v],[]⟩ [("_law_script",v)])∧∀base:Heap,K.In base→base.Ns mainGlobals mg→FnOk l.prog w K mg base iK 8 fa fd ["_law_script"] (da K g8):=by
  obtain ⟨f0,oc0,od0,an0,sl0,kV0,dc0,pm0,cd0,ct0,a0,l0,c0,k0⟩:=d22
  have e:=hfa.symm.trans (PySem.W.mg_of X G a0)
  cases e
  have F0:=jp (st:=jR) l0 c0 k0
  have G_DEEPEST:=PySem.W.mg_of X G g_DEEPEST
  have G_LONGEST:=PySem.W.mg_of X G g_LONGEST
  have G_MOST_FIGURES:=PySem.W.mg_of X G g_MOST_FIGURES
  refine ⟨fnOf "law" "law" (cw jR) (bo jR) (ai jR) .none kV0 dc0 pm0 an0 cd0 ct0,fun s v=> .of_eq rfl,fun base _ _=>?_⟩
  have D_number_text:=jM (P:=l.prog) (w:=w) (base:=base) (cS d1 X G fun _ _ _ _ _ _=>mo fun _=>rfl) B
  obtain ⟨D_mk_Piece,D_mk_Parts,D_m_pieces,D_m_text,D_m_cord⟩:=uT (P:=l.prog) (w:=w) (base:=base) X G B hp hq G_LONGEST D_number_text
  have D_is_nail:=on (P:=l.prog) (w:=w) (base:=base) (cS d2 X G fun _ _ _ _ _ _=>mo fun _=>rfl) B
  have D_short_form:=km (P:=l.prog) (w:=w) (base:=base) (cS d3 X G fun _ _ _ _ _ _=>mo fun _=>rfl) B
  have D_figures_end:=jO (P:=l.prog) (w:=w) (base:=base) (cS d4 X G fun _ _ _ _ _ _=>mq fun _ _=>rfl) B
  have D_number_end:=ko (P:=l.prog) (w:=w) (base:=base) (cS d5 X G fun _ _ _ _ _ _=>mq fun _ _=>rfl) B G_MOST_FIGURES D_figures_end
  have D_read_number:=jP (P:=l.prog) (w:=w) (base:=base) (cS d6 X G fun _ _ _ _ _ _=>mq fun _ _=>rfl) B D_number_end
  have D_read_piece:=kq (P:=l.prog) (w:=w) (base:=base) (cS d7 X G fun _ _ _ _ _ _=>mq fun _ _=>rfl) B D_read_number D_mk_Piece
  have D_read_part:=lV (P:=l.prog) (w:=w) (base:=base) (cS d8 X G fun _ _ _ _ _ _=>yi fun _ _ _=>rfl) B D_is_nail D_read_piece
  have D_read_parts:=kr (P:=l.prog) (w:=w) (base:=base) (cS d9 X G fun _ _ _ _ _ _=>yi fun _ _ _=>rfl) B G_DEEPEST D_read_part D_mk_Parts
  have D_read:=uU (P:=l.prog) (w:=w) (base:=base) (cS d10 X G fun _ _ _ _ _ _=>mo fun _=>rfl) B D_read_parts
  have D_written:=ot (P:=l.prog) (w:=w) (base:=base) (cS d11 X G fun _ _ _ _ _ _=>mo fun _=>rfl) B D_short_form D_mk_Piece D_mk_Parts D_m_text
  have D_law_at:=qp (P:=l.prog) (w:=w) (base:=base) (cS d12 X G fun _ _ _ _ _ _=>mq fun _ _=>rfl) B
  have D_law_mix:=ou (P:=l.prog) (w:=w) (base:=base) (cS d13 X G fun _ _ _ _ _ _=>mq fun _ _=>rfl) B
  have D_law_digit:=lW (P:=l.prog) (w:=w) (base:=base) (cS d14 X G fun _ _ _ _ _ _=>mq fun _ _=>rfl) B
  have D_law_nails:=lX (P:=l.prog) (w:=w) (base:=base) (cS d15 X G fun _ _ _ _ _ _=>mo fun _=>rfl) B
  have D_law_cord:=nb (P:=l.prog) (w:=w) (base:=base) (cS d16 X G fun _ _ _ _ _ _=>zo fun _ _ _ _=>rfl) B D_law_digit D_law_mix
  have D_law_contrary:=i4 (P:=l.prog) (w:=w) (base:=base) (cS d17 X G fun _ _ _ _ _ _=>mo fun _=>rfl) B
  have D_law_short:=lY (P:=l.prog) (w:=w) (base:=base) (cS d18 X G fun _ _ _ _ _ _=>mo fun _=>rfl) B
  have D_law_right:=lZ (P:=l.prog) (w:=w) (base:=base) (cS d19 X G fun _ _ _ _ _ _=>mq fun _ _=>rfl) B
  have D_law_text:=ng (P:=l.prog) (w:=w) (base:=base) (cS d20 X G fun _ _ _ _ _ _=>mo fun _=>rfl) B
  have D_law_long:=nj (P:=l.prog) (w:=w) (base:=base) (cS d21 X G fun _ _ _ _ _ _=>mq fun _ _=>rfl) B
  exact wG F0 B D_law_at D_law_nails D_law_cord D_law_long D_law_contrary D_law_short D_written D_law_text D_read D_m_cord D_law_right D_m_text
theorem oA {K:PySem.W.Frag} {h:Heap} (e:nsIn K mainGlobals "in_told_order"=some none):L2.o9 K h:=fun b q z=>by
  unfold jf xb at z
  rw [e] at z
  cases z
theorem zp {l:PySem.W.OpenLaw} {q:Program} {loose:List Str} {XP:(Str→Option Value)→Heap→Prop} {YP:World→Heap→Prop} {d:DefRec} {K:Params→PySem.W.Frag} (hn:l.most=some 63) (hdf:d.params.defaults=[])
    (hY:∀(w:World) (h:Heap),YP w h→(K w.params).In h∧o9 (K w.params) h)
    (F:∀(w:World) (mg:Str→Option Value) (fa:Addr) (h:Heap),(K w.params).In h→h.Ns mainGlobals mg→mg d.name=some (.ref fa)→
      ∃fd:FuncData,(∀(s:Shared) (u:Value),BindsTo s fd ⟨[u],[]⟩ [("_law_script",u)])∧∀base:Heap,(K w.params).In base→base.Ns mainGlobals mg→FnOk l.prog w (K w.params) mg base iK 8 fa fd ["_law_script"] (da (K w.params) g8)):
    PySem.W.WalkO q loose XP YP l.row.toRowW d [] (fun f vs=>PySem.call f vs):=
  L2.sH (n:=63) (k:=8) (x:="_law_script") (CX:=fun _=>iK) (sp:=fun w=>da (K w.params) g8) hn (by decide) hdf ⟨rfl,by decide,by decide⟩ hY F (fun _ _ a ns hl hS=>wn (wP ns hl) hS) fun _ _ _ _ _ z=>z
end Nhk65
open PySem PySem.W PyProof.Rows
inductive PySem.W.Fast|tw1232308413158143072|tw1471171814295405888|tw389054572116955776|tw1409708627463457472|tw13063810460090584800|tw6132926680442370816|tw3407121293880655616|tw5184854908132895584|tw13260209641298743200|tw10580304179543427040|tw6441414409695935489|tw5826092887851543649|tw7233846532355862721|tw13398279434595629345|tw14296596804754357665|tw8153952596972575233|tw1080394136079729185|tw13400749970993855009|tw13424036630282973761|tw14023613202685466241|tw2381344169226613377|tw9208150159200746177|tw18381179956152880865|tw16849844925248124705|tw10842492619661559617|tw232339711537448833|tw7600670844802427809|tw17200201239039171553|tw11340214624387116066|tw4861689386663497794|tw14623138107118138530|tw1200303510272713922|tw4594974385257450722|tw6028480525735394|tw220584190761713122|tw11455014479583652386|tw4483114032208158242|tw5690009624184069698|tw976646573906336450|tw4694323476016180930|tw10497080884906897090|tw1406608110278985474|tw13019018948041954050|tw12574278129546487554|tw6791458296676605762|tw11568192045001567042|tw13686015373246542658|tw3752950253470951298|tw3966708417154832290|tw16569778289457016738|tw2874191527299145666|tw14965988227545869282|tw17834031562195700739|tw16634864464414326787|tw10676834936783282275|tw10946082080178797731|tw12998936383585417411|tw16003283724319096131|tw2966264492259399043|tw5673267968965244387|tw901483170128567875|tw8435950346660654691|tw12037521062813576835|tw17092393014333593347|tw9186782048620419907|tw4463827115772926883|tw12879179983182117859|tw6551205371879295140|tw9757856448977920228|tw15595964236317374820|tw7132803275435693476|tw17473326406320330180|tw782397278990905828|tw17394705280701947396|tw13541808125572637316|tw12454512963515612932|tw15617201539068971908|tw1809840809755421604|tw18092510534070709285|tw18051014624799885477|tw5977185437158128965|tw1751995971575000485|tw1216676497182015909|tw16550862084686998949|tw12918958920441342501|tw6031518918910221861|tw16198986673101510213|tw6695234356084720453|tw4719580018540897093|tw11617090492475547557|tw966130420482977765|tw4798189317762308166|tw9571244653803953286|tw8021018786897429926|tw15673898762710634054|tw11235130674627158630|tw9492298559523806022|tw12095626875589388230|tw6699829781383848039|tw1833780007881133159|tw12867118351820476519|tw2496768306808010919|tw16691801904938766503|tw3607995246887952583|tw15830470301266513127|tw5463426820384518599|tw9574288896533948903|tw16812860586494504455|tw4196774074536309255|tw11443803442436698727|tw10284835294873201287|tw1433873090200027911|tw1067812103442503463|tw9678672166824683367|tw10784686678242737031|tw14546003174463270952|tw10923866325643978888|tw12903658259996108008|tw8714471665901834472|tw4683631430147211720|tw17268509020535459304|tw13685717496456482440|tw9681215204837072520|tw13949621924283454120|tw2178121044417347336|tw9378859300928527208|tw6850285934237728680|tw7384726957874940904|tw137052104275365897|tw1117667857898812489|tw18324367452957046889|tw14367686177644241033|tw3120665366657867049|tw17249092850399482345|tw13211693590545859113|tw12962921235455376969|tw859455561560231785|tw7628057379509292969|tw11636182785029808202|tw8957485359401756746|tw17511906823769622634|tw3746796501648478378|tw5347960805560430794|tw8236168968672190698|tw17077973990488054090|tw10081079797219134986|tw6193685249891324522|tw2393748622022185578|tw9990274195804354186|tw8217216058911903370|tw5126666938995665578|tw16859378886970509098|tw4185527011806928714|tw3490794427734131787|tw9428928221987254475|tw10385040390649712907|tw3442788821046181163|tw8210424046188439883|tw10843328654948082123|tw9834774727662785035|tw14427786893359849131|tw14268331125247283883|tw5083816085921225515|tw3093103227154835275|tw4678638316931558315|tw4441468070320835596|tw8270424519858176108|tw1073239721952769164|tw9290622180144433324|tw7328456530591762700|tw6167626300513839404|tw15066115164855287276|tw3903626131905418924|tw7701340638648261324|tw8831008755328374476|tw5142206245580206828|tw628415776472791884|tw13317798198941996908|tw17767944903670807661|tw8227038892943003021|tw17716464207502053005|tw14932609895054767853|tw7239562916622846925|tw17790319291101356013|tw12890256602976117870|tw2826576527484154158|tw14888947365253684686|tw862967314561572334|tw16060311937395562254|tw17919511508006821806|tw9087839342905149390|tw11600388459498972271|tw9150696762242333007|tw14187250826596811151|tw9322730349299459535|tw16517403281328584207|tw3342869267640409839|tw9797212893821805327|tw1573391881478852399|tw15875418574727610255|tw3700326840363786223|tw14583578010051496943|tw13915987781398667376|tw11969592381301731440|tw10422199779605501040|tw7832547207046857904|tw15661351400609778960|tw17635383958129957232|tw14293919969969181168|tw11877143932420267760|tw3237083322254318352|tw3965822560112814992|tw8405395413479905168|tw5670072287461258192|tw13737821982276438129|tw4295033052212809169|tw3641317372040524401|tw5431569848450604689|tw18122953729620615889|tw16460112094976512753|tw16021930482767955986|tw7167698670378293426|tw6808138256431803762|tw13146413126510356914|tw15192142741896476082|tw2201401088383988306|tw10850020722668986034|tw9224150486565199634|tw12944941339522787090|tw3106873959525412690|tw9453118132960460626|tw11854060292716352434|tw14403880752291981298|tw3650840051748930579|tw17768400923870874707|tw6864459135612756211|tw13505521320830488883|tw8252886184122391923|tw17522249821509003635|tw9206227253740017043|tw14185038374879481235|tw9838812951654176275|tw13540876609386213907|tw10137537886639093395|tw10795175862053802675|tw7689191809243673363|tw17650235131966384019|tw297998963246242739|tw16924659272196405235|tw2794643104803603572|tw8375213589174577460|tw7484541595012410740|tw1800774397531253172|tw17189428730529817076|tw519164299071513140|tw11655139136631857780|tw6894697747834884724|tw13251039442206267092|tw14224375786934024980|tw4936591552910072660|tw14480628992731827124|tw6721042540235124660|tw9616472206807073780|tw6571877922799623189|tw17346138759499225109|tw9101745871113269301|tw9073928518248351989|tw3288954092418951445|tw8705411054764567957|tw9380418914309124565|tw6762103816548897269|tw13546083661940392469|tw1591443701542848373|tw18277394005442483093|tw4493246804091728853|tw2767918792237422549|tw3701663677385243830|tw4925209419316632790|tw8514578318671901110|tw6423046235495184854|tw13463183263204005334|tw2151077506902516182|tw7007121126110402038|tw3234907670426941942|tw13664508094626653750|tw377400793178778198|tw5589058293199554198|tw12818741063340822166|tw6793822563508794038|tw3356095949408397014|tw12771047254973942550|tw10454881746062254934|tw7387391279441752918|tw16712228357901268822|tw1541408742563583958|tw2549658346504222678|tw6367107873305920502|tw1699219021644031031|tw8095761646431927383|tw9044584410542873751|tw7943374721298388183|tw4474919898711595287|tw14336711407589769527|tw1264891719912767831|tw15411031121936271735|tw16818565927627056503|tw6568433157822674327|tw4296400390964951543|tw3200448567124616727|tw15194216991582352951|tw1029036729507853911|tw11493729313000512215|tw10820186206546695927|tw10981951255121418071|tw220781586927125399|tw10722562997077020663|tw1703286679615437016|tw16881089687537061144|tw4518484512733038072|tw523622960429262360|tw5519590088411891352|tw3664227459797259992|tw6499015151957493592|tw2216874796645173305|tw9607916941357921337|tw17104661357545245817|tw3118611865929100441|tw16680611252615848185|tw13545884638061037849|tw17128317575969528217|tw6751780919618898329|tw12104019731660420697|tw1127036257522150105|tw11864968946574577593|tw18383643558269428826|tw13435893997138351194|tw2306963427246306426|tw15370101783859292378|tw16719077064503492858|tw13851106132926744858|tw1821023645757887770|tw13494916785162274298|tw3936952065711432218|tw5014890885351687738|tw448554168134538970|tw2589549545370473178|tw16616044088733026202|tw217053949006400539|tw17947799956663452763|tw14164206082641240251|tw6205531520180446427|tw17715306870871634203|tw3965764292607868411|tw9753443061404222971|tw3885089726304557755|tw13717639106061615963|tw14165654258187669339|tw3860980794627004411|tw1579038303768615964|tw8187525808046214204|tw1037217823697314908|tw1028359441484602524|tw11790418241662949596|tw7655953232016141628|tw6747008539055011228|tw13543450677527826908|tw2238345191243361820|tw11074718115589765660|tw15872300672277904988|tw971336893712969308|tw5944943947320727196|tw17400870257204961980|tw7587523438352282332|tw7727841681773033244|tw13070544281764034396|tw11086705010601952188|tw6219407945389811676|tw7457662669056709725|tw10718501025114923101|tw11823935352772852189|tw8642193227788388861|tw10323543096281292349|tw16274517472283463229|tw14383650630865666653|tw1119061249117939325|tw15643221606836846205|tw7158072887234698013|tw17575021398336155453|tw439612483855796318|tw3378867928302773630|tw18019089345815799198|tw2474951487357982110|tw7797485358816410110|tw12465453187917048606|tw9513116042198474622|tw5420087356688832478|tw239171127594611743|tw9864701012282514527|tw4837774606225882271|tw12964567242594506015|tw14949636338356946271|tw1653787614486871455|tw7793898040183815615|tw16429936901453212095|tw12188634301045529183|tw15459777128470940319|tw13674638079249408703|tw8359925558902619039|tw2189638903128930423
set_option maxRecDepth 100000 in
set_option maxHeartbeats 0 in
theorem PySem.Challenge.cw_nailhang_k65_written_and_read_holds : PySem.Challenge.rw_nailhang_k65_written_and_read.Holds := by
  w_on;o_law;k_head;(case hw=>w_witness2)
  k_fill
  refine Nhk65.zp (l:=PySem.Challenge.rw_nailhang_k65_written_and_read) rfl rfl (fun w h Y=>⟨PySem.W.kIn_of Y,Nhk65.oA (by k_is)⟩) ?F
  case F=>
    intro w mg fa h KX G hmg
    refine' Nhk65.wQ KX G hmg (PL.xX KX G ?_ ?_ ?_ ?_ ?_ ?_ ?_ ?_ ?_ ?_ ?_ ?_ ?_ ?_ ?_ ?_ ?_ ?_ ?_ ?_) ?hp ?hq ?_ ?_ ?_ ?_ ?_ ?_ ?_ ?_ ?_ ?_ ?_ ?_ ?_ ?_ ?_ ?_ ?_ ?_ ?_ ?_ ?_ ?_ ?_ ?_ ?_
    case hp=>refine' Nhk65.yk ?_ ?_ ?_ ?_ ?_ ?_ ?_ ?_ ?_ ?_ ?_ ?_ ?_ ?_ ?_ <;> first | (refine' PL.vp ?_ ?_ ?_ ?_ ?_ <;> first | k_is | skip) | k_is | skip
    case hq=>refine' Nhk65.ym ?_ ?_ ?_ ?_ ?_ ?_ ?_ ?_ ?_ ?_ ?_ ?_ ?_ ?_ ?_ <;> first | (refine' PL.vp ?_ ?_ ?_ ?_ ?_ <;> first | k_is | skip) | k_is | skip
    all_goals first | (refine' Nhk65.yj ?_ ?_ ?_ ?_ <;> first | k_is | skip) | k_is | exact rfl | kernel_rfl | skip
