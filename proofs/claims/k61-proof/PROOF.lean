import PyProof.Rows.All
import KE.KLam
import KE.KNestM
import PyProof.OldK
import Wide.All
import OpenK.AllK
import Wide.FinOn
import Lean
import PyProof.EqAt
import PyProof.EqKinds
import PyProof.TupleCall
import KE.KRevIter
import PyProof.Rows.SeqMore
import PyProof.Rows.ListMulArg
import PyProof.ZipIter
import PyProof.Rows.ZipGen
import PyProof.EnumMake
import PyProof.StrWalks
import PyProof.SliceStr2
import PyProof.StrBlockH
import PyProof.FString5
import PyProof.Rows.StrJoin2
import PyProof.Rows.Range3
import KE.KDictLaws
import PyProof.ConsumeWalk
import PyProof.SumWalkG
import PyProof.Rows.SeqCalls
import PyProof.Rows.SeqGen
import PyProof.Rows.MinMaxN
import PyProof.Rows.CallKwBuiltin
import PyProof.Rows.SortStr
import PyProof.StrOps2
import PyProof.Rows.StrMul
import PyProof.IsRules
import PyProof.Rows.SetFrom
import PyProof.CollectStr
import PyProof.PureStr
import PyProof.CallStr
import KE.KIntText
import KE.KTryMore
import KE.IntTextLaws
import PyProof.Rows.ReprOcc
import PyProof.StrLawsIdx
import PyProof.StrLawsIn
import PyProof.StrLaws
import KE.RegKIsAll
import KE.RegKTryMore
import PySem.Challenge.RW_nailhang_k61_texts_read
set_option Elab.async false
set_option linter.all false
set_option maxRecDepth 100000
set_option maxHeartbeats 4000000
local macro_rules | `(tactic| omega) => `(tactic| lia)
noncomputable section
namespace L2
open PySem PySem.Spec PyProof.Rows
abbrev eh:=Sum Int Str
def wP:eh→Value→Bool
  | .inl k,v=>Value.isInt k v
  | .inr x,v=>Value.isStrOf x v
def Bm (w:World):eh→Int
  | .inl k=>hashInt k
  | .inr x=>hashStr w x
theorem ci:∀{k:eh} {v:Value},wP k v=true→(∃i t,k=Sum.inl i∧v=Value.int i t)∨(∃x t,k=Sum.inr x∧v=Value.str x t)
  | .inl i,v,h=>by
    obtain ⟨t,e⟩:=Value.isInt_shape (k:=i) (v:=v) h
    exact .inl ⟨i,t,rfl,e⟩
  | .inr x,v,h=>by
    obtain ⟨t,e⟩:=Value.isStrOf_shape (x:=x) (v:=v) h
    exact .inr ⟨x,t,rfl,e⟩
theorem xC (a b:Int):decide ((Sum.inl a:eh)=Sum.inl b)=(a == b):=by
  by_cases e:a=b
  · subst e;simp
  · have h:¬(Sum.inl a:eh)=Sum.inl b:=fun q=>e (Sum.inl.inj q)
    rw [decide_eq_false h]
    exact (beq_eq_false_iff_ne.mpr e).symm
theorem xD (a b:Str):decide ((Sum.inr a:eh)=Sum.inr b)=decide (a=b):=by
  by_cases e:a=b
  · subst e;simp
  · have h:¬(Sum.inr a:eh)=Sum.inr b:=fun q=>e (Sum.inr.inj q)
    rw [decide_eq_false h,decide_eq_false e]
theorem xE (a:Int) (b:Str):decide ((Sum.inl a:eh)=Sum.inr b)=false:=decide_eq_false (fun q=>nomatch q)
theorem xF (a:Str) (b:Int):decide ((Sum.inr a:eh)=Sum.inl b)=false:=decide_eq_false (fun q=>nomatch q)
def jK (prog:Program) (w:World):PySem.KeyKind prog w eh where
  is:=wP
  hash:=Bm w
  inj:=fun v a b ha hb=>by
    rcases ci ha with ⟨i,t,rfl,rfl⟩ | ⟨x,t,rfl,rfl⟩
    · rcases ci hb with ⟨j,u,rfl,e⟩ | ⟨y,u,rfl,e⟩
      · injection e with e1 _;rw [e1]
      · exact nomatch e
    · rcases ci hb with ⟨j,u,rfl,e⟩ | ⟨y,u,rfl,e⟩
      · exact nomatch e
      · injection e with e1 _;rw [e1]
  byValue:=fun k v h=>by
    rcases ci h with ⟨i,t,rfl,rfl⟩ | ⟨x,t,rfl,rfl⟩ <;> rfl
  pyHash:=fun hv h=>by
    rcases ci hv with ⟨i,t,rfl,rfl⟩ | ⟨x,t,rfl,rfl⟩
    · exact wpAny_pyHash_int h
    · exact wpAny_pyHash_str h
  eqBool:=fun hu hv h=>by
    rcases ci hu with ⟨i,t,rfl,rfl⟩ | ⟨x,t,rfl,rfl⟩
    · rcases ci hv with ⟨j,u,rfl,rfl⟩ | ⟨y,u,rfl,rfl⟩
      · rw [xC] at h;exact wpAny_eqBool_int h
      · rw [xE] at h;exact SeqAt.EqAt.int_str i t y u _ _ _ _ h
    · rcases ci hv with ⟨j,u,rfl,rfl⟩ | ⟨y,u,rfl,rfl⟩
      · rw [xF] at h;exact SeqAt.EqAt.str_int x t j u _ _ _ _ h
      · rw [xD] at h;exact wpAny_eqBool_str h
  «strs»:=fun k x t v h=>by
    rcases ci h with ⟨i,u,rfl,e⟩ | ⟨y,u,rfl,e⟩
    · exact nomatch e
    · injection e with e1 _
      subst e1
      cases v <;> rfl
end L2
namespace L2
open PySem PySem.Spec PyProof.Rows
inductive V where
  | non | bl (b:Bool) | int (i:Int) | str (x:Str) | byt (b:Array UInt8) | flt (b:UInt64) | ref (a:Addr) | ty (n:String)
  deriving DecidableEq
def RelV:V→Value→Prop
  | .non,u=>u=Value.none
  | .bl b,u=>u=Value.bool b
  | .int i,u=>∃t,u=Value.int i t
  | .str x,u=>∃t,u=Value.str x t
  | .byt b,u=>∃t,u=Value.bytes b t
  | .flt b,u=>∃t,u=Value.float b t
  | .ref a,u=>u=Value.ref a
  | .ty n,u=>u=Value.type n
abbrev Vals:List V→List Value→Prop:=Paired RelV
theorem Vals.length {xs:List V} {us:List Value} (r:Vals xs us):xs.length=us.length:=Paired.length r
theorem Vals.get:∀{xs:List V} {us:List Value} {i:Nat} {x:V},Vals xs us→xs[i]? =some x→∃u,us[i]? =some u∧RelV x u
  | _,_,_,_, .nil,e=>by simp at e
  | _,_,0,_, .cons r _,e=>by simp at e;subst e;exact ⟨_,rfl,r⟩
  | _,_,i+1,x, .cons _ t,e=>by
    obtain ⟨u,h1,h2⟩:=Vals.get (i:=i) (x:=x) t (by simpa using e)
    exact ⟨u,by simpa using h1,h2⟩
theorem Vals.set {x:V} {u:Value} (r:RelV x u):∀{xs:List V} {us:List Value} (i:Nat),Vals xs us→Vals (xs.set i x) (us.set i u)
  | _,_,_, .nil=> .nil
  | _,_,0, .cons _ t=> .cons r t
  | _,_,i+1, .cons q t=> .cons q (Vals.set r i t)
theorem Vals.append:∀{xs ys:List V} {us ws:List Value},Vals xs us→Vals ys ws→Vals (xs++ys) (us++ws)
  | _,_,_,_, .nil,s=>s
  | _,_,_,_, .cons r t,s=> .cons r (Vals.append t s)
theorem Vals.take:∀{xs:List V} {us:List Value} (n:Nat),Vals xs us→Vals (xs.take n) (us.take n)
  | _,_,0,_=> .nil
  | _,_,_+1, .nil=> .nil
  | _,_,n+1, .cons r t=> .cons r (Vals.take n t)
theorem Vals.drop:∀{xs:List V} {us:List Value} (n:Nat),Vals xs us→Vals (xs.drop n) (us.drop n)
  | _,_,0,r=>r
  | _,_,_+1, .nil=> .nil
  | _,_,n+1, .cons _ t=>Vals.drop n t
theorem Vals.none_of:∀{xs:List V} {us:List Value} {i:Nat},Vals xs us→xs[i]? =none→us[i]? =none:=fun {xs us i} r e=>by
  have h1:=r.length
  have h2:xs.length≤i:=List.getElem?_eq_none_iff.mp e
  exact List.getElem?_eq_none_iff.mpr (by omega)
def RelO:Option V→Option Value→Prop
  | some v,some u=>RelV v u
  | none,none=>True
  | _,_=>False
def KV {κ:Type}:List (κ×V)→List (κ×Value)→Prop:=Paired fun (p:κ×V) (q:κ×Value)=>p.1=q.1∧RelV p.2 q.2
def kV:eh→V
  | .inl i=> .int i
  | .inr x=> .str x
inductive HO where
  /-- a list -/
  | lst (xs:List V)
  /-- a tuple (never changes) -/
  | tup (xs:List V)
  /-- a dict whose keys are ints and texts;one whose keys are tuples of ints and texts (the empty one is both) -/
  | dK (kvs:List (eh×V)) | dT (kvs:List (List eh×V))
  /-- a set of ints:its members,its size -/
  | set (S:Int→Bool) (n:Nat)
  /-- an instance of the class at C,its dict at dx,its attributes -/
  | ins (C dx:Addr) (fs:List (Str×V))
  /-- the dict of the instance at x -/
  | own (x:Addr)
  /-- the dict of an exception -/
  | xd (fs:List (Str×V))
  /-- a bound method,f of x -/
  | met (f x:Addr)
  /-- a range object lo,lo+1, .. below hi -/
  | rng (lo hi:Int)
  /-- a thing that is known to the object (the script;a dict while a loop walks it):read,never written while it is so -/
  | frz (o:Obj) (u:HO)
  /-- a code object's table -/
  | tbl (q:Str)
  /-- any other thing,by what is true of its one object (a def of one's own:SetO a S n:=HO.ext fun h=> ..) -/
  | ext (φ:Heap→Prop)
abbrev Hp:=Addr→Option HO
def upd (H:Hp) (a:Addr) (o:HO):Hp:=fun b=>if b=a then some o else H b
theorem aJ {H:Hp} {a:Addr} {o:HO}:upd H a o a=some o:=by unfold upd;rw [if_pos rfl]
theorem ay {H:Hp} {a b:Addr} {o:HO} (h:b≠a):upd H a o b=H b:=by unfold upd;rw [if_neg h]
theorem qh {H:Hp} {a:Addr} {o u:HO}:upd (upd H a o) a u=upd H a u:=by
  funext b;unfold upd;split <;> rfl
theorem wQ {H:Hp} {a b:Addr} {o u:HO} (h:H a=some o) (h':H b=some u) (d:o≠u):a≠b:=by
  intro e;subst e;rw [h] at h';exact d (Option.some.inj h')
theorem aT {H:Hp} {a b:Addr} {o:HO} (h:H a=some o) (h':H b=none):a≠b:=by
  intro e;subst e;rw [h] at h';cases h'
section
variable (P:Program) (w:World)
def ObjOk (H:Hp) (h:Heap) (a:Addr):HO→Prop
  | .lst xs=>xs.length≤sizeLine∧∃(its:List Value) (n:Nat),Vals xs its∧h.get? a=some {cls:= .type "list",data:= .seq its.toArray n}
  | .tup xs=>xs.length≤sizeLine∧∃its:List Value,Vals xs its∧IsTup h a its.toArray
  | .dK kvs=>kvs.length≤sizeLine∧(a == sysModules)=false∧∃vs,KV kvs vs∧h.DictOf (jK P w) a vs
  | .dT kvs=>kvs.length≤sizeLine∧(a == sysModules)=false∧∃xs:List (List eh×Addr×Value),
      Paired (fun (p:List eh×V) (q:List eh×Addr×Value)=>p.1=q.1∧H q.2.1=some (.tup (p.1.map kV))∧RelV p.2 q.2.2) kvs xs∧
      ∃o es ep,h.get? a=some o∧o.ExactDict∧o.data= .dict es ep∧es.toList=xs.map (entryOfKey (tupleKind (jK P w)))∧(xs.map (·.1)).Nodup
  | .set S n=>h.SetOf (intKind P w) a S n
  | .ins C dx fs=>H dx=some (.own a)∧fs.length≤1000∧dx≠a∧h.get? a=some (PySem.W.instObj C dx)∧
      ∃mA,h.Ns1 dx mA∧(∀f,RelO (fs.lookup f) (mA f))∧PySem.Within mA (fs.map (·.1))
  | .own _=>∃o,h.get? a=some o
  | .xd fs=>∃mA,h.Ns1 a mA∧∀f,RelO (fs.lookup f) (mA f)
  | .rng lo hi=>∃t u v,h.get? a=some {cls:= .type "range",data:= .fields #[.int lo t, .int hi u, .int 1 v]}
  | .frz o u=>h.get? a=some o∧ObjOk H h a u
  | .tbl q=>∃ps:Array Value,h.get? a=some (PySem.W.tabObj ps)∧TriplesOk ps.toList∧∀pos cv,codeAmong pos ps.toList=some cv→∃c,cv=Value.ref c∧H c=some (.own a)∧h.CodeRec cv q
  | .met f x=>h.get? a=some (PySem.W.methodObj (.ref f) (.ref x))
  | .ext φ=>φ h∧(∃o,h.get? a=some o)∧∀h1 h2:Heap,φ h1→(∀o,h1.get? a=some o→h2.get? a=some o)→φ h2
def HOk (H:Hp) (h:Heap):Prop:=∀a o,H a=some o→ObjOk P w H h a o
end
section
variable {P:Program} {w:World} {H H':Hp} {h h':Heap} {a:Addr} {o:HO}
theorem ObjOk.lt (x:ObjOk P w H h a o):a < h.objs.size:=by
  cases o with
  | lst xs=>obtain ⟨_,_,_,_,e⟩:=x;exact Heap.lt_size e
  | tup xs=>obtain ⟨_,_,_,p⟩:=x;exact p.lt
  | dK kvs=>obtain ⟨_,_,_,_,o,_,_,e,_⟩:=x;exact Heap.lt_size e
  | dT kvs=>obtain ⟨_,_,_,_,o,_,_,e,_⟩:=x;exact Heap.lt_size e
  | set S n=>obtain ⟨o,_,_,_,e,_⟩:=x;exact Heap.lt_size e
  | ins C dx fs=>obtain ⟨_,_,_,e,_⟩:=x;exact Heap.lt_size e
  | own y=>obtain ⟨_,e⟩:=x;exact Heap.lt_size e
  | xd fs=>obtain ⟨_,⟨_,_,_,e,_⟩,_⟩:=x;exact Heap.lt_size e
  | rng lo hi=>obtain ⟨_,_,_,e⟩:=x;exact Heap.lt_size e
  | frz ob u=>obtain ⟨e,_⟩:=x;exact Heap.lt_size e
  | tbl q=>obtain ⟨_,e,_⟩:=x;exact Heap.lt_size e
  | met f y=>exact Heap.lt_size (show h.get? a=some _ from x)
  | ext φ=>obtain ⟨_,⟨_,e⟩,_⟩:=x;exact Heap.lt_size e
theorem Paired.mapP {α β:Type} {F G:α→β→Prop} {l₁:List α} {l₂:List β} (h:Paired F l₁ l₂) (f:∀a b,F a b→G a b):Paired G l₁ l₂:=by
  induction h with
  | nil=>exact .nil
  | cons r _ t=>exact .cons (f _ _ r) t
theorem ObjOk.stay (x:ObjOk P w H h a o) (k:∀b u,(b=a∨H b=some (.own a))→h.get? b=some u→h'.get? b=some u)
    (ho:∀b,H b=some (.own a)→H' b=some (.own a)) (ht:∀b xs,H b=some (.tup xs)→H' b=some (.tup xs)):ObjOk P w H' h' a o:=by
  induction o with
  | lst xs=>obtain ⟨z,its,n,r,e⟩:=x;exact ⟨z,its,n,r,k _ _ (.inl rfl) e⟩
  | tup xs=>obtain ⟨z,its,r,ob,e,c⟩:=x;exact ⟨z,its,r,ob,k _ _ (.inl rfl) e,c⟩
  | dK kvs=>obtain ⟨z,y,vs,r,ob,es,ep,e,c⟩:=x;exact ⟨z,y,vs,r,ob,es,ep,k _ _ (.inl rfl) e,c⟩
  | dT kvs=>
    obtain ⟨z,y,xs,r,ob,es,ep,e,c⟩:=x
    exact ⟨z,y,xs,Paired.mapP r fun p q z=>⟨z.1,ht _ _ z.2.1,z.2.2⟩,ob,es,ep,k _ _ (.inl rfl) e,c⟩
  | set S n=>obtain ⟨ob,es,ep,t,e,c⟩:=x;exact ⟨ob,es,ep,t,k _ _ (.inl rfl) e,c⟩
  | ins C dx fs=>
    obtain ⟨d,z,ne,e,mA,⟨od,es,ep,e2,c⟩,r⟩:=x
    exact ⟨ho _ d,z,ne,k _ _ (.inl rfl) e,mA,⟨od,es,ep,k _ _ (.inr d) e2,c⟩,r⟩
  | own y=>obtain ⟨ob,e⟩:=x;exact ⟨ob,k _ _ (.inl rfl) e⟩
  | xd fs=>obtain ⟨mA,⟨od,es,ep,e,c⟩,r⟩:=x;exact ⟨mA,⟨od,es,ep,k _ _ (.inl rfl) e,c⟩,r⟩
  | rng lo hi=>obtain ⟨t,u,v,e⟩:=x;exact ⟨t,u,v,k _ _ (.inl rfl) e⟩
  | frz ob u ih=>obtain ⟨e,q⟩:=x;exact ⟨k _ _ (.inl rfl) e,ih q⟩
  | tbl q=>
    obtain ⟨ps,e,t,r⟩:=x
    refine ⟨ps,k _ _ (.inl rfl) e,t,fun pos cv z=>?_⟩
    obtain ⟨c,ec,ho',c2,oc,vs,tq,hc,hoc,hd⟩:=r pos cv z
    subst ec
    cases hc
    exact ⟨c,rfl,ho _ ho',c,oc,vs,tq,rfl,k _ _ (.inr ho') hoc,hd⟩
  | met f y=>
    have e:h.get? a=some (PySem.W.methodObj (.ref f) (.ref y)):=x
    show h'.get? a=some (PySem.W.methodObj (.ref f) (.ref y))
    exact k a _ (.inl rfl) e
  | ext φ=>obtain ⟨p,⟨o,e⟩,st⟩:=x;exact ⟨st _ _ p fun o q=>k _ _ (.inl rfl) q,⟨o,k _ _ (.inl rfl) e⟩,st⟩
theorem HOk.lt (x:HOk P w H h) (e:H a=some o):a < h.objs.size:=(x a o e).lt
theorem HOk.fresh (x:HOk P w H h) (e:h.objs.size≤a):H a=none:=by
  cases q:H a with
  | none=>rfl
  | some u=>exact absurd (Nat.lt_of_lt_of_le (x.lt q) e) (Nat.lt_irrefl _)
theorem HOk.kept (x:HOk P w H h) (k:∀b u,h.get? b=some u→h'.get? b=some u):HOk P w H h':=fun a o e=>
  (x a o e).stay (fun b u _ q=>k b u q) (fun _ q=>q) fun _ _ q=>q
theorem HOk.laid (x:HOk P w H h) (k:∀b u,h.get? b=some u→h'.get? b=some u) (hp:h.objs.size≤a) (new:ObjOk P w (upd H a o) h' a o):HOk P w (upd H a o) h':=fun b u e=>by
  have hn:=x.fresh hp
  by_cases hb:b=a
  · subst hb;rw [aJ] at e;cases e;exact new
  · rw [ay hb] at e
    exact (x b u e).stay (fun c v _ q=>k c v q) (fun c q=>by rw [ay (aT q hn)];exact q) fun c xs q=>by rw [ay (aT q hn)];exact q
end
def Rd (H:Hp) (a:Addr) (u:HO):Prop:=H a=some u∨∃o,H a=some (.frz o u)
theorem Rd.of {H:Hp} {a:Addr} {u:HO} (h:H a=some u):Rd H a u:= .inl h
theorem Rd.ok {P:Program} {w:World} {H:Hp} {h:Heap} {a:Addr} {u:HO} (r:Rd H a u) (x:HOk P w H h):ObjOk P w H h a u:=by
  rcases r with r | ⟨o,r⟩
  · exact x a u r
  · obtain ⟨_,q⟩:=x a _ r
    exact q
def AG:Option HO→Prop
  | some (.lst _)=>True
  | some (.dK _)=>True
  | some (.dT _)=>True
  | some (.set _ _)=>True
  | some (.ins _ _ _)=>True
  | some (.ext _)=>True
  | _=>False
section
variable {P:Program} {w:World} {H:Hp} {h h':Heap} {x e:Addr} {o':HO}
theorem HOk.write (ok:HOk P w H h) (mu:AG (H x)) (he:e=x∨H e=some (.own x)) (k:∀b u,b≠e→h.get? b=some u→h'.get? b=some u) (heo:∃u,h'.get? e=some u)
    (new:ObjOk P w (upd H x o') h' x o'):HOk P w (upd H x o') h':=fun b u q=>by
  have nown:∀c y,H c=some (.own y)→c≠x:=fun c y r z=>by subst z;rw [r] at mu;exact mu
  have ntup:∀c xs,H c=some (.tup xs)→c≠x:=fun c xs r z=>by subst z;rw [r] at mu;exact mu
  by_cases hb:b=x
  · subst hb;rw [aJ] at q;cases q;exact new
  · rw [ay hb] at q
    by_cases hbe:b=e
    · have q':H b=some (.own x):=by
        rcases he with z | z
        · exact absurd (hbe.trans z) hb
        · rw [hbe];exact z
      rw [q] at q';cases q'
      obtain ⟨v,hv⟩:=heo
      exact ⟨v,by rw [hbe];exact hv⟩
    · refine (ok b u q).stay (fun c v hc r=>k c v ?_ r) (fun c r=>by rw [ay (nown c b r)];exact r) fun c xs r=>by rw [ay (ntup c xs r)];exact r
      rcases hc with rfl | hc
      · exact hbe
      · rintro rfl
        rcases he with z | z
        · exact nown c b hc z
        · rw [hc] at z;cases z;exact hb rfl
end
structure Un (fs ex:List Addr) (H H':Hp) (h h':Heap):Prop where
  keep:∀b o,h.get? b=some o→H b=none→b∉fs→b∉ex→h'.get? b=some o
  slot:∀b o,h.get? b=some o→H b=none→b∈fs→b∉ex→∃sl,h'.get? b=some {o with slots:=sl}
  free:∀b o,h.get? b=some o→H b=none→b∉ex→H' b=none
  there:∀b o,h.get? b=some o→b∉ex→∃o',h'.get? b=some o'
  tups:∀b xs,H b=some (.tup xs)→H' b=some (.tup xs)
  frzs:∀b o u,H b=some (.frz o u)→H' b=some (.frz o u)
  tbls:∀b ps,H b=some (.tbl ps)→H' b=some (.tbl ps)
section
variable {fs fs' ex ex':List Addr} {H H1 H2:Hp} {h h1 h2 h':Heap} {a x e:Addr} {o:HO}
theorem Un.any (u:Un fs ex H H1 h h1) {b:Addr} {ob:Obj} (q:h.get? b=some ob) (n:H b=none) (hx:b∉ex):∃sl,h1.get? b=some {ob with slots:=sl}:=by
  by_cases hb:b∈fs
  · exact u.slot b ob q n hb hx
  · exact ⟨ob.slots,u.keep b ob q n hb hx⟩
theorem Un.trans (a:Un fs ex H H1 h h1) (b:Un fs ex H1 H2 h1 h2):Un fs ex H H2 h h2 where
  keep:=fun c ob q n hc hx=>b.keep c ob (a.keep c ob q n hc hx) (a.free c ob q n hx) hc hx
  slot:=fun c ob q n hc hx=>by
    obtain ⟨sl,e1⟩:=a.slot c ob q n hc hx
    obtain ⟨sl',e2⟩:=b.slot c _ e1 (a.free c ob q n hx) hc hx
    exact ⟨sl',e2⟩
  free:=fun c ob q n hx=>by
    obtain ⟨o',e1⟩:=a.there c ob q hx
    exact b.free c o' e1 (a.free c ob q n hx) hx
  there:=fun c ob q hx=>by
    obtain ⟨o',e1⟩:=a.there c ob q hx
    exact b.there c o' e1 hx
  tups:=fun c xs q=>b.tups c xs (a.tups c xs q)
  frzs:=fun c ob xs q=>b.frzs c ob xs (a.frzs c ob xs q)
  tbls:=fun c ps q=>b.tbls c ps (a.tbls c ps q)
theorem Un.kept (k:∀b u,h.get? b=some u→h'.get? b=some u):Un fs ex H H h h':=
  ⟨fun b ob q _ _ _=>k b ob q,fun b ob q _ _ _=>⟨ob.slots,k b ob q⟩,fun _ _ _ n _=>n,fun b ob q _=>⟨ob,k b ob q⟩,fun _ _ q=>q,fun _ _ _ q=>q,fun _ _ q=>q⟩
theorem Un.refl:Un fs ex H H h h:=Un.kept fun _ _ q=>q
theorem Un.laid (k:∀b u,h.get? b=some u→h'.get? b=some u) (hp:h.objs.size≤a) (hn:H a=none):Un fs ex H (upd H a o) h h' where
  keep:=fun b u q _ _ _=>k b u q
  slot:=fun b u q _ _ _=>⟨u.slots,k b u q⟩
  free:=fun b u q n _=>by rw [ay (Nat.ne_of_lt (Nat.lt_of_lt_of_le (Heap.lt_size q) hp))];exact n
  there:=fun b u q _=>⟨u,k b u q⟩
  tups:=fun b xs q=>by rw [ay (aT q hn)];exact q
  frzs:=fun b u xs q=>by rw [ay (aT q hn)];exact q
  tbls:=fun b ps q=>by rw [ay (aT q hn)];exact q
theorem Un.write (mu:AG (H x)) (he:e=x∨H e=some (.own x)) (k:∀b u,b≠e→h.get? b=some u→h'.get? b=some u) (heo:∃u,h'.get? e=some u):Un fs ex H (upd H x o) h h':=by
  have hx:∀b,H b=none→b≠x:=fun b n z=>by subst z;rw [n] at mu;exact mu
  have hb:∀b,H b=none→b≠e:=fun b n z=>by
    subst z
    rcases he with r | r
    · exact hx b n r
    · rw [n] at r;cases r
  have hm:∀b u,H b=some u→¬AG (some u)→b≠x:=fun b u q nm z=>by subst z;rw [q] at mu;exact nm mu
  refine ⟨fun b u q n _ _=>k b u (hb b n) q,fun b u q n _ _=>⟨u.slots,k b u (hb b n) q⟩,fun b u q n _=>by rw [ay (hx b n)];exact n,fun b u q _=>?_,
    fun b xs q=>by rw [ay (hm b _ q fun z=>z)];exact q,fun b u xs q=>by rw [ay (hm b _ q fun z=>z)];exact q,fun b ps q=>by rw [ay (hm b _ q fun z=>z)];exact q⟩
  by_cases hbe:b=e
  · subst hbe;exact heo
  · exact ⟨u,k b u hbe q⟩
theorem Un.mono (u:Un fs ex H H1 h h1) (hs:∀b∈fs,b∈fs') (hx:∀b∈ex,b∈ex'):Un fs' ex' H H1 h h1:=
  ⟨fun b ob q n hb he=>u.keep b ob q n (fun z=>hb (hs b z)) fun z=>he (hx b z),fun _ _ q n _ he=>u.any q n fun z=>he (hx _ z),fun b ob q n he=>u.free b ob q n fun z=>he (hx b z),fun b ob q he=>u.there b ob q fun z=>he (hx b z),u.tups,u.frzs,u.tbls⟩
end
def AH (h:Heap) (H:Hp):List Addr:=(List.range h.objs.size).filter fun a=>(H a).isSome
def nP (h:Heap) (H:Hp):Heap:=PySem.W.hideAll h (AH h H)
theorem rm (h:Heap) (H:Hp):(nP h H).objs.size=h.objs.size:=PySem.W.hideAll_size _ _
theorem jR {h:Heap} {H:Hp} {b:Addr} {o:Obj} (e:h.get? b=some o) (n:H b=none):(nP h H).get? b=some o:=
  PySem.W.hideAll_get _ e fun hm=>by
    have q:(H b).isSome=true:=(List.mem_filter.mp hm).2
    rw [n] at q;simp at q
theorem vk {h:Heap} {H:Hp} {b:Addr} {o:Obj} (e:(nP h H).get? b=some o):h.get? b=some o∧H b=none:=by
  have e':h.get? b=some o:=PySem.W.of_hideAll (AH h H) e
  refine ⟨e',?_⟩
  cases q:H b with
  | none=>rfl
  | some x=>
    have hm:b∈AH h H:=List.mem_filter.mpr ⟨List.mem_range.mpr (Heap.lt_size e'),by simp [q]⟩
    have z:(nP h H).get? b=none:=PySem.W.hideAll_none (AH h H) hm
    rw [z] at e;cases e
def vm (g h:Heap) (L:Addr):List (Addr×Obj):=(List.range h.objs.size).filterMap fun a=>if a=L∨(g.get? a).isSome=true then none else (h.get? a).map fun o=>(a,o)
def cz (g h:Heap) (L d:Addr):List (Addr×Obj):=(vm g h L).filter fun p=>decide (p.1≠d)
end L2
namespace L2
open PySem PySem.Spec PyProof.Rows
def sQ (K:PySem.W.Frag) (n:Str):Option Addr:=match PySem.W.nsIn K mainGlobals n with
  | some (some (.ref f))=>match K.lookup f with
    | some ⟨_,_, .func fd,_⟩=>match fd.code with
      | .ref c=>match K.lookup c with
        | some ⟨_,_, .fields vs,_⟩=>match (vs[11]? :Option Value) with
          | some (.ref P)=>some P
          | _=>none
        | _=>none
      | _=>none
    | _=>none
  | _=>none
def wR:List (Str×Str):=[("in_told_order","in_told_order.<locals>.<lambda>"),("_law_moves_refused","_law_moves_refused.<locals>.<lambda>"),("_law_long_refused","_law_long_refused.<locals>.<lambda>"),("_law_sets_refused","_law_sets_refused.<locals>.<lambda>"),("_law_cords_refused","_law_cords_refused.<locals>.<lambda>"),("_law_many_refused","_law_many_refused.<locals>.<lambda>"),("_law_two_refused","_law_two_refused.<locals>.<lambda>"),("_law_at_least_refused","_law_at_least_refused.<locals>.<lambda>")]
def vn (K:PySem.W.Frag) (b:Addr):List (Str×Str)→Option Str
  | []=>none
  | n::r=>if sQ K n.1=some b then some n.2 else vn K b r
def jS (K:PySem.W.Frag) (b:Addr):Option Str:=vn K b wR
structure Mod (K:PySem.W.Frag) (mg:Str→Option Value) (base:Heap):Prop where
  kin:K.In base
  glob:base.Ns mainGlobals mg
  blt:∃mb,base.Ns builtinsNs mb∧∀x:Str,x≠"__name__"→mb x=bootBuiltins x
  nolimit:base.NoLimit
  bmain:∃bm ob,mg "__builtins__"=some (.ref bm)∧bm≠builtinsNs∧base.get? bm=some ob∧ob.cls= .type "module"∧ob.dict=some builtinsNs∧ob.data= .plain
structure Cx where
  prog:Program
  w:World
  K:PySem.W.Frag
  mg:Str→Option Value
  base:Heap
  A:Around
  N:List Str
  s₀:Shared
  H₀:Hp
  env:Env
  outer:List Env
  stack:List Env
  ex:List Addr
  fn:Str→Bool
  calm:Bool
  pn:List (Addr×Obj)
  xe:Value→Shared→Prop
def sN (l:List Env):List Addr:=l.filterMap (·.frame)
abbrev Cx.fs (X:Cx):List Addr:=sN X.outer
def ve (sc:Scope) (x:Str):Prop:=sc.names.lookup x=some .local∨sc.names.lookup x=some .cell∨sc.names.lookup x=some .free
def y2 (sc:Scope) (x:Str):Prop:=sc.names.lookup x=some .local∨sc.names.lookup x=some .cell
def Bo (env:Env) (h:Heap) (m:Str→Option Value) (x:Str) (u:Value):Prop:=
  (env.kindOf x=some .local∧m x=some u)∨((env.kindOf x=some .cell∨env.kindOf x=some .free)∧∃c,env.cells.lookup x=some c∧h.IsCell c (some u))
structure Cx.Ok (X:Cx):Prop where
  mod:Mod X.K X.mg X.base
  kind:X.env.scope.kind= .function
  glob:X.env.globals=mainGlobals
  blt:X.env.builtins=builtinsNs
  above:X.s₀.heap.objs.size≤X.env.locals
  inj:∀x y c,X.env.cells.lookup x=some c→X.env.cells.lookup y=some c→x=y
  has:∀x,(X.env.kindOf x=some .cell∨X.env.kindOf x=some .free)→∃c,X.env.cells.lookup x=some c
  cab:∀x c,X.fn x=true→X.env.cells.lookup x=some c→X.s₀.heap.objs.size≤c
  hd:X.calm=true→X.A.handled=none
  frames:X.A.frames=some X.stack
  stk:X.stack=X.outer∨(X.stack=X.env::X.outer∧X.env.frame=some X.env.locals)
  exf:∀b∈X.ex,b≠X.env.locals∧∀x c,X.env.cells.lookup x=some c→c≠b
  bs:∀b o,X.base.get? b=some o→X.s₀.heap.get? b=some o∧X.H₀ b=none
  bsz:X.base.objs.size≤X.s₀.heap.objs.size
  noex:∀b o,X.base.get? b=some o→b∉X.ex
  exfs:∀b∈X.ex,b∉X.fs
  funs:X.s₀.heap.FunFrames X.base X.outer
  frf:∀b∈X.fs,X.H₀ b=none
  tab:∀b q,jS X.K b=some q→X.H₀ b=some (.tbl q)
structure Inv (X:Cx) (pins:List (Addr×Obj)) (σ:List (Option V)) (H:Hp) (s:Shared):Prop where
  ok:X.Ok
  os:s.os=X.s₀.os
  bare:AllBare s.gens
  base:Un X.fs X.ex X.H₀ H X.s₀.heap s.heap
  loc:∃m,s.heap.Ns X.env.locals m∧∀(i:Nat) (x:Str) (v:V),X.N[i]? =some x→σ[i]? =some (some v)→ve X.env.scope x→∃u,RelV v u∧Bo X.env s.heap m x u
  cell:∀x c,X.env.cells.lookup x=some c→∃v,s.heap.IsCell c v
  free:H X.env.locals=none
  freeC:∀x c,X.env.cells.lookup x=some c→H c=none
  pin:∀p∈X.pn++pins,s.heap.get? p.1=some p.2∧H p.1=none∧p.1≠X.env.locals∧p.1∉X.fs∧∀v,p.2.data≠ .cell v
  hok:HOk X.prog X.w H s.heap
  len:σ.length=X.N.length
section
variable {X:Cx} {pins:List (Addr×Obj)} {σ:List (Option V)} {H H':Hp} {s:Shared} {h':Heap}
theorem Cx.Ok.nofr (ok:X.Ok) {b:Addr} {o:Obj} (e:X.base.get? b=some o):b∉X.fs:=fun hb=>by
  have:=(ok.funs.mem hb).1
  rw [e] at this;cases this
theorem Inv.bs (I:Inv X pins σ H s):∀b o,X.base.get? b=some o→s.heap.get? b=some o∧H b=none:=fun b o e=>
  ⟨I.base.keep b o (I.ok.bs b o e).1 (I.ok.bs b o e).2 (I.ok.nofr e) (I.ok.noex b o e),I.base.free b o (I.ok.bs b o e).1 (I.ok.bs b o e).2 (I.ok.noex b o e)⟩
theorem Inv.bk (I:Inv X pins σ H s):∀b o,X.base.get? b=some o→s.heap.get? b=some o:=fun b o e=>(I.bs b o e).1
theorem Inv.mod (I:Inv X pins σ H s):Mod X.K X.mg X.base:=I.ok.mod
theorem Inv.tab (I:Inv X pins σ H s):∀b q,jS X.K b=some q→H b=some (.tbl q):=fun b q e=>I.base.tbls b q (I.ok.tab b q e)
theorem Inv.kIn (I:Inv X pins σ H s):X.K.In s.heap:=I.ok.mod.kin.keeps I.bk
theorem Inv.nolimit (I:Inv X pins σ H s):s.heap.NoLimit:=I.ok.mod.nolimit.keeps I.bk
theorem Inv.fr (I:Inv X pins σ H s):∃m,Fr X.base X.env.locals s.heap m:=
  let ⟨m,hn,_⟩:=I.loc
  ⟨m,hn,I.bk,Nat.le_trans I.ok.bsz I.ok.above⟩
theorem Inv.lt (I:Inv X pins σ H s):X.env.locals < s.heap.objs.size:=let ⟨_,hn,_⟩:=I.loc;hn.lt
theorem Inv.sz (I:Inv X pins σ H s):X.s₀.heap.objs.size≤s.heap.objs.size:=Nat.le_trans I.ok.above (Nat.le_of_lt I.lt)
theorem Inv.nofs (I:Inv X pins σ H s) {a:Addr} (h:s.heap.objs.size≤a):a∉X.fs:=fun hb=>by
  obtain ⟨_,o,ho,_⟩:=I.ok.funs.mem hb
  exact absurd (Nat.lt_of_lt_of_le (Heap.lt_size ho) (Nat.le_trans I.sz h)) (Nat.lt_irrefl _)
theorem Inv.cne (I:Inv X pins σ H s):∀x c,X.env.cells.lookup x=some c→c≠X.env.locals:=fun x c e z=>by
  obtain ⟨v,o,ho,hd⟩:=I.cell x c e
  obtain ⟨m,⟨o',es,ep,ho',hd',_⟩,_⟩:=I.loc
  rw [z,ho'] at ho;cases ho;rw [hd'] at hd;cases hd
theorem Inv.funs (I:Inv X pins σ H s):s.heap.FunFrames X.base X.outer:=by
  have all:∀(l:List Env),(∀b∈sN l,b∈X.fs)→X.s₀.heap.FunFrames X.base l→s.heap.FunFrames X.base l:=by
    intro l
    induction l with
    | nil=>intro _ _;trivial
    | cons env r ih=>
      intro hs hl
      obtain ⟨hk,⟨L,o,hf,hn,ho,hd⟩,hr⟩:=hl
      have hL:L∈X.fs:=hs L (by unfold sN;rw [List.filterMap_cons,hf];exact List.mem_cons_self)
      obtain ⟨sl,e⟩:=I.base.slot L o ho (I.ok.frf L hL) hL fun z=>I.ok.exfs L z hL
      exact ⟨hk,⟨L,_,hf,hn,e,hd⟩,ih (fun b hb=>hs b (by unfold sN;rw [List.filterMap_cons,hf];exact List.mem_cons_of_mem _ hb)) hr⟩
  exact all X.outer (fun _ hb=>hb) I.ok.funs
theorem Inv.stack (I:Inv X pins σ H s):s.heap.FunFrames X.base X.stack:=by
  rcases I.ok.stk with e | ⟨e,hf⟩
  · rw [e];exact I.funs
  · rw [e]
    obtain ⟨m,hn,_⟩:=I.loc
    refine .cons (by rw [I.ok.kind];decide) hf hn ?_ I.funs
    exact Heap.get?_none_of_le (Nat.le_trans I.ok.bsz I.ok.above)
theorem Inv.stkSub (I:Inv X pins σ H s):∀b∈sN X.stack,b∈X.env.locals::X.fs:=fun b hb=>by
  rcases I.ok.stk with e | ⟨e,hf⟩
  · rw [e] at hb;exact List.mem_cons_of_mem _ hb
  · rw [e] at hb
    unfold sN at hb
    rw [List.filterMap_cons,hf] at hb
    exact hb
theorem Inv.stkFree (I:Inv X pins σ H s):∀b∈sN X.stack,H b=none:=fun b hb=>by
  rcases List.mem_cons.mp (I.stkSub b hb) with e | hb
  · rw [e];exact I.free
  · obtain ⟨_,o,ho,_⟩:=I.ok.funs.mem hb
    exact I.base.free b o ho (I.ok.frf b hb) fun z=>I.ok.exfs b z hb
theorem Inv.step {g':Array GenState} {t':Nat} {d':Drawn} {ch:List Addr} (I:Inv X pins σ H s)
    (hch:∀b∈ch,(b∈X.ex∨X.s₀.heap.objs.size≤b)∧b≠X.env.locals∧(∀x c,X.env.cells.lookup x=some c→c≠b)∧∀p∈X.pn++pins,p.1≠b)
    (keep:∀b o,b≠X.env.locals→b∉X.fs→b∉ch→s.heap.get? b=some o→H b=none→h'.get? b=some o)
    (slot:∀b o,b≠X.env.locals→b∈X.fs→b∉ch→s.heap.get? b=some o→H b=none→∃sl,h'.get? b=some {o with slots:=sl}) (free:∀b o,b∉ch→s.heap.get? b=some o→H b=none→H' b=none)
    (there:∀b o,b∉ch→s.heap.get? b=some o→∃o',h'.get? b=some o')
    (tups:∀b xs,H b=some (.tup xs)→H' b=some (.tup xs)) (frzs:∀b o u,H b=some (.frz o u)→H' b=some (.frz o u)) (tbls:∀b ps,H b=some (.tbl ps)→H' b=some (.tbl ps))
    (ns:∀m,s.heap.Ns X.env.locals m→h'.Ns X.env.locals m) (hok:HOk X.prog X.w H' h') (hg:AllBare g'):
    Inv X pins σ H' {s with heap:=h',gens:=g',drawn:=d',toks:=t'}:=by
  have neL:∀b o,X.s₀.heap.get? b=some o→b≠X.env.locals:=fun b o e=>Nat.ne_of_lt (Nat.lt_of_lt_of_le (Heap.lt_size e) I.ok.above)
  have neC:∀b o,X.s₀.heap.get? b=some o→b∉X.ex→b∉ch:=fun b o e hx hb=>by
    rcases (hch b hb).1 with z | z
    · exact hx z
    · exact absurd (Nat.lt_of_lt_of_le (Heap.lt_size e) z) (Nat.lt_irrefl _)
  have cellK:∀x c,X.env.cells.lookup x=some c→∀v,s.heap.IsCell c v→h'.IsCell c v:=fun x c e v ⟨o,ho,hd⟩=>by
    have nch:c∉ch:=fun z=>(hch c z).2.2.1 x c e rfl
    by_cases hc:c∈X.fs
    · obtain ⟨sl,q⟩:=slot c o (I.cne x c e) hc nch ho (I.freeC x c e)
      exact ⟨_,q,hd⟩
    · exact ⟨o,keep c o (I.cne x c e) hc nch ho (I.freeC x c e),hd⟩
  refine ⟨I.ok,I.os,hg,⟨fun b o e n hb hx=>?_,fun b o e n hb hx=>?_,fun b o e n hx=>?_,fun b o e hx=>?_,fun b xs e=>tups b xs (I.base.tups b xs e),fun b o xs e=>frzs b o xs (I.base.frzs b o xs e),fun b ps e=>?_⟩,?_,fun x c e=>?_,?_,fun x c e=>?_,fun p hp=>?_,hok,I.len⟩
  · exact keep b o (neL b o e) hb (neC b o e hx) (I.base.keep b o e n hb hx) (I.base.free b o e n hx)
  · obtain ⟨sl,e1⟩:=I.base.slot b o e n hb hx
    obtain ⟨sl',e2⟩:=slot b _ (neL b o e) hb (neC b o e hx) e1 (I.base.free b o e n hx)
    exact ⟨sl',e2⟩
  · obtain ⟨o',e1⟩:=I.base.there b o e hx
    exact free b o' (neC b o e hx) e1 (I.base.free b o e n hx)
  · obtain ⟨o',e1⟩:=I.base.there b o e hx
    exact there b o' (neC b o e hx) e1
  · exact tbls b _ (I.base.tbls b ps e)
  · obtain ⟨m,hn,hl⟩:=I.loc
    refine ⟨m,ns m hn,fun i x v e1 e2 e3=>?_⟩
    obtain ⟨u,r,l⟩:=hl i x v e1 e2 e3
    refine ⟨u,r,?_⟩
    rcases l with l | ⟨k,c,e,z⟩
    · exact .inl l
    · exact .inr ⟨k,c,e,cellK x c e _ z⟩
  · obtain ⟨v,z⟩:=I.cell x c e
    exact ⟨v,cellK x c e v z⟩
  · obtain ⟨m,⟨o,_,_,ho,_⟩,_⟩:=I.loc
    exact free _ o (fun z=>(hch _ z).2.1 rfl) ho I.free
  · obtain ⟨v,o,ho,hd⟩:=I.cell x c e
    exact free c o (fun z=>(hch c z).2.2.1 x c e rfl) ho (I.freeC x c e)
  · obtain ⟨e,n,ne,nf,d⟩:=I.pin p hp
    have nch:p.1∉ch:=fun z=>(hch p.1 z).2.2.2 p hp rfl
    exact ⟨keep p.1 p.2 ne nf nch e n,free p.1 p.2 nch e n,ne,nf,d⟩
theorem Inv.un {t':Nat} (I:Inv X pins σ H s) (u:Un X.fs [] H H' s.heap h') (hok:HOk X.prog X.w H' h'):Inv X pins σ H' {s with heap:=h',toks:=t'}:=by
  obtain ⟨m,⟨o,es,ep,ho,r⟩,_⟩:=id I.loc
  obtain ⟨sl,hL⟩:=u.any ho I.free (by simp)
  exact I.step (g':=s.gens) (d':=s.drawn) (ch:=[]) (fun _ z=>nomatch z) (fun b o _ hb _ e n=>u.keep b o e n hb (by simp)) (fun b o _ hb _ e n=>u.slot b o e n hb (by simp)) (fun b o _ e n=>u.free b o e n (by simp)) (fun b o _ e=>u.there b o e (by simp)) u.tups u.frzs u.tbls (fun m' hm=>by
    obtain ⟨o',es',ep',ho',r'⟩:=hm
    rw [ho] at ho';cases ho'
    exact ⟨_,es',ep',hL,r'⟩) hok I.bare
theorem Inv.call {g':Array GenState} {t':Nat} {d':Drawn} {ch:List Addr} (I:Inv X pins σ H s) (u:Un (sN X.stack) ch H H' s.heap h') (hok:HOk X.prog X.w H' h') (hg:AllBare g')
    (hch:∀b∈ch,(b∈X.ex∨X.s₀.heap.objs.size≤b)∧b≠X.env.locals∧(∀x c,X.env.cells.lookup x=some c→c≠b)∧∀p∈X.pn++pins,p.1≠b):
    Inv X pins σ H' {s with heap:=h',gens:=g',drawn:=d',toks:=t'}:=by
  obtain ⟨m,⟨o,es,ep,ho,r⟩,_⟩:=id I.loc
  obtain ⟨sl,hL⟩:=u.any ho I.free fun z=>(hch _ z).2.1 rfl
  exact I.step (ch:=ch) hch (fun b o hL hb hc e n=>u.keep b o e n (fun z=>(List.mem_cons.mp (I.stkSub b z)).elim hL hb) hc) (fun b o _ _ hc e n=>u.any e n hc) (fun b o hc e n=>u.free b o e n hc) (fun b o hc e=>u.there b o e hc) u.tups u.frzs u.tbls (fun m' hm=>by
    obtain ⟨o',es',ep',ho',r'⟩:=hm
    rw [ho] at ho';cases ho'
    exact ⟨_,es',ep',hL,r'⟩) hok hg
theorem Inv.turned {t':Nat} {it:Addr} (I:Inv X pins σ H s) (k:∀b o,b≠it→s.heap.get? b=some o→h'.get? b=some o) (hn:H it=none) (hL:it≠X.env.locals)
    (h1:it∈X.ex∨X.s₀.heap.objs.size≤it) (h2:∀x c,X.env.cells.lookup x=some c→c≠it) (h3:∀p∈X.pn++pins,p.1≠it):Inv X pins σ H {s with heap:=h',toks:=t'}:=by
  have nit:∀b u,H b=some u→b≠it:=fun b u e z=>by rw [z,hn] at e;cases e
  refine I.step (g':=s.gens) (d':=s.drawn) (ch:=[it]) (fun b hb=>?_) (fun b o _ _ hc e _=>k b o (fun z=>hc (by simp [z])) e) (fun b o _ _ hc e _=>⟨o.slots,k b o (fun z=>hc (by simp [z])) e⟩) (fun _ _ _ _ n=>n)
    (fun b o hc e=>⟨o,k b o (fun z=>hc (by simp [z])) e⟩) (fun _ _ e=>e) (fun _ _ _ e=>e) (fun _ _ e=>e) (fun m hm=>?_) (fun b u e=>?_) I.bare
  · have e:b=it:=by simpa using hb
    subst e
    exact ⟨h1,hL,h2,h3⟩
  · obtain ⟨o,es,ep,ho,r⟩:=hm
    exact ⟨o,es,ep,k _ o (Ne.symm hL) ho,r⟩
  · refine (I.hok b u e).stay (fun c v hc q=>k c v ?_ q) (fun _ q=>q) fun _ _ q=>q
    rcases hc with z | z
    · rw [z];exact nit b u e
    · exact nit c _ z
theorem Inv.tok (I:Inv X pins σ H s) (t:Nat):Inv X pins σ H {s with toks:=t}:=I.un (h':=s.heap) (t':=t) Un.refl I.hok
theorem Inv.kept {t':Nat} (I:Inv X pins σ H s) (k:∀b u,s.heap.get? b=some u→h'.get? b=some u):Inv X pins σ H {s with heap:=h',toks:=t'}:=I.un (Un.kept k) (I.hok.kept k)
theorem Inv.laid {a:Addr} {o:HO} {t':Nat} (I:Inv X pins σ H s) (k:∀b u,s.heap.get? b=some u→h'.get? b=some u) (hp:s.heap.objs.size≤a) (new:ObjOk X.prog X.w (upd H a o) h' a o):
    Inv X pins σ (upd H a o) {s with heap:=h',toks:=t'}:=I.un (Un.laid k hp (I.hok.fresh hp)) (I.hok.laid k hp new)
theorem Inv.write {x e:Addr} {o:HO} {t':Nat} (I:Inv X pins σ H s) (mu:AG (H x)) (he:e=x∨H e=some (.own x)) (k:∀b u,b≠e→s.heap.get? b=some u→h'.get? b=some u) (heo:∃u,h'.get? e=some u)
    (new:ObjOk X.prog X.w (upd H x o) h' x o):Inv X pins σ (upd H x o) {s with heap:=h',toks:=t'}:=I.un (Un.write mu he k heo) (I.hok.write mu he k heo new)
theorem Inv.pins_of {pins':List (Addr×Obj)} (I:Inv X pins σ H s) (h:∀p∈pins',s.heap.get? p.1=some p.2∧H p.1=none∧p.1≠X.env.locals∧p.1∉X.fs∧∀v,p.2.data≠ .cell v):Inv X pins' σ H s:=
  ⟨I.ok,I.os,I.bare,I.base,I.loc,I.cell,I.free,I.freeC,fun p hp=>(List.mem_append.mp hp).elim (fun z=>I.pin p (List.mem_append_left _ z)) (h p),I.hok,I.len⟩
theorem nQ {N:List Str} (hN:N.Nodup) {i j:Nat} {x:Str} (a:N[i]? =some x) (b:N[j]? =some x):i=j:=by
  obtain ⟨h1,e1⟩:=List.getElem?_eq_some_iff.mp a
  obtain ⟨h2,e2⟩:=List.getElem?_eq_some_iff.mp b
  exact (List.getElem_inj hN).mp (e1.trans e2.symm)
theorem rq {M:Model} {A:Around} {E:Value→Shared→Prop} {i:Nat} {x:Str} {v:V} {u:Value} {Q:Unit→Shared→Prop} (I:Inv X pins σ H s) (hN:X.N.Nodup) (hi:X.N[i]? =some x) (hx:y2 X.env.scope x) (r:RelV v u)
    (h:∀s',Inv X pins (σ.set i (some v)) H s'→(∃a,Heap.SameBut a s.heap s'.heap∧(a=X.env.locals∨X.env.cells.lookup x=some a))→Q () s') (hf:X.fn x=true∨X.env.scope.names.lookup x=some .local:=by first | exact .inl rfl | exact .inr rfl | assumption):wpAny M A (storeName X.env x u) Q E s:=by
  obtain ⟨m,hn,hl⟩:=id I.loc
  have hcls:(X.env.scope.kind == .class||(X.env.scope.kind == .module&&X.env.locals != X.env.globals))=false:=by rw [I.ok.kind];rfl
  have hiσ:i < σ.length:=by rw [I.len];exact (List.getElem?_eq_some_iff.mp hi).1
  have cne:=I.cne
  have tracked:∀{a:Addr} {h':Heap},(∃o,s.heap.get? a=some o∧H a=none)→Heap.SameBut a s.heap h'→HOk X.prog X.w H h':=fun {a h'} ha hs b ob e=>by
    obtain ⟨_,_,hfree⟩:=ha
    refine (I.hok b ob e).stay (fun c w' hc q=>(hs.2 c ?_).trans q) (fun _ q=>q) fun _ _ q=>q
    rintro rfl
    rcases hc with rfl | hc
    · rw [hfree] at e;cases e
    · rw [hfree] at hc;cases hc
  rcases hx with hk | hk
  · refine wpAny_storeName_local hk hn (fun h' hn' hs=>?_) hcls
    obtain ⟨oL,_,_,hoL,_⟩:=id hn
    refine h _ ⟨I.ok,I.os,I.bare,⟨fun b o e n hb hx=>?_,fun b o e n hb hx=>?_,I.base.free,fun b o e hx=>?_,I.base.tups,I.base.frzs,I.base.tbls⟩,⟨_,hn',fun j y v' e1 e2 e3=>?_⟩,fun y c e=>?_,I.free,I.freeC,fun p hp=>?_,tracked ⟨oL,hoL,I.free⟩ hs,by simpa using I.len⟩ ⟨_,hs, .inl rfl⟩
    · exact (hs.2 b (Nat.ne_of_lt (Nat.lt_of_lt_of_le (Heap.lt_size e) I.ok.above))).trans (I.base.keep b o e n hb hx)
    · obtain ⟨sl,e1⟩:=I.base.slot b o e n hb hx
      exact ⟨sl,(hs.2 b (Nat.ne_of_lt (Nat.lt_of_lt_of_le (Heap.lt_size e) I.ok.above))).trans e1⟩
    · obtain ⟨o',e1⟩:=I.base.there b o e hx
      exact ⟨o',(hs.2 b (Nat.ne_of_lt (Nat.lt_of_lt_of_le (Heap.lt_size e) I.ok.above))).trans e1⟩
    · by_cases hj:j=i
      · subst hj
        rw [hi] at e1;cases e1
        rw [List.getElem?_set_self hiσ] at e2
        cases e2
        exact ⟨u,r, .inl ⟨hk,by simp⟩⟩
      · rw [List.getElem?_set_ne (Ne.symm hj)] at e2
        obtain ⟨u',r',q⟩:=hl j y v' e1 e2 e3
        refine ⟨u',r',?_⟩
        rcases q with ⟨k,e⟩ | ⟨k,c,e,z⟩
        · refine .inl ⟨k,?_⟩
          have:y≠x:=fun e=>hj (nQ hN e1 (e▸hi))
          simp [this,e]
        · exact .inr ⟨k,c,e,z.sameBut hs (cne y c e)⟩
    · obtain ⟨w',z⟩:=I.cell y c e
      exact ⟨w',z.sameBut hs (cne y c e)⟩
    · obtain ⟨e,n,ne,nf,d⟩:=I.pin p hp
      exact ⟨(hs.2 p.1 ne).trans e,n,ne,nf,d⟩
  · have hfn:X.fn x=true:=by
      rcases hf with z | z
      · exact z
      · rw [z] at hk;cases hk
    obtain ⟨c,hc⟩:=I.ok.has x (.inl hk)
    obtain ⟨w',z⟩:=I.cell x c hc
    refine wpAny_storeName_cell I.ok.kind hk hc z (fun h' hc' hs=>?_)
    obtain ⟨oc,hoc,hocd⟩:=id z
    refine h {s with heap:=h'} ⟨I.ok,I.os,I.bare,⟨fun b o e n hb hx=>?_,fun b o e n hb hx=>?_,I.base.free,fun b o e hx=>?_,I.base.tups,I.base.frzs,I.base.tbls⟩,⟨m,hn.sameBut hs (Ne.symm (cne x c hc)),fun j y v' e1 e2 e3=>?_⟩,fun y c' e=>?_,I.free,I.freeC,fun p hp=>?_,tracked ⟨oc,hoc,I.freeC x c hc⟩ hs,by simpa using I.len⟩ ⟨c,hs, .inr hc⟩
    · exact (hs.2 b (Nat.ne_of_lt (Nat.lt_of_lt_of_le (Heap.lt_size e) (I.ok.cab x c hfn hc)))).trans (I.base.keep b o e n hb hx)
    · obtain ⟨sl,e1⟩:=I.base.slot b o e n hb hx
      exact ⟨sl,(hs.2 b (Nat.ne_of_lt (Nat.lt_of_lt_of_le (Heap.lt_size e) (I.ok.cab x c hfn hc)))).trans e1⟩
    · obtain ⟨o',e1⟩:=I.base.there b o e hx
      exact ⟨o',(hs.2 b (Nat.ne_of_lt (Nat.lt_of_lt_of_le (Heap.lt_size e) (I.ok.cab x c hfn hc)))).trans e1⟩
    · by_cases hj:j=i
      · subst hj
        rw [hi] at e1;cases e1
        rw [List.getElem?_set_self hiσ] at e2
        cases e2
        exact ⟨u,r, .inr ⟨.inl hk,c,hc,hc'⟩⟩
      · rw [List.getElem?_set_ne (Ne.symm hj)] at e2
        obtain ⟨u',r',q⟩:=hl j y v' e1 e2 e3
        refine ⟨u',r',?_⟩
        rcases q with q | ⟨k,c',e,z'⟩
        · exact .inl q
        · refine .inr ⟨k,c',e,z'.sameBut hs ?_⟩
          rintro rfl
          exact hj (nQ hN e1 (I.ok.inj _ _ _ e hc▸hi))
    · by_cases hcc:c'=c
      · subst hcc;exact ⟨_,hc'⟩
      · obtain ⟨w2,z2⟩:=I.cell y c' e
        exact ⟨w2,z2.sameBut hs hcc⟩
    · obtain ⟨e,n,ne,nf,d⟩:=I.pin p hp
      refine ⟨(hs.2 p.1 ?_).trans e,n,ne,nf,d⟩
      intro q
      rw [q,hoc] at e
      have q':oc=p.2:=Option.some.inj e
      exact d w' (by rw [←q'];exact hocd)
theorem gY {M:Model} {A:Around} {E:Value→Shared→Prop} {i:Nat} {x:Str} {v:V} {u:Value} {Q:Unit→Shared→Prop} (I:Inv X pins σ H s) (hN:X.N.Nodup) (hi:X.N[i]? =some x) (hx:y2 X.env.scope x) (r:RelV v u)
    (h:∀s',Inv X pins (σ.set i (some v)) H s'→Q () s') (hf:X.fn x=true∨X.env.scope.names.lookup x=some .local:=by first | exact .inl rfl | exact .inr rfl | assumption):wpAny M A (storeName X.env x u) Q E s:=
  rq I hN hi hx r (fun s' I' _=>h s' I') hf
theorem Inv.call' {s':Shared} {ch:List Addr} (I:Inv X pins σ H s) (ho:s'.os=s.os) (u:Un (sN X.stack) ch H H' s.heap s'.heap) (hok:HOk X.prog X.w H' s'.heap) (hg:AllBare s'.gens)
    (hch:∀b∈ch,(b∈X.ex∨X.s₀.heap.objs.size≤b)∧b≠X.env.locals∧(∀x c,X.env.cells.lookup x=some c→c≠b)∧∀p∈X.pn++pins,p.1≠b):Inv X pins σ H' s':=by
  obtain ⟨h',g',d',t',o'⟩:=s'
  have e:o'=s.os:=ho
  subst e
  exact I.call (g':=g') (t':=t') (d':=d') u hok hg hch
end
abbrev XK:=Value→Option Addr→Hp→Prop
abbrev St:=List (Option V)
abbrev VK:=V→Hp→Prop
abbrev TE:=St→Hp→VK→Prop
abbrev TT:=St→Hp→(Bool→Hp→Prop)→Prop
abbrev TA:=St→Hp→(List V→Hp→Prop)→Prop
structure Ends where
  nx:St→Hp→Prop
  rt:VK
  bk:St→Hp→Prop:=fun _ _=>False
  ct:St→Hp→Prop:=fun _ _=>False
abbrev TS:=Ends→St→Hp→Prop
def EP (X:Cx) (pins:List (Addr×Obj)) (σ:St) (Q:VK) (u:Value) (s':Shared):Prop:=∃v H',Inv X pins σ H' s'∧RelV v u∧Q v H'
def TP (X:Cx) (pins:List (Addr×Obj)) (σ:St) (Q:Bool→Hp→Prop) (b:Bool) (s':Shared):Prop:=∃H',Inv X pins σ H' s'∧Q b H'
def AP (X:Cx) (pins:List (Addr×Obj)) (σ:St) (Q:List V→Hp→Prop) (us:List Value) (s':Shared):Prop:=∃vs H',Inv X pins σ H' s'∧Vals vs us∧Q vs H'
def SP (X:Cx) (pins:List (Addr×Obj)) (D:Ends) (f:Flow) (s':Shared):Prop:=
  match f with
  | .next=>∃σ' H',Inv X pins σ' H' s'∧D.nx σ' H'
  | .brk=>∃σ' H',Inv X pins σ' H' s'∧D.bk σ' H'
  | .cont=>∃σ' H',Inv X pins σ' H' s'∧D.ct σ' H'
  | .ret u=>∃v σ' H',Inv X pins σ' H' s'∧RelV v u∧D.rt v H'
def PE (X:Cx) (e:Expr) (t:TE):Prop:=
  ∀(pins:List (Addr×Obj)) (s:Shared) (σ:St) (H:Hp) (Q:VK),Inv X pins σ H s→t σ H Q→wpAny (model X.prog X.w) X.A (eval e X.env) (EP X pins σ Q) X.xe s
def PT (X:Cx) (e:Expr) (t:TT):Prop:=
  ∀(pins:List (Addr×Obj)) (s:Shared) (σ:St) (H:Hp) (Q:Bool→Hp→Prop),Inv X pins σ H s→t σ H Q→wpAny (model X.prog X.w) X.A (isTrue e X.env (eval e X.env)) (TP X pins σ Q) X.xe s
def PW (X:Cx) (e:Expr) (t:TT):Prop:=
  ∀(whole:Sem Value) (pins:List (Addr×Obj)) (s:Shared) (σ:St) (H:Hp) (Q:Bool→Hp→Prop),Inv X pins σ H s→t σ H Q→wpAny (model X.prog X.w) X.A (isTrue e X.env whole) (TP X pins σ Q) X.xe s
theorem PW.pt {X:Cx} {e:Expr} {t:TT} (h:PW X e t):PT X e t:=h _
def PA (X:Cx) (es:List Expr) (t:TA):Prop:=
  ∀(pos:Pos) (pins:List (Addr×Obj)) (s:Shared) (σ:St) (H:Hp) (Q:List V→Hp→Prop),Inv X pins σ H s→t σ H Q→wpAny (model X.prog X.w) X.A (spliced (backTo pos (starEach es X.env))) (AP X pins σ Q) X.xe s
def PS (X:Cx) (st:Stmt) (t:TS):Prop:=
  ∀(pins:List (Addr×Obj)) (s:Shared) (σ:St) (H:Hp) (D:Ends),Inv X pins σ H s→t D σ H→wpAny (model X.prog X.w) X.A (exec st X.env) (SP X pins D) X.xe s
def PSs (X:Cx) (st:List Stmt) (t:TS):Prop:=
  ∀(pins:List (Addr×Obj)) (s:Shared) (σ:St) (H:Hp) (D:Ends),Inv X pins σ H s→t D σ H→wpAny (model X.prog X.w) X.A (execs st X.env) (SP X pins D) X.xe s
theorem cO {α:Type} {t:Sem α} {Q Q':α→Shared→Prop} {M:Model} {A:Around} {E:Value→Shared→Prop} {s:Shared} (h:wpAny M A t Q E s) (hQ:∀a s,Q a s→Q' a s):wpAny M A t Q' E s:=wpAny_mono h hQ fun _ _ x=>x
end L2
namespace L2
open PySem PySem.Spec PyProof.Rows
section
variable {X:Cx}
def dF (i:Nat):TE:=fun σ H Q=>∃v,σ[i]? =some (some v)∧Q v H
def tC (v:V):TE:=fun _ H Q=>Q v H
theorem gZ {i:Nat} {x:Str} {pos:Pos} (hN:X.N[i]? =some x) (hv:ve X.env.scope x) (hd:(x == ("__debug__":Str))=false:=by decide) (hcd:(x == ("__classdict__":Str))=false:=by decide):PE X (.Name x pos) (dF i):=by
  intro pins s σ H Q I h
  obtain ⟨v,e,h⟩:=h
  obtain ⟨m,hn,hl⟩:=I.loc
  obtain ⟨u,r,l⟩:=hl i x v hN e hv
  have fin:EP X pins σ Q u s:=⟨v,H,I,r,h⟩
  rcases l with ⟨hk,hm⟩ | ⟨hk,c,hc,hcell⟩
  · exact wpAny_Name (wpAny_loadName_local I.ok.kind hk hn hm fin) hd
  · rcases hk with hk | hk
    · exact wpAny_Name (wpAny_loadName_cell I.ok.kind hk hc hcell fin) hd
    · exact wpAny_Name (wpAny_loadName_free I.ok.kind hk hc hcell fin hcd) hd
theorem g8 {i j pos}:PE X (.Constant (.int i) j pos) (tC (.int i)):=fun _ _ _ H _ I h=>wpAny_Constant_int ⟨.int i,H,I.tok _,⟨_,rfl⟩,h⟩
theorem zm {b j pos}:PE X (.Constant (.bool b) j pos) (tC (.bl b)):=fun _ _ _ H _ I h=>Constant_bool ⟨.bl b,H,I,rfl,h⟩
theorem sR {x j pos}:PE X (.Constant (.str x) j pos) (tC (.str x)):=fun _ _ _ H _ I h=>Calls.Constant_str ⟨.str x,H,I.tok _,⟨_,rfl⟩,h⟩
def Gl (X:Cx) (x:Str):Prop:=X.env.kindOf x=some .globalImplicit
theorem jL {E:Value→Shared→Prop} {pins:List (Addr×Obj)} {s:Shared} {σ:St} {H:Hp} {x:Str} {u:Value} {pos:Pos} {Q:Value→Shared→Prop} (I:Inv X pins σ H s) (hg:Gl X x) (hm:X.mg x=some u) (h:Q u s)
    (hd:(x == ("__debug__":Str))=false:=by decide):wpAny (model X.prog X.w) X.A (eval (.Name x pos) X.env) Q E s:=
  Calls.Name_function_global I.ok.kind hg (Calls.loadGlobal_global (by rw [I.ok.glob];exact I.mod.glob.keeps I.bk) hm h) hd
theorem i_ {E:Value→Shared→Prop} {pins:List (Addr×Obj)} {s:Shared} {σ:St} {H:Hp} {x:Str} {u:Value} {pos:Pos} {Q:Value→Shared→Prop} (I:Inv X pins σ H s) (hg:Gl X x) (hm:X.mg x=none) (hv:bootBuiltins x=some u) (h:Q u s)
    (hn:x≠"__name__":=by decide) (hd:(x == ("__debug__":Str))=false:=by decide):wpAny (model X.prog X.w) X.A (eval (.Name x pos) X.env) Q E s:=by
  obtain ⟨mb,h1,h2⟩:=I.mod.blt
  exact Calls.Name_function_global I.ok.kind hg (Calls.loadGlobal_builtin (by rw [I.ok.glob];exact I.mod.glob.keeps I.bk) hm (by rw [I.ok.blt];exact h1.keeps I.bk) ((h2 x hn).trans hv) h) hd
theorem vo {x:Str} {v:V} {u:Value} {pos:Pos} (hg:Gl X x) (hm:X.mg x=some u) (r:RelV v u) (hd:(x == ("__debug__":Str))=false:=by decide):PE X (.Name x pos) (tC v):=
  fun _ _ _ H _ I h=>jL I hg hm ⟨v,H,I,r,h⟩ hd
theorem vp {x:Str} {v:V} {u:Value} {pos:Pos} (hg:Gl X x) (hm:X.mg x=none) (hv:bootBuiltins x=some u) (r:RelV v u) (hn:x≠"__name__":=by decide) (hd:(x == ("__debug__":Str))=false:=by decide):PE X (.Name x pos) (tC v):=
  fun _ _ _ H _ I h=>i_ I hg hm hv ⟨v,H,I,r,h⟩ hn hd
variable {a b:Expr} {ta tb:TE} {pos:Pos}
variable {tA tB':TT} {cz:List Expr}
def Bp (t u:TT):TT:=fun σ H Q=>t σ H fun c H1=>if c=true then u σ H1 Q else Q false H1
def Cu (t u:TT):TT:=fun σ H Q=>t σ H fun c H1=>if c=true then Q true H1 else u σ H1 Q
def Bq (t:TT):TT:=fun σ H Q=>t σ H fun c H1=>Q (!c) H1
theorem vq (ha:PT X a tA):PW X (.BoolOp .And [a] pos) tA:=by
  intro wh pins s σ H Q I h
  refine isTrue_and (cO (ha pins s σ H Q I h) fun c s1 e=>?_)
  cases c with
  | true=>exact isTrue_and_nil e
  | false=>exact e
theorem xG (ha:PT X a tA):PW X (.BoolOp .Or [a] pos) tA:=by
  intro wh pins s σ H Q I h
  refine isTrue_or (cO (ha pins s σ H Q I h) fun c s1 e=>?_)
  cases c with
  | false=>exact isTrue_or_nil e
  | true=>exact e
theorem xH (ha:PT X a tA) (hb:PW X (.BoolOp .And (b::cz) pos) tB'):PW X (.BoolOp .And (a::b::cz) pos) (Bp tA tB'):=by
  intro wh pins s σ H Q I h
  refine isTrue_and (cO (ha pins s σ H _ I h) fun c s1 ⟨H1,I1,q1⟩=>?_)
  cases c with
  | true=>exact hb wh pins s1 σ H1 Q I1 q1
  | false=>exact ⟨H1,I1,q1⟩
theorem zn (ha:PT X a tA) (hb:PW X (.BoolOp .Or (b::cz) pos) tB'):PW X (.BoolOp .Or (a::b::cz) pos) (Cu tA tB'):=by
  intro wh pins s σ H Q I h
  refine isTrue_or (cO (ha pins s σ H _ I h) fun c s1 ⟨H1,I1,q1⟩=>?_)
  cases c with
  | true=>exact ⟨H1,I1,q1⟩
  | false=>exact hb wh pins s1 σ H1 Q I1 q1
theorem xI (ha:PT X a tA):PT X (.UnaryOp .Not a pos) (Bq tA):=by
  intro pins s σ H Q I h
  exact isTrue_not (ha pins s σ H (fun c H1=>Q (!c) H1) I h)
def zo (ta tb:TE):TE:=fun σ H Q=>ta σ H fun x H1=>∃c,x= .bl c∧if c=true then tb σ H1 Q else Q (.bl false) H1
theorem xJ {op} {t:TE} (h:PE X a t):PE X (.BoolOp op [a] pos) t:=fun pins s σ H Q I hw=>BoolOp_one (h pins s σ H Q I hw)
theorem xK (ha:PE X a ta) (hb:PE X (.BoolOp .And (b::cz) pos) tb):PE X (.BoolOp .And (a::b::cz) pos) (zo ta tb):=by
  intro pins s σ H Q I h
  refine BoolOp_and (cO (ha pins s σ H _ I h) fun v s1 ⟨x,H1,I1,r1,q1⟩=>?_)
  obtain ⟨c,rfl,q1⟩:=q1
  cases r1
  refine wpAny_truthy_bool ?_
  cases c with
  | true=>exact hb pins s1 σ H1 Q I1 q1
  | false=>exact ⟨.bl false,H1,I1,rfl,q1⟩
def Cv (t:TT) (ta tb:TE):TE:=fun σ H Q=>t σ H fun c H1=>if c=true then ta σ H1 Q else tb σ H1 Q
theorem sS {c:Expr} (hc:PT X c tA) (ha:PE X a ta) (hb:PE X b tb):PE X (.IfExp c a b pos) (Cv tA ta tb):=by
  intro pins s σ H Q I h
  refine wpAny_IfExp (cO (hc pins s σ H _ I h) fun d s1 ⟨H1,I1,q1⟩=>?_)
  cases d with
  | true=>exact ha pins s1 σ H1 Q I1 q1
  | false=>exact hb pins s1 σ H1 Q I1 q1
end
end L2
namespace L2
open PySem PySem.Spec PyProof.Rows
def SqL (K:PySem.W.Frag) (H:Hp) (a:Addr) (xs:List V):Prop:=
  Rd H a (.lst xs)∨
    ∃(o:Obj) (its:Array Value) (n:Nat),K.lookup a=some o∧o.cls= .type "list"∧o.dict=none∧o.data= .seq its n∧its.size≤sizeLine∧Vals xs its.toList
def SqT (K:PySem.W.Frag) (H:Hp) (a:Addr) (xs:List V):Prop:=
  Rd H a (.tup xs)∨
    ∃(o:Obj) (its:Array Value) (n:Nat),K.lookup a=some o∧o.cls= .type "tuple"∧o.data= .seq its n∧its.size≤sizeLine∧Vals xs its.toList
def Br:Value→Option V
  | .none=>some .non
  | .bool b=>some (.bl b)
  | .int i _=>some (.int i)
  | .str x _=>some (.str x)
  | .bytes b _=>some (.byt b)
  | .float b _=>some (.flt b)
  | .ref a=>some (.ref a)
  | .type n=>some (.ty n)
  | _=>none
theorem RelV.abs {x:V} {u:Value} (r:RelV x u):Br u=some x:=by
  cases x with
  | non=>cases r;rfl
  | bl _=>cases r;rfl
  | int _=>obtain ⟨t,rfl⟩:=r;rfl
  | str _=>obtain ⟨t,rfl⟩:=r;rfl
  | byt _=>obtain ⟨t,rfl⟩:=r;rfl
  | flt _=>obtain ⟨t,rfl⟩:=r;rfl
  | ref _=>cases r;rfl
  | ty _=>cases r;rfl
theorem RelV.inj {x y:V} {u:Value} (r:RelV x u) (q:RelV y u):x=y:=Option.some.inj (r.abs.symm.trans q.abs)
theorem Vals.inj {xs ys:List V} {us:List Value} (h:Vals xs us) (k:Vals ys us):xs=ys:=by
  induction h generalizing ys with
  | nil=>cases k;rfl
  | cons r _ ih=>cases k with | cons r' t'=>rw [r.inj r',ih t']
section
variable {X:Cx} {pins:List (Addr×Obj)} {σ:St} {H:Hp} {s:Shared} {a:Addr} {xs ys:List V}
theorem SqL.of {K:PySem.W.Frag} (h:H a=some (.lst xs)):SqL K H a xs:= .inl (.inl h)
theorem SqT.of {K:PySem.W.Frag} (h:H a=some (.tup xs)):SqT K H a xs:= .inl (.inl h)
theorem Inv.list (I:Inv X pins σ H s) (h:SqL X.K H a xs):∃its:List Value,Vals xs its∧PlainL s.heap a its.toArray∧xs.length≤sizeLine:=by
  rcases h with h | ⟨o,its,n,hk,hc,hd,hs,hz,r⟩
  · obtain ⟨z,its,n,r,e⟩:=h.ok I.hok
    exact ⟨its,r,⟨_,n,e,rfl,rfl,rfl⟩,z⟩
  · refine ⟨its.toList,r,⟨o,n,I.kIn a o hk,hc,hd,by simpa using hs⟩,?_⟩
    have e:=r.length
    simp only [Array.length_toList] at e
    omega
theorem Inv.tuple (I:Inv X pins σ H s) (h:SqT X.K H a xs):∃its:List Value,Vals xs its∧IsTup s.heap a its.toArray∧xs.length≤sizeLine:=by
  rcases h with h | ⟨o,its,n,hk,hc,hs,hz,r⟩
  · obtain ⟨z,its,r,p⟩:=h.ok I.hok
    exact ⟨its,r,p,z⟩
  · refine ⟨its.toList,r,⟨o,I.kIn a o hk,hc,n,by simpa using hs⟩,?_⟩
    have e:=r.length
    simp only [Array.length_toList] at e
    omega
theorem Inv.list_inj (I:Inv X pins σ H s) (h:SqL X.K H a xs) (h':SqL X.K H a ys):xs=ys:=by
  obtain ⟨its,r,⟨o,n,e,_,_,d⟩,_⟩:=I.list h
  obtain ⟨its',r',⟨o',n',e',_,_,d'⟩,_⟩:=I.list h'
  rw [e] at e';cases e'
  rw [d] at d'
  injection d' with d1 _
  have:its=its':=by simpa using congrArg Array.toList d1
  subst this
  exact r.inj r'
theorem Inv.tuple_inj (I:Inv X pins σ H s) (h:SqT X.K H a xs) (h':SqT X.K H a ys):xs=ys:=by
  obtain ⟨its,r,⟨o,e,_,n,d⟩,_⟩:=I.tuple h
  obtain ⟨its',r',⟨o',e',_,n',d'⟩,_⟩:=I.tuple h'
  rw [e] at e';cases e'
  rw [d] at d'
  injection d' with d1 _
  have:its=its':=by simpa using congrArg Array.toList d1
  subst this
  exact r.inj r'
end
abbrev Cx.wish (X:Cx) (E:Value→Shared→Prop):Cx:={X with xe:=E}
abbrev Cx.nox (X:Cx):Cx:=X.wish fun _ _=>False
theorem Cx.Ok.wish {X:Cx} (ok:X.Ok) (E:Value→Shared→Prop):(X.wish E).Ok:=
  ⟨ok.mod,ok.kind,ok.glob,ok.blt,ok.above,ok.inj,ok.has,ok.cab,ok.hd,ok.frames,ok.stk,ok.exf,ok.bs,ok.bsz,ok.noex,ok.exfs,ok.funs,ok.frf,ok.tab⟩
theorem Cx.Ok.unwish {X:Cx} {E:Value→Shared→Prop} (ok:(X.wish E).Ok):X.Ok:=
  ⟨ok.mod,ok.kind,ok.glob,ok.blt,ok.above,ok.inj,ok.has,ok.cab,ok.hd,ok.frames,ok.stk,ok.exf,ok.bs,ok.bsz,ok.noex,ok.exfs,ok.funs,ok.frf,ok.tab⟩
section
variable {X:Cx} {pins:List (Addr×Obj)} {σ:St} {H:Hp} {s:Shared} {E:Value→Shared→Prop}
theorem Inv.wish (I:Inv X pins σ H s) (E:Value→Shared→Prop):Inv (X.wish E) pins σ H s:=⟨I.ok.wish E,I.os,I.bare,I.base,I.loc,I.cell,I.free,I.freeC,I.pin,I.hok,I.len⟩
theorem Inv.unwish (I:Inv (X.wish E) pins σ H s):Inv X pins σ H s:=⟨I.ok.unwish,I.os,I.bare,I.base,I.loc,I.cell,I.free,I.freeC,I.pin,I.hok,I.len⟩
theorem SP.unwish {D:Ends} {f:Flow} {s':Shared} (h:SP (X.wish E) pins D f s'):SP X pins D f s':=by
  cases f with
  | next=>obtain ⟨σ',H',I,q⟩:=h;exact ⟨σ',H',I.unwish,q⟩
  | brk=>obtain ⟨σ',H',I,q⟩:=h;exact ⟨σ',H',I.unwish,q⟩
  | cont=>obtain ⟨σ',H',I,q⟩:=h;exact ⟨σ',H',I.unwish,q⟩
  | ret u=>obtain ⟨v,σ',H',I,r,q⟩:=h;exact ⟨v,σ',H',I.unwish,r,q⟩
theorem PE.nox {e:Expr} {t:TE} (h:PE X.nox e t):PE X e t:=fun pins s σ H Q I hw=>
  wpAny_mono (h pins s σ H Q (I.wish _) hw) (fun _ _ ⟨v,H',I',r,q⟩=>⟨v,H',I'.unwish,r,q⟩) fun _ _ z=>False.elim z
theorem PT.nox {e:Expr} {t:TT} (h:PT X.nox e t):PT X e t:=fun pins s σ H Q I hw=>
  wpAny_mono (h pins s σ H Q (I.wish _) hw) (fun _ _ ⟨H',I',q⟩=>⟨H',I'.unwish,q⟩) fun _ _ z=>False.elim z
theorem PSs.nox {st:List Stmt} {t:TS} (h:PSs X.nox st t):PSs X st t:=fun pins s σ H D I hw=>
  wpAny_mono (h pins s σ H D (I.wish _) hw) (fun _ _ q=>q.unwish) fun _ _ z=>False.elim z
end
section
variable {X:Cx} {st:Stmt} {cz:List Stmt} {t u:TS} {e:Expr} {te:TE} {pos:Pos}
def zp:TS:=fun D σ H=>D.nx σ H
def mf (t u:TS):TS:=fun D σ H=>t {D with nx:=u D} σ H
theorem vt:PSs X [] zp:=fun _ _ σ H _ I h=>wpAny_execs_nil ⟨σ,H,I,h⟩
theorem cY (h1:PS X st t) (h2:PSs X cz u):PSs X (st::cz) (mf t u):=by
  intro pins s σ H D I h
  refine wpAny_execs_cons (cO (h1 pins s σ H {D with nx:=u D} I h) fun f s1 q=>?_)
  cases f with
  | next=>
    obtain ⟨σ',H',I',q⟩:=q
    exact h2 pins s1 σ' H' D I' q
  | ret v=>exact q
  | brk=>exact q
  | cont=>exact q
theorem ie (h1:PS X st t):PSs X [st] t:=by
  intro pins s σ H D I h
  refine wpAny_execs_cons (cO (h1 pins s σ H D I h) fun f s1 q=>?_)
  cases f with
  | next=>exact wpAny_execs_nil q
  | ret v=>exact q
  | brk=>exact q
  | cont=>exact q
theorem Inv.quiet {pins:List (Addr×Obj)} {σ:St} {H:Hp} {s:Shared} (I:Inv X pins σ H s):interactive X.env=false:=by simp [interactive,I.ok.kind]
def zq (te:TE):TS:=fun D σ H=>te σ H fun _ H1=>D.nx σ H1
theorem vv (he:PE X e te) (hs:swapsWith e none pos.line X.env=pure false:=by rfl):PS X (.Expr e pos) (zq te):=by
  intro pins s σ H D I h
  exact wpAny_Expr_any (cO (he pins s σ H _ I h) fun v s1 ⟨x,H1,I1,r1,q1⟩=>⟨σ,H1,I1,q1⟩) I.quiet hs
def Bs (te:TE):TS:=fun D σ H=>te σ H D.rt
theorem sT (he:PE X e te):PS X (.Return (some e) pos) (Bs te):=by
  intro pins s σ H D I h
  exact wpAny_Return_some (cO (he pins s σ H _ I h) fun v s1 ⟨x,H1,I1,r1,q1⟩=>⟨x,σ,H1,I1,r1,q1⟩)
def Bt (c:TT) (t u:TS):TS:=fun D σ H=>c σ H fun b H1=>if b=true then t D σ H1 else u D σ H1
theorem zr {c:Expr} {a b:List Stmt} {tc:TT} (hc:PT X c tc) (ha:PSs X a t) (hb:PSs X b u):PS X (.If c a b pos) (Bt tc t u):=by
  intro pins s σ H D I h
  refine wpAny_If (cO (hc pins s σ H _ I h) fun d s1 ⟨H1,I1,q1⟩=>?_)
  cases d with
  | true=>exact ha pins s1 σ H1 D I1 q1
  | false=>exact hb pins s1 σ H1 D I1 q1
def xL:TS:=fun _ _ _=>False
theorem sU:PS X st xL:=fun _ _ _ _ _ _ h=>h.elim
end
abbrev TG:=V→St→Hp→(St→Hp→Prop)→Prop
abbrev vw:=List V→St→Hp→(St→Hp→Prop)→Prop
def PG (X:Cx) (target:Expr) (t:TG):Prop:=
  ∀(pins:List (Addr×Obj)) (s:Shared) (σ:St) (H:Hp) (v:V) (u:Value) (Q:St→Hp→Prop),Inv X pins σ H s→RelV v u→t v σ H Q→
    wpAny (model X.prog X.w) X.A (assign target X.env u) (fun _ s'=>∃σ' H',Inv X pins σ' H' s'∧Q σ' H') X.xe s
def xM (X:Cx) (ts:List Expr) (t:vw):Prop:=
  ∀(pins:List (Addr×Obj)) (s:Shared) (σ:St) (H:Hp) (vs:List V) (us:List Value) (Q:St→Hp→Prop),Inv X pins σ H s→Vals vs us→t vs σ H Q→
    wpAny (model X.prog X.w) X.A (assignInOrder ((assignEach ts X.env).map (·.2)) us) (fun _ s'=>∃σ' H',Inv X pins σ' H' s'∧Q σ' H') X.xe s
abbrev xN:=V→V→V→Hp→(Hp→Prop)→Prop
def zt (X:Cx) (t:xN):Prop:=
  ∀(pins:List (Addr×Obj)) (s:Shared) (σ:St) (H:Hp) (o i v:V) (ov iv u:Value) (Q:Hp→Prop),Inv X pins σ H s→RelV o ov→RelV i iv→RelV v u→t o i v H Q→
    wpAny (model X.prog X.w) X.A (setItem ov iv u) (fun _ s'=>∃H',Inv X pins σ H' s'∧Q H') X.xe s
section
variable {X:Cx} {pos:Pos}
def nR (i:Nat):TG:=fun v σ H Q=>Q (σ.set i (some v)) H
theorem qi {i:Nat} {x:Str} (hN:X.N.Nodup) (hi:X.N[i]? =some x) (hx:y2 X.env.scope x) (hf:X.fn x=true∨X.env.scope.names.lookup x=some .local:=by first | exact .inl rfl | exact .inr rfl | assumption):PG X (.Name x pos) (nR i):=by
  intro pins s σ H v u Q I r h
  exact wpAny_assign_Name (gY I hN hi hx r (fun s' I'=>⟨_,H,I',h⟩) hf)
def Bu:vw:=fun vs σ H Q=>vs=[]∧Q σ H
def zu (t:TG) (u:vw):vw:=fun vs σ H Q=>∃v r,vs=v::r∧t v σ H fun σ' H'=>u r σ' H' Q
theorem vx:xM X [] Bu:=by
  intro pins s σ H vs us Q I r h
  obtain ⟨e,h⟩:=h
  subst e
  cases r
  exact assignInOrder_nil ⟨σ,H,I,h⟩
theorem sV {e:Expr} {es:List Expr} {t:TG} {u:vw} (h1:PG X e t) (h2:xM X es u)
    (hs:(assignEach (e::es) X.env).map (·.2)=assign e X.env::(assignEach es X.env).map (·.2):=by rfl):xM X (e::es) (zu t u):=by
  intro pins s σ H vs us Q I r h
  obtain ⟨v,vr,e1,h⟩:=h
  subst e1
  cases r with
  | cons r rr=>
    rw [hs]
    refine assignInOrder_cons (cO (h1 pins s σ H _ _ _ I r h) fun _ s1 ⟨σ1,H1,I1,q1⟩=>?_)
    exact h2 pins s1 σ1 H1 _ _ Q I1 rr q1
def Bv (K:PySem.W.Frag) (n:Nat) (t:vw):TG:=fun v σ H Q=>∃a xs,v= .ref a∧SqT K H a xs∧xs.length=n∧t xs σ H Q
theorem xO {es:List Expr} {k:Nat} {t:vw} {n:Nat} (hc:X.calm=true) (h:xM X es t)
    (hn:(assignEach es X.env).length=n:=by rfl) (hst:(assignEach es X.env).findIdx? (·.1)=none:=by rfl):PG X (.Tuple es k pos) (Bv X.K n t):=by
  intro pins s σ H v u Q I r hw
  obtain ⟨a,xs,e1,hq,hl,hw⟩:=hw
  subst e1
  cases r
  obtain ⟨its,rv,ht,hz⟩:=I.tuple hq
  refine assign_Tuple_tuple (I.ok.hd hc) ht (by simp [hn,←hl,rv.length]) hst fun h' hx=>?_
  have I1:Inv X pins σ H {s with heap:=h'}:=I.kept (t':=s.toks) fun b o e=>hx b o (Nat.ne_of_lt (Heap.lt_size e)) e
  exact h pins _ σ H xs _ Q I1 (by simpa using rv) hw
def Bw (to ti:TE) (t:xN):TG:=fun v σ H Q=>to σ H fun o H1=>ti σ H1 fun i H2=>t o i v H2 fun H3=>Q σ H3
theorem sW {o i:Expr} {to ti:TE} {t:xN} (ho:PE X o to) (hi:PE X i ti) (hs:zt X t)
    (ha:∀v,assign (.Subscript o i pos) X.env v=(do
      let ov ←holding [v] (eval o X.env)
      let iv ←holding [v,ov] (eval i X.env)
      standAt pos
      holding [v,ov,iv] (setItem ov iv v)
      release [v,ov,iv] []):=by intro _;rfl):PG X (.Subscript o i pos) (Bw to ti t):=by
  intro pins s σ H v u Q I r h
  rw [ha]
  refine wpAny_bind (wpAny_holding (cO (ho pins s σ H _ I h) fun ov s1 ⟨x,H1,I1,r1,q1⟩=>?_))
  refine wpAny_bind (wpAny_holding (cO (hi pins s1 σ H1 _ I1 q1) fun iv s2 ⟨y,H2,I2,r2,q2⟩=>?_))
  refine wpAny_bind (wpAny_standAt (wpAny_bind (wpAny_holding (cO (hs pins s2 σ H2 x y v ov iv u _ I2 r1 r2 r q2) fun _ s3 ⟨H3,I3,q3⟩=>?_))))
  exact wpAny_release ⟨σ,H3,I3,q3⟩
def zv (te:TE) (g:TG):TS:=fun D σ H=>te σ H fun x H1=>g x σ H1 D.nx
theorem o0 {tg e:Expr} {te:TE} {g:TG} (he:PE X e te) (hg:PG X tg g) (hs:swapsWithSole [tg] e pos.line X.env=pure false:=by rfl) (hw:swappedStores [tg] e X.env=pure none:=by rfl)
    (h1:(assignEach [tg] X.env).map (·.2)=[assign tg X.env]:=by rfl):PS X (.Assign [tg] e pos) (zv te g):=by
  intro pins s σ H D I h
  refine wpAny_Assign_stores (cO (he pins s σ H _ I h) fun v s1 ⟨x,H1,I1,r1,q1⟩=>?_) hs hw
  rw [h1]
  exact cO (hg pins s1 σ H1 x v _ I1 r1 q1) fun _ s2 q=>q
theorem sX {i:Nat} {x:Str} {e:Expr} {te:TE} {pos':Pos} (hN:X.N.Nodup) (hi:X.N[i]? =some x) (hx:y2 X.env.scope x) (he:PE X e te) (hs:swapsWith e (some (.Name x pos')) pos.line X.env=pure false:=by rfl) (hf:X.fn x=true∨X.env.scope.names.lookup x=some .local:=by first | exact .inl rfl | exact .inr rfl | assumption):
    PS X (.Assign [.Name x pos'] e pos) (zv te (nR i)):=by
  intro pins s σ H D I h
  refine wpAny_Assign_Name (cO (he pins s σ H _ I h) fun v s1 ⟨y,H1,I1,r1,q1⟩=>?_) hs
  exact gY I1 hN hi hx r1 (fun s2 I2=>⟨_,H1,I2,q1⟩) hf
end
section
variable {X:Cx} {pos:Pos}
def xP (c:TT) (tb:TS):TS:=fun D σ H=>∃W:Nat→St→Hp→Prop,(∃m,W m σ H)∧∀m σ H,W m σ H→
  c σ H fun b H1=>if b=true then ∃N:St→Hp→Prop,(∀σ' H',N σ' H'→∃m',m' < m∧W m' σ' H')∧tb {D with nx:=N,ct:=N,bk:=D.nx} σ H1 else D.nx σ H1
theorem sY {c:Expr} {body:List Stmt} {tc:TT} {tb:TS} (hp:PassesOwn (model X.prog X.w) X.A X.env X.xe) (hc:PT X c tc) (hb:PSs X body tb):PS X (.While c body [] pos) (xP tc tb):=by
  intro pins s σ H D I h
  obtain ⟨W,⟨m0,w0⟩,turn⟩:=h
  refine wpAny_While (codeAny_whileLoop (fun n s'=>∃σ' H',Inv X pins σ' H' s'∧W n σ' H') ?_ m0 ⟨σ,H,I,w0⟩)
  rintro n s1 ⟨σ1,H1,I1,w1⟩
  refine wpAny_passesOwn hp (cO (hc pins s1 σ1 H1 _ I1 (turn n σ1 H1 w1)) fun b s2 ⟨H2,I2,q2⟩=>?_)
  cases b with
  | true=>
    obtain ⟨N,hN,q2⟩:=q2
    rw [if_pos rfl]
    refine wpAny_passesOwn hp (cO (hb pins s2 σ1 H2 _ I2 q2) fun f s3 q3=>?_)
    cases f with
    | next=>
      obtain ⟨σ3,H3,I3,n3⟩:=q3
      obtain ⟨m',hm,w3⟩:=hN σ3 H3 n3
      exact ⟨m',hm,σ3,H3,I3,w3⟩
    | cont=>
      obtain ⟨σ3,H3,I3,n3⟩:=q3
      obtain ⟨m',hm,w3⟩:=hN σ3 H3 n3
      exact ⟨m',hm,σ3,H3,I3,w3⟩
    | brk=>exact q3
    | ret v=>exact q3
  | false=>
    rw [if_neg Bool.false_ne_true]
    exact wpAny_execs_nil ⟨σ1,H2,I2,q2⟩
end
structure It where
  go:Nat→Hp→Prop
  yld:Nat→Hp→V→Hp→Prop
  stop:Nat→Hp→Prop
def kK (X:Cx) (pins:List (Addr×Obj)) (H:Hp) (b:Addr):Prop:=
  H b=none∧b≠X.env.locals∧b∉X.fs∧(b∈X.ex∨X.s₀.heap.objs.size≤b)∧(∀x c,X.env.cells.lookup x=some c→c≠b)∧∀p∈X.pn++pins,p.1≠b
theorem Inv.fpOk {X:Cx} {pins:List (Addr×Obj)} {σ:St} {H H':Hp} {s:Shared} {b:Addr} (I:Inv X pins σ H s) (hb:s.heap.objs.size≤b) (hn:H' b=none):kK X pins H' b:=by
  refine ⟨hn,Nat.ne_of_gt (Nat.lt_of_lt_of_le I.lt hb),I.nofs hb, .inr (Nat.le_trans I.sz hb),fun x c e z=>?_,fun p hp z=>?_⟩
  · obtain ⟨v,q⟩:=I.cell x c e
    exact absurd (Nat.lt_of_lt_of_le q.lt (by rw [z];exact hb)) (Nat.lt_irrefl _)
  · exact absurd (Nat.lt_of_lt_of_le (Heap.lt_size (I.pin p hp).1) (by rw [z];exact hb)) (Nat.lt_irrefl _)
structure Turn (P:Program) (w:World) (K:PySem.W.Frag) (tg:Expr) (J:It) (fp:List Addr) (it:Addr) (tn:Nat→Heap→Prop):Prop where
  mem:it∈fp
  obj:∀i h,tn i h→∀b∈fp,∃o,h.get? b=some o∧∀v,o.data≠ .cell v
  keep:∀i h h',tn i h→(∀b∈fp,∀o,h.get? b=some o→h'.get? b=some o)→tn i h'
  item:∀(X:Cx),X.prog=P→X.w=w→X.K=K→X.calm=true→∀(i:Nat) (pins:List (Addr×Obj)) (s:Shared) (σ:St) (H:Hp) (E:Value→Shared→Prop),Inv X pins σ H s→(∀b∈fp,kK X pins H b)→tn i s.heap→J.go i H→
    wpAny (model P w) X.A (pyNext (.ref it)) (fun r s1=>∃u,r=some u∧
      wpAny (model P w) X.A (letOwnedTupleGo tg (.ref it) u) (fun _ s2=>∃x H',Inv X pins σ H' s2∧RelV x u∧J.yld i H x H'∧tn (i+1) s2.heap∧∀b∈fp,H' b=none) E s1) E s
  done:∀(X:Cx),X.prog=P→X.w=w→X.K=K→X.calm=true→∀(i:Nat) (pins:List (Addr×Obj)) (s:Shared) (σ:St) (H:Hp) (E:Value→Shared→Prop),Inv X pins σ H s→(∀b∈fp,kK X pins H b)→tn i s.heap→J.stop i H→
    wpAny (model P w) X.A (pyNext (.ref it)) (fun r s1=>r=none∧Inv X pins σ H s1) E s
  self:∀(A:Around) (i:Nat) (s:Shared) (Q:Value→Shared→Prop) (E:Value→Shared→Prop),tn i s.heap→Q (.ref it) s→wpAny (model P w) A (pyIter (.ref it)) Q E s
abbrev TI:=St→Hp→(It→Hp→Prop)→Prop
def B6 (X:Cx) (pins:List (Addr×Obj)) (σ:St) (tg:Expr) (R:It→Hp→Prop) (itv:Value) (s2:Shared):Prop:=
  ∃(it:Addr) (fp:List Addr) (tn:Nat→Heap→Prop) (J:It) (H':Hp),itv= .ref it∧Inv X pins σ H' s2∧Turn X.prog X.w X.K tg J fp it tn∧tn 0 s2.heap∧(∀b∈fp,kK X pins H' b)∧R J H'
def PI (X:Cx) (tg iter:Expr) (wi:TI):Prop:=
  ∀(pins:List (Addr×Obj)) (s:Shared) (σ:St) (H:Hp) (R:It→Hp→Prop),Inv X pins σ H s→wi σ H R→
    wpAny (model X.prog X.w) X.A (eval iter X.env) (fun v s1=>wpAny (model X.prog X.w) X.A (pyIter v) (B6 X pins σ tg R) X.xe s1) X.xe s
theorem nS {M:Model} {A:Around} {E:Value→Shared→Prop} {s:Shared} {tg:Expr} {it:Addr} {u:Value} {o:Obj} {n:String} {vs:Array Value} {Q:Unit→Shared→Prop} (ho:s.heap.get? it=some o) (hc:o.cls= .type n) (hd:o.data= .fields vs)
    (hn:["enumerate","zip","dict_itemiterator","dict_reverseitemiterator","odict_iterator","itertools.zip_longest","itertools.pairwise"].contains n=false) (hQ:Q () s):wpAny M A (letOwnedTupleGo tg (.ref it) u) Q E s:=by
  unfold letOwnedTupleGo
  cases tg <;> first
    | exact wpAny_pure hQ
    | (cases u <;> first
        | exact wpAny_pure hQ
        | (refine wpAny_bind (wpAny_load ho ?_)
           rw [hc,hd]
           show wpAny M A (if (["enumerate","zip","dict_itemiterator","dict_reverseitemiterator","odict_iterator","itertools.zip_longest","itertools.pairwise"].contains n&&vs[0]? == some (rawInt _))=true then _ else _) Q E s
           rw [if_neg (by intro h;rw [hn,Bool.false_and] at h;cases h)]
           exact wpAny_pure hQ))
def y3 (K:PySem.W.Frag) (a:Addr):It:=
  ⟨fun i H=>∃xs x,SqL K H a xs∧xs[i]? =some x,fun i H x H'=>H'=H∧∀xs,SqL K H a xs→xs[i]? =some x,fun i H=>∃xs,SqL K H a xs∧xs.length≤i⟩
def Bx (K:PySem.W.Frag) (a:Addr):It:=
  ⟨fun i H=>∃xs x,SqT K H a xs∧xs[i]? =some x,fun i H x H'=>H'=H∧∀xs,SqT K H a xs→xs[i]? =some x,fun i H=>∃xs,SqT K H a xs∧xs.length≤i⟩
def AI (lo:Int) (n:Nat):It:=⟨fun i _=>i < n,fun i H x H'=>H'=H∧x= .int (lo+i),fun i _=>n≤i⟩
theorem rz {P:Program} {w:World} {K:PySem.W.Frag} {tg:Expr} (a it:Addr):Turn P w K tg (y3 K a) [it] it (fun i h=>h.IsListIter it a i) where
  mem:=by simp
  obj:=fun i h st b hb=>by
    have e:b=it:=by simpa using hb
    subst e
    obtain ⟨o,e,c,d⟩:=st
    exact ⟨o,e,fun v z=>by rw [d] at z;cases z⟩
  keep:=fun i h h' st k=>st.at fun o e=>k it (by simp) o e
  item:=by
    intro X hP hw hK hc i pins s σ H E I hf st hg
    subst hP hw hK
    obtain ⟨xs,x,hq,hx⟩:=hg
    obtain ⟨its,rv,p,hz⟩:=I.list hq
    obtain ⟨u,hu,ru⟩:=rv.get hx
    obtain ⟨f0,f1,f2,f3,f4,f5⟩:=hf it (by simp)
    refine wpAny_pyNext_list_item st p.isList (x:=u) (by simpa using hu) fun h' st' sb=>?_
    have I1:Inv X pins σ H {s with heap:=h'}:=I.turned (t':=s.toks) (fun b o hb e=>(sb.2 b hb).trans e) f0 f1 f3 f4 f5
    obtain ⟨o,e,c,d⟩:=id st'
    exact ⟨u,rfl,nS (s:={s with heap:=h'}) e c d (by decide) ⟨x,H,I1,ru,⟨rfl,fun ys hy=>by rw [I.list_inj hy hq];exact hx⟩,st',fun b hb=>(hf b hb).1⟩⟩
  done:=by
    intro X hP hw hK hc i pins s σ H E I hf st hg
    subst hP hw hK
    obtain ⟨xs,hq,hx⟩:=hg
    obtain ⟨its,rv,p,hz⟩:=I.list hq
    obtain ⟨f0,f1,f2,f3,f4,f5⟩:=hf it (by simp)
    have hl:=rv.length
    exact wpAny_pyNext_list_end (I.ok.hd hc) st p.isList (by simp;omega) fun h' eb=>⟨rfl,I.turned (t':=s.toks) (fun b o hb e=>eb b o hb e) f0 f1 f3 f4 f5⟩
  self:=fun _ _ _ _ _ st h=>wpAny_pyIter_listiter st h
theorem o6 {P:Program} {w:World} {K:PySem.W.Frag} {tg:Expr} (a it:Addr):Turn P w K tg (Bx K a) [it] it (fun i h=>h.IsTupleIter it a i) where
  mem:=by simp
  obj:=fun i h st b hb=>by
    have e:b=it:=by simpa using hb
    subst e
    obtain ⟨o,e,c,d⟩:=st
    exact ⟨o,e,fun v z=>by rw [d] at z;cases z⟩
  keep:=fun i h h' st k=>st.at fun o e=>k it (by simp) o e
  item:=by
    intro X hP hw hK hc i pins s σ H E I hf st hg
    subst hP hw hK
    obtain ⟨xs,x,hq,hx⟩:=hg
    obtain ⟨its,rv,p,hz⟩:=I.tuple hq
    obtain ⟨u,hu,ru⟩:=rv.get hx
    obtain ⟨f0,f1,f2,f3,f4,f5⟩:=hf it (by simp)
    refine wpAny_pyNext_tuple_item st (show s.heap.IsTuple a its.toArray from p) (x:=u) (by simpa using hu) fun h' st' sb=>?_
    have I1:Inv X pins σ H {s with heap:=h'}:=I.turned (t':=s.toks) (fun b o hb e=>(sb.2 b hb).trans e) f0 f1 f3 f4 f5
    obtain ⟨o,e,c,d⟩:=id st'
    exact ⟨u,rfl,nS (s:={s with heap:=h'}) e c d (by decide) ⟨x,H,I1,ru,⟨rfl,fun ys hy=>by rw [I.tuple_inj hy hq];exact hx⟩,st',fun b hb=>(hf b hb).1⟩⟩
  done:=by
    intro X hP hw hK hc i pins s σ H E I hf st hg
    subst hP hw hK
    obtain ⟨xs,hq,hx⟩:=hg
    obtain ⟨its,rv,p,hz⟩:=I.tuple hq
    obtain ⟨f0,f1,f2,f3,f4,f5⟩:=hf it (by simp)
    have hl:=rv.length
    exact wpAny_pyNext_tuple_end (I.ok.hd hc) st (show s.heap.IsTuple a its.toArray from p) (by simp;omega) fun h' eb=>⟨rfl,I.turned (t':=s.toks) (fun b o hb e=>eb b o hb e) f0 f1 f3 f4 f5⟩
  self:=fun _ _ _ _ _ st h=>wpAny_pyIter_tupleiter st h
theorem o7 {P:Program} {w:World} {K:PySem.W.Frag} {tg:Expr} (it:Addr) (lo:Int) (n:Nat):Turn P w K tg (AI lo n) [it] it (fun i h=>IsRangeIter h it (lo+(i:Nat)*1) ((n:Int) - (i:Nat)) 1) where
  mem:=by simp
  obj:=fun i h st b hb=>by
    have e:b=it:=by simpa using hb
    subst e
    exact ⟨_,st,fun v z=>by
      have z':Data.fields _=Data.cell v:=z
      cases z'⟩
  keep:=fun i h h' st k=>k it (by simp) _ st
  item:=by
    intro X hP hw hK hc i pins s σ H E I hf st hg
    subst hP hw hK
    obtain ⟨f0,f1,f2,f3,f4,f5⟩:=hf it (by simp)
    have W:=Walks.range (prog:=X.prog) (w:=X.w) (I.ok.hd hc) it lo 1 n
    refine W.item i s _ _ hg st fun v h' tk hv st' kk=>?_
    obtain ⟨t,rfl⟩:=hv
    have I1:Inv X pins σ H {s with heap:=h',toks:=tk}:=I.turned (fun b o hb e=>kk b o (by simpa using hb) e) f0 f1 f3 f4 f5
    refine ⟨_,rfl,nS (s:={s with heap:=h',toks:=tk}) (n:="range_iterator") st' rfl rfl (by decide) ⟨.int (lo+i),H,I1,⟨t,?_⟩,⟨rfl,rfl⟩,st',fun b hb=>(hf b hb).1⟩⟩
    rw [Int.mul_one]
  done:=by
    intro X hP hw hK hc i pins s σ H E I hf st hg
    subst hP hw hK
    obtain ⟨f0,f1,f2,f3,f4,f5⟩:=hf it (by simp)
    exact wpAny_pyNext_range_end (I.ok.hd hc) st (by have:n≤i:=hg;omega) fun h' eb=>⟨rfl,I.turned (t':=s.toks) (fun b o hb e=>eb b o hb e) f0 f1 f3 f4 f5⟩
  self:=fun _ _ _ _ _ st h=>wpAny_pyIter_rangeiter st h
end L2
namespace L2
open PySem PySem.Spec PyProof.Rows
section
variable {X:Cx} {tg:Expr}
def wS (K:PySem.W.Frag) (tl:TE):TI:=fun σ H R=>tl σ H fun x H1=>∃a,x= .ref a∧(∃xs,SqL K H1 a xs)∧R (y3 K a) H1
def By (K:PySem.W.Frag) (tl:TE):TI:=fun σ H R=>tl σ H fun x H1=>∃a,x= .ref a∧(∃xs,SqT K H1 a xs)∧R (Bx K a) H1
theorem qj {l:Expr} {tl:TE} (hl:PE X l tl):PI X tg l (wS X.K tl):=by
  intro pins s σ H R I h
  refine cO (hl pins s σ H _ I h) fun v s1 ⟨x,H1,I1,r1,q1⟩=>?_
  obtain ⟨a,e,⟨xs,hq⟩,q⟩:=q1
  subst e
  cases r1
  obtain ⟨its,rv,p,hz⟩:=I1.list hq
  refine wpAny_pyIter_list p.isList ?_
  refine ⟨s1.heap.objs.size,[s1.heap.objs.size],_,_,H1,rfl,I1.kept (t':=s1.toks) fun b o e=>Heap.get?_push_of_some _ e,rz a _,⟨_,Heap.get?_push_size _ rfl,rfl,rfl⟩,fun b hb=>?_,q⟩
  have e:b=s1.heap.objs.size:=by simpa using hb
  subst e
  exact I1.fpOk (Nat.le_refl _) (I1.hok.fresh (Nat.le_refl _))
theorem xQ {l:Expr} {tl:TE} (hl:PE X l tl):PI X tg l (By X.K tl):=by
  intro pins s σ H R I h
  refine cO (hl pins s σ H _ I h) fun v s1 ⟨x,H1,I1,r1,q1⟩=>?_
  obtain ⟨a,e,⟨xs,hq⟩,q⟩:=q1
  subst e
  cases r1
  obtain ⟨its,rv,p,hz⟩:=I1.tuple hq
  refine wpAny_pyIter_tuple (show s1.heap.IsTuple a its.toArray from p) ?_
  refine ⟨s1.heap.objs.size,[s1.heap.objs.size],_,_,H1,rfl,I1.kept (t':=s1.toks) fun b o e=>Heap.get?_push_of_some _ e,o6 a _,⟨_,Heap.get?_push_size _ rfl,rfl,rfl⟩,fun b hb=>?_,q⟩
  have e:b=s1.heap.objs.size:=by simpa using hb
  subst e
  exact I1.fpOk (Nat.le_refl _) (I1.hok.fresh (Nat.le_refl _))
theorem sZ {pins:List (Addr×Obj)} {σ:St} {H:Hp} {s:Shared} {R:It→Hp→Prop} {E:Value→Shared→Prop} {lo hi:Int} {t u v:Tok} {tk:Nat} (I:Inv X pins σ H s) (h1: -(2 ^ 62)≤lo) (h2:lo < 2 ^ 62) (h3: -(2 ^ 62)≤hi) (h4:hi < 2 ^ 62)
    (q:R (AI lo (hi - lo).toNat) H):wpAny (model X.prog X.w) X.A (pyIter (.ref s.heap.objs.size)) (B6 X pins σ tg R) E {s with heap:=s.heap.push {cls:= .type "range",data:= .fields #[.int lo t, .int hi u, .int 1 v]},toks:=tk}:=by
  refine wpAny_pyIter_range (IsRange.new ..) (small_one h1 h2 h3 h4) ?_
  have I1:Inv X pins σ H {s with heap:=s.heap.push {cls:= .type "range",data:= .fields #[.int lo t, .int hi u, .int 1 v]},toks:=tk}:=I.kept fun b o e=>Heap.get?_push_of_some _ e
  refine ⟨(s.heap.push {cls:= .type "range",data:= .fields #[.int lo t, .int hi u, .int 1 v]}).objs.size,[(s.heap.push {cls:= .type "range",data:= .fields #[.int lo t, .int hi u, .int 1 v]}).objs.size],_,_,H,rfl,
    I1.kept (t':=tk) fun b o e=>Heap.get?_push_of_some _ e,o7 _ lo (hi - lo).toNat,?_,fun b hb=>?_,q⟩
  · have e1:lo+((0:Nat):Int)*1=lo:=by simp
    have e2:(((hi - lo).toNat:Nat):Int) - ((0:Nat):Int)=Builtin.Range.rangeSize lo hi 1:=by rw [rangeSize_one];split <;> omega
    show IsRangeIter _ _ (lo+((0:Nat):Int)*1) ((((hi - lo).toNat:Nat):Int) - ((0:Nat):Int)) 1
    rw [e1,e2]
    exact Heap.get?_push_size _ rfl
  · have e:b=(s.heap.push {cls:= .type "range",data:= .fields #[.int lo t, .int hi u, .int 1 v]}).objs.size:=by simpa using hb
    subst e
    exact I1.fpOk (Nat.le_refl _) (I1.hok.fresh (Nat.le_refl _))
def zw (ta:TA):TI:=fun σ H R=>ta σ H fun vs H1=>∃j:Int,vs=[.int j]∧ -(2 ^ 62)≤j∧j < 2 ^ 62∧R (AI 0 j.toNat) H1
theorem rA {a:Expr} {ta:TA} {p pos:Pos} (hg:Gl X "range") (hm:X.mg "range"=none) (ha:PA X [a] ta) (hs:starEach [a] X.env=[(false,eval a X.env)]:=by rfl):PI X tg (.Call (.Name "range" p) [a] [] pos) (zw ta):=by
  intro pins s σ H R I h
  refine Call_ (i_ I hg hm boot_range (PyProof.Rows.callWith_type1 (cO (ha pos pins s σ H _ I h) fun us s1 ⟨vs,H1,I1,r1,q1⟩=>?_) hs rfl))
  obtain ⟨j,e,q1,q2,q⟩:=q1
  subst e
  cases r1 with
  | cons r rr=>
    cases rr
    obtain ⟨t,rfl⟩:=r
    exact call_range_1 (sZ I1 (by omega) (by omega) q1 q2 (by simpa using q))
def Bz (wi:TI) (g:TG) (tb:TS):TS:=fun D σ H=>wi σ H fun J H1=>∃W:Nat→Nat→St→Hp→Prop,(∃m,W 0 m σ H1)∧∀i m σ H,W i m σ H→
  (J.stop i H∧D.nx σ H)∨(J.go i H∧∃N:St→Hp→Prop,(∀σ' H',N σ' H'→∃m',m' < m∧W (i+1) m' σ' H')∧∀x H',J.yld i H x H'→g x σ H' fun σ2 H2=>tb {D with nx:=N,ct:=N,bk:=D.nx} σ2 H2)
def jT (fp:List Addr) (h:Heap):List (Addr×Obj):=fp.filterMap fun b=>(h.get? b).map fun o=>(b,o)
theorem gE {fp:List Addr} {h:Heap} {b:Addr} {o:Obj} (hb:b∈fp) (e:h.get? b=some o):(b,o)∈jT fp h:=List.mem_filterMap.mpr ⟨b,hb,by rw [e];rfl⟩
theorem rB {fp:List Addr} {h:Heap} {p:Addr×Obj} (hp:p∈jT fp h):p.1∈fp∧h.get? p.1=some p.2:=by
  obtain ⟨b,hb,e⟩:=List.mem_filterMap.mp hp
  cases q:h.get? b with
  | none=>rw [q] at e;cases e
  | some o=>
    rw [q] at e
    have e':(b,o)=p:=Option.some.inj e
    subst e'
    exact ⟨hb,q⟩
theorem Inv.pinned {pins:List (Addr×Obj)} {σ:St} {H:Hp} {s:Shared} {fp:List Addr} (I:Inv X pins σ H s) (hf:∀b∈fp,kK X pins H b) (ho:∀b∈fp,∃o,s.heap.get? b=some o∧∀v,o.data≠ .cell v):Inv X (pins++jT fp s.heap) σ H s:=
  I.pins_of fun p hp=>(List.mem_append.mp hp).elim (fun z=>I.pin p (List.mem_append_right _ z)) fun z=>by
    obtain ⟨hb,e⟩:=rB z
    obtain ⟨f0,f1,f2,_⟩:=hf p.1 hb
    obtain ⟨o,e',d⟩:=ho p.1 hb
    rw [e] at e';cases e'
    exact ⟨e,f0,f1,f2,d⟩
theorem Inv.unpinned {pins pl:List (Addr×Obj)} {σ:St} {H:Hp} {s:Shared} (I:Inv X (pins++pl) σ H s):Inv X pins σ H s:=I.pins_of fun p hp=>I.pin p (List.mem_append_right _ (List.mem_append_left _ hp))
theorem xR {iter:Expr} {body:List Stmt} {wi:TI} {g:TG} {tb:TS} {pos:Pos} (hp:PassesOwn (model X.prog X.w) X.A X.env X.xe) (hc:X.calm=true) (hi:PI X tg iter wi) (hg:PG X tg g) (hb:PSs X body tb)
    (hs:∀x,foldedSetIterable iter X.env x=pure x:=by intro _;rfl):PS X (.For tg iter body [] pos) (Bz wi g tb):=by
  intro pins s σ H D I h
  refine wpAny_For (cO (hi pins s σ H _ I h) fun v s1 h1=>cO h1 fun itv s2 h2=>?_) hs
  obtain ⟨it,fp,tn,J,H2,e,I2,T,st2,f2,W,⟨m0,w0⟩,turn⟩:=h2
  subst e
  -- what stays true of the iterator's objects through the loop
  have stat:∀{H':Hp},(∀b∈fp,H' b=none)→∀b∈fp,kK X pins H' b:=fun hn b hb=>⟨hn b hb,(f2 b hb).2⟩
  refine codeAny_forLoop_any (fun n s'=>∃i σ' H',Inv X pins σ' H' s'∧tn i s'.heap∧(∀b∈fp,H' b=none)∧W i n σ' H') ?_ m0 ⟨0,σ,H2,I2,st2,fun b hb=>(f2 b hb).1,w0⟩
  rintro n s3 ⟨i,σ3,H3,I3,st3,fr3,w3⟩
  rcases turn i n σ3 H3 w3 with ⟨stop,qn⟩ | ⟨go,N,hN,step⟩
  · refine wpAny_passesOwn hp (cO (T.done X rfl rfl rfl hc i pins s3 σ3 H3 X.xe I3 (stat fr3) st3 stop) fun r s4 ⟨hr,I4⟩=>?_)
    subst hr
    exact wpAny_execs_nil ⟨σ3,H3,I4,qn⟩
  · refine wpAny_passesOwn hp (cO (T.item X rfl rfl rfl hc i pins s3 σ3 H3 X.xe I3 (stat fr3) st3 go) fun r s4 ⟨u,hr,h4⟩=>?_)
    subst hr
    refine wpAny_passesOwn hp (cO h4 fun _ s5 ⟨x,H5,I5,r5,y5,st5,fr5⟩=>?_)
    have I5':=I5.pinned (stat fr5) (T.obj _ _ st5)
    refine wpAny_passesOwn hp (cO (hg _ s5 σ3 H5 x u _ I5' r5 (step x H5 y5)) fun _ s6 ⟨σ6,H6,I6,q6⟩=>?_)
    refine wpAny_passesOwn hp (cO (hb _ s6 σ6 H6 _ I6 q6) fun f s7 q7=>?_)
    have again:∀{σ7:St} {H7:Hp},Inv X (pins++jT fp s5.heap) σ7 H7 s7→N σ7 H7→∃m,m < n∧∃i σ' H',Inv X pins σ' H' s7∧tn i s7.heap∧(∀b∈fp,H' b=none)∧W i m σ' H':=fun {σ7 H7} I7 n7=>by
      obtain ⟨m',hm,w7⟩:=hN σ7 H7 n7
      refine ⟨m',hm,i+1,σ7,H7,I7.unpinned,T.keep _ _ _ st5 fun b hb o e=>(I7.pin (b,o) (List.mem_append_right _ (List.mem_append_right _ (gE hb e)))).1,fun b hb=>?_,w7⟩
      obtain ⟨o,e,d⟩:=T.obj _ _ st5 b hb
      exact (I7.pin (b,o) (List.mem_append_right _ (List.mem_append_right _ (gE hb e)))).2.1
    cases f with
    | next=>obtain ⟨σ7,H7,I7,n7⟩:=q7;exact again I7 n7
    | cont=>obtain ⟨σ7,H7,I7,n7⟩:=q7;exact again I7 n7
    | brk=>obtain ⟨σ7,H7,I7,q7⟩:=q7;exact ⟨σ7,H7,I7.unpinned,q7⟩
    | ret v=>obtain ⟨x7,σ7,H7,I7,r7,q7⟩:=q7;exact ⟨x7,σ7,H7,I7.unpinned,r7,q7⟩
end
end L2
namespace L2
open PySem PySem.Spec PyProof.Rows
abbrev R2:=V→V→Hp→VK→Prop
def OpR (X:Cx) (f:Value→Value→Sem Value) (r:R2):Prop:=
  ∀(pins:List (Addr×Obj)) (s:Shared) (σ:St) (H:Hp) (x y:V) (v u:Value) (Q:VK),Inv X pins σ H s→RelV x v→RelV y u→r x y H Q→
    wpAny (model X.prog X.w) X.A (f v u) (EP X pins σ Q) X.xe s
def BA (X:Cx) (f:Value→Sem Value) (r:V→Hp→VK→Prop):Prop:=
  ∀(pins:List (Addr×Obj)) (s:Shared) (σ:St) (H:Hp) (x:V) (v:Value) (Q:VK),Inv X pins σ H s→RelV x v→r x H Q→
    wpAny (model X.prog X.w) X.A (f v) (EP X pins σ Q) X.xe s
def CallR (X:Cx) (f:Value) (r:List V→Hp→VK→Prop):Prop:=
  ∀(pins:List (Addr×Obj)) (s:Shared) (σ:St) (H:Hp) (xs:List V) (us:List Value) (Q:VK),Inv X pins σ H s→Vals xs us→r xs H Q→
    wpAny (model X.prog X.w) X.A (call f us) (EP X pins σ Q) X.xe s
def BB (X:Cx) (r:V→Hp→(Bool→Hp→Prop)→Prop):Prop:=
  ∀(pins:List (Addr×Obj)) (s:Shared) (σ:St) (H:Hp) (x:V) (v:Value) (Q:Bool→Hp→Prop),Inv X pins σ H s→RelV x v→r x H Q→
    wpAny (model X.prog X.w) X.A (truthy v) (TP X pins σ Q) X.xe s
def wT (r:R2) (ta tb:TE):TE:=fun σ H Q=>ta σ H fun x H1=>tb σ H1 fun y H2=>r x y H2 Q
def Cw (r:V→Hp→VK→Prop) (ta:TE):TE:=fun σ H Q=>ta σ H fun x H1=>r x H1 Q
def rI (C:Int→Int→Prop) (g:Int→Int→V):R2:=fun x y H Q=>∃i j,x= .int i∧y= .int j∧C i j∧Q (g i j) H
def vy (g:Int→Int→V):R2:=fun x y H Q=>∃i j,x= .int i∧y= .int j∧Q (g i j) H
def rU (g:Int→V):V→Hp→VK→Prop:=fun x H Q=>∃i,x= .int i∧Q (g i) H
section
variable {X:Cx} {a b c:Expr} {ta tb tc:TE} {pos:Pos}
theorem xS (ha:PE X a ta) (hb:PE X b tb) {pins:List (Addr×Obj)} {s:Shared} {σ:St} {H:Hp} {R:V→V→Hp→Prop} (I:Inv X pins σ H s)
    (h:ta σ H fun x H1=>tb σ H1 fun y H2=>R x y H2) {Q:Value→Shared→Prop} {f:Value→Value→Sem Value}
    (hf:∀v u s2 x y H2,Inv X pins σ H2 s2→RelV x v→RelV y u→R x y H2→wpAny (model X.prog X.w) X.A (f v u) Q X.xe s2):
    wpAny (model X.prog X.w) X.A (eval a X.env) (fun v s₁=>wpAny (model X.prog X.w) X.A (eval b X.env) (fun u s₂=>wpAny (model X.prog X.w) X.A (f v u) Q X.xe s₂) X.xe s₁) X.xe s:=by
  refine cO (ha pins s σ H _ I h) fun v s1 ⟨x,H1,I1,r1,q1⟩=>?_
  refine cO (hb pins s1 σ H1 _ I1 q1) fun u s2 ⟨y,H2,I2,r2,q2⟩=>?_
  exact hf v u s2 x y H2 I2 r1 r2 q2
theorem lK {op:Operator} {r:R2} (ho:OpR X (binaryOp op) r) (ha:PE X a ta) (hb:PE X b tb):PE X (.BinOp a op b pos) (wT r ta tb):=by
  intro pins s σ H Q I h
  exact wpAny_BinOp (xS ha hb I h fun v u s2 x y H2 I2 rx ry q=>ho pins s2 σ H2 x y v u Q I2 rx ry q)
theorem zx {op:UnaryOp} {r:V→Hp→VK→Prop} (ho:BA X (unaryOp op) r) (ha:PE X a ta):PE X (.UnaryOp op a pos) (Cw r ta):=by
  intro pins s σ H Q I h
  exact UnaryOp_ (cO (ha pins s σ H _ I h) fun v s1 ⟨x,H1,I1,r1,q1⟩=>ho pins s1 σ H1 x v Q I1 r1 q1)
theorem AJ {f:Value→Value→Sem Value} {C:Int→Int→Prop} {g:Int→Int→Int}
    (rule:∀(i j:Int) (t u:Tok) (s:Shared) (Q:Value→Shared→Prop) (E:Value→Shared→Prop),C i j→Q (.int (g i j) s.toks) {s with toks:=s.toks+1}→wpAny (model X.prog X.w) X.A (f (.int i t) (.int j u)) Q E s):
    OpR X f (rI C fun i j=> .int (g i j)):=by
  intro pins s σ H x y v u Q I rx ry h
  obtain ⟨i,j,rfl,rfl,hc,q⟩:=h
  obtain ⟨t,rfl⟩:=rx
  obtain ⟨t',rfl⟩:=ry
  exact rule i j t t' s _ _ hc ⟨.int (g i j),H,I.tok _,⟨_,rfl⟩,q⟩
theorem zy {f:Value→Value→Sem Value} {g:Int→Int→Int}
    (rule:∀(i j:Int) (t u:Tok) (s:Shared) (Q:Value→Shared→Prop) (E:Value→Shared→Prop),Q (.int (g i j) s.toks) {s with toks:=s.toks+1}→wpAny (model X.prog X.w) X.A (f (.int i t) (.int j u)) Q E s):
    OpR X f (vy fun i j=> .int (g i j)):=by
  intro pins s σ H x y v u Q I rx ry h
  obtain ⟨i,j,rfl,rfl,q⟩:=h
  obtain ⟨t,rfl⟩:=rx
  obtain ⟨t',rfl⟩:=ry
  exact rule i j t t' s _ _ ⟨.int (g i j),H,I.tok _,⟨_,rfl⟩,q⟩
theorem vz {f:Value→Value→Sem Value} {g:Int→Int→Bool}
    (rule:∀(i j:Int) (t u:Tok) (s:Shared) (Q:Value→Shared→Prop) (E:Value→Shared→Prop),Q (.bool (g i j)) s→wpAny (model X.prog X.w) X.A (f (.int i t) (.int j u)) Q E s):
    OpR X f (vy fun i j=> .bl (g i j)):=by
  intro pins s σ H x y v u Q I rx ry h
  obtain ⟨i,j,rfl,rfl,q⟩:=h
  obtain ⟨t,rfl⟩:=rx
  obtain ⟨t',rfl⟩:=ry
  exact rule i j t t' s _ _ ⟨.bl (g i j),H,I,rfl,q⟩
def zz (i j:Int):Prop:=0≤j∧j≤1000000∧i.natAbs < 2 ^ 64
def CMul (i j:Int):Prop:=(-(2 ^ 64) < i∧i < 2 ^ 64)∨(-(2 ^ 64) < j∧j < 2 ^ 64)
theorem CMul.ok {i j:Int} (h:CMul i j):IntMulOk i j:=by
  rcases h with ⟨h1,h2⟩ | ⟨h1,h2⟩
  · exact .of_left (intBits_le_64 h1 h2)
  · exact .of_right (intBits_le_64 h1 h2)
theorem s_:OpR X (binaryOp .Add) (vy fun i j=> .int (i+j)):=zy fun _ _ _ _ _ _ _ q=>add_int q
theorem xT:OpR X (binaryOp .Sub) (vy fun i j=> .int (i - j)):=zy fun _ _ _ _ _ _ _ q=>sub_int q
theorem td:OpR X (binaryOp .Mod) (rI (fun _ j=>0 < j) fun i j=> .int (i % j)):=AJ fun i j _ _ _ _ _ hc q=>by
  have h1:(0:Int) < j:=hc
  exact mod_int' (by omega) (by rw [Int.fmod_eq_emod_of_nonneg i (by omega)];exact q)
theorem xU:OpR X (binaryOp .Pow) (rI zz fun i j=> .int (i ^ j.toNat)):=AJ fun _ _ _ _ _ _ _ hc q=>pow_int_small hc.1 hc.2.1 hc.2.2 q
theorem Cy {f:Value→Sem Value} {g:Int→Int}
    (rule:∀(i:Int) (t:Tok) (s:Shared) (Q:Value→Shared→Prop) (E:Value→Shared→Prop),Q (.int (g i) s.toks) {s with toks:=s.toks+1}→wpAny (model X.prog X.w) X.A (f (.int i t)) Q E s):
    BA X f (rU fun i=> .int (g i)):=by
  intro pins s σ H x v Q I rx h
  obtain ⟨i,rfl,q⟩:=h
  obtain ⟨t,rfl⟩:=rx
  exact rule i t s _ _ ⟨.int (g i),H,I.tok _,⟨_,rfl⟩,q⟩
theorem xV:BA X (unaryOp .USub) (rU fun i=> .int (-i)):=Cy fun _ _ _ _ _ q=>neg_int q
end
def xW:V→V→Bool
  | .non, .non=>true | .non, .int _=>true | .int _, .non=>true | .non, .bl _=>true | .bl _, .non=>true | .non, .str _=>true | .str _, .non=>true
  | .int _, .int _=>true | .bl _, .bl _=>true | .str _, .str _=>true | .byt _, .byt _=>true
  | .int _, .str _=>true | .str _, .int _=>true | .bl _, .str _=>true | .str _, .bl _=>true
  | _,_=>false
def B7:R2:=fun x y H Q=>xW x y=true∧Q (.bl (decide (x=y))) H
def B8:R2:=fun x y H Q=>xW x y=true∧Q (.bl (!decide (x=y))) H
theorem qk {i j:Int}:decide (V.int i=V.int j)=(i == j):=by
  rw [Bool.eq_iff_iff]
  simp
theorem tj {i j:Bool}:decide (V.bl i=V.bl j)=(i == j):=by
  rw [Bool.eq_iff_iff]
  simp
theorem ql {i j:Str}:decide (V.str i=V.str j)=(i == j):=by
  rw [Bool.eq_iff_iff]
  simp
theorem qm {i j:Array UInt8}:decide (V.byt i=V.byt j)=(i.toList == j.toList):=by
  rw [Bool.eq_iff_iff]
  cases i
  cases j
  simp
section
variable {X:Cx} {a b c:Expr} {ta tb tc:TE} {pos:Pos}
theorem bh {pins:List (Addr×Obj)} {σ:St} {H:Hp} {s:Shared} {Q:VK} {k k':Bool} (I:Inv X pins σ H s) (q:Q (.bl k) H) (e:k=k'):EP X pins σ Q (.bool k') s:=by
  subst e
  exact ⟨.bl k,H,I,rfl,q⟩
theorem wU:OpR X (compareOp .Eq) B7:=by
  intro pins s σ H x y v u Q I rx ry h
  obtain ⟨hs,q⟩:=h
  cases x with
  | non=>
    cases rx
    cases y with
    | non=>cases ry;exact PySem.EqNone.eq_none_none (bh I q (by simp))
    | bl j=>cases ry;exact PySem.EqNone.eq_none_bool (bh I q (by simp))
    | int j=>obtain ⟨t',rfl⟩:=ry;exact PySem.EqNone.eq_none_int (bh I q (by simp))
    | str j=>obtain ⟨t',rfl⟩:=ry;exact PySem.EqNone.eq_none_str (bh I q (by simp))
    | _=>exact absurd (show false=true from hs) Bool.false_ne_true
  | bl i=>
    cases rx
    cases y with
    | non=>cases ry;exact PySem.EqNone.eq_bool_none (bh I q (by simp))
    | bl j=>cases ry;exact eq_bool (bh I q tj)
    | str j=>obtain ⟨t',rfl⟩:=ry;exact PySem.EqMixed.eq_bool_str (bh I q (by simp))
    | _=>exact absurd (show false=true from hs) Bool.false_ne_true
  | int i=>
    obtain ⟨t,rfl⟩:=rx
    cases y with
    | non=>cases ry;exact PySem.EqNone.eq_int_none (bh I q (by simp))
    | int j=>obtain ⟨t',rfl⟩:=ry;exact eq_int (bh I q qk)
    | str j=>obtain ⟨t',rfl⟩:=ry;exact PySem.EqMixed.eq_int_str (bh I q (by simp))
    | _=>exact absurd (show false=true from hs) Bool.false_ne_true
  | str i=>
    obtain ⟨t,rfl⟩:=rx
    cases y with
    | non=>cases ry;exact PySem.EqNone.eq_str_none (bh I q (by simp))
    | bl j=>cases ry;exact PySem.EqMixed.eq_str_bool (bh I q (by simp))
    | int j=>obtain ⟨t',rfl⟩:=ry;exact PySem.EqMixed.eq_str_int (bh I q (by simp))
    | str j=>obtain ⟨t',rfl⟩:=ry;exact eq_str (bh I q ql)
    | _=>exact absurd (show false=true from hs) Bool.false_ne_true
  | byt i=>
    obtain ⟨t,rfl⟩:=rx
    cases y with
    | byt j=>obtain ⟨t',rfl⟩:=ry;exact PySem.W.eq_bytes (bh I q qm)
    | _=>exact absurd (show false=true from hs) Bool.false_ne_true
  | _=>cases y <;> exact absurd (show false=true from hs) Bool.false_ne_true
theorem wV:OpR X (compareOp .NotEq) B8:=by
  intro pins s σ H x y v u Q I rx ry h
  obtain ⟨hs,q⟩:=h
  cases x with
  | non=>
    cases rx
    cases y with
    | non=>cases ry;exact PySem.EqNone.ne_none_none (bh I q (by simp))
    | bl j=>cases ry;exact PySem.EqNone.ne_none_bool (bh I q (by simp))
    | int j=>obtain ⟨t',rfl⟩:=ry;exact PySem.EqNone.ne_none_int (bh I q (by simp))
    | str j=>obtain ⟨t',rfl⟩:=ry;exact PySem.EqNone.ne_none_str (bh I q (by simp))
    | _=>exact absurd (show false=true from hs) Bool.false_ne_true
  | bl i=>
    cases rx
    cases y with
    | non=>cases ry;exact PySem.EqNone.ne_bool_none (bh I q (by simp))
    | bl j=>cases ry;exact ne_bool (bh I q (congrArg not tj))
    | str j=>obtain ⟨t',rfl⟩:=ry;exact PySem.EqMixed.ne_bool_str (bh I q (by simp))
    | _=>exact absurd (show false=true from hs) Bool.false_ne_true
  | int i=>
    obtain ⟨t,rfl⟩:=rx
    cases y with
    | non=>cases ry;exact PySem.EqNone.ne_int_none (bh I q (by simp))
    | int j=>obtain ⟨t',rfl⟩:=ry;exact ne_int (bh I q (congrArg not qk))
    | str j=>obtain ⟨t',rfl⟩:=ry;exact PySem.EqMixed.ne_int_str (bh I q (by simp))
    | _=>exact absurd (show false=true from hs) Bool.false_ne_true
  | str i=>
    obtain ⟨t,rfl⟩:=rx
    cases y with
    | non=>cases ry;exact PySem.EqNone.ne_str_none (bh I q (by simp))
    | bl j=>cases ry;exact PySem.EqMixed.ne_str_bool (bh I q (by simp))
    | int j=>obtain ⟨t',rfl⟩:=ry;exact PySem.EqMixed.ne_str_int (bh I q (by simp))
    | str j=>obtain ⟨t',rfl⟩:=ry;exact ne_str (bh I q (congrArg not ql))
    | _=>exact absurd (show false=true from hs) Bool.false_ne_true
  | byt i=>
    obtain ⟨t,rfl⟩:=rx
    cases y with
    | byt j=>obtain ⟨t',rfl⟩:=ry;exact PySem.W.ne_bytes (bh I q (congrArg not qm))
    | _=>exact absurd (show false=true from hs) Bool.false_ne_true
  | _=>cases y <;> exact absurd (show false=true from hs) Bool.false_ne_true
theorem zA:OpR X (compareOp .Lt) (vy fun i j=> .bl (decide (i < j))):=vz fun _ _ _ _ _ _ _ q=>lt_int q
theorem zB:OpR X (compareOp .LtE) (vy fun i j=> .bl (decide (i≤j))):=vz fun _ _ _ _ _ _ _ q=>le_int q
theorem zC:OpR X (compareOp .Gt) (vy fun i j=> .bl (decide (j < i))):=vz fun _ _ _ _ _ _ _ q=>gt_int q
theorem zD:OpR X (compareOp .GtE) (vy fun i j=> .bl (decide (j≤i))):=vz fun _ _ _ _ _ _ _ q=>ge_int q
theorem rC:OpR X (compareOp .Lt) (fun x y H Q=>∃i j,x= .str i∧y= .str j∧Q (.bl (decide (i.cps.toList < j.cps.toList))) H):=by
  intro pins s σ H x y v u Q I rx ry h
  obtain ⟨i,j,rfl,rfl,q⟩:=h
  obtain ⟨t,rfl⟩:=rx
  obtain ⟨t',rfl⟩:=ry
  exact lt_str (bh I q rfl)
theorem OpR.or {f:Value→Value→Sem Value} {r r':R2} (h:OpR X f r) (h':OpR X f r'):OpR X f (fun x y H Q=>r x y H Q∨r' x y H Q):=by
  intro pins s σ H x y v u Q I rx ry q
  rcases q with q | q
  · exact h pins s σ H x y v u Q I rx ry q
  · exact h' pins s σ H x y v u Q I rx ry q
theorem jU (b:Expr) {op:CmpOp} (h:op≠ .In:=by decide) (h2:op≠ .NotIn:=by decide):behindInMarks op b=false:=by
  have e1:(op == CmpOp.In)=false:=by cases op <;> first | rfl | exact absurd rfl h
  have e2:(op == CmpOp.NotIn)=false:=by cases op <;> first | rfl | exact absurd rfl h2
  cases b <;> simp [behindInMarks,e1,e2]
theorem vA {op:CmpOp} {r:R2} (ho:OpR X (compareOp op) r) (ha:PE X a ta) (hb:PE X b tb) (hm:behindInMarks op b=false):PE X (.Compare a [op] [b] pos) (wT r ta tb):=by
  intro pins s σ H Q I h
  exact wpAny_Compare1 (xS ha hb I h fun v u s2 x y H2 I2 rx ry q=>ho pins s2 σ H2 x y v u Q I2 rx ry q) hm
def wW (t:TE):TT:=fun σ H Q=>t σ H fun x H'=>∃k,x= .bl k∧Q k H'
theorem vB {op:CmpOp} {r:R2} (ho:OpR X (compareOp op) r) (ha:PE X a ta) (hb:PE X b tb) (hm:behindInMarks op b=false):PT X (.Compare a [op] [b] pos) (wW (wT r ta tb)):=by
  intro pins s σ H Q I h
  refine wpAny_isTrue_Compare1 (cO (ha pins s σ H _ I h) fun v s1 ⟨x,H1,I1,r1,q1⟩=>cO (hb pins s1 σ H1 _ I1 q1) fun u s2 ⟨y,H2,I2,r2,q2⟩=>
    cO (ho pins s2 σ H2 x y v u _ I2 r1 r2 q2) fun c s3 ⟨z,H3,I3,r3,k,e,q3⟩=>?_) hm
  subst e
  cases r3
  exact wpAny_truthy_bool ⟨H3,I3,q3⟩
def o8 (r r':R2) (ta tb tc:TE):TE:=fun σ H Q=>ta σ H fun x H1=>tb σ H1 fun y H2=>r x y H2 fun z H3=>∃k,z= .bl k∧
  (if k=true then tc σ H3 fun w' H4=>r' y w' H4 Q else Q (.bl false) H3)
theorem tm {op op':CmpOp} {r r':R2} (ho:OpR X (compareOp op) r) (ho':OpR X (compareOp op') r') (ha:PE X a ta) (hb:PE X b tb) (hc:PE X c tc)
    (hm:lastMarks [op,op'] [b,c]=false:=by with_unfolding_all rfl):PE X (.Compare a [op,op'] [b,c] pos) (o8 r r' ta tb tc):=by
  intro pins s σ H Q I h
  refine Compare_chain (cO (ha pins s σ H _ I h) fun v s1 ⟨x,H1,I1,r1,q1⟩=>chain_link (cO (hb pins s1 σ H1 _ I1 q1) fun u s2 ⟨y,H2,I2,r2,q2⟩=>
    cO (ho pins s2 σ H2 x y v u _ I2 r1 r2 q2) fun d s3 ⟨z,H3,I3,r3,k,e,q3⟩=>?_)) hm
  subst e
  cases r3
  refine wpAny_truthy_bool ?_
  cases k with
  | false=>exact ite_ff ⟨.bl false,H3,I3,rfl,q3⟩
  | true=>exact ite_tt (chain_last (cO (hc pins s3 σ H3 _ I3 q3) fun w' s4 ⟨z',H4,I4,r4,q4⟩=>ho' pins s4 σ H4 y z' u w' Q I4 r2 r4 q4))
theorem tp {op op':CmpOp} {r r':R2} (ho:OpR X (compareOp op) r) (ho':OpR X (compareOp op') r') (ha:PE X a ta) (hb:PE X b tb) (hc:PE X c tc)
    (hm:lastMarks [op,op'] [b,c]=false:=by with_unfolding_all rfl):PT X (.Compare a [op,op'] [b,c] pos) (wW (o8 r r' ta tb tc)):=by
  intro pins s σ H Q I h
  refine isTrue_chain (cO (ha pins s σ H _ I h) fun v s1 ⟨x,H1,I1,r1,q1⟩=>test_link (cO (hb pins s1 σ H1 _ I1 q1) fun u s2 ⟨y,H2,I2,r2,q2⟩=>
    cO (ho pins s2 σ H2 x y v u _ I2 r1 r2 q2) fun d s3 ⟨z,H3,I3,r3,k,e,q3⟩=>?_)) hm
  subst e
  cases r3
  refine wpAny_truthy_bool ?_
  cases k with
  | false=>
    obtain ⟨k',e',q'⟩:=q3
    cases e'
    exact ite_ff ⟨H3,I3,q'⟩
  | true=>
    refine ite_tt (test_last (cO (hc pins s3 σ H3 _ I3 q3) fun w' s4 ⟨z',H4,I4,r4,q4⟩=>cO (ho' pins s4 σ H4 y z' u w' _ I4 r2 r4 q4) fun d' s5 ⟨z2,H5,I5,r5,k2,e2,q5⟩=>?_))
    subst e2
    cases r5
    exact wpAny_truthy_bool ⟨H5,I5,q5⟩
def tz (K:PySem.W.Frag) (x:V) (H:Hp) (k:Bool):Prop:=
  match x with
  | .non=>k=false
  | .bl b=>k=b
  | .int i=>k=(i != 0)
  | .str y=>y.length≤sizeLine∧k=((y.length:Int) != 0)
  | .byt y=>y.size≤sizeLine∧k=((y.size:Int) != 0)
  | .ref p=>(∃xs,SqL K H p xs∧k= !xs.isEmpty)∨(∃xs,SqT K H p xs∧k= !xs.isEmpty)∨∃kvs,H p=some (.dK kvs)∧k= !kvs.isEmpty
  | _=>False
theorem o_ {κ:Type} {kvs:List (κ×V)} {vs:List (κ×Value)} (r:KV kvs vs):(!vs.isEmpty)= !kvs.isEmpty:=by
  cases r <;> rfl
theorem jV {xs:List V} {its:List Value} (r:Vals xs its):(!its.toArray.isEmpty)= !xs.isEmpty:=by
  cases r <;> simp
theorem iC:(sizeLine:Nat) < 2 ^ 63:=by rw [sizeLine_eq];decide
theorem xX:BB X (fun x H Q=>∃k,tz X.K x H k∧Q k H):=by
  intro pins s σ H x v Q I rx h
  obtain ⟨k,e,q⟩:=h
  have hl:=iC
  have hs:sizeLine=16777216:=sizeLine_eq
  cases x with
  | non=>
    cases rx
    have e':k=false:=e
    subst e'
    exact truthy_none ⟨H,I,q⟩
  | bl b=>
    cases rx
    have e':k=b:=e
    subst e'
    exact wpAny_truthy_bool ⟨H,I,q⟩
  | int i=>
    obtain ⟨t,rfl⟩:=rx
    have e':k=(i != 0):=e
    subst e'
    exact PySem.P.truthy_int ⟨H,I,q⟩
  | str y=>
    obtain ⟨t,rfl⟩:=rx
    obtain ⟨hy,e'⟩:y.length≤sizeLine∧k=((y.length:Int) != 0):=e
    subst e'
    exact PySem.P.truthy_str (by omega) ⟨H,I.tok _,q⟩
  | byt y=>
    obtain ⟨t,rfl⟩:=rx
    obtain ⟨hy,e'⟩:y.size≤sizeLine∧k=((y.size:Int) != 0):=e
    subst e'
    exact PySem.W.truthy_bytes (by omega) ⟨H,I.tok _,q⟩
  | ref p=>
    cases rx
    have e':(∃xs,SqL X.K H p xs∧k= !xs.isEmpty)∨(∃xs,SqT X.K H p xs∧k= !xs.isEmpty)∨∃kvs,H p=some (.dK kvs)∧k= !kvs.isEmpty:=e
    rcases e' with ⟨xs,hx,e'⟩ | ⟨xs,hx,e'⟩ | ⟨kvs,hx,e'⟩
    · subst e'
      obtain ⟨its,r,pl,hz⟩:=I.list hx
      have hlen:=r.length
      exact wpAny_truthy_list pl.isList (by simp only [List.size_toArray];omega) ⟨H,I.tok _,by rw [jV r];exact q⟩
    · subst e'
      obtain ⟨its,r,pl,hz⟩:=I.tuple hx
      have hlen:=r.length
      exact truthy_tuple pl (by simp only [List.size_toArray];omega) ⟨H,I.tok _,by rw [jV r];exact q⟩
    · subst e'
      obtain ⟨hz,hS,vs,r,m⟩:kvs.length≤sizeLine∧(p == sysModules)=false∧∃vs,KV kvs vs∧s.heap.DictOf (jK X.prog X.w) p vs:=I.hok p _ hx
      have hlen:kvs.length=vs.length:=Paired.length r
      exact wpAny_truthy_dict hS m (by omega) ⟨H,I.tok _,by rw [o_ r];exact q⟩
  | _=>exact (show False from e).elim
theorem tB (ha:PE X a ta) (he:∀whole,isTrue a X.env whole=(do let v ←whole;standAt a.pos;holding [v] (truthy v))):
    PT X a (fun σ H Q=>ta σ H fun x H'=>∃k,tz X.K x H' k∧Q k H'):=by
  intro pins s σ H Q I h
  exact isTrue_plain (cO (ha pins s σ H _ I h) fun v s1 ⟨x,H1,I1,r1,q1⟩=>xX pins s1 σ H1 x v Q I1 r1 q1) (he _)
theorem pb:OpR X (binaryOp .Add) (fun x y H Q=>∃i j,x= .str i∧y= .str j∧i.length+j.length≤sizeLine∧Q (.str (i++j)) H):=by
  intro pins s σ H x y v u Q I rx ry h
  obtain ⟨i,j,rfl,rfl,hz,q⟩:=h
  obtain ⟨t,rfl⟩:=rx
  obtain ⟨t',rfl⟩:=ry
  exact add_str (fun t' tk=>⟨.str (i++j),H,I.tok _,⟨_,rfl⟩,q⟩) hz
theorem jW {x:V} {us:List Value} (r:Vals [x] us):∃u,us=[u]∧RelV x u:=by
  cases r with
  | cons r1 r2=>cases r2;exact ⟨_,rfl,r1⟩
theorem nT:CallR X (.builtin "abs") (fun xs H Q=>∃i,xs=[.int i]∧Q (.int (if i < 0 then -i else i)) H):=by
  intro pins s σ H xs us Q I r h
  obtain ⟨i,rfl,q⟩:=h
  obtain ⟨u,rfl,t,rfl⟩:=jW r
  exact call_abs_int fun u tk=>⟨.int (if i < 0 then -i else i),H,I.tok _,⟨_,rfl⟩,q⟩
theorem rD:CallR X (.type "int") (fun xs H Q=>(∃i,xs=[.int i]∧Q (.int i) H)∨∃k,xs=[.bl k]∧Q (.int (if k then 1 else 0)) H):=by
  intro pins s σ H xs us Q I r h
  rcases h with ⟨i,rfl,q⟩ | ⟨k,rfl,q⟩
  · obtain ⟨u,rfl,t,rfl⟩:=jW r
    exact call_int_int ⟨.int i,H,I,⟨_,rfl⟩,q⟩
  · obtain ⟨u,rfl,r1⟩:=jW r
    cases r1
    exact call_int_bool ⟨.int (if k then 1 else 0),H,I.tok _,⟨_,rfl⟩,q⟩
end
end L2
namespace L2
open PySem PySem.Spec PyProof.Rows
structure ObjM (h:Heap) (x dx C:Addr) (mA:Str→Option Value):Prop where
  obj:h.get? x=some (PySem.W.instObj C dx)
  ns:h.Ns1 dx mA
  ne:dx≠x
theorem rE {h:Heap} {dx:Addr} {mA:Str→Option Value} (n:h.Ns1 dx mA):∃od,h.get? dx=some od∧∀name,PySem.W.lookIn name od=some (mA name):=by
  obtain ⟨o,es,ep,ho,hd,hk,_,hm⟩:=n
  refine ⟨o,ho,fun name=>?_⟩
  have e:=hm name
  unfold nsFind findBy at e
  rw [←Array.find?_toList] at e
  unfold PySem.W.lookIn
  rw [hd]
  dsimp only
  split
  · rename_i y q
    rw [q] at e
    exact congrArg some e
  · rename_i q
    rw [q] at e
    have a:es.toList.any (·.refKey)=false:=by
      rw [List.any_eq_false]
      intro y hy
      obtain ⟨z,t,hkey⟩:=hk y (Array.mem_toList_iff.mp hy)
      simp [DictEntry.refKey,hkey]
    have a':¬es.toList.any (·.refKey)=true:=by rw [a];exact Bool.false_ne_true
    rw [if_neg a']
    exact congrArg some e
theorem ObjM.look {h:Heap} {x dx C:Addr} {mA:Str→Option Value} (I:ObjM h x dx C mA):∃od,PySem.W.InstAt h x (PySem.W.instObj C dx) C (some od)∧∀name,PySem.W.lookIn name od=some (mA name):=
  let ⟨od,ho,hl⟩:=rE I.ns
  ⟨od,⟨I.obj,rfl,rfl,ho⟩,hl⟩
section
variable {prog:Program} {w:World} {A:Around} {E:Value→Shared→Prop} {s:Shared} {K:PySem.W.Frag} {x dx C f:Addr} {mA:Str→Option Value} {name:Str} {v:Value}
theorem vC {expr:Bool} {Q:Value→Shared→Prop} (X:K.In s.heap) (I:ObjM s.heap x dx C mA) (hg:PySem.W.plainGet K C name=true) (hh:PySem.W.hasDictIn K C=true)
    (ha:PySem.W.findIn K (.ref C) name=some none) (hv:mA name=some v) (hv':PySem.W.handedIn v=true) (h:Q v {s with toks:=s.toks+1}):
    wpAny (model prog w) A (getAttr (.ref x) name expr) Q E s:=by
  obtain ⟨od,J,hl⟩:=I.look
  exact PySem.W.get_value X J (PySem.W.plainGet_of hg).1 (PySem.W.findObj_own hh ha rfl (by rw [hl,hv])) hv' h
theorem tD {pl:Sem Bool} {Q:Value×List Value→Shared→Prop} (X:K.In s.heap) (I:ObjM s.heap x dx C mA) (hg:PySem.W.plainGet K C name=true)
    (hf:PySem.W.findIn K (.ref C) name=some (some (.ref f))) (ht:PySem.W.isFn K (.ref f)=true) (hv:mA name=none) (h:Q (.ref f,[.ref x]) s):
    wpAny (model prog w) A (getMethod (.ref x) name pl) Q E s:=by
  obtain ⟨od,J,hl⟩:=I.look
  exact PySem.W.method_fn X J (PySem.W.plainGet_of hg).1 (PySem.W.plainGet_of hg).2 hf (beq_iff_eq.mp ht) (by show (PySem.W.lookIn name od).map (·.isSome)=some false;rw [hl,hv];rfl) h
theorem vD {ns:List Str} {Q:Unit→Shared→Prop} (X:K.In s.heap) (I:ObjM s.heap x dx C mA)
    (hs:PySem.W.findIn K (.ref C) "__setattr__"=some (some (.builtin "object.__setattr__"))) (hp:PySem.W.plainOver K C=true) (ht:PySem.W.takerIn K C name=some none) (hh:PySem.W.hasDictIn K C=true)
    (hw:PySem.Within mA ns) (hsz:ns.length≤sizeLine)
    (h:∀h',ObjM h' x dx C (fun y=>if y=name then some v else mA y)→Heap.SameBut dx s.heap h'→Q () {s with heap:=h',toks:=s.toks+2}):
    wpAny (model prog w) A (setAttr (.ref x) name v) Q E s:=by
  obtain ⟨od,J,hl⟩:=I.look
  refine PySem.W.set_plain X J hs (PySem.W.osa_open (s:={s with toks:=s.toks+1}) (r:=none) X J hp ht fun b=>?_)
  obtain ⟨cd,hc,hd'⟩:=PySem.W.any_some hh
  have hx:s.heap.get? x=some ⟨.ref C,some dx, .plain,#[]⟩:=I.obj
  refine wpAny_bind (wpAny_pure (wpAny_bind (wpAny_bind (wpAny_loadPart hx (wpAny_bind (PySem.W.Looks.here (s:={s with toks:=s.toks+1}) (PySem.W.looks_clsIn X hc) ?_))))))
  rw [hd']
  refine wpAny_pure (a:=some dx) (wpAny_bind (wpAny_pure (wpAny_bind ?_)))
  refine wpAny_nsSet1 (s:={s with toks:=s.toks+1}) I.ns fun h' hn2 hs2=>?_
  obtain ⟨oD,esD,epD,hoD,hdD,hcD⟩:=hn2.count (PySem.Within.cons name v hw)
  refine wpAny_bind (wpAny_lookBehind hoD (by rw [hdD];exact pastItsLine_dict (Nat.le_trans hcD (by rw [List.length_cons];omega))) ?_)
  exact wpAny_pure (h _ ⟨(hs2.2 _ (Ne.symm I.ne)).trans I.obj,hn2,I.ne⟩ hs2)
theorem tE {R:Result→Shared→Prop} {vs:List Value} {kw:List (Str×Value)} (X:K.In s.heap) (hm:PySem.W.makesIn K C=true)
    (hi:PySem.W.findIn K (.ref C) "__init__"=some (some (.ref f))) (hf:PySem.W.typeIn K (.ref f)=some (.type "function"))
    (h:codeAny (model prog w) (A.under (.builtin "type.__call__" ⟨.ref C::vs,kw⟩)) (.call (.ref f) ⟨.ref (s.heap.objs.size+1)::vs,kw⟩) (PySem.W.InitBack (s.heap.objs.size+1) R)
      {s with heap:=(s.heap.push PySem.W.emptyDict).push (PySem.W.instObj C s.heap.objs.size)}):
    codeAny (model prog w) A (.call (.ref C) ⟨vs,kw⟩) R s:=by
  obtain ⟨hh,g,d,t,os⟩:=s
  exact PySem.W.make_core (PySem.W.makes_of X hm) (PySem.W.looks_findIn X hi) (fun self=>PySem.W.bind_fn X self hf) (.inl rfl) h
end
def b8 (f:Str) (v:V):List (Str×V)→List (Str×V)
  | []=>[(f,v)]
  | (g,x)::r=>if g=f then (g,v)::r else (g,x)::b8 f v r
theorem aD (f g:Str) (v:V):∀fs:List (Str×V),(b8 f v fs).lookup g=if g=f then some v else fs.lookup g
  | []=>by
    show List.lookup g [(f,v)]=_
    by_cases h:g=f
    · have hb:(g == f)=true:=beq_iff_eq.mpr h
      simp only [List.lookup,hb,if_pos h]
    · have hb:(g == f)=false:=beq_eq_false_iff_ne.mpr h
      simp only [List.lookup,hb,if_neg h]
  | (k,x)::r=>by
    have ih:=aD f g v r
    rw [show b8 f v ((k,x)::r)=(if k=f then (k,v)::r else (k,x)::b8 f v r) from rfl]
    by_cases hk:k=f
    · rw [if_pos hk]
      by_cases h:g=k
      · have hb:(g == k)=true:=beq_iff_eq.mpr h
        simp only [List.lookup,hb,if_pos (h.trans hk)]
      · have hb:(g == k)=false:=beq_eq_false_iff_ne.mpr h
        simp only [List.lookup,hb,if_neg (fun e:g=f=>h (e.trans hk.symm))]
    · rw [if_neg hk]
      by_cases h:g=k
      · have hb:(g == k)=true:=beq_iff_eq.mpr h
        simp only [List.lookup,hb,if_neg (fun e:g=f=>hk (h.symm.trans e))]
      · have hb:(g == k)=false:=beq_eq_false_iff_ne.mpr h
        simp only [List.lookup,hb]
        exact ih
theorem ja (f:Str) (v:V):∀fs:List (Str×V),f∈(b8 f v fs).map (·.1)∧∀g,g∈fs.map (·.1)→g∈(b8 f v fs).map (·.1)
  | []=>⟨by simp [b8],fun g h=>by simp at h⟩
  | (k,x)::r=>by
    obtain ⟨i1,i2⟩:=ja f v r
    rw [show b8 f v ((k,x)::r)=(if k=f then (k,v)::r else (k,x)::b8 f v r) from rfl]
    by_cases hk:k=f
    · rw [if_pos hk]
      subst hk
      exact ⟨by simp,fun g h=>by simpa using h⟩
    · rw [if_neg hk]
      refine ⟨?_,fun g h=>?_⟩
      · rw [List.map_cons]
        exact List.mem_cons_of_mem _ i1
      · rw [List.map_cons] at h ⊢
        rcases List.mem_cons.mp h with e | e
        · exact List.mem_cons.mpr (.inl e)
        · exact List.mem_cons_of_mem _ (i2 g e)
theorem g9 (f:Str) (v:V):∀fs:List (Str×V),(b8 f v fs).length≤fs.length+1
  | []=>by simp [b8]
  | (k,x)::r=>by
    have ih:=g9 f v r
    rw [show b8 f v ((k,x)::r)=(if k=f then (k,v)::r else (k,x)::b8 f v r) from rfl]
    by_cases hk:k=f
    · rw [if_pos hk,List.length_cons,List.length_cons];omega
    · rw [if_neg hk,List.length_cons,List.length_cons];omega
theorem RelO.some_of {v:V} {o:Option Value} (r:RelO (some v) o):∃u,o=some u∧RelV v u:=by
  cases o with
  | none=>exact (show False from r).elim
  | some u=>exact ⟨u,rfl,r⟩
theorem RelO.none_of {o:Option Value} (r:RelO none o):o=none:=by
  cases o with
  | none=>rfl
  | some u=>exact (show False from r).elim
theorem rG {v:V} {u:Value} (r:RelV v u):PySem.W.handedIn u=true:=by
  cases v with
  | non=>cases (show u=Value.none from r);rfl
  | bl b=>cases (show u=Value.bool b from r);rfl
  | int i=>obtain ⟨t,e⟩:=(show ∃t,u=Value.int i t from r);cases e;rfl
  | str x=>obtain ⟨t,e⟩:=(show ∃t,u=Value.str x t from r);cases e;rfl
  | byt b=>obtain ⟨t,e⟩:=(show ∃t,u=Value.bytes b t from r);cases e;rfl
  | flt b=>obtain ⟨t,e⟩:=(show ∃t,u=Value.float b t from r);cases e;rfl
  | ref a=>cases (show u=Value.ref a from r);rfl
  | ty n=>cases (show u=Value.type n from r);rfl
section
variable {P:Program} {w:World} {H H':Hp} {h h':Heap} {a C dx:Addr} {fs fs':List (Str×V)}
theorem iP (hok:HOk P w H h) (e:H a=some (.ins C dx fs)):∃mA,ObjM h a dx C mA∧(∀f,RelO (fs.lookup f) (mA f))∧PySem.Within mA (fs.map (·.1))∧fs.length≤1000∧H dx=some (.own a):=by
  obtain ⟨d,z,ne,ob,mA,n,r,q⟩:=(show ObjOk P w H h a (.ins C dx fs) from hok a _ e)
  exact ⟨mA,⟨ob,n,ne⟩,r,q,z,d⟩
end
structure Cls (K:PySem.W.Frag) (C:Addr):Prop where
  pg:PySem.W.plainGet K C Str.empty=true
  hd:PySem.W.hasDictIn K C=true
  po:PySem.W.plainOver K C=true
  sa:PySem.W.findIn K (.ref C) "__setattr__"=some (some (.builtin "object.__setattr__"))
theorem Cls.get {K:PySem.W.Frag} {C:Addr} (c:Cls K C) (f:Str):PySem.W.plainGet K C f=true:=c.pg
def NoAttr (K:PySem.W.Frag) (C:Addr) (f:Str):Prop:=PySem.W.findIn K (.ref C) f=some none
theorem NoAttr.taker {K:PySem.W.Frag} {C:Addr} {f:Str} (n:NoAttr K C f):PySem.W.takerIn K C f=some none:=by
  unfold PySem.W.takerIn
  rw [show PySem.W.findIn K (.ref C) f=some none from n]
  rfl
structure Meth (K:PySem.W.Frag) (C:Addr) (m:Str) (f:Addr):Prop where
  at_:PySem.W.findIn K (.ref C) m=some (some (.ref f))
  fn:PySem.W.isFn K (.ref f)=true
  kp:PySem.W.keepIn K (.ref f)=true
section
variable {X:Cx} {pins:List (Addr×Obj)} {σ:St} {H:Hp} {s:Shared} {a C dx:Addr} {fs:List (Str×V)} {f:Str} {v:V} {A:Around} {E:Value→Shared→Prop}
theorem pc {b:Bool} {Q:Value→Shared→Prop} (I:Inv X pins σ H s) (e:H a=some (.ins C dx fs)) (c:Cls X.K C) (n:NoAttr X.K C f) (l:fs.lookup f=some v)
    (h:∀u s',Inv X pins σ H s'→RelV v u→Q u s'):wpAny (model X.prog X.w) A (getAttr (.ref a) f b) Q E s:=by
  obtain ⟨mA,O,r,_,_,_⟩:=iP I.hok e
  obtain ⟨u,hu,ru⟩:=RelO.some_of (v:=v) (o:=mA f) (by rw [←l];exact r f)
  exact vC I.kIn O (c.get f) c.hd n hu (rG ru) (h u _ (I.tok _) ru)
theorem jX {m:Str} {g:Addr} {pl:Sem Bool} {Q:Value×List Value→Shared→Prop} (I:Inv X pins σ H s) (e:H a=some (.ins C dx fs)) (c:Cls X.K C) (k:Meth X.K C m g) (l:fs.lookup m=none)
    (h:Q (.ref g,[.ref a]) s):wpAny (model X.prog X.w) A (getMethod (.ref a) m pl) Q E s:=by
  obtain ⟨mA,O,r,_,_,_⟩:=iP I.hok e
  have hn:mA m=none:=RelO.none_of (by rw [←l];exact r m)
  exact tD I.kIn O (c.get m) k.at_ k.fn hn h
theorem pd {y:V} {u:Value} {Q:Unit→Shared→Prop} (I:Inv X pins σ H s) (e:H a=some (.ins C dx fs)) (c:Cls X.K C) (n:NoAttr X.K C f) (hl:fs.length < 1000) (ry:RelV y u)
    (h:∀s',Inv X pins σ (upd H a (.ins C dx (b8 f y fs))) s'→Q () s'):wpAny (model X.prog X.w) A (setAttr (.ref a) f u) Q E s:=by
  obtain ⟨mA,O,r,wi,_,ho⟩:=iP I.hok e
  have hz:(fs.map (·.1)).length≤sizeLine:=by rw [List.length_map,sizeLine_eq];omega
  refine vD I.kIn O c.sa c.po n.taker c.hd wi hz fun h' O' sb=>h _ ?_
  have hd:∃o,h'.get? dx=some o:=let ⟨o,_,_,e',_⟩:=O'.ns;⟨o,e'⟩
  refine I.write (x:=a) (e:=dx) (by rw [e];exact True.intro) (.inr ho) (fun b q hb z=>(sb.2 b hb).trans z) hd ?_
  refine ⟨by rw [ay O.ne];exact ho,?_,O.ne,O'.obj,_,O'.ns,fun g=>?_,fun g hg=>?_⟩
  · have:=g9 f y fs;omega
  · show RelO ((b8 f y fs).lookup g) (if g=f then some u else mA g)
    rw [aD]
    by_cases q:g=f
    · rw [if_pos q,if_pos q];exact ry
    · rw [if_neg q,if_neg q];exact r g
  · by_cases q:g=f
    · rw [q];exact (ja f y fs).1
    · refine (ja f y fs).2 g (wi g fun z=>hg ?_)
      show (if g=f then some u else mA g)=none
      rw [if_neg q];exact z
theorem Inv.made (I:Inv X pins σ H s):Inv X pins σ (upd (upd H s.heap.objs.size (.own (s.heap.objs.size+1))) (s.heap.objs.size+1) (.ins C s.heap.objs.size []))
    {s with heap:=(s.heap.push PySem.W.emptyDict).push (PySem.W.instObj C s.heap.objs.size)}:=by
  have e1:(s.heap.push PySem.W.emptyDict).get? s.heap.objs.size=some PySem.W.emptyDict:=Heap.get?_push_size s.heap rfl
  have e2:((s.heap.push PySem.W.emptyDict).push (PySem.W.instObj C s.heap.objs.size)).get? (s.heap.objs.size+1)=some (PySem.W.instObj C s.heap.objs.size):=by
    have:=Heap.get?_push_size (s.heap.push PySem.W.emptyDict) (o:=PySem.W.instObj C s.heap.objs.size) rfl
    rwa [Heap.size_push] at this
  have e3:(s.heap.push PySem.W.emptyDict).Ns s.heap.objs.size (fun _=>none):=⟨PySem.W.emptyDict,#[],_,e1,rfl,(fun e he=>absurd he (by simp)),fun _=>rfl⟩
  have I1:=I.laid (a:=s.heap.objs.size) (o:= .own (s.heap.objs.size+1)) (h':=s.heap.push PySem.W.emptyDict) (t':=s.toks) (fun b u q=>Heap.get?_push_of_some _ q) (Nat.le_refl _) ⟨_,e1⟩
  refine I1.laid (a:=s.heap.objs.size+1) (o:= .ins C s.heap.objs.size []) (t':=s.toks) (fun b u q=>Heap.get?_push_of_some _ q) (Nat.le_of_eq (Heap.size_push _ _)) ?_
  have ne:s.heap.objs.size≠s.heap.objs.size+1:=Nat.ne_of_lt (Nat.lt_succ_self _)
  refine ⟨by rw [ay ne,aJ],Nat.zero_le _,ne,e2,fun _=>none,(Heap.Ns1.of_empty e3).at fun o q=>Heap.get?_push_of_some _ q,fun _=>True.intro,fun y hy=>absurd rfl hy⟩
theorem vE {prog:Program} {w:World} {env:Env} {e:Expr} {f:Str} {pos:Pos} {s:Shared} {Q:Value→Shared→Prop} (hb:attributeBase e f env (eval e env)=eval e env)
    (h:wpAny (model prog w) A (eval e env) (fun o s₁=>wpAny (model prog w) A (getAttr o f true) Q E s₁) E s):wpAny (model prog w) A (eval (.Attribute e f pos) env) Q E s:=
  Attribute_any_ h (by rw [arm_eval_Attribute,hb])
end
def BC (K:PySem.W.Frag) (ta:TE) (f:Str):TE:=fun σ H Q=>ta σ H fun x H1=>∃a C dx fs v,x= .ref a∧H1 a=some (.ins C dx fs)∧Cls K C∧NoAttr K C f∧fs.lookup f=some v∧Q v H1
def jb (K:PySem.W.Frag) (ta tv:TE) (f:Str):TS:=fun D σ H=>tv σ H fun y H1=>ta σ H1 fun x H2=>∃a C dx fs,x= .ref a∧H2 a=some (.ins C dx fs)∧Cls K C∧NoAttr K C f∧fs.length < 1000∧
  D.nx σ (upd H2 a (.ins C dx (b8 f y fs)))
section
variable {X:Cx} {o e value:Expr} {f:Str} {pos pos' tpos:Pos} {ta tv:TE}
theorem xY (he:PE X e ta) (hb:attributeBase e f X.env (eval e X.env)=eval e X.env):PE X (.Attribute e f pos) (BC X.K ta f):=by
  intro pins s σ H Q I h
  refine vE hb (cO (he pins s σ H _ I h) fun u s1 ⟨x,H1,I1,rx,a,C,dx,fs,v,ex,ea,c,n,l,q⟩=>?_)
  subst ex
  obtain rfl:u=Value.ref a:=rx
  exact pc I1 ea c n l fun u' s2 I2 ru=>⟨v,H1,I2,ru,q⟩
theorem eQ (ha:PE X o ta) (hv:PE X value tv) (hs:swapsWith value (some (.Attribute o f pos')) pos.line X.env=pure false):PS X (.Assign [.Attribute o f pos'] value pos) (jb X.K ta tv f):=by
  intro pins s σ H D I h
  refine plainObj_wpAny_Assign_Attribute (cO (hv pins s σ H _ I h) fun u s1 ⟨y,H1,I1,ry,q⟩=>cO (ha pins s1 σ H1 _ I1 q) fun ov s2 ⟨x,H2,I2,rx,a,C,dx,fs,ex,ea,c,n,l,q2⟩=>?_) hs
  subst ex
  obtain rfl:ov=Value.ref a:=rx
  exact pd I2 ea c n l ry fun s3 I3=>⟨σ,_,I3,q2⟩
end
section
variable {X:Cx} {pins:List (Addr×Obj)} {σ:St} {H:Hp} {s:Shared} {A:Around} {E:Value→Shared→Prop} {Q:Value→Shared→Prop} {c:Value} {b:Bool}
inductive TyOf (K:PySem.W.Frag) (H:Hp):V→Value→Prop where
  | non:TyOf K H .non (.type "NoneType")
  | bl (x:Bool):TyOf K H (.bl x) (.type "bool")
  | int (i:Int):TyOf K H (.int i) (.type "int")
  | str (x:Str):TyOf K H (.str x) (.type "str")
  | flt (x:UInt64):TyOf K H (.flt x) (.type "float")
  | lst {a:Addr} {xs:List V} (e:H a=some (.lst xs)):TyOf K H (.ref a) (.type "list")
  | frz {a:Addr} {o:Obj} {xs:List V} (e:H a=some (.frz o (.lst xs))):TyOf K H (.ref a) (.type "list")
  | tup {a:Addr} {xs:List V} (e:H a=some (.tup xs)):TyOf K H (.ref a) (.type "tuple")
  | dK {a:Addr} {kvs:List (eh×V)} (e:H a=some (.dK kvs)):TyOf K H (.ref a) (.type "dict")
  | dT {a:Addr} {kvs:List (List eh×V)} (e:H a=some (.dT kvs)):TyOf K H (.ref a) (.type "dict")
  | ins {a C dx:Addr} {fs:List (Str×V)} (e:H a=some (.ins C dx fs)) (cl:Cls K C) (ha:PySem.W.findIn K (.ref C) "__class__"=some (some (.builtin "object.__class__")))
      (hn:PySem.W.specialIn K (.builtin "object.__class__") "__get__"=some (some (.builtin "getset_descriptor.__get__"))) (htk:PySem.W.takesIn K (.builtin "object.__class__")=some true)
      (hm:PySem.W.mroIn K C (.type "object")=some true):TyOf K H (.ref a) (.ref C)
theorem ig {x:V} {u t:Value} (I:Inv X pins σ H s) (rx:RelV x u) (ty:TyOf X.K H x t) (e:PySem.W.kitOne X.K t c=some b) (h:∀tk,Q (.bool b) {s with toks:=tk}):
    wpAny (model X.prog X.w) A (call (.builtin "isinstance") [u,c]) Q E s:=by
  cases ty with
  | non=>cases (show u=Value.none from rx);exact PySem.W.kia_one PySem.W.kitx_none I.kIn True.intro e (fun z=>nomatch z) h
  | bl y=>cases (show u=Value.bool y from rx);exact PySem.W.kia_one PySem.W.kitx_bool I.kIn True.intro e (fun z=>nomatch z) h
  | int i=>obtain ⟨t,q⟩:=(show ∃t,u=Value.int i t from rx);cases q;exact PySem.W.kia_one PySem.W.kitx_int I.kIn True.intro e (fun z=>nomatch z) h
  | str y=>obtain ⟨t,q⟩:=(show ∃t,u=Value.str y t from rx);cases q;exact PySem.W.kia_one PySem.W.kitx_str I.kIn True.intro e (fun z=>nomatch z) h
  | flt y=>obtain ⟨t,q⟩:=(show ∃t,u=Value.float y t from rx);cases q;exact PySem.W.kia_one PySem.W.kitx_float I.kIn True.intro e (fun z=>nomatch z) h
  | @lst a xs ea=>
    cases (show u=Value.ref a from rx)
    obtain ⟨_,_,n,_,h1⟩:=(show ObjOk X.prog X.w H s.heap a (.lst xs) from I.hok a _ ea)
    exact PySem.W.kia_one PySem.W.kitx_list I.kIn ⟨_,h1,rfl⟩ e (fun z=>nomatch z) h
  | @frz a ob xs ea=>
    cases (show u=Value.ref a from rx)
    obtain ⟨_,_,_,n,_,h1⟩:=(show ObjOk X.prog X.w H s.heap a (.frz ob (.lst xs)) from I.hok a _ ea)
    exact PySem.W.kia_one PySem.W.kitx_list I.kIn ⟨_,h1,rfl⟩ e (fun z=>nomatch z) h
  | @tup a xs ea=>
    cases (show u=Value.ref a from rx)
    obtain ⟨_,_,_,p⟩:=(show ObjOk X.prog X.w H s.heap a (.tup xs) from I.hok a _ ea)
    obtain ⟨o,h1,h2,_⟩:=p
    exact PySem.W.kia_one PySem.W.kitx_tuple I.kIn ⟨o,h1,h2⟩ e (fun z=>nomatch z) h
  | @dK a kvs ea=>
    cases (show u=Value.ref a from rx)
    obtain ⟨_,_,vs,_,p⟩:=(show ObjOk X.prog X.w H s.heap a (.dK kvs) from I.hok a _ ea)
    obtain ⟨o,es,ep,h1,h2,_⟩:=p
    exact PySem.W.kia_one PySem.W.kitx_dict I.kIn ⟨o,h1,h2.1⟩ e (fun z=>nomatch z) h
  | @dT a kvs ea=>
    cases (show u=Value.ref a from rx)
    obtain ⟨_,_,xs,_,o,es,ep,h1,h2,_⟩:=(show ObjOk X.prog X.w H s.heap a (.dT kvs) from I.hok a _ ea)
    exact PySem.W.kia_one PySem.W.kitx_dict I.kIn ⟨o,h1,h2.1⟩ e (fun z=>nomatch z) h
  | @ins a C dx fs ea cl ha hn htk hm=>
    cases (show u=Value.ref a from rx)
    obtain ⟨mA,O,_⟩:=iP I.hok ea
    obtain ⟨od,J,_⟩:=O.look
    exact PySem.W.kia_one (PySem.W.kitx_own (cl.get _) cl.hd ha hn htk hm) I.kIn J e (fun z=>nomatch z) h
end
end L2
namespace L2
open PySem PySem.Spec PyProof.Rows
structure Room (k:Nat) (A:Around):Prop where
  hd:A.handled=none
  dp:A.depth+3*k+5 < recursionLimit
  un:A.units+16*k+200 < cLine
theorem Room.mono {j k:Nat} {A:Around} (r:Room k A) (h:j≤k):Room j A:=⟨r.hd,by have:=r.dp;omega,by have:=r.un;omega⟩
theorem Room.deeper {k:Nat} {A:Around} (r:Room (k+1) A) (env:Env):Room k (A.deeper env):=
  ⟨r.hd,by have:=r.dp;show A.depth+1+3*k+5 < _;omega,by have:=r.un;show A.units+3+16*k+200 < _;omega⟩
theorem Room.in1 {k:Nat} {A:Around} (r:Room (k+1) A):Room k A.in1:=
  ⟨r.hd,by have:=r.dp;show A.depth+3*k+5 < _;omega,by have:=r.un;show A.units+1+16*k+200 < _;omega⟩
theorem pf {A:Around} {C:Addr} {us:List Value} {kw:List (Str×Value)}:(A.under (.builtin "type.__call__" ⟨.ref C::us,kw⟩)).depth=A.depth+1:=by
  first | rfl | simp [Around.under,Code.weight,Code.isCreation,Code.isGuard,Code.isCaller,Code.frames,Code.isFrame,guardIds]
theorem ph {A:Around} {C:Addr} {us:List Value} {kw:List (Str×Value)}:(A.under (.builtin "type.__call__" ⟨.ref C::us,kw⟩)).units=A.units+1:=by
  first | rfl | simp [Around.under,Code.cUnits,Code.frames,Code.isFrame]
theorem Room.make {k:Nat} {A:Around} (r:Room (k+1) A) (C:Addr) (us:List Value) (kw:List (Str×Value)):Room k (A.under (.builtin "type.__call__" ⟨.ref C::us,kw⟩)):=
  ⟨r.hd,by have:=r.dp;rw [pf];omega,by have:=r.un;rw [ph];omega⟩
theorem Room.depth {k:Nat} {A:Around} (r:Room k A):A.depth < recursionLimit:=by have:=r.dp;omega
theorem Room.units {k:Nat} {A:Around} (r:Room k A):A.units+64 < cLine:=by have:=r.un;omega
def tF:TA:=fun _ H Q=>Q [] H
def nU (ta:TE) (tr:TA):TA:=fun σ H Q=>ta σ H fun x H1=>tr σ H1 fun xs H2=>Q (x::xs) H2
section
variable {X:Cx} {e:Expr} {es:List Expr} {te:TE} {t:TA} {pos:Pos}
theorem dO:PA X [] tF:=fun _ _ _ _ H Q I h=>Calls.spliced_nil ⟨[],H,I, .nil,h⟩
theorem bZ (ha:PE X e te) (hr:PA X es t) (hs:starEach (e::es) X.env=(false,eval e X.env)::starEach es X.env:=by rfl):PA X (e::es) (nU te t):=by
  intro pos pins s σ H Q I h
  rw [hs]
  show wpAny _ _ (spliced ((false,eval e X.env)::backTo pos (starEach es X.env))) _ _ s
  refine Calls.spliced_cons (cO (ha pins s σ H _ I h) fun u s1 ⟨x,H1,I1,r1,q1⟩=>?_)
  exact cO (hr pos pins s1 σ H1 _ I1 q1) fun us s2 ⟨xs,H2,I2,r2,q2⟩=>⟨x::xs,H2,I2, .cons r1 r2,q2⟩
def BD (t:TA):TE:=fun σ H Q=>t σ H fun xs H1=>xs.length≤sizeLine∧∀p,H1 p=none→Q (.ref p) (upd H1 p (.tup xs))
def BE (t:TA):TE:=fun σ H Q=>t σ H fun xs H1=>xs.length≤sizeLine∧∀p,H1 p=none→Q (.ref p) (upd H1 p (.lst xs))
theorem tI {x1} (h:PA X es t):PE X (.Tuple es x1 pos) (BD t):=by
  intro pins s σ H Q I hq
  refine wpAny_Tuple_spliced (cO (h pos pins s σ H _ I hq) fun us s1 ⟨xs,H1,I1,r,z,q⟩=>⟨by rw [←r.length];exact z,?_⟩)
  have hf:H1 s1.heap.objs.size=none:=I1.hok.fresh (Nat.le_refl _)
  refine ⟨.ref s1.heap.objs.size,upd H1 s1.heap.objs.size (.tup xs),I1.laid (t':=s1.toks) (fun b u e=>Heap.get?_push_of_some _ e) (Nat.le_refl _) ?_,rfl,q _ hf⟩
  exact ⟨z,us,r,⟨_,Heap.get?_push_size _ rfl,rfl,_,rfl⟩⟩
theorem xZ (h:PA X es t):PE X (.List es pos) (BE t):=by
  intro pins s σ H Q I hq
  refine wpAny_List_spliced (cO (h pos pins s σ H _ I hq) fun us s1 ⟨xs,H1,I1,r,z,q⟩=>⟨by rw [←r.length];exact z,?_⟩)
  have hf:H1 s1.heap.objs.size=none:=I1.hok.fresh (Nat.le_refl _)
  refine ⟨.ref s1.heap.objs.size,upd H1 s1.heap.objs.size (.lst xs),I1.laid (t':=s1.toks) (fun b u e=>Heap.get?_push_of_some _ e) (Nat.le_refl _) ?_,rfl,q _ hf⟩
  exact ⟨z,us,0,r,Heap.get?_push_size _ rfl⟩
end
abbrev Sp:=List V→Hp→VK→XK→Prop
abbrev sO:=List Env→Hp→Shared→XK→Value→Shared→Prop
structure Env0 (P:Program) (w:World) (K:PySem.W.Frag) (mg:Str→Option Value) (base:Heap) (A:Around) (outer:List Env) (s:Shared) (H:Hp):Prop where
  frames:A.frames=some outer
  mod:Mod K mg base
  bs:∀b o,base.get? b=some o→s.heap.get? b=some o∧H b=none
  bsz:base.objs.size≤s.heap.objs.size
  funs:s.heap.FunFrames base outer
  frf:∀b∈sN outer,H b=none
  hok:HOk P w H s.heap
  bare:AllBare s.gens
  tab:∀b q,jS K b=some q→H b=some (.tbl q)
def CE (outer:List Env) (P:Program) (w:World) (H:Hp) (s:Shared) (Q:VK) (u:Value) (s':Shared):Prop:=
  ∃v H',s'.os=s.os∧AllBare s'.gens∧Un (sN outer) [] H H' s.heap s'.heap∧HOk P w H' s'.heap∧RelV v u∧Q v H'
def CR (CX:sO) (outer:List Env) (P:Program) (w:World) (H:Hp) (s:Shared) (Q:VK) (E:XK) (r:Result) (s':Shared):Prop:=
  match r with
  | .ok (.ret u)=>CE outer P w H s Q u s'
  | .ok _=>False
  | .error e=>CX outer H s E e s'
structure FnOk (P:Program) (w:World) (K:PySem.W.Frag) (mg:Str→Option Value) (base:Heap) (CX:sO) (k:Nat) (f:Addr) (fd:FuncData) (ps:List Str) (sp:Sp):Prop where
  len:∀vs H Q E,sp vs H Q E→vs.length=ps.length
  run:∀(A:Around) (outer:List Env) (s:Shared) (H:Hp) (args:Args) (us:List Value) (vs:List V) (Q:VK) (E:XK),Room k A→Env0 P w K mg base A outer s H→BindsTo s fd args (ps.zip us)→Vals vs us→sp vs H Q E→
    codeAny (model P w) A (.call (.ref f) args) (CR CX outer P w H s Q E) s
theorem FnOk.mono {P:Program} {w:World} {K:PySem.W.Frag} {mg:Str→Option Value} {base:Heap} {CX:sO} {j k:Nat} {f:Addr} {fd:FuncData} {ps:List Str} {sp:Sp} (F:FnOk P w K mg base CX j f fd ps sp) (h:j≤k):
    FnOk P w K mg base CX k f fd ps sp:=⟨F.len,fun A outer s H args us vs Q E hr=>F.run A outer s H args us vs Q E (hr.mono h)⟩
theorem FnOk.imp {P:Program} {w:World} {K:PySem.W.Frag} {mg:Str→Option Value} {base:Heap} {CX:sO} {k:Nat} {f:Addr} {fd:FuncData} {ps:List Str} {sp sp':Sp} (F:FnOk P w K mg base CX k f fd ps sp)
    (h:∀vs H Q E,sp' vs H Q E→sp vs H Q E):FnOk P w K mg base CX k f fd ps sp':=
  ⟨fun vs H Q E q=>F.len vs H Q E (h _ _ _ _ q),fun A outer s H args us vs Q E hr he hb hv hs=>F.run A outer s H args us vs Q E hr he hb hv (h _ _ _ _ hs)⟩
theorem Env0.make {P:Program} {w:World} {K:PySem.W.Frag} {mg:Str→Option Value} {base:Heap} {A:Around} {outer:List Env} {s:Shared} {H:Hp} (e:Env0 P w K mg base A outer s H) (C:Addr) (us:List Value) (kw:List (Str×Value)):
    Env0 P w K mg base (A.under (.builtin "type.__call__" ⟨.ref C::us,kw⟩)) outer s H:=⟨by first | exact e.frames | (simpa [Around.under,Code.envs,Code.isFrame,pushEnvs] using e.frames),e.mod,e.bs,e.bsz,e.funs,e.frf,e.hok,e.bare,e.tab⟩
theorem Env0.in1 {P:Program} {w:World} {K:PySem.W.Frag} {mg:Str→Option Value} {base:Heap} {A:Around} {outer:List Env} {s:Shared} {H:Hp} (e:Env0 P w K mg base A outer s H):
    Env0 P w K mg base A.in1 outer s H:=⟨e.frames,e.mod,e.bs,e.bsz,e.funs,e.frf,e.hok,e.bare,e.tab⟩
section
variable {X:Cx} {pins:List (Addr×Obj)} {σ:St} {H:Hp} {s s':Shared}
theorem Inv.env0 (I:Inv X pins σ H s):Env0 X.prog X.w X.K X.mg X.base X.A X.stack s H:=
  ⟨I.ok.frames,I.ok.mod,I.bs,Nat.le_trans I.ok.bsz I.sz,I.stack,I.stkFree,I.hok,I.bare,I.tab⟩
theorem Inv.after {Q:VK} {u:Value} (I:Inv X pins σ H s) (h:CE X.stack X.prog X.w H s Q u s'):EP X pins σ Q u s':=by
  obtain ⟨v,H',os,bare,un,hok,r,q⟩:=h
  obtain ⟨hh,g,d,t,os'⟩:=s'
  obtain rfl:os'=s.os:=os
  exact ⟨v,H',I.call (h':=hh) (g':=g) (d':=d) (t':=t) (ch:=[]) un hok bare (fun b z=>absurd z (by simp)),r,q⟩
end
def wX (sp:Sp) (dvs:List V) (E:XK) (t:TA):TE:=fun σ H Q=>t σ H fun vs H1=>sp (vs++dvs) H1 Q E
def zE (C:Addr) (sp:Sp) (dvs:List V) (E:XK) (t:TA):TE:=fun σ H Q=>t σ H fun vs H1=>∀x dx,H1 x=none→H1 dx=none→dx≠x→
  sp (.ref x::(vs++dvs)) (upd (upd H1 dx (.own x)) x (.ins C dx [])) (fun v H2=>v= .non∧Q (.ref x) H2) E
def Binds (K:PySem.W.Frag) (fd:FuncData) (ps:List Str) (ds:List Value):Prop:=
  ∀(s:Shared) (us:List Value),K.In s.heap→(us++ds).length=ps.length→BindsTo s fd ⟨us,[]⟩ (ps.zip (us++ds))
theorem Binds.all {K:PySem.W.Frag} {fd:FuncData} {ps:List Str} (h:∀us:List Value,us.length=ps.length→bindArgs fd ⟨us,[]⟩=pure (ps.zip us)):Binds K fd ps []:=fun s us _ hl=>by
  rw [List.append_nil] at hl ⊢
  exact .of_eq (h us hl)
def jY (CX:sO) (X:Cx) (E:XK):Prop:=∀(pins:List (Addr×Obj)) (σ:St) (H:Hp) (s:Shared) (e:Value) (s':Shared),Inv X pins σ H s→CX X.stack H s E e s'→X.xe e s'
section
variable {X:Cx} {CX:sO} {k:Nat} {f C:Addr} {fd:FuncData} {ps:List Str} {sp:Sp} {dvs:List V} {ds:List Value} {E:XK} {x m:Str} {p pos apos:Pos} {e o:Expr} {es:List Expr} {ta:TE} {t:TA}
theorem pi {pins:List (Addr×Obj)} {σ:St} {H:Hp} {s:Shared} {Q:VK} {us:List Value} {vs:List V} (F:FnOk X.prog X.w X.K X.mg X.base CX k f fd ps sp) (hr:Room k X.A) (hb:Binds X.K fd ps ds) (hd:Vals dvs ds) (hx:jY CX X E)
    (I:Inv X pins σ H s) (r:Vals vs us) (h:sp (vs++dvs) H Q E):wpAny (model X.prog X.w) X.A (call (.ref f) us) (EP X pins σ Q) X.xe s:=by
  have r2:Vals (vs++dvs) (us++ds):=r.append hd
  have hl:(us++ds).length=ps.length:=by rw [←r2.length];exact F.len _ _ _ _ h
  refine wpAny_call (codeAny_mono (F.run X.A X.stack s H ⟨us,[]⟩ (us++ds) (vs++dvs) Q E hr I.env0 (hb s us I.kIn hl) r2 h) fun r s' hq=>?_)
  cases r with
  | error e=>exact hx pins σ H s e s' I hq
  | ok fl=>
    cases fl with
    | ret u=>exact I.after hq
    | next=>exact False.elim hq
    | brk=>exact False.elim hq
    | cont=>exact False.elim hq
theorem vF (F:FnOk X.prog X.w X.K X.mg X.base CX k f fd ps sp) (hr:Room k X.A) (hg:Gl X x) (hm:X.mg x=some (.ref f)) (hk:PySem.W.keepIn X.K (.ref f)=true) (hb:Binds X.K fd ps ds) (hd:Vals dvs ds) (hx:jY CX X E)
    (ha:PA X (e::es) t) (hdb:(x == ("__debug__":Str))=false:=by decide) (he:starEach (e::es) X.env=(false,eval e X.env)::starEach es X.env:=by rfl) (hpl:(backTo pos (starEach es X.env)).any (·.1)=false:=by rfl):
    PE X (.Call (.Name x p) (e::es) [] pos) (wX sp dvs E t):=by
  intro pins s σ H Q I h
  refine wpAny_Call_Name_kw (jL I hg hm ?_ hdb)
  refine PySem.W.callWith_K (h₀:=X.base) I.ok.mod.kin hk (cO (ha pos pins s σ H _ I h) fun us s1 ⟨vs,H1,I1,r,q⟩=>⟨I1.kIn,?_⟩) he hpl
  exact pi F hr hb hd hx I1 r q
structure Mk (K:PySem.W.Frag) (C f:Addr):Prop where
  makes:PySem.W.makesIn K C=true
  init:PySem.W.findIn K (.ref C) "__init__"=some (some (.ref f))
  fn:PySem.W.isFn K (.ref f)=true
  kp:PySem.W.keepIn K (.ref C)=true
theorem tJ {pins:List (Addr×Obj)} {σ:St} {H:Hp} {s:Shared} {Q:VK} {us:List Value} {vs:List V} (M:Mk X.K C f) (F:FnOk X.prog X.w X.K X.mg X.base CX k f fd ps sp) (hr:Room (k+1) X.A) (hb:Binds X.K fd ps ds) (hd:Vals dvs ds)
    (hx:jY CX X E) (I:Inv X pins σ H s) (r:Vals vs us)
    (h:∀x dx,H x=none→H dx=none→dx≠x→sp (.ref x::(vs++dvs)) (upd (upd H dx (.own x)) x (.ins C dx [])) (fun v H2=>v= .non∧Q (.ref x) H2) E):
    wpAny (model X.prog X.w) X.A (call (.ref C) us) (EP X pins σ Q) X.xe s:=by
  have hq:=h (s.heap.objs.size+1) s.heap.objs.size (I.hok.fresh (Nat.le_succ _)) (I.hok.fresh (Nat.le_refl _)) (Nat.ne_of_lt (Nat.lt_succ_self _))
  have I2:=Inv.made (C:=C) I
  have r2:Vals (V.ref (s.heap.objs.size+1)::(vs++dvs)) (Value.ref (s.heap.objs.size+1)::(us++ds)):= .cons rfl (r.append hd)
  have hl:(Value.ref (s.heap.objs.size+1)::us++ds).length=ps.length:=by
    have e:=r2.length
    rw [F.len _ _ _ _ hq] at e
    exact e.symm
  refine wpAny_call (tE (f:=f) I.kIn M.makes M.init (beq_iff_eq.mp M.fn) (codeAny_mono (F.run _ X.stack _ _ ⟨Value.ref (s.heap.objs.size+1)::us,[]⟩ (Value.ref (s.heap.objs.size+1)::(us++ds)) _ _ E (hr.make C us [])
    (I2.env0.make C us []) (hb _ (Value.ref (s.heap.objs.size+1)::us) I2.kIn hl) r2 hq) fun r s' hq'=>?_))
  cases r with
  | error e=>exact hx pins σ _ _ e s' I2 hq'
  | ok fl=>
    cases fl with
    | ret u=>
      obtain ⟨v,H',I3,rv,ev,q3⟩:=I2.after hq'
      subst ev
      exact ⟨rv,⟨V.ref (s.heap.objs.size+1),H',I3,rfl,q3⟩⟩
    | next=>exact False.elim hq'
    | brk=>exact False.elim hq'
    | cont=>exact False.elim hq'
theorem vG (M:Mk X.K C f) (F:FnOk X.prog X.w X.K X.mg X.base CX k f fd ps sp) (hr:Room (k+1) X.A) (hg:Gl X x) (hm:X.mg x=some (.ref C)) (hb:Binds X.K fd ps ds) (hd:Vals dvs ds) (hx:jY CX X E)
    (ha:PA X (e::es) t) (hdb:(x == ("__debug__":Str))=false:=by decide) (he:starEach (e::es) X.env=(false,eval e X.env)::starEach es X.env:=by rfl) (hpl:(backTo pos (starEach es X.env)).any (·.1)=false:=by rfl):
    PE X (.Call (.Name x p) (e::es) [] pos) (zE C sp dvs E t):=by
  intro pins s σ H Q I h
  refine wpAny_Call_Name_kw (jL I hg hm ?_ hdb)
  refine PySem.W.callWith_K (h₀:=X.base) I.ok.mod.kin M.kp (cO (ha pos pins s σ H _ I h) fun us s1 ⟨vs,H1,I1,r,q⟩=>⟨I1.kIn,?_⟩) he hpl
  exact tJ M F hr hb hd hx I1 r q
end
structure FnScope (N P:List Str) (sc:Scope):Prop where
  kind:sc.kind= .function
  co:sc.isCoroutine=false
  gen:sc.isGenerator=false
  nd:N.Nodup
  pre:N.take P.length=P
  par:∀x∈P,sc.names.lookup x=some .local∨sc.names.lookup x=some .cell
  nofree:∀y∈sc.names,y.2≠ .free
theorem lL {kindOf:Str→Option NameKind} {x:Str}:∀{binds:List (Str×Value)} {m:Str→Option Value},(∀v,(x,v)∉binds)→bindL kindOf binds m x=m x
  | [],_,_=>rfl
  | (n,v)::r,m,h=>by
    unfold bindL
    rw [lL fun w hw=>h w (List.mem_cons_of_mem _ hw)]
    split
    · have:x≠n:=by rintro rfl;exact h v List.mem_cons_self
      simp [this]
    · rfl
theorem lM {kindOf:Str→Option NameKind} {x:Str}:∀{binds:List (Str×Value)} {m:Str→Option Value},(∀v,(x,v)∉binds)→bindC kindOf binds m x=m x
  | [],_,_=>rfl
  | (n,v)::r,m,h=>by
    unfold bindC
    rw [lM fun w hw=>h w (List.mem_cons_of_mem _ hw)]
    split
    · rfl
    · have:x≠n:=by rintro rfl;exact h v List.mem_cons_self
      simp [this]
theorem lN {kindOf:Str→Option NameKind} {x:Str} {v:Value}:∀{P:List Str} {vs:List Value} {i:Nat} {m:Str→Option Value},P.Nodup→P[i]? =some x→vs[i]? =some v→kindOf x=some .local→
    bindL kindOf (P.zip vs) m x=some v
  | [],_,_,_,_,h,_,_=>by simp at h
  | _::_,[],_,_,_,_,h,_=>by simp at h
  | p::P,w::vs,0,m,nd,h1,h2,hk=>by
    simp at h1 h2;subst h1;subst h2
    show bindL kindOf ((p,w)::P.zip vs) m p=_
    unfold bindL
    rw [lL fun v hv=>(List.nodup_cons.mp nd).1 (List.of_mem_zip hv).1,if_pos hk]
    simp
  | p::P,w::vs,i+1,m,nd,h1,h2,hk=>by
    show bindL kindOf ((p,w)::P.zip vs) m x=_
    unfold bindL
    exact lN (i:=i) (List.nodup_cons.mp nd).2 (by simpa using h1) (by simpa using h2) hk
theorem lO {kindOf:Str→Option NameKind} {x:Str} {v:Value}:∀{P:List Str} {vs:List Value} {i:Nat} {m:Str→Option Value},P.Nodup→P[i]? =some x→vs[i]? =some v→kindOf x≠some .local→
    bindC kindOf (P.zip vs) m x=some v
  | [],_,_,_,_,h,_,_=>by simp at h
  | _::_,[],_,_,_,_,h,_=>by simp at h
  | p::P,w::vs,0,m,nd,h1,h2,hk=>by
    simp at h1 h2;subst h1;subst h2
    show bindC kindOf ((p,w)::P.zip vs) m p=_
    unfold bindC
    rw [lM fun v hv=>(List.nodup_cons.mp nd).1 (List.of_mem_zip hv).1,if_neg hk]
    simp
  | p::P,w::vs,i+1,m,nd,h1,h2,hk=>by
    show bindC kindOf ((p,w)::P.zip vs) m x=_
    unfold bindC
    exact lO (i:=i) (List.nodup_cons.mp nd).2 (by simpa using h1) (by simpa using h2) hk
def cD (N:List Str) (vs:List V):St:=vs.map some++List.replicate (N.length - vs.length) none
def jZ (CX:sO) (P:Program) (w:World) (K:PySem.W.Frag) (mg:Str→Option Value) (base:Heap) (N:List Str) (qual:Str) (scope:Scope) (f:Addr) (cd:Value) (A:Around) (outer:List Env) (s:Shared) (H:Hp) (E:XK):Cx where
  prog:=P
  w:=w
  K:=K
  mg:=mg
  base:=base
  A:=A.deeper (envOfC qual scope s.heap.objs.size f cd)
  N:=N
  s₀:=s
  H₀:=H
  env:=envOfC qual scope s.heap.objs.size f cd
  outer:=outer
  stack:=envOfC qual scope s.heap.objs.size f cd::outer
  ex:=[]
  calm:=true
  fn:=fun _=>true
  pn:=[]
  xe:=fun e s'=>wpAny (model P w) (A.deeper (envOfC qual scope s.heap.objs.size f cd)) (leaving (envOfC qual scope s.heap.objs.size f cd) e) (fun _ s''=>CX outer H s E e s'') (fun e' s''=>CX outer H s E e' s'') s'
theorem nV {sc:Scope} {n:Nat} {x:Str} (h:sc.names.lookup x=some .cell):∃c,(cellsFrom n sc.names []).lookup x=some c:=by
  have q:=PySem.W.cellsFrom_some sc.names n [] (.inl h)
  exact Option.isSome_iff_exists.mp q
theorem rH {CX:sO} {P:Program} {w:World} {K:PySem.W.Frag} {mg:Str→Option Value} {base:Heap} {N ps:List Str} {qual:Str} {scope:Scope} {f:Addr} {cd:Value} {A:Around} {outer:List Env} {s s1:Shared} {H:Hp} {E:XK} {us:List Value} {vs:List V}
    (S:FnScope N ps scope) (hd:A.handled=none) (e0:Env0 P w K mg base A outer s H) (hl:vs.length=ps.length) (r:Vals vs us)
    (x:InCallC s s.heap.objs.size (bindL (envOfC qual scope s.heap.objs.size f cd).kindOf (ps.zip us) fun _=>none) (cellsFrom (s.heap.objs.size+1) scope.names []) (bindC (envOfC qual scope s.heap.objs.size f cd).kindOf (ps.zip us) fun _=>none) s1):
    Inv (jZ CX P w K mg base N qual scope f cd A outer s H E) [] (cD N vs) H s1:=by
  have hpl:ps.length≤N.length:=by have:=congrArg List.length S.pre;rw [List.length_take] at this;omega
  obtain ⟨h1,tk,rfl,hk⟩:=x.done
  have noA:∀b:Addr,b∉(jZ CX P w K mg base N qual scope f cd A outer s H E).ex:=fun b z=>absurd (show b∈([]:List Addr) from z) (by simp)
  refine ⟨⟨e0.mod,S.kind,rfl,rfl,Nat.le_refl _,fun y z c h1 h2=>?_,fun y hy=>?_,fun y c _ h=>?_,fun _=>hd,Around.frames_deeper e0.frames, .inr ⟨rfl,rfl⟩,fun b z=>absurd z (noA b),e0.bs,e0.bsz,fun b _ _=>noA b,fun b z=>absurd z (noA b),e0.funs,e0.frf,e0.tab⟩,
    rfl,e0.bare,Un.kept hk,⟨_,x.toInCall.ns,fun i y v h1 h2 h3=>?_⟩,fun y c h=>⟨_,x.cell y c h⟩,e0.hok.fresh (Nat.le_refl _),fun y c h=>?_,fun p hp=>absurd (show p∈([]:List (Addr×Obj)) from hp) (by simp),e0.hok.kept hk,?_⟩
  · exact name_of_addr x.apart (PySem.mem_of_lookup h1) (PySem.mem_of_lookup h2)
  · have hy:scope.names.lookup y=some .cell∨scope.names.lookup y=some .free:=hy
    rcases hy with hy | hy
    · exact nV hy
    · exact absurd rfl (S.nofree _ (PySem.mem_of_lookup hy))
  · exact Nat.le_of_lt (x.above y c (PySem.mem_of_lookup h))
  · have hi:i < vs.length:=by
      unfold cD at h2
      by_cases hi:i < vs.length
      · exact hi
      · rw [List.getElem?_append_right (by simpa using hi)] at h2
        rw [List.getElem?_replicate] at h2
        split at h2 <;> cases h2
    have ha:vs[i]? =some v:=by
      unfold cD at h2
      rw [List.getElem?_append_left (by simpa using hi),List.getElem?_map] at h2
      cases e:vs[i]? with
      | none=>rw [e] at h2;cases h2
      | some a=>rw [e] at h2;cases h2;rfl
    obtain ⟨u,hu,rv⟩:=r.get ha
    have hp:ps[i]? =some y:=by
      rw [←S.pre,List.getElem?_take_of_lt (by omega)];exact h1
    have ndP:ps.Nodup:=by rw [←S.pre];exact S.nd.sublist (List.take_sublist _ _)
    refine ⟨u,rv,?_⟩
    rcases S.par y (List.mem_of_getElem? hp) with k | k
    · exact .inl ⟨k,lN ndP hp hu k⟩
    · obtain ⟨c,e⟩:=nV (n:=s.heap.objs.size+1) k
      refine .inr ⟨.inl k,c,e,?_⟩
      have q:=x.cell y c e
      rw [lO ndP hp hu (by show scope.names.lookup y≠_;rw [k];decide)] at q
      exact q
  · exact e0.hok.fresh (Nat.le_of_lt (x.above y c (PySem.mem_of_lookup h)))
  · unfold cD
    show _=N.length
    rw [List.length_append,List.length_map,List.length_replicate]
    omega
theorem zF {CX:sO} {P:Program} {w:World} {K:PySem.W.Frag} {mg:Str→Option Value} {base:Heap} {k:Nat} {f:Addr} {name qual:Str} {params:Arguments} {body:List Stmt} {scope:Scope} {dV kV doc pm cdv ct oc:Value} {an od:Option Addr}
    {osl:Array (Option Value)} {N ps:List Str} {sp:Sp} (lk:K.lookup f=some ⟨oc,od, .func (PySem.W.fnOf name qual params body scope dV kV doc pm an cdv ct),osl⟩) (hcd:PySem.W.codeIn K cdv qual=true) (S:FnScope N ps scope)
    (len:∀vs H Q E,sp vs H Q E→vs.length=ps.length)
    (hbody:∀(A:Around) (outer:List Env) (s:Shared) (H:Hp) (vs:List V) (Q:VK) (E:XK),Room k (A.deeper (envOfC qual scope s.heap.objs.size f cdv))→sp vs H Q E→
      ∃t,PSs (jZ CX P w K mg base N qual scope f cdv A outer s H E) body t∧t {nx:=fun _ H'=>Q .non H',rt:=Q} (cD N vs) H):
    FnOk P w K mg base CX (k+1) f (PySem.W.fnOf name qual params body scope dV kV doc pm an cdv ct) ps sp:=by
  refine ⟨len,fun A outer s H args us vs Q E hr e0 hb r hsp=>?_⟩
  have hl:=len _ _ _ _ hsp
  have KX:K.In s.heap:=e0.mod.kin.keeps fun b o e=>(e0.bs b o e).1
  have lim:s.heap.NoLimit:=e0.mod.nolimit.keeps fun b o e=>(e0.bs b o e).1
  have hkind:∀y∈ps.zip us,scope.names.lookup y.1=some .local∨(scope.names.lookup y.1=some .cell∧((cellsFrom (s.heap.objs.size+1) scope.names []).lookup y.1).isSome=true):=fun ⟨n,v⟩ hy=>by
    rcases S.par n (List.of_mem_zip hy).1 with q | q
    · exact .inl q
    · exact .inr ⟨q,PySem.W.cellsFrom_some _ _ _ (.inl q)⟩
  refine codeAny_call_function hr.depth (KX _ _ lk) rfl S.co S.gen rfl (PySem.W.codeRec_of KX hcd) (hb _ _ _ _ ?_)
  refine wpAny_newFunctionEnv_cells S.kind hkind fun env he s1 x=>?_
  subst he
  refine ⟨lim.keeps x.toInCall.keep,codeAny_func ?_⟩
  obtain ⟨t,ht,hq⟩:=hbody A outer s H vs Q E (hr.deeper _) hsp
  have I:Inv (jZ CX P w K mg base N qual scope f cdv A outer s H E) [] (cD N vs) H s1:=rH S hr.hd e0 hl r x
  refine wpAny_mono (ht [] s1 (cD N vs) H _ I hq) (fun fl s' hs=>?_) fun e s' hs=>hs
  have fin:∀{σ':St} {H':Hp} {v:V} {u:Value},Inv (jZ CX P w K mg base N qual scope f cdv A outer s H E) [] σ' H' s'→RelV v u→Q v H'→CE outer P w H s Q u s':=
    fun {σ' H' v u} J rv q=>⟨v,H',J.os,J.bare,J.base,J.hok,rv,q⟩
  cases fl with
  | ret u=>
    obtain ⟨v,σ',H',J,rv,q⟩:=hs
    exact fin J rv q
  | next=>
    obtain ⟨σ',H',J,q⟩:=hs
    exact fin (v:=V.non) (u:=Value.none) J rfl q
  | brk=>
    obtain ⟨_,_,_,q⟩:=hs
    exact False.elim q
  | cont=>
    obtain ⟨_,_,_,q⟩:=hs
    exact False.elim q
end L2
namespace L2
open PySem PySem.Spec PyProof.Rows
section
variable {X:Cx} {x:Str} {p pos:Pos} {e:Expr} {es:List Expr} {t:TA} {id T:String} {r:List V→Hp→VK→Prop}
def x8 (r:List V→Hp→VK→Prop) (t:TA):TE:=fun σ H Q=>t σ H fun vs H1=>r vs H1 Q
theorem g_ (hc:CallR X (.builtin id) r) (hg:Gl X x) (hm:X.mg x=none) (hv:bootBuiltins x=some (.builtin id)) (ha:PA X (e::es) t) (hn:x≠"__name__":=by decide) (hdb:(x == ("__debug__":Str))=false:=by decide)
    (he:starEach (e::es) X.env=(false,eval e X.env)::starEach es X.env:=by rfl) (hpl:(backTo pos (starEach es X.env)).any (·.1)=false:=by rfl):PE X (.Call (.Name x p) (e::es) [] pos) (x8 r t):=by
  intro pins s σ H Q I h
  refine wpAny_Call_Name_kw (i_ I hg hm hv ?_ hn hdb)
  exact PyProof.Rows.callWith_builtin1 (cO (ha pos pins s σ H _ I h) fun us s1 ⟨vs,H1,I1,r1,q1⟩=>hc pins s1 σ H1 vs us Q I1 r1 q1) he hpl
theorem gn (hc:CallR X (.type T) r) (hg:Gl X x) (hm:X.mg x=none) (hv:bootBuiltins x=some (.type T)) (ha:PA X (e::es) t) (hn:x≠"__name__":=by decide) (hdb:(x == ("__debug__":Str))=false:=by decide)
    (he:starEach (e::es) X.env=(false,eval e X.env)::starEach es X.env:=by rfl) (hpl:(backTo pos (starEach es X.env)).any (·.1)=false:=by rfl):PE X (.Call (.Name x p) (e::es) [] pos) (x8 r t):=by
  intro pins s σ H Q I h
  refine wpAny_Call_Name_kw (i_ I hg hm hv ?_ hn hdb)
  exact PyProof.Rows.callWith_type1 (cO (ha pos pins s σ H _ I h) fun us s1 ⟨vs,H1,I1,r1,q1⟩=>hc pins s1 σ H1 vs us Q I1 r1 q1) he hpl
end
end L2
namespace HT
open PySem PyProof.Rows
section
open PySem.SeqAt
open PySem.AutoSeq1 (wpAny_loadPart')
open PySem.MeetsSeq PySem.MeetsSeq2 PySem.MeetsSeq3
end
section
variable {prog:Program} {w:World} {A:Around} {E:Value→Shared→Prop} {s:Shared}
def j0 (n d:Nat):Option Int→Nat
  | none=>d
  | some v=>if v < 0 then (v+(n:Int)).toNat else min v.toNat n
theorem vH (n d k:Nat):j0 n d (some (k:Int))=min k n:=by
  show (if (k:Int) < 0 then ((k:Int)+(n:Int)).toNat else min (k:Int).toNat n)=min k n
  rw [if_neg (by omega),Int.toNat_natCast]
end
end HT
namespace L2
open PySem PySem.Spec PyProof.Rows
abbrev TO:=St→Hp→(Option Int→Hp→Prop)→Prop
def PO (X:Cx) (e:Option Expr) (t:TO):Prop:=
  ∀(pins:List (Addr×Obj)) (s:Shared) (σ:St) (H:Hp) (Q:Option Int→Hp→Prop),Inv X pins σ H s→t σ H Q→
    wpAny (model X.prog X.w) X.A (evalPart e X.env) (fun u s'=>∃o H',Inv X pins σ H' s'∧IsPart u o∧Q o H') X.xe s
def vI:TO:=fun _ H Q=>Q none H
def zG (t:TE):TO:=fun σ H Q=>t σ H fun x H1=>∃i,x= .int i∧Q (some i) H1
section
variable {X:Cx} {e:Expr} {te:TE} {lo hi:Option Expr} {tl th:TO} {pos p2:Pos}
theorem vJ:PO X none vI:=by
  intro pins s σ H Q I h
  rw [evalPart_none]
  exact wpAny_pure ⟨none,H,I, .none,h⟩
theorem vK (h:PE X e te):PO X (some e) (zG te):=by
  intro pins s σ H Q I hw
  rw [evalPart_some]
  refine cO (h pins s σ H _ I hw) fun u s1 ⟨x,H1,I1,r1,q1⟩=>?_
  obtain ⟨i,rfl,q⟩:=q1
  obtain ⟨t,rfl⟩:=r1
  exact ⟨some i,H1,I1, .int i t,q⟩
def SlR (X:Cx) (r:V→Option Int→Option Int→Hp→VK→Prop):Prop:=
  ∀(pins:List (Addr×Obj)) (s:Shared) (σ:St) (H:Hp) (x:V) (v vl vu:Value) (lo hi:Option Int) (sl:Addr) (Q:VK),Inv X pins σ H s→RelV x v→s.heap.IsSliceOf sl vl vu .none→IsPart vl lo→IsPart vu hi→r x lo hi H Q→
    ∃T id,typeLookup (.type T) "__getitem__"=pure (some (.builtin id))∧s.TypeIs v T∧wpAny (model X.prog X.w) X.A (getItem v (.ref sl)) (EP X pins σ Q) X.xe s
theorem SlR.or {r r':V→Option Int→Option Int→Hp→VK→Prop} (h:SlR X r) (h':SlR X r'):SlR X (fun x lo hi H Q=>r x lo hi H Q∨r' x lo hi H Q):=by
  intro pins s σ H x v vl vu lo hi sl Q I rx hs pl pu q
  rcases q with q | q
  · exact h pins s σ H x v vl vu lo hi sl Q I rx hs pl pu q
  · exact h' pins s σ H x v vl vu lo hi sl Q I rx hs pl pu q
def Cz (r:V→Option Int→Option Int→Hp→VK→Prop) (te:TE) (tl th:TO):TE:=fun σ H Q=>te σ H fun x H1=>tl σ H1 fun l H2=>th σ H2 fun u H3=>r x l u H3 Q
theorem tK {r:V→Option Int→Option Int→Hp→VK→Prop} (hr:SlR X r) (he:PE X e te) (hl:PO X lo tl) (hu:PO X hi th):PE X (.Subscript e (.Slice lo hi none p2) pos) (Cz r te tl th):=by
  intro pins s σ H Q I h
  refine Subscript_ (cO (he pins s σ H _ I h) fun v s1 ⟨x,H1,I1,r1,q1⟩=>?_)
  refine wpAny_Slice (cO (hl pins s1 σ H1 _ I1 q1) fun vl s2 ⟨l,H2,I2,pl,q2⟩=>cO (hu pins s2 σ H2 _ I2 q2) fun vu s3 ⟨u,H3,I3,pu,q3⟩=>?_)
  rw [evalPart_none]
  refine wpAny_pure ?_
  have I4:Inv X pins σ H3 {s3 with heap:=s3.heap.push {cls:= .type "slice",data:= .fields #[vl,vu, .none]}}:=I3.kept (t':=s3.toks) fun b ob q=>Heap.get?_push_of_some _ q
  obtain ⟨T,id,hT,ht,hg⟩:=hr pins {s3 with heap:=s3.heap.push {cls:= .type "slice",data:= .fields #[vl,vu, .none]}} σ H3 x v vl vu l u s3.heap.objs.size Q I4 r1 (Heap.IsSliceOf.new ..) pl pu q3
  show wpAny (model X.prog X.w) X.A (subscriptTail e (.Slice lo hi none p2) v (.ref s3.heap.objs.size)) (EP X pins σ Q) X.xe {s3 with heap:=s3.heap.push {cls:= .type "slice",data:= .fields #[vl,vu, .none]}}
  exact tail_any (ops:=[.ref s3.heap.objs.size,v]) ht hT hg (by with_unfolding_all rfl)
def rJ (xs:List V) (lo hi:Option Int):List V:=(xs.drop (HT.j0 xs.length 0 lo)).take (HT.j0 xs.length xs.length hi - HT.j0 xs.length 0 lo)
theorem nW (xs:List V) (lo hi:Option Int):(rJ xs lo hi).length≤xs.length:=by
  unfold rJ
  rw [List.length_take,List.length_drop]
  omega
end
end L2
namespace L2
open PySem PySem.Spec PyProof.Rows
def vL (n:Nat) (i:Int):Option Nat:=if 0≤i then (if i < n then some i.toNat else none) else if -(n:Int)≤i then some (i+n).toNat else none
def atI {α:Type} (xs:List α) (i:Int):Option α:=(vL xs.length i).bind fun j=>xs[j]?
theorem qo {n:Nat} {i:Int} {j:Nat} (h:vL n i=some j):seqIndex? i n=some j∧j < n∧ -(n:Int)≤i∧i < n:=by
  unfold vL at h
  by_cases h0:0≤i
  · rw [if_pos h0] at h
    by_cases h1:i < n
    · rw [if_pos h1] at h
      have e:i.toNat=j:=Option.some.inj h
      exact ⟨by rw [seqIndex_of h0 h1,e],by omega,by omega,h1⟩
    · rw [if_neg h1] at h;cases h
  · rw [if_neg h0] at h
    by_cases h1: -(n:Int)≤i
    · rw [if_pos h1] at h
      have e:(i+n).toNat=j:=Option.some.inj h
      exact ⟨by rw [seqIndex_neg (by omega) h1,e],by omega,h1,by omega⟩
    · rw [if_neg h1] at h;cases h
theorem mh {α:Type} {xs:List α} {i:Int} {v:α} (h:atI xs i=some v):∃j,seqIndex? i xs.length=some j∧xs[j]? =some v∧j < xs.length∧ -(xs.length:Int)≤i∧i < xs.length:=by
  unfold atI at h
  cases e:vL xs.length i with
  | none=>rw [e] at h;cases h
  | some j=>
    rw [e] at h
    obtain ⟨h1,h2,h3,h4⟩:=qo e
    exact ⟨j,h1,h,h2,h3,h4⟩
def qp (b:Expr):Prop:=∀o i,subscripted b false o i=operate [o,i] (getItem o i)
def IxR (X:Cx) (r:R2):Prop:=
  ∀(value slice:Expr) (pins:List (Addr×Obj)) (s:Shared) (σ:St) (H:Hp) (x y:V) (v u:Value) (Q:VK),Inv X pins σ H s→RelV x v→RelV y u→r x y H Q→
    subscripted slice false v u=operate [v,u] (getItem v u)→wpAny (model X.prog X.w) X.A (subscriptTail value slice v u) (EP X pins σ Q) X.xe s
def MtR (X:Cx) (id:String) (r:V→List V→Hp→VK→Prop):Prop:=
  ∀(pins:List (Addr×Obj)) (s:Shared) (σ:St) (H:Hp) (x:V) (xs:List V) (v:Value) (us:List Value) (Q:VK),Inv X pins σ H s→RelV x v→Vals xs us→r x xs H Q→
    wpAny (model X.prog X.w) X.A (call (.builtin id) (v::us)) (EP X pins σ Q) X.xe s
section
variable {X:Cx} {a b:Expr} {ta tb:TE} {pos:Pos}
theorem IxR.or {r r':R2} (h:IxR X r) (h':IxR X r'):IxR X (fun x y H Q=>r x y H Q∨r' x y H Q):=by
  intro value slice pins s σ H x y v u Q I rx ry q hs
  rcases q with q | q
  · exact h value slice pins s σ H x y v u Q I rx ry q hs
  · exact h' value slice pins s σ H x y v u Q I rx ry q hs
theorem MtR.or {id:String} {r r':V→List V→Hp→VK→Prop} (h:MtR X id r) (h':MtR X id r'):MtR X id (fun x xs H Q=>r x xs H Q∨r' x xs H Q):=by
  intro pins s σ H x xs v us Q I rx rs q
  rcases q with q | q
  · exact h pins s σ H x xs v us Q I rx rs q
  · exact h' pins s σ H x xs v us Q I rx rs q
theorem qr {r:R2} (hr:IxR X r) (ha:PE X a ta) (hb:PE X b tb) (hs:qp b):PE X (.Subscript a b pos) (wT r ta tb):=by
  intro pins s σ H Q I h
  exact Subscript_ (xS ha hb I h fun v u s2 x y H2 I2 rx ry q=>hr a b pins s2 σ H2 x y v u Q I2 rx ry q (hs _ _))
def zH (K:PySem.W.Frag):R2:=fun x y H Q=>∃p xs i v,x= .ref p∧y= .int i∧SqL K H p xs∧atI xs i=some v∧Q v H
def zI (K:PySem.W.Frag):R2:=fun x y H Q=>∃p xs i v,x= .ref p∧y= .int i∧SqT K H p xs∧atI xs i=some v∧Q v H
def zJ:R2:=fun x y H Q=>∃z i c,x= .str z∧y= .int i∧z.length≤sizeLine∧atI z.cps.toList i=some c∧Q (.str ⟨#[c]⟩) H
theorem ix_list:IxR X (zH X.K):=by
  intro value slice pins s σ H x y v u Q I rx ry h hs
  obtain ⟨p,xs,i,z,rfl,rfl,hq,he,q⟩:=h
  cases rx
  obtain ⟨t,rfl⟩:=ry
  obtain ⟨its,r,pl,hz⟩:=I.list hq
  obtain ⟨j,h1,h2,h3,h4,h5⟩:=mh he
  obtain ⟨w,ew,rw'⟩:=r.get h2
  have hl:=r.length
  have hn:=iC
  have fin:EP X pins σ Q w s:=⟨z,H,I,rw',q⟩
  by_cases h0:0≤i
  · have hj:i.toNat=j:=by
      rw [seqIndex_of h0 h5] at h1
      exact Option.some.inj h1
    exact item_listR pl.isList h0 (by omega) (by rw [hj];simpa using ew) fin hs
  · have hj:(i+(its.toArray.size:Int)).toNat=j:=by
      rw [seqIndex_neg (by omega) h4] at h1
      rw [List.size_toArray,←hl]
      exact Option.some.inj h1
    exact subscriptTail_builtinR (x:=w) pl.isList.typeIs slot_list_getitem.lookup
      (wpAny_getItem_list_neg (Q:=fun r s'=>r=w∧EP X pins σ Q r s') pl.isList (by omega) (by rw [List.size_toArray] <;> omega) (by omega) (by rw [hj];simpa using ew) ⟨rfl,fin⟩) hs
theorem ix_tup:IxR X (zI X.K):=by
  intro value slice pins s σ H x y v u Q I rx ry h hs
  obtain ⟨p,xs,i,z,rfl,rfl,hq,he,q⟩:=h
  cases rx
  obtain ⟨t,rfl⟩:=ry
  obtain ⟨its,r,pl,hz⟩:=I.tuple hq
  obtain ⟨j,h1,h2,h3,h4,h5⟩:=mh he
  obtain ⟨w,ew,rw'⟩:=r.get h2
  have hl:=r.length
  have hn:=iC
  have fin:EP X pins σ Q w s:=⟨z,H,I,rw',q⟩
  exact subscriptTail_builtinR (x:=w) pl.typeIs slot_tuple_getitem.lookup
    (getItem_tuple (j:=j) (Q:=fun r s'=>r=w∧EP X pins σ Q r s') pl (by omega) (by omega) (by rw [List.size_toArray,←hl];exact h1) (by simpa using ew) ⟨rfl,fin⟩) hs
theorem x_:IxR X zJ:=by
  intro value slice pins s σ H x y v u Q I rx ry h hs
  obtain ⟨z,i,c,rfl,rfl,hz,he,q⟩:=h
  obtain ⟨t,rfl⟩:=rx
  obtain ⟨t',rfl⟩:=ry
  obtain ⟨j,h1,h2,h3,h4,h5⟩:=mh he
  have hl:z.cps.toList.length=z.length:=by simp [Str.length]
  rw [hl] at h1 h4 h5
  have hn:=iC
  exact tail_any (typeIs_str s z t) slot_str_getitem.lookup (getItem_str (c:=c) (by
    have e1:decide (i < -(2 ^ 63:Int))=false:=decide_eq_false (by omega)
    have e2:decide (i≥2 ^ 63)=false:=decide_eq_false (by omega)
    rw [e1,e2,Bool.or_false]) (by rw [h1];simpa using h2) ⟨.str ⟨#[c]⟩,H,I.tok _,⟨_,rfl⟩,q⟩) hs
def B9 (K:PySem.W.Frag):R2:=fun x y H Q=>zH K x y H Q∨zI K x y H Q∨zJ x y H Q
theorem ya:IxR X (B9 X.K):=ix_list.or (ix_tup.or x_)
theorem pj (its:List Value) (n j:Nat) (u:Value):Obj.mapSeq (·.setIfInBounds j u) {cls:= .type "list",data:= .seq its.toArray n}={cls:= .type "list",data:= .seq (its.set j u).toArray n}:=by
  simp [Obj.mapSeq]
theorem Inv.lst {pins:List (Addr×Obj)} {σ:St} {H:Hp} {s:Shared} {p:Addr} {xs:List V} (I:Inv X pins σ H s) (h:H p=some (.lst xs)):
    ∃(its:List Value) (n:Nat),Vals xs its∧s.heap.get? p=some {cls:= .type "list",data:= .seq its.toArray n}∧xs.length≤sizeLine:=by
  obtain ⟨z,its,n,r,e⟩:=I.hok p _ h
  exact ⟨its,n,r,e,z⟩
theorem Inv.lstUpd {pins:List (Addr×Obj)} {σ:St} {H:Hp} {s:Shared} {p:Addr} {xs ys:List V} {its its':List Value} {n n':Nat} {f:Obj→Obj} (I:Inv X pins σ H s) (h:H p=some (.lst xs))
    (ho:s.heap.get? p=some {cls:= .type "list",data:= .seq its.toArray n}) (hf:f {cls:= .type "list",data:= .seq its.toArray n}={cls:= .type "list",data:= .seq its'.toArray n'}) (r:Vals ys its') (hz:ys.length≤sizeLine) (t:Nat):
    Inv X pins σ (upd H p (.lst ys)) {s with heap:=s.heap.update p f,toks:=t}:=by
  have e:(s.heap.update p f).get? p=some {cls:= .type "list",data:= .seq its'.toArray n'}:=by
    rw [Heap.get?_update_self f ho (by rw [hf] <;> rfl),hf]
  refine I.write (x:=p) (e:=p) (by rw [h];trivial) (.inl rfl) (fun b u hb q=>(Heap.get?_update_other _ _ (Ne.symm hb)).trans q) ⟨_,e⟩ ?_
  exact ⟨hz,its',n',r,e⟩
def zK:V→V→V→Hp→(Hp→Prop)→Prop:=fun o i v H Q=>∃p xs k j,o= .ref p∧i= .int k∧H p=some (.lst xs)∧vL xs.length k=some j∧Q (upd H p (.lst (xs.set j v)))
theorem nX:zt X zK:=by
  intro pins s σ H o i v ov iv u Q I ro ri rv h
  obtain ⟨p,xs,k,j,rfl,rfl,hp,hj,q⟩:=h
  cases ro
  obtain ⟨t,rfl⟩:=ri
  obtain ⟨its,n,r,ho,hz⟩:=I.lst hp
  obtain ⟨h1,h2,h3,h4⟩:=qo hj
  have hl:=r.length
  have hn:=iC
  have I':Inv X pins σ (upd H p (.lst (xs.set j v))) {s with heap:=s.heap.update p (Obj.mapSeq (·.setIfInBounds j u))}:=
    I.lstUpd hp ho (pj its n j u) (r.set rv j) (by rw [List.length_set];exact hz) s.toks
  by_cases h0:0≤k
  · have hk:k.toNat=j:=by
      rw [seqIndex_of h0 h4] at h1
      exact Option.some.inj h1
    exact PySem.W.ki_setAt ho h0 (by omega) (by rw [List.size_toArray,←hl];exact h4) (by rw [hk];exact ⟨_,I',q⟩)
  · have hk:(k+(its.toArray.size:Int)).toNat=j:=by
      rw [seqIndex_neg (by omega) h3] at h1
      rw [List.size_toArray,←hl]
      exact Option.some.inj h1
    exact PySem.W.ki_setBack ho (by omega) (by rw [List.size_toArray,←hl];exact h3) (by omega) (by rw [hk];exact ⟨_,I',q⟩)
theorem mj (lo hi:Option Int) (n:Nat):(sliceBounds lo hi none n).1=((HT.j0 n 0 lo:Nat):Int)∧(sliceBounds lo hi none n).2.1=((HT.j0 n n hi:Nat):Int)∧(sliceBounds lo hi none n).2.2=1:=by
  refine ⟨?_,?_,rfl⟩
  · cases lo with
    | none=>simp [sliceBounds,HT.j0]
    | some i=>
      simp only [sliceBounds,HT.j0,Option.getD_none,show (1:Int) > 0 by decide,if_true]
      by_cases h:i < 0
      · simp only [h,if_true] <;> omega
      · simp only [h,if_false] <;> omega
  · cases hi with
    | none=>simp [sliceBounds,HT.j0]
    | some i=>
      simp only [sliceBounds,HT.j0,Option.getD_none,show (1:Int) > 0 by decide,if_true]
      by_cases h:i < 0
      · simp only [h,if_true] <;> omega
      · simp only [h,if_false] <;> omega
theorem kL (its:List Value) (lo hi:Option Int):slicePick its.toArray lo hi none=((its.drop (HT.j0 its.length 0 lo)).take (HT.j0 its.length its.length hi - HT.j0 its.length 0 lo)).toArray:=by
  obtain ⟨h1,h2,h3⟩:=mj lo hi its.toArray.size
  unfold slicePick
  rw [h1,h2,h3]
  simp only [sliceRange_one,pick_run,List.size_toArray] <;> rfl
def BF (K:PySem.W.Frag):V→Option Int→Option Int→Hp→VK→Prop:=fun x lo hi H Q=>∃a xs,x= .ref a∧SqL K H a xs∧∀p,H p=none→Q (.ref p) (upd H p (.lst (rJ xs lo hi)))
theorem vM:SlR X (BF X.K):=by
  intro pins s σ H x v vl vu lo hi sl Q I rx hs pl pu h
  obtain ⟨a,xs,rfl,hx,q⟩:=h
  cases rx
  obtain ⟨its,r,ht,hz⟩:=I.list hx
  have hlen:=r.length
  refine ⟨"list",_,slot_list_getitem.lookup,ht.isList.typeIs,?_⟩
  refine wpAny_getItem_list_slice ht.isList hs pl pu .none (by simp) ?_ (by rw [List.size_toArray] <;> omega)
  rw [kL,←hlen]
  refine ⟨.ref s.heap.objs.size,_,I.laid (t':=s.toks) (o:= .lst (rJ xs lo hi)) (fun b ob q=>Heap.get?_push_of_some _ q) (Nat.le_refl _) ?_,rfl,q _ (I.hok.fresh (Nat.le_refl _))⟩
  exact ⟨Nat.le_trans (nW xs lo hi) hz,_,0,(r.drop (HT.j0 xs.length 0 lo)).take (HT.j0 xs.length xs.length hi - HT.j0 xs.length 0 lo),Heap.get?_push_size _ rfl⟩
def gV:V→Bool
  | .non=>true
  | .bl _=>true
  | .int _=>true
  | .str _=>true
  | _=>false
def vf:V→V→Bool
  | .non, .non=>true
  | .bl a, .bl b=>a == b
  | .bl a, .int b=>(if a then 1 else 0) == b
  | .int a, .bl b=>a == (if b then 1 else 0)
  | .int a, .int b=>a == b
  | .str a, .str b=>a == b
  | _,_=>false
theorem yb {A:Around} {s:Shared} {y x:V} {u v:Value} (ry:RelV y u) (rx:RelV x v) (fy:gV y=true) (fx:gV x=true):SeqAt.EqAt A s u v (vf y x):=by
  cases y with
  | non=>
    cases ry
    cases x with
    | non=>cases rx;exact SeqAt.EqAt.same _
    | bl b=>cases rx;exact SeqAt.EqAt.none_bool b
    | int b=>obtain ⟨t,rfl⟩:=rx;exact SeqAt.EqAt.none_int b t
    | str b=>obtain ⟨t,rfl⟩:=rx;exact SeqAt.EqAt.none_str b t
    | _=>exact absurd (show false=true from fx) Bool.false_ne_true
  | bl a=>
    cases ry
    cases x with
    | non=>cases rx;exact SeqAt.EqAt.bool_none a
    | bl b=>cases rx;exact SeqAt.EqAt.bool_bool a b
    | int b=>obtain ⟨t,rfl⟩:=rx;exact SeqAt.EqAt.bool_int a b t
    | str b=>obtain ⟨t,rfl⟩:=rx;exact SeqAt.EqAt.bool_str a b t
    | _=>exact absurd (show false=true from fx) Bool.false_ne_true
  | int a=>
    obtain ⟨t',rfl⟩:=ry
    cases x with
    | non=>cases rx;exact SeqAt.EqAt.int_none a t'
    | bl b=>cases rx;exact SeqAt.EqAt.int_bool a t' b
    | int b=>obtain ⟨t,rfl⟩:=rx;exact SeqAt.EqAt.int_int a t' b t
    | str b=>obtain ⟨t,rfl⟩:=rx;exact SeqAt.EqAt.int_str a t' b t
    | _=>exact absurd (show false=true from fx) Bool.false_ne_true
  | str a=>
    obtain ⟨t',rfl⟩:=ry
    cases x with
    | non=>cases rx;exact SeqAt.EqAt.str_none a t'
    | bl b=>cases rx;exact SeqAt.EqAt.str_bool a t' b
    | int b=>obtain ⟨t,rfl⟩:=rx;exact SeqAt.EqAt.str_int a t' b t
    | str b=>obtain ⟨t,rfl⟩:=rx;exact SeqAt.EqAt.str_str a t' b t
    | _=>exact absurd (show false=true from fx) Bool.false_ne_true
  | _=>exact absurd (show false=true from fy) Bool.false_ne_true
def vN (x:V) (u:Value):Bool:=match u with
  | .none=>vf .non x
  | .bool b=>vf (.bl b) x
  | .int i _=>vf (.int i) x
  | .str z _=>vf (.str z) x
  | _=>false
theorem tL {x y:V} {u:Value} (r:RelV y u) (f:gV y=true):vN x u=vf y x:=by
  cases y with
  | non=>cases r;rfl
  | bl b=>cases r;rfl
  | int i=>obtain ⟨t,rfl⟩:=r;rfl
  | str z=>obtain ⟨t,rfl⟩:=r;rfl
  | _=>exact absurd (show false=true from f) Bool.false_ne_true
theorem mn {x:V}:∀{xs:List V} {us:List Value},Vals xs us→xs.all gV=true→us.any (vN x)=xs.any fun y=>vf y x
  | _,_, .nil,_=>rfl
  | y::xs,u::us, .cons r t,f=>by
    rw [List.all_cons,Bool.and_eq_true] at f
    rw [List.any_cons,List.any_cons,tL r f.1,mn t f.2]
theorem j1 {A:Around} {s:Shared} {x:V} {v:Value} (rx:RelV x v) (fx:gV x=true):∀{xs:List V} {us:List Value},Vals xs us→xs.all gV=true→∀u∈us,SeqAt.EqAt A s u v (vN x u)
  | _,_, .nil,_=>fun u hu=>by cases hu
  | y::xs,u::us, .cons r t,f=>fun u' hu=>by
    rw [List.all_cons,Bool.and_eq_true] at f
    rcases List.mem_cons.mp hu with rfl | hu
    · rw [tL r f.1];exact yb r rx f.1 fx
    · exact j1 rx fx t f.2 u' hu
def y7 (x:V) (xs:List V):Bool:=xs.any fun y=>vf y x
def B_ (K:PySem.W.Frag) (neg:Bool):R2:=fun x y H Q=>∃p xs,y= .ref p∧(SqL K H p xs∨SqT K H p xs)∧gV x=true∧xs.all gV=true∧Q (.bl (if neg then !y7 x xs else y7 x xs)) H
theorem mo:OpR X (compareOp .NotIn) (B_ X.K true):=by
  intro pins s σ H x y v u Q I rx ry h
  obtain ⟨p,xs,rfl,hq,fx,fs,q⟩:=h
  cases ry
  rcases hq with hq | hq
  · obtain ⟨its,r,pl,hz⟩:=I.list hq
    refine SeqAt.notIn_listAt (vN x) pl.isList (fun w hw=>j1 rx fx r fs w (by simpa using hw)) ⟨.bl _,H,I,rfl,?_⟩
    rw [show its.toArray.any (vN x)=its.any (vN x) by simp,mn r fs]
    exact q
  · obtain ⟨its,r,pl,hz⟩:=I.tuple hq
    refine SeqAt.notIn_tupleAt (vN x) pl (fun w hw=>j1 rx fx r fs w (by simpa using hw)) ⟨.bl _,H,I,rfl,?_⟩
    rw [show its.toArray.any (vN x)=its.any (vN x) by simp,mn r fs]
    exact q
theorem mq:OpR X (compareOp .NotIn) (fun x y H Q=>∃i j,x= .str i∧y= .str j∧Q (.bl (!(!(Builtin.Str.occurrences j i 0 j.length 1).isEmpty))) H):=by
  intro pins s σ H x y v u Q I rx ry h
  obtain ⟨i,j,rfl,rfl,q⟩:=h
  obtain ⟨t,rfl⟩:=rx
  obtain ⟨t',rfl⟩:=ry
  exact notIn_str ⟨.bl _,H,I,rfl,q⟩
theorem mr:CallR X (.builtin "len") (fun xs H Q=>∃p ys,xs=[.ref p]∧(SqL X.K H p ys∨SqT X.K H p ys)∧Q (.int ys.length) H):=by
  intro pins s σ H xs us Q I r h
  obtain ⟨p,ys,rfl,hq,q⟩:=h
  obtain ⟨u,rfl,rx⟩:=jW r
  cases rx
  have hn:=iC
  rcases hq with hq | hq
  · obtain ⟨its,r',pl,hz⟩:=I.list hq
    have hlen:=r'.length
    exact Calls.call_len_list pl.isList (by simp only [List.size_toArray] <;> omega) ⟨.int ys.length,H,I.tok _,⟨s.toks+1,by rw [List.size_toArray,hlen]⟩,q⟩
  · obtain ⟨its,r',pl,hz⟩:=I.tuple hq
    have hlen:=r'.length
    exact len_tuple pl (by simp only [List.size_toArray] <;> omega) ⟨.int ys.length,H,I.tok _,⟨s.toks+1,by rw [List.size_toArray,hlen]⟩,q⟩
theorem ms:CallR X (.builtin "len") (fun xs H Q=>∃z,xs=[.str z]∧z.length≤sizeLine∧Q (.int z.length) H):=by
  intro pins s σ H xs us Q I r h
  obtain ⟨z,rfl,hz,q⟩:=h
  obtain ⟨u,rfl,t,rfl⟩:=jW r
  have hn:=iC
  exact len_str (by omega) ⟨.int z.length,H,I.tok _,⟨_,rfl⟩,q⟩
theorem CallR.or {f:Value} {r r':List V→Hp→VK→Prop} (h:CallR X f r) (h':CallR X f r'):CallR X f (fun xs H Q=>r xs H Q∨r' xs H Q):=by
  intro pins s σ H xs us Q I rs q
  rcases q with q | q
  · exact h pins s σ H xs us Q I rs q
  · exact h' pins s σ H xs us Q I rs q
theorem mv:CallR X (.type "list") (fun xs H Q=>∃p ys,xs=[.ref p]∧(SqL X.K H p ys∨SqT X.K H p ys)∧∀l,H l=none→Q (.ref l) (upd H l (.lst ys))):=by
  intro pins s σ H xs us Q I r h
  obtain ⟨p,ys,rfl,hq,q⟩:=h
  obtain ⟨u,rfl,rx⟩:=jW r
  cases rx
  have fin:∀(its:List Value),Vals ys its→ys.length≤sizeLine→∀(h':Heap) (c':Nat),(∀b o',s.heap.get? b=some o'→h'.get? b=some o')→
      h'.get? s.heap.objs.size=some {cls:= .type "list",dict:=none,data:= .seq its.toArray c',slots:=#[]}→EP X pins σ Q (.ref s.heap.objs.size) {s with heap:=h'}:=fun its r' hz h' c' kp e=>
    ⟨.ref s.heap.objs.size,_,I.laid (t':=s.toks) kp (Nat.le_refl _) (show ObjOk X.prog X.w _ h' _ (.lst ys) from ⟨hz,its,c',r',e⟩),rfl,q _ (I.hok.fresh (Nat.le_refl _))⟩
  rcases hq with hq | hq
  · obtain ⟨its,r',pl,hz⟩:=I.list hq
    have hlen:=r'.length
    obtain ⟨o,ho,hc,n,hd⟩:=pl.isList
    exact call_list_seq p (.inl rfl) ho hc hd (fun h' c' kp e=>fin its r' hz h' c' kp e) (by simp only [List.size_toArray] <;> omega)
  · obtain ⟨its,r',pl,hz⟩:=I.tuple hq
    have hlen:=r'.length
    obtain ⟨o,ho,hc,n,hd⟩:=pl
    exact call_list_seq p (.inr rfl) ho hc hd (fun h' c' kp e=>fin its r' hz h' c' kp e) (by simp only [List.size_toArray] <;> omega)
theorem kM:CallR X (.type "tuple") (fun xs H Q=>∃p ys,xs=[.ref p]∧((SqL X.K H p ys∧∀l,H l=none→Q (.ref l) (upd H l (.tup ys)))∨(SqT X.K H p ys∧Q (.ref p) H))):=by
  intro pins s σ H xs us Q I r h
  obtain ⟨p,ys,rfl,h⟩:=h
  obtain ⟨u,rfl,rx⟩:=jW r
  cases rx
  rcases h with ⟨hq,q⟩ | ⟨hq,q⟩
  · obtain ⟨its,r',pl,hz⟩:=I.list hq
    have hlen:=r'.length
    refine call_tuple_list pl.isList (fun h' kp=>?_) (by simp only [List.size_toArray] <;> omega)
    have I1:Inv X pins σ H {s with heap:=h'}:=I.kept (t':=s.toks) kp
    have I2:Inv X pins σ (upd H h'.objs.size (.tup ys)) {s with heap:=h'.push {cls:= .type "tuple",data:= .seq its.toArray}}:=
      I1.laid (t':=s.toks) (fun b o e=>Heap.get?_push_of_some _ e) (Nat.le_refl _) (show ObjOk X.prog X.w _ _ _ (.tup ys) from ⟨hz,its,r',IsTup.new _ _⟩)
    exact ⟨.ref h'.objs.size,_,I2,rfl,q _ (I1.hok.fresh (Nat.le_refl _))⟩
  · obtain ⟨its,r',pl,hz⟩:=I.tuple hq
    exact call_tuple_same pl ⟨.ref p,H,I,rfl,q⟩
def Ca (K:PySem.W.Frag) (T:String) (x:V) (H:Hp):Prop:=match x with
  | .str _=>T="str"
  | .int _=>T="int"
  | .ref p=>(T="list"∧∃xs,SqL K H p xs)∨(T="tuple"∧∃o,K.lookup p=some o∧o.cls= .type "tuple"∧o.dict=none)∨
      (T="dict"∧((∃kvs,H p=some (.dK kvs))∨∃kvs,H p=some (.dT kvs)))∨(T="set"∧∃S n,H p=some (.set S n))
  | _=>False
theorem yc {pins:List (Addr×Obj)} {σ:St} {H:Hp} {s:Shared} {T:String} {x:V} {v:Value} (I:Inv X pins σ H s) (r:RelV x v) (ty:Ca X.K T x H):
    s.TypeIs v T∧∀a,v= .ref a→∃ob,s.heap.get? a=some ob∧ob.dict=none:=by
  cases x with
  | str z=>
    obtain ⟨t,rfl⟩:=r
    cases (show T="str" from ty)
    exact ⟨typeIs_str s z t,fun _ e=>nomatch e⟩
  | int i=>
    obtain ⟨t,rfl⟩:=r
    cases (show T="int" from ty)
    exact ⟨typeIs_int s i t,fun _ e=>nomatch e⟩
  | ref p=>
    cases r
    rcases ty with ⟨rfl,xs,hq⟩ | ⟨rfl,o,hk,hc,hd⟩ | ⟨rfl,hk⟩ | ⟨rfl,S,n,hk⟩
    · obtain ⟨its,_,pl,_⟩:=I.list hq
      refine ⟨pl.isList.typeIs,fun a e=>?_⟩
      cases e
      obtain ⟨o,n,e,c,hd,_⟩:=pl
      exact ⟨o,e,hd⟩
    · refine ⟨⟨o,I.kIn p o hk,hc⟩,fun a e=>?_⟩
      cases e
      exact ⟨o,I.kIn _ o hk,hd⟩
    · have z:∃o,s.heap.get? p=some o∧o.ExactDict:=by
        rcases hk with ⟨kvs,hk⟩ | ⟨kvs,hk⟩
        · obtain ⟨_,_,_,_,o,_,_,e,ex,_⟩:=I.hok p _ hk
          exact ⟨o,e,ex⟩
        · obtain ⟨_,_,_,_,o,_,_,e,ex,_⟩:=I.hok p _ hk
          exact ⟨o,e,ex⟩
      obtain ⟨o,e,ex⟩:=z
      refine ⟨⟨o,e,ex.1⟩,fun a e2=>?_⟩
      cases e2
      exact ⟨o,e,ex.2.1⟩
    · obtain ⟨o,_,_,_,e,ex,_⟩:=I.hok p _ hk
      refine ⟨⟨o,e,ex.1⟩,fun a e2=>?_⟩
      cases e2
      exact ⟨o,e,ex.2.1⟩
  | _=>exact False.elim ty
def CA (K:PySem.W.Frag) (T:String) (r:V→List V→Hp→VK→Prop) (to:TE) (t:TA):TE:=fun σ H Q=>to σ H fun x H1=>Ca K T x H1∧t σ H1 fun xs H2=>r x xs H2 Q
variable {o e:Expr} {es:List Expr} {to:TE} {t:TA} {name:Str} {apos cpos:Pos} {T id:String} {r:V→List V→Hp→VK→Prop}
theorem qu (pa:PlainAttrs T) (slot:Slot T name id) (hty:typeOf (.builtin id)=pure (.type "method_descriptor")) (hm:MtR X id r) (ho:PE X o to) (ha:PA X (e::es) t)
    (hbase:attributeBase o name X.env (eval o X.env)=eval o X.env:=by rfl)
    (hfew:((backTo cpos (starEach (e::es) X.env)).all (fun x=> !x.1)&&(backToKw cpos (keywordEach [] X.env)).all (fun x=>x.1.isSome)
      &&decide ((e::es).length+([]:List Keyword).length+(if ([]:List Keyword).isEmpty then 0 else 1) < 30))=true:=by rfl)
    (hline:(apos.endLine == cpos.line)=true:=by rfl) (hs:starEach (e::es) X.env=(false,eval e X.env)::starEach es X.env:=by rfl) (hplain:(backTo cpos (starEach es X.env)).any (·.1)=false:=by rfl):
    PE X (.Call (.Attribute o name apos) (e::es) [] cpos) (CA X.K T r to t):=by
  intro pins s σ H Q I h
  refine wpAny_Call_method_late hbase hfew hline rfl (cO (ho pins s σ H _ I h) fun v s1 ⟨x,H1,I1,r1,ty,q1⟩=>?_)
  obtain ⟨h1,h2⟩:=yc I1 r1 ty
  refine ⟨T,id,pa,slot,hty,h1,h2,?_⟩
  have hA:=ha cpos pins s1 σ H1 _ I1 q1
  rw [hs] at hA ⊢
  refine Calls.callWith_builtin (by show (false||(backTo cpos (starEach es X.env)).any (·.1))=false;rw [hplain] <;> rfl) (Calls.evalArgs_plain ?_)
  exact cO hA fun us s2 ⟨vs,H2,I2,r2,q2⟩=>hm pins s2 σ H2 x vs v us Q I2 r1 r2 q2
end
end L2
namespace L2
open PySem PySem.Spec PyProof.Rows
def Cb (X:Cx) (id:String) (r:V→List V→Hp→VK→Prop):Prop:=
  ∀(pins:List (Addr×Obj)) (s:Shared) (σ:St) (H:Hp) (x:V) (xs:List V) (v:Value) (us:List Value) (Q:VK),Inv X pins σ H s→RelV x v→Vals xs us→r x xs H Q→
    wpAny (model X.prog X.w) X.A (call (.builtin id) (v::us)) (EP X pins σ Q) X.xe s
theorem Vals.one {x:V} {us:List Value} (h:Vals [x] us):∃u,us=[u]∧RelV x u:=by
  cases h with
  | cons r t=>cases t;exact ⟨_,rfl,r⟩
theorem Vals.two {x y:V} {us:List Value} (h:Vals [x,y] us):∃u v,us=[u,v]∧RelV x u∧RelV y v:=by
  cases h with
  | cons r t=>
    obtain ⟨v,rfl,q⟩:=Vals.one t
    exact ⟨_,_,rfl,r,q⟩
theorem Vals.zero:∀{us:List Value},Vals [] us→us=[]
  | _, .nil=>rfl
theorem Vals.reverse {xs:List V} {us:List Value} (h:Vals xs us):Vals xs.reverse us.reverse:=by
  induction h with
  | nil=>exact .nil
  | cons r t ih=>rw [List.reverse_cons,List.reverse_cons];exact Vals.append ih (.cons r .nil)
theorem Vals.rep {xs:List V} {us:List Value} (h:Vals xs us):∀k:Nat,Vals (List.replicate k xs).flatten (List.replicate k us).flatten
  | 0=> .nil
  | k+1=>by
    rw [List.replicate_succ,List.replicate_succ,List.flatten_cons,List.flatten_cons]
    exact Vals.append h (Vals.rep h k)
section
variable {X:Cx} {pins:List (Addr×Obj)} {σ:St} {H:Hp} {s:Shared} {l b:Addr} {xs ys zs:List V}
theorem Inv.lset {its its':List Value} {n:Nat} {f:Array Value→Array Value} {t':Nat} (I:Inv X pins σ H s) (hH:H l=some (.lst xs))
    (e:s.heap.get? l=some {cls:= .type "list",data:= .seq its.toArray n}) (hf:f its.toArray=its'.toArray) (hv:Vals ys its') (hz:ys.length≤sizeLine):
    Inv X pins σ (upd H l (.lst ys)) {s with heap:=s.heap.update l (Obj.mapSeq f),toks:=t'}:=by
  have q:=PySem.IsL.update e f
  rw [hf] at q
  refine I.write (x:=l) (e:=l) (by rw [hH];exact trivial) (.inl rfl) (fun b' u hb hu=>(Heap.get?_update_other s.heap (Obj.mapSeq f) (Ne.symm hb)).trans hu) ⟨_,q⟩ ?_
  exact ⟨hz,its',_,hv,q⟩
theorem Inv.lnew {its:List Value} {t':Nat} (I:Inv X pins σ H s) (hv:Vals ys its) (hz:ys.length≤sizeLine):
    Inv X pins σ (upd H s.heap.objs.size (.lst ys)) {s with heap:=s.heap.push {cls:= .type "list",data:= .seq its.toArray},toks:=t'}:=
  I.laid (fun _ _ q=>Heap.get?_push_of_some _ q) (Nat.le_refl _) ⟨hz,its,0,hv,Heap.get?_push_size _ rfl⟩
theorem Inv.fresh (I:Inv X pins σ H s):H s.heap.objs.size=none:=I.hok.fresh (Nat.le_refl _)
theorem Inv.lstM (I:Inv X pins σ H s) (hH:H l=some (.lst xs)):xs.length≤sizeLine∧∃(its:List Value) (n:Nat),Vals xs its∧xs.length=its.length∧s.heap.get? l=some {cls:= .type "list",data:= .seq its.toArray n}:=by
  obtain ⟨z,its,n,r,e⟩:=I.hok l _ hH
  exact ⟨z,its,n,r,r.length,e⟩
theorem tM {n:Nat} (h:n≤sizeLine):Builtin.List.listTooLong n=false:=by
  unfold Builtin.List.listTooLong
  exact decide_eq_false (by omega)
end
section
variable {X:Cx}
def vO:V→List V→Hp→VK→Prop:=fun x vs H Q=>∃l xs y,x= .ref l∧vs=[y]∧H l=some (.lst xs)∧xs.length < sizeLine∧Q .non (upd H l (.lst (xs++[y])))
theorem lP:Cb X "list.append" vO:=by
  intro pins s σ H x vs v us Q I rx rv h
  obtain ⟨l,xs,y,rfl,rfl,hH,hz,q⟩:=h
  cases rx
  obtain ⟨u,rfl,ru⟩:=rv.one
  obtain ⟨z,its,n,r,hl,e⟩:=I.lstM hH
  refine call_meets F.slot_list_append ⟨_,e,rfl⟩ F.entry_list_append (F.args_list_append_2 _ _) (PySem.list_append l its.toArray n u (by rw [List.size_toArray];omega)) ⟨e,?_⟩
  refine ⟨.non,_,I.lset (its':=its++[u]) hH e (by simp) (r.append (.cons ru .nil)) ?_,rfl,q⟩
  rw [List.length_append,List.length_singleton]
  omega
def vP:V→List V→Hp→VK→Prop:=fun x vs H Q=>∃l b xs zs,x= .ref l∧vs=[.ref b]∧H l=some (.lst xs)∧H b=some (.lst zs)∧xs.length+zs.length≤sizeLine∧Q .non (upd H l (.lst (xs++zs)))
theorem rK:Cb X "list.extend" vP:=by
  intro pins s σ H x vs v us Q I rx rv h
  obtain ⟨l,b,xs,zs,rfl,rfl,hH,hB,hz,q⟩:=h
  cases rx
  obtain ⟨u,rfl,ru⟩:=rv.one
  cases ru
  obtain ⟨z,its,n,r,hl,e⟩:=I.lstM hH
  obtain ⟨z2,its2,n2,r2,hl2,e2⟩:=I.lstM hB
  have hsz:its.toArray.size+its2.toArray.size≤sizeLine:=by rw [List.size_toArray,List.size_toArray];omega
  have hlong:¬(!its.toArray.isEmpty&&Builtin.List.listTooLong (its.toArray.size+its2.toArray.size))=true:=by
    rw [tM hsz,Bool.and_false]
    exact Bool.false_ne_true
  refine call_meets F.slot_list_extend ⟨_,e,rfl⟩ F.entry_list_extend (F.args_list_extend_2 _ _)
    (AutoSeq1.list_extend_list_list_0 l its.toArray n b its2.toArray n2 hlong (by rw [List.size_toArray];omega) (by omega)) ⟨e,e2,?_⟩
  refine ⟨.non,_,I.lset (its':=its++its2) hH e (by simp) (r.append r2) ?_,rfl,q⟩
  rw [List.length_append]
  omega
theorem vQ {α:Type} (xs:List α) (k:Nat):(List.replicate k xs).flatten.length=k*xs.length:=by
  induction k with
  | zero=>simp
  | succ k ih=>rw [List.replicate_succ,List.flatten_cons,List.length_append,ih,Nat.succ_mul,Nat.add_comm]
end
end L2
namespace Att
open PySem PySem.W PySem.Calls PyProof.Rows
theorem jB {P:Params} {h:Heap}:∀(ns:List Int) (vs:List Value),WellAll P h vs (ns.map WData.int)→IntsAre vs ns:=by
  intro ns
  induction ns with
  | nil=>
    intro vs w
    rw [List.map_nil] at w
    cases w
    exact .nil
  | cons n ns ih=>
    intro vs w
    rw [List.map_cons] at w
    cases w with
    | cons a b=>
      cases a
      exact .cons _ _ (ih _ b)
theorem rL {l:OpenLaw} {n:Nat} (hn:l.most=some n) {P:Params} {h:Heap} {args:List WData} {vals:List Value}
    (hpre:l.row.toRowW.claim.pre args=true) (hwl:WellAll P h vals args):
    ∃a vs ns,vals=[Value.ref a]∧args=[WData.list (ns.map WData.int)]∧h.get? a=some {cls:= .type "list",data:= .seq vs.toArray}∧IntsAre vs ns∧ns.length≤n:=by
  have hsh:WShape.hasAll [] args [.list .int]=true:=(pre_splitW hpre).1
  have hc:l.pre.holds [] {args:=args}=true:=(pre_splitW hpre).2
  obtain ⟨d,r,rfl,h1,h2⟩:=hasAllW_cons hsh
  obtain rfl:=hasAllW_nil h2
  obtain ⟨xs,rfl,h3⟩:=hasW_list h1
  obtain ⟨ns,rfl⟩:=items_int h3
  have hlen:ns.length≤n:=by
    unfold OpenLaw.pre at hc
    have h4:(WTm.not (.lt (.lit (.int (n:Int))) (.len (.arg 0)))).holds [] {args:=[.list (ns.map .int)]}=true:=by
      have h4:=(holds_andW hc).1
      rw [hn] at h4
      exact h4
    have h5:=condW_of h4 (w_not (w_lt w_lit (w_len_list (w_arg rfl))))
    rw [List.length_map] at h5
    refine Nat.le_of_not_lt fun q=>?_
    have q':(n:Int) < ((ns.length:Nat):Int):=by omega
    first
      | (rw [decide_eq_true q'] at h5;exact absurd h5 (by decide))
      | (simp at h5;omega)
  cases hwl with
  | cons w1 w2=>
    cases w2
    cases w1 with
    | list ho hall=>exact ⟨_,_,ns,rfl,rfl,ho,jB ns _ hall,hlen⟩
theorem rM (l:OpenLaw) (args:List WData):l.row.toRowW.claim.post args (.bool true) args=true:=
  postW_of (r:=l.row.toRowW) (X:=(true == true))
    (show WShape.has [] (.bool true) .bool=true by first | rfl | decide | simp [WShape.has,WShape.arms,WShape.armsAll])
    (show (WTm.eq .res (.lit (.bool true))).value [] {args:=args,res:=some (.bool true),after:=args}=some (.bool (true == true)) from w_eq_bool (w_res rfl) w_lit) rfl
theorem nY {l:OpenLaw} {n:Nat} {q:Program} {loose:List Str} {XP:(Str→Option Value)→Heap→Prop} {YP:World→Heap→Prop} {d:DefRec}
    (hn:l.most=some n) (hdf:d.params.defaults=[])
    (call:∀(w:World) (s₀ s₁:Shared) (mg mb:Str→Option Value) (fa:Addr) (o:Obj) (pm cd doc:Value) (a:Addr) (vs:List Value) (ns:List Int),
      Ground q loose [] XP w s₀ mg mb s₁.heap→YP w s₁.heap→
      s₁.heap.get? fa=some o→o.data= .func (docDef d.name d.params d.body d.scope pm cd doc)→s₁.heap.CodeRec cd d.name→mg d.name=some (.ref fa)→
      s₁.heap.get? a=some {cls:= .type "list",data:= .seq vs.toArray}→IntsAre vs ns→ns.length≤n→s₁.gens=#[]→
      codeAny (model l.prog w) callerA (.call (.ref fa) ⟨[.ref a],[]⟩) (fun r s'=>r= .ok (.ret (.bool true))∧OldK s₁.heap s'.heap∧s'.os=s₁.os∧AllBare s'.gens) s₁):
    WalkO q loose XP YP l.row.toRowW d [] (fun f vs=>PySem.call f vs):=by
  intro w s₀ s₁ mg mb G Y fa o pm cd doc dV kV ho hd hcd hD hmg hg args vals as hpre hlay hrd hwl hlo
  obtain rfl:dV= .none:=Dflts.none hD hdf
  obtain rfl:kV= .none:=Dflts.noKw hD
  obtain ⟨a,vs,ns,rfl,rfl,hobj,hints,hlen⟩:=rL hn hpre hwl
  refine enter_call (codeAny_mono (call w s₀ s₁ mg mb fa o pm cd doc a vs ns G Y ho (fd_plain hd) hcd hmg hobj hints hlen hg) fun r s' hq=>?_)
  obtain ⟨rfl,h2,h3,h4⟩:=hq
  exact ⟨.inl ⟨.bool true, .bool true,[],rfl,fun _=>rfl, .bool true,rM l _,fun _=>⟨List.Pairwise.nil,fun _ hm=>(nomatch hm)⟩⟩,h2,h3,h4⟩
end Att
namespace L2
open PySem PySem.Spec PyProof.Rows
theorem gp:∀{vs:List Value} {ns:List Int},IntsAre vs ns→Vals (ns.map V.int) vs
  | _,_, .nil=> .nil
  | _,_, .cons n t h=> .cons ⟨t,rfl⟩ (gp h)
theorem ObjOk.tbl0 {P:Program} {w:World} {H:Hp} {h:Heap} {b:Addr} {q:Str} (e:h.get? b=some (PySem.W.tabObj #[])):ObjOk P w H h b (.tbl q):=⟨#[],e,trivial,fun pos cv z=>by cases z⟩
end L2
namespace L2
open PySem PySem.Spec PyProof.Rows
def cU (s:Stmt) (j:Nat):Stmt:=match s with
  | .ClassDef _ _ _ body _ _ _ _ _ _ _=>body.getD j (.Pass ⟨0,0,0,0⟩)
  | _=> .Pass ⟨0,0,0,0⟩
def cV (s:Stmt):Arguments:=match s with
  | .FunctionDef _ a _ _ _ _ _ _ _ _=>a
  | _=>{posonlyargs:=[],args:=[],vararg:=none,kwonlyargs:=[],kw_defaults:=[],kwarg:=none,defaults:=[]}
def bL (s:Stmt):List Stmt:=match s with
  | .FunctionDef _ _ b _ _ _ _ _ _ _=>b
  | _=>[]
def aj (s:Stmt):Scope:=match s with
  | .FunctionDef _ _ _ _ _ _ sc _ _ _=>sc
  | _=>{kind:= .function,names:=[],isGenerator:=false,isCoroutine:=false}
abbrev ir:sO:=fun _ _ _ _ _ _=>False
abbrev E0:XK:=fun _ _ _=>False
theorem qv {X:Cx}:jY ir X E0:=fun _ _ _ _ _ _ _ h=>h.elim
structure Fun (K:PySem.W.Frag) (x qual:Str) (st:Stmt) (f:Addr) (fd:FuncData):Prop where
  ex:∃(oc:Value) (od:Option Addr) (kV doc pm:Value) (an:Option Addr) (cdv ct:Value) (osl:Array (Option Value)),
    fd=PySem.W.fnOf x qual (cV st) (bL st) (aj st) .none kV doc pm an cdv ct∧K.lookup f=some ⟨oc,od, .func fd,osl⟩∧PySem.W.codeIn K cdv qual=true
  kp:PySem.W.keepIn K (.ref f)=true
section
variable {P:Program} {w:World} {K:PySem.W.Frag} {mg:Str→Option Value} {base:Heap}
theorem Fun.ok {x qual:Str} {st:Stmt} {f:Addr} {fd:FuncData} {N ps:List Str} {k:Nat} {sp:Sp} (F:Fun K x qual st f fd) (S:FnScope N ps (aj st)) (len:∀vs H Q E,sp vs H Q E→vs.length=ps.length)
    (hbody:∀(cdv:Value) (A:Around) (outer:List Env) (s:Shared) (H:Hp) (vs:List V) (Q:VK) (E:XK),Room k (A.deeper (envOfC qual (aj st) s.heap.objs.size f cdv))→sp vs H Q E→
      ∃t,PSs (jZ ir P w K mg base N qual (aj st) f cdv A outer s H E).nox (bL st) t∧t {nx:=fun _ H'=>Q .non H',rt:=Q} (cD N vs) H):FnOk P w K mg base ir (k+1) f fd ps sp:=by
  obtain ⟨oc,od,kV,doc,pm,an,cdv,ct,osl,rfl,lk,hcd⟩:=F.ex
  refine zF lk hcd S len fun A outer s H vs Q E hr hsp=>?_
  obtain ⟨t,h,q⟩:=hbody cdv A outer s H vs Q E hr hsp
  exact ⟨t,h.nox,q⟩
theorem Fun.binds {x qual:Str} {st:Stmt} {f:Addr} {fd:FuncData} {ps:List Str} (F:Fun K x qual st f fd)
    (h:∀(kV doc pm:Value) (an:Option Addr) (cdv ct:Value) (us:List Value),us.length=ps.length→bindArgs (PySem.W.fnOf x qual (cV st) (bL st) (aj st) .none kV doc pm an cdv ct) ⟨us,[]⟩=pure (ps.zip us)):Binds K fd ps []:=by
  obtain ⟨oc,od,kV,doc,pm,an,cdv,ct,osl,rfl,lk,hcd⟩:=F.ex
  exact .all (h kV doc pm an cdv ct)
theorem j2 {x qual:Str} {st:Stmt} {f:Addr} {oc:Value} {od an:Option Addr} {osl:Array (Option Value)} {kV doc pm cdv ct:Value} (l:K.lookup f=some ⟨oc,od, .func (PySem.W.fnOf x qual (cV st) (bL st) (aj st) .none kV doc pm an cdv ct),osl⟩)
    (c:PySem.W.codeIn K cdv qual=true) (k:PySem.W.keepIn K (.ref f)=true):Fun K x qual st f (PySem.W.fnOf x qual (cV st) (bL st) (aj st) .none kV doc pm an cdv ct):=⟨⟨oc,od,kV,doc,pm,an,cdv,ct,osl,rfl,l,c⟩,k⟩
end
section
variable {X:Cx}
theorem pv (i:Nat) {x:Str} {pos:Pos} (hN:X.N[i]? =some x:=by rfl) (hv:ve X.env.scope x:=by first | exact Or.inl rfl | exact Or.inr (Or.inl rfl) | exact Or.inr (Or.inr rfl)) (hd:(x == ("__debug__":Str))=false:=by decide)
    (hcd:(x == ("__classdict__":Str))=false:=by decide):PE X (.Name x pos) (dF i):=gZ hN hv hd hcd
end
def Same (H H':Hp):Prop:=∀b o,H b=some o→H' b=some o
theorem Same.refl (H:Hp):Same H H:=fun _ _ h=>h
theorem Same.trans {H H1 H2:Hp} (a:Same H H1) (b:Same H1 H2):Same H H2:=fun c o h=>b c o (a c o h)
theorem Same.free {H H':Hp} (e:Same H H') {l:Addr} (h:H' l=Option.none):H l=Option.none:=by
  cases q:H l with
  | none=>rfl
  | some o=>
    rw [e l o q] at h
    cases h
theorem Same.seq {K:PySem.W.Frag} {H H':Hp} {a:Addr} {xs:List V} (e:Same H H') (h:SqL K H a xs):SqL K H' a xs:=by
  rcases h with (h | ⟨o,h⟩) | h
  · exact .inl (.inl (e _ _ h))
  · exact .inl (.inr ⟨o,e _ _ h⟩)
  · exact .inr h
end L2
namespace NH
section
variable {α:Type} [DecidableEq α]
def stp (r:List (α×Int)) (p:α×Int):List (α×Int):=
  match r with
  | []=>if p.2=0 then [] else [p]
  | q::r'=>if q.1=p.1 then (if q.2+p.2=0 then r' else (p.1,q.2+p.2)::r') else (if p.2=0 then q::r' else p::q::r')
def stk (c:List (α×Int)):List (α×Int):=c.foldl stp []
def Red:List (α×Int)→Prop
  | []=>True
  | [p]=>p.2≠0
  | p::q::r=>p.2≠0∧p.1≠q.1∧Red (q::r)
theorem Red.cons {p:α×Int} {r:List (α×Int)} (h0:p.2≠0) (h1:∀q∈r.head?,p.1≠q.1) (h:Red r):Red (p::r):=by
  cases r with
  | nil=>exact h0
  | cons q r=>exact ⟨h0,h1 q rfl,h⟩
theorem Red.next {p:α×Int} {r:List (α×Int)} (h:Red (p::r)):∀q∈r.head?,p.1≠q.1:=by
  cases r with
  | nil=>intro q hq;cases hq
  | cons q r=>intro q' hq;cases hq;exact h.2.1
def contr (c:List (α×Int)):List (α×Int):=c.reverse.map fun p=>(p.1,-p.2)
theorem bi (c:List (α×Int)):(contr c).length=c.length:=by simp [contr]
def sn (w:List (α×Int)) (p:α×Int):List (α×Int):=(stp w.reverse p).reverse
def mw (p x:α×Int):List (α×Int):=if x.1=p.1 then (if x.2+p.2=0 then [] else [(p.1,x.2+p.2)]) else (if p.2=0 then [x] else [p,x])
theorem iQ (p x:α×Int) (r:List (α×Int)):stp (x::r) p=mw p x++r:=by
  show (if x.1=p.1 then (if x.2+p.2=0 then r else (p.1,x.2+p.2)::r) else (if p.2=0 then x::r else p::x::r))=mw p x++r
  unfold mw
  by_cases e:x.1=p.1
  · rw [if_pos e,if_pos e];split <;> rfl
  · rw [if_neg e,if_neg e];split <;> rfl
def AK (x p:α×Int):List (α×Int):=(mw p x).reverse
theorem qw (p x:α×Int) (r:List (α×Int)):sn (r++[x]) p=r++AK x p:=by
  unfold sn AK
  rw [List.reverse_append,List.reverse_singleton,List.singleton_append,iQ,List.reverse_append,List.reverse_reverse]
theorem zL (p q:α×Int) (x:α×Int) (hx:x.2≠0):stp (sn [x] q) p=sn (stp [x] p) q:=by
  obtain ⟨n,a⟩:=p
  obtain ⟨k,b⟩:=q
  obtain ⟨m,u⟩:=x
  simp at hx
  by_cases e1:m=n
  · subst e1
    by_cases e2:m=k
    · subst e2
      by_cases z1:u+a=0 <;> by_cases z2:u+b=0
      · simp [stp,sn,z1,z2]
        have:a=b:=by omega
        have ha:a≠0:=by omega
        have hb:b≠0:=by omega
        simp [ha,hb,this]
      · have hb:u+b+a=b:=by omega
        by_cases b0:b=0
        · subst b0;simp [stp,sn,z1,hx]
        · simp [stp,sn,z1,z2,hb,b0]
      · have hb:u+a+b=a:=by omega
        by_cases a0:a=0
        · subst a0;simp [stp,sn,z2,hx]
        · simp [stp,sn,z1,z2,hb,a0]
      · have hb:u+b+a=u+a+b:=by omega
        by_cases z3:u+a+b=0
        · simp [stp,sn,z1,z2,hb,z3]
        · simp [stp,sn,z1,z2,hb,z3]
    · by_cases z1:u+a=0 <;> by_cases z2:b=0 <;> simp [stp,sn,e2,z1,z2]
  · by_cases e2:m=k
    · subst e2
      by_cases z1:u+b=0 <;> by_cases z2:a=0 <;> simp [stp,sn,e1,z1,z2]
    · by_cases z1:a=0 <;> by_cases z2:b=0 <;> simp [stp,sn,e1,e2,z1,z2]
theorem zM (p q:α×Int):stp (sn [] q) p=sn (stp [] p) q:=by
  obtain ⟨n,a⟩:=p
  obtain ⟨k,b⟩:=q
  by_cases z1:a=0 <;> by_cases z2:b=0
  · simp [stp,sn,z1,z2]
  · by_cases e:k=n <;> simp [stp,sn,z1,z2,e]
  · by_cases e:n=k <;> simp [stp,sn,z1,z2,e]
  · by_cases e:k=n
    · subst e
      by_cases z:a+b=0
      · have z':b+a=0:=by omega
        simp [stp,sn,z1,z2,z,z']
      · have z':¬b+a=0:=by omega
        simp [stp,sn,z1,z2,z,z']
        omega
    · have e':¬n=k:=fun t=>e t.symm
      simp [stp,sn,z1,z2,e,e']
theorem comm (p q:α×Int) {w:List (α×Int)} (h:Red w):stp (sn w q) p=sn (stp w p) q:=by
  cases w with
  | nil=>exact zM p q
  | cons x r=>
    rcases List.eq_nil_or_concat r with rfl | ⟨m,y,e⟩
    · exact zL p q x h
    · have e':r=m++[y]:=by rw [e] <;> simp
      subst e'
      have e1:x::(m++[y])=(x::m)++[y]:=rfl
      have e2:sn (x::(m++[y])) q=x::(m++AK y q):=by rw [e1,qw];rfl
      rw [e2,iQ,iQ,←List.append_assoc,←List.append_assoc,qw]
end
end NH
namespace L2
open PySem PySem.Spec PyProof.Rows
theorem gq {H:Hp} {p:Addr} (h:H p=none) (o:HO):Same H (upd H p o):=fun b u q=>by rw [ay (aT q h)];exact q
theorem Same.tup {K:PySem.W.Frag} {H H':Hp} {a:Addr} {xs:List V} (e:Same H H') (h:SqT K H a xs):SqT K H' a xs:=by
  rcases h with (h | ⟨o,h⟩) | h
  · exact .inl (.inl (e _ _ h))
  · exact .inl (.inr ⟨o,e _ _ h⟩)
  · exact .inr h
def SameBut (l:Addr) (H H':Hp):Prop:=∀b o,b≠l→H b=some o→H' b=some o
theorem SameBut.upd {H:Hp} {l:Addr} (o:HO):SameBut l H (upd H l o):=fun b u hb q=>by rw [ay hb];exact q
theorem SameBut.trans {H H1 H2:Hp} {l:Addr} (a:SameBut l H H1) (b:SameBut l H1 H2):SameBut l H H2:=fun c o hc q=>b c o hc (a c o hc q)
theorem SameBut.same {H H':Hp} {l:Addr} (a:SameBut l H H') (h:H l=none):Same H H':=fun b o q=>a b o (aT q h) q
theorem SameBut.tup {K:PySem.W.Frag} {H H':Hp} {l a:Addr} {xs ys:List V} (e:SameBut l H H') (hl:H l=some (.lst ys)) (h:SqT K H a xs):SqT K H' a xs:=by
  rcases h with (h | ⟨o,h⟩) | h
  · exact .inl (.inl (e _ _ (wQ h hl (by intro z;cases z)) h))
  · exact .inl (.inr ⟨o,e _ _ (wQ h hl (by intro z;cases z)) h⟩)
  · exact .inr h
mutual
inductive DOf (K:PySem.W.Frag) (H:Hp):V→PyData→Prop
  | non:DOf K H .non .none
  | bl (b:Bool):DOf K H (.bl b) (.bool b)
  | int (i:Int):DOf K H (.int i) (.int i)
  | str (x:Str):DOf K H (.str x) (.str x)
  | lst {a:Addr} {xs:List V} {ds:List PyData}:SqL K H a xs→DAll K H xs ds→DOf K H (.ref a) (.list ds)
  | tup {a:Addr} {xs:List V} {ds:List PyData}:SqT K H a xs→DAll K H xs ds→DOf K H (.ref a) (.tuple ds)
inductive DAll (K:PySem.W.Frag) (H:Hp):List V→List PyData→Prop
  | nil:DAll K H [] []
  | cons {x:V} {xs:List V} {d:PyData} {ds:List PyData}:DOf K H x d→DAll K H xs ds→DAll K H (x::xs) (d::ds)
end
section
variable {X:Cx} {pins:List (Addr×Obj)} {σ:St} {H:Hp} {s:Shared}
theorem DOf.reads (I:Inv X pins σ H s) {x:V} {d:PyData} {u:Value} (h:DOf X.K H x d) (r:RelV x u):∃as,Reads s.heap u d as:=DOf.rec (motive_1:=fun x d _=>∀{u:Value},RelV x u→∃as,Reads s.heap u d as) (motive_2:=fun xs ds _=>∀{us:List Value},Vals xs us→∃as,ReadsAll s.heap us ds as)
    (fun r=>by cases r;exact ⟨_,Reads.none⟩) (fun b _ r=>by cases r;exact ⟨_,Reads.bool b⟩) (fun i _ r=>by obtain ⟨t,rfl⟩:=r;exact ⟨_,Reads.int i t⟩) (fun x _ r=>by obtain ⟨t,rfl⟩:=r;exact ⟨_,Reads.str x t⟩)
    (fun hq _ ih _ r=>by
      cases r
      obtain ⟨its,rv,⟨o,n,e,c,_,d⟩,_⟩:=I.list hq
      obtain ⟨as,q⟩:=ih rv
      exact ⟨_,reads_list_at e c d (by simpa using q)⟩)
    (fun hq _ ih _ r=>by
      cases r
      obtain ⟨its,rv,⟨o,e,c,n,d⟩,_⟩:=I.tuple hq
      obtain ⟨as,q⟩:=ih rv
      exact ⟨_,reads_tuple_at e c d (by simpa using q)⟩)
    (fun r=>by cases r;exact ⟨_,ReadsAll.nil⟩)
    (fun _ _ a b _ r=>by
      cases r with
      | cons r rt=>
        obtain ⟨as,q⟩:=a r
        obtain ⟨bs,p⟩:=b rt
        exact ⟨_,ReadsAll.cons q p⟩) h r
end
def zN (K:PySem.W.Frag):R2:=fun x y H Q=>∃d e,DOf K H x d∧DOf K H y e∧SeqAt.shaped d=true∧SeqAt.shaped e=true∧Q (.bl (PyData.eqv d e)) H
def zO (K:PySem.W.Frag):R2:=fun x y H Q=>∃d e,DOf K H x d∧DOf K H y e∧SeqAt.shaped d=true∧SeqAt.shaped e=true∧Q (.bl (!PyData.eqv d e)) H
theorem tN {X:Cx} (hu:X.A.units+64 < cLine):OpR X (compareOp .Eq) (zN X.K):=by
  intro pins s σ H x y v u Q I rx ry h
  obtain ⟨d,e,hd,he,s1,s2,q⟩:=h
  obtain ⟨as,ra⟩:=hd.reads I rx
  obtain ⟨bs,rb⟩:=he.reads I ry
  exact eq_dataH ra rb s1 s2 hu ⟨.bl _,H,I,rfl,q⟩
theorem tO {X:Cx} (hu:X.A.units+64 < cLine):OpR X (compareOp .NotEq) (zO X.K):=by
  intro pins s σ H x y v u Q I rx ry h
  obtain ⟨d,e,hd,he,s1,s2,q⟩:=h
  obtain ⟨as,ra⟩:=hd.reads I rx
  obtain ⟨bs,rb⟩:=he.reads I ry
  exact ne_dataH ra rb s1 s2 hu ⟨.bl _,H,I,rfl,q⟩
def BG (K:PySem.W.Frag) (a:Addr) (xs:List V):It:=
  ⟨fun i H=>SqL K H a xs∧i < xs.length,fun i H x H'=>H'=H∧xs.reverse[i]? =some x,fun i H=>SqL K H a xs∧i=xs.length⟩
theorem tP {P:Program} {w:World} {K:PySem.W.Frag} {tg:Expr} (a it:Addr) (xs:List V):Turn P w K tg (BG K a xs) [it] it (fun i h=>h.IsRevIter it a ((xs.length:Int) - 1 - (i:Int))) where
  mem:=by simp
  obj:=fun i h st b hb=>by
    have e:b=it:=by simpa using hb
    subst e
    obtain ⟨o,e,c,d⟩:=st
    exact ⟨o,e,fun v z=>by rw [d] at z;cases z⟩
  keep:=fun i h h' st k=>st.at fun o e=>k it (by simp) o e
  item:=by
    intro X hP hw hK hc i pins s σ H E I hf st hg
    subst hP hw hK
    obtain ⟨hq,hx⟩:=hg
    obtain ⟨its,rv,p,hz⟩:=I.list hq
    have hlen:=rv.length
    have e0:(xs.length:Int) - 1 - (i:Int)=((xs.length - 1 - i:Nat):Int):=by omega
    have hget:xs.reverse[i]? =xs[xs.length - 1 - i]? :=List.getElem?_reverse hx
    obtain ⟨x,hx'⟩:∃x,xs[xs.length - 1 - i]? =some x:=⟨xs[xs.length - 1 - i]'(by omega),List.getElem?_eq_getElem (by omega)⟩
    obtain ⟨u,hu,ru⟩:=rv.get hx'
    obtain ⟨f0,f1,f2,f3,f4,f5⟩:=hf it (by simp)
    have st1:s.heap.IsRevIter it a ((xs.length - 1 - i:Nat):Int):=by rw [←e0];exact st
    refine wpAny_pyNext_rev_item st1 p.isList (x:=u) (by simpa using hu) fun h' st' sb=>?_
    have I1:Inv X pins σ H {s with heap:=h'}:=I.turned (t':=s.toks) (fun b o hb e=>(sb.2 b hb).trans e) f0 f1 f3 f4 f5
    have e1:((xs.length - 1 - i:Nat):Int) - 1=(xs.length:Int) - 1 - ((i+1:Nat):Int):=by omega
    have st2:h'.IsRevIter it a ((xs.length:Int) - 1 - ((i+1:Nat):Int)):=by rw [←e1];exact st'
    obtain ⟨o,e,c,d⟩:=id st'
    exact ⟨u,rfl,nS (s:={s with heap:=h'}) e c d (by decide) ⟨x,H,I1,ru,⟨rfl,hget.trans hx'⟩,st2,fun b hb=>(hf b hb).1⟩⟩
  done:=by
    intro X hP hw hK hc i pins s σ H E I hf st hg
    subst hP hw hK
    obtain ⟨hq,hx⟩:=hg
    obtain ⟨f0,f1,f2,f3,f4,f5⟩:=hf it (by simp)
    have e0:(xs.length:Int) - 1 - (i:Int)= -1:=by omega
    have st1:s.heap.IsRevIter it a (-1):=by rw [←e0];exact st
    exact wpAny_pyNext_rev_end (I.ok.hd hc) st1 fun h' eb=>⟨rfl,I.turned (t':=s.toks) (fun b o hb e=>eb b o hb e) f0 f1 f3 f4 f5⟩
  self:=fun _ _ _ _ _ st h=>wpAny_pyIter_revIter st h
section
variable {X:Cx} {tg:Expr}
def BH (K:PySem.W.Frag) (tl:TA):TI:=fun σ H R=>tl σ H fun vs H1=>∃a xs,vs=[.ref a]∧SqL K H1 a xs∧R (BG K a xs) H1
theorem yd {l:Expr} {tl:TA} {p pos:Pos} (hg:Gl X "reversed") (hm:X.mg "reversed"=none) (ha:PA X [l] tl) (hs:starEach [l] X.env=[(false,eval l X.env)]:=by rfl):PI X tg (.Call (.Name "reversed" p) [l] [] pos) (BH X.K tl):=by
  intro pins s σ H R I h
  refine Call_ (i_ I hg hm boot_reversed (PyProof.Rows.callWith_type1 (cO (ha pos pins s σ H _ I h) fun us s1 ⟨vs,H1,I1,r1,q1⟩=>?_) hs rfl))
  obtain ⟨a,xs,e,hq,q⟩:=q1
  subst e
  cases r1 with
  | cons r rr=>
    cases rr
    cases r
    obtain ⟨its,rv,p,hz⟩:=I1.list hq
    have hlen:=rv.length
    refine call_reversed_list p.isList ?_
    have hit:(s1.heap.push (revObj a (((its.toArray).size:Int) - 1))).IsRevIter s1.heap.objs.size a ((xs.length:Int) - 1 - ((0:Nat):Int)):=by
      refine ⟨_,Heap.get?_push_size _ rfl,rfl,?_⟩
      have e1:((its.toArray.size:Nat):Int) - 1=(xs.length:Int) - 1 - ((0:Nat):Int):=by rw [List.size_toArray];omega
      show Data.fields #[.ref a,rawInt ((its.toArray.size:Int) - 1)]=_
      rw [e1]
    have I2:Inv X pins σ H1 {s1 with heap:=s1.heap.push (revObj a (((its.toArray).size:Int) - 1))}:=I1.kept (t':=s1.toks) fun b o e=>Heap.get?_push_of_some _ e
    refine wpAny_pyIter_revIter hit ?_
    refine ⟨s1.heap.objs.size,[s1.heap.objs.size],_,_,H1,rfl,I2,tP a _ xs,hit,fun b hb=>?_,q⟩
    have e:b=s1.heap.objs.size:=by simpa using hb
    subst e
    have f:=I1.fpOk (H':=H1) (Nat.le_refl _) (I1.hok.fresh (Nat.le_refl _))
    exact f
end
end L2
namespace L2
open PySem PySem.Spec PyProof.Rows
section
variable {prog:Program} {w:World} {A:Around} {R:Result→Shared→Prop} {s:Shared}
theorem mz {elt target iter:Expr} {ifs:List Expr} {scope:Scope} {pos:Pos} {it acc:Value} {env:Env} (I:Nat→Shared→Prop)
    (turn:∀n s,I n s→wpAny (model prog w) A (pyNext it) (fun r s₁=>match r with
      | none=>R (.ok .next) s₁
      | some v=>wpAny (model prog w) A (letOwnedTupleGo target it v) (fun _ s₁'=>wpAny (model prog w) A (assign target env v) (fun _ s₂=>
          wpAny (model prog w) A (forIn ifs true fun c r=>if r=true then do let ok ←isTrue c env (eval c env);pure (ForInStep.yield ok) else pure (ForInStep.yield r)) (fun ok s₃=>
            if ok=true then wpAny (model prog w) A (eval elt env) (fun x s₄=>
              wpAny (model prog w) A (call (.builtin "list.append") [acc,x]) (fun _ s₅=>∃m,m < n∧I m s₅) (fun _ _=>False) s₄) (fun _ _=>False) s₃
            else ∃m,m < n∧I m s₃) (fun _ _=>False) s₂) (fun _ _=>False) s₁') (fun _ _=>False) s₁) (fun _ _=>False) s)
    (n:Nat) (h:I n s):
    codeAny (model prog w) A (.compLoop (.ListComp elt [⟨target,iter,ifs,0⟩] scope pos) 0 it acc env) R s:=by
  refine codeAny_loop rfl I (fun n s hI=>?_) n h
  show wpAny _ A ((compTurn (.ListComp elt [⟨target,iter,ifs,0⟩] scope pos) 0 it acc env).onRaise (fun x=>do noteFrame x env;theTreesLotGoes x)) _ _ s
  refine wpAny_noted ?_
  rw [compTurn_list]
  refine wpAny_bind (wpAny_standAt (wpAny_bind (wpAny_mono (turn n s hI) (fun r s₁ h₁=>?_) fun _ _ h'=>h'.elim)))
  cases r with
  | none=>exact wpAny_pure h₁
  | some v=>
    refine wpAny_bind (wpAny_mono h₁ (fun _ s₁' h₁'=>?_) fun _ _ h'=>h'.elim)
    refine wpAny_bind (wpAny_mono h₁' (fun _ s₂ h₂=>wpAny_bind (wpAny_mono h₂ (fun ok s₃ h₃=>?_) fun _ _ h'=>h'.elim)) fun _ _ h'=>h'.elim)
    cases ok with
    | false=>exact wpAny_pure ⟨rfl,h₃⟩
    | true=>
      exact wpAny_bind (wpAny_bind (wpAny_mono h₃ (fun x s₄ h₄=>wpAny_bind (wpAny_mono h₄ (fun _ s₅ h₅=>wpAny_pure (wpAny_pure ⟨rfl,h₅⟩)) fun _ _ h'=>h'.elim)) fun _ _ h'=>h'.elim))
end
def Cx.comp (X:Cx) (sc:Scope) (cl:List (Str×Addr)) (N:List Str) (C:Addr) (s₀:Shared) (H₀:Hp) (fp:List Addr):Cx:=
  ⟨X.prog,X.w,X.K,X.mg,X.base,X.A,N,s₀,H₀,⟨sc,C,X.env.globals,cl,X.env.qual,none,X.env.code,X.env.frame,X.env.builtins⟩,X.stack,X.stack,fp,fun _=>false,X.calm,[],fun _ _=>False⟩
def BI (X:Cx) (ifs:List Expr) (t:TT):Prop:=
  ∀(pins:List (Addr×Obj)) (s:Shared) (σ:St) (H:Hp) (Q:Bool→Hp→Prop),Inv X pins σ H s→t σ H Q→
    wpAny (model X.prog X.w) X.A (forIn ifs true fun c r=>if r=true then do let ok ←isTrue c X.env (eval c X.env);pure (ForInStep.yield ok) else pure (ForInStep.yield r)) (TP X pins σ Q) X.xe s
def tQ:TT:=fun _ H Q=>Q true H
theorem qx {X:Cx}:BI X [] tQ:=fun _ _ _ H _ I h=>wpAny_tests_nil ⟨H,I,h⟩
def slots (js:List (Option Nat)) (σ:St):St:=js.map fun j=>j.bind fun j=>(σ[j]?).join
def qy (js:List (Option Nat)) (wi:TI) (g:TG) (tt:TT) (te:TE):TE:=fun σ H Q=>wi σ H fun J H1=>∀l,H1 l=none→∃W:Nat→Nat→St→Hp→Prop,(∃m,W 0 m (slots js σ) (upd H1 l (.lst [])))∧
  ∀i m σ' H',W i m σ' H'→(J.stop i H'∧Q (.ref l) H')∨(J.go i H'∧∃N:St→Hp→Prop,(∀σ' H',N σ' H'→∃m',m' < m∧W (i+1) m' σ' H')∧∀x H2,J.yld i H' x H2→g x σ' H2 fun σ3 H3=>tt σ3 H3 fun b H4=>
    if b=true then te σ3 H4 fun y H5=>∃ys,H5 l=some (.lst ys)∧ys.length < sizeLine∧N σ3 (upd H5 l (.lst (ys++[y]))) else N σ3 H4)
section
variable {X:Cx} {elt target iter:Expr} {ifs:List Expr} {scope sc:Scope} {cl:List (Str×Addr)} {N:List Str} {pos:Pos} {wi:TI} {g:TG} {tt:TT} {te:TE} {js:List (Option Nat)}
structure CompOk (X:Cx) (scope sc:Scope) (cl:List (Str×Addr)) (N:List Str) (js:List (Option Nat)):Prop where
  clos:closureFor scope X.env=pure cl
  rel:relabel scope X.env=sc
  nocell:∀y∈scope.names,y.2≠ .cell
  kind:scope.kind= .function
  names:∀y∈scope.names,y.2= .local→scope.names.lookup y.1=some .local
  same:∀x c,cl.lookup x=some c→X.env.cells.lookup x=some c
  has:∀x,(sc.names.lookup x=some .cell∨sc.names.lookup x=some .free)→∃c,cl.lookup x=some c
  len:js.length=N.length
  from_:∀(i j:Nat),js[i]? =some (some j)→∃x,N[i]? =some x∧X.N[j]? =some x∧(sc.names.lookup x=some .cell∨sc.names.lookup x=some .free)∧(X.env.kindOf x=some .cell∨X.env.kindOf x=some .free)
theorem tR {use:Option (Value→Sem Unit)} {Qv:Value→Shared→Prop} (K:CompOk X scope sc cl N js) (hc:X.calm=true) (hi:PI X target iter wi)
    (hgg:∀C s₀ H₀ fp,PG (X.comp sc cl N C s₀ H₀ fp) target g) (htt:∀C s₀ H₀ fp,BI (X.comp sc cl N C s₀ H₀ fp) ifs tt) (hee:∀C s₀ H₀ fp,PE (X.comp sc cl N C s₀ H₀ fp) elt te)
    (hs:∀x,foldedSetIterable iter X.env x=pure x) (pins:List (Addr×Obj)) (s:Shared) (σ:St) (H:Hp) (Q:VK) (I:Inv X pins σ H s) (h:qy js wi g tt te σ H Q)
    (hend:∀(D C:Addr) (H4:Hp) (s5:Shared) (m:Str→Option Value),Inv X pins σ H4 s5→s5.heap.Ns C m→H4 C=none→C≠X.env.locals→C∉X.fs→X.s₀.heap.objs.size≤C→(∀x c,X.env.cells.lookup x=some c→c≠C)→(∀p∈X.pn++pins,p.1≠C)→Q (.ref D) H4→
      compPost (model X.prog X.w) X.A X.xe use Qv (.ref D) C (.ok .next) s5):
    wpAny (model X.prog X.w) X.A (comprehension (.ListComp elt [⟨target,iter,ifs,0⟩] scope pos) scope X.env (firstIterPos [⟨target,iter,ifs,0⟩] pos) (newList []) false (firstIter [⟨target,iter,ifs,0⟩] X.env) use) Qv X.xe s:=by
  refine wpAny_comprehension_free (use:=use) rfl hs K.clos K.kind K.names (cO (hi pins s σ H _ I h) fun v s1 h1=>cO h1 fun itv s2 h2=>?_)
  obtain ⟨it,fp,tn,J,H2,e,I2,T,st2,f2,R⟩:=h2
  subst e
  refine wpAny_newObj_type (wpAny_newFunctionEnv K.nocell (by intro y hy;simp at hy) (fun h₁ hns₁ hsb₁=>?_) K.kind)
  dsimp only at hns₁ hsb₁ ⊢
  have I3:Inv X pins σ (upd H2 s2.heap.objs.size (.lst [])) {s2 with heap:=s2.heap.push {cls:= .type "list",dict:=none,data:= .seq ([]:List Value).toArray}}:=
    I2.lnew (t':=s2.toks) (its:=[]) .nil (Nat.zero_le _)
  obtain ⟨W,⟨m0,w0⟩,turn⟩:=R s2.heap.objs.size (I2.hok.fresh (Nat.le_refl _))
  generalize hP:s2.heap.push {cls:= .type "list",dict:=none,data:= .seq ([]:List Value).toArray}=h3 at hns₁ hsb₁ I3 ⊢
  generalize hD:s2.heap.objs.size=D at w0 turn I3 ⊢
  have hsz3:h3.objs.size=D+1:=by rw [←hP,Heap.size_push,hD]
  have old3:∀b o,s2.heap.get? b=some o→h3.get? b=some o:=fun b o e=>by rw [←hP];exact Heap.get?_push_of_some _ e
  have old:∀b o,h3.get? b=some o→h₁.get? b=some o:=fun b o e=>hsb₁.extBut b o (Nat.ne_of_lt (Heap.lt_size e)) (Heap.get?_push_of_some _ e)
  have fpD:∀b∈fp,b < D:=fun b hb=>by
    obtain ⟨o,e,_⟩:=T.obj _ _ st2 b hb
    rw [←hD];exact Heap.lt_size e
  have frD:∀b∈fp,(upd H2 D (.lst [])) b=none:=fun b hb=>by rw [ay (Nat.ne_of_lt (fpD b hb))];exact (f2 b hb).1
  have f3:∀b∈fp,kK X pins (upd H2 D (.lst [])) b:=fun b hb=>⟨frD b hb,(f2 b hb).2⟩
  have Hfresh:∀a,h3.objs.size≤a→(upd H2 D (.lst [])) a=none:=fun a ha=>I3.hok.fresh ha
  have cellC:∀x c,X.env.cells.lookup x=some c→c < h3.objs.size:=fun x c e=>by
    obtain ⟨v,q⟩:=I3.cell x c e
    exact q.lt
  have YOk:(X.comp sc cl N h3.objs.size {s2 with heap:=h3} (upd H2 D (.lst [])) fp).Ok:=by
    refine ⟨I3.ok.mod,?_,I3.ok.glob,I3.ok.blt,Nat.le_refl _,fun x y c e1 e2=>I3.ok.inj x y c (K.same x c e1) (K.same y c e2),fun x hx=>K.has x hx,fun x c hf _=>absurd hf (by intro z;cases z),I3.ok.hd,I3.ok.frames, .inl rfl,fun b hb=>⟨?_,fun x c e=>(f2 b hb).2.2.2.2.1 x c (K.same x c e)⟩,
      I3.bs,Nat.le_trans I3.ok.bsz I3.sz,fun b o e hb=>?_,fun b hb hm=>?_,I3.stack,I3.stkFree,I3.tab⟩
    · rw [←K.rel];exact K.kind
    · exact Nat.ne_of_lt (by rw [hsz3];exact Nat.lt_succ_of_lt (fpD b hb))
    · rcases (f2 b hb).2.2.2.1 with z | z
      · exact I3.ok.noex b o e z
      · exact absurd (Nat.lt_of_lt_of_le (Heap.lt_size (I3.ok.bs b o e).1) z) (Nat.lt_irrefl _)
    · rcases List.mem_cons.mp (I3.stkSub b hm) with z | z
      · exact (f2 b hb).2.1 z
      · exact (f2 b hb).2.2.1 z
  have IY:Inv (X.comp sc cl N h3.objs.size {s2 with heap:=h3} (upd H2 D (.lst [])) fp) [] (slots js σ) (upd H2 D (.lst [])) {s2 with heap:=h₁,toks:=s2.toks+([]:List (Str×Value)).length}:=by
    refine ⟨YOk,rfl,I3.bare,Un.kept old,⟨_,hns₁,fun i x v e1 e2 e3=>?_⟩,fun x c e=>?_,Hfresh _ (Nat.le_refl _),fun x c e=>I3.freeC x c (K.same x c e),fun p hp=>absurd (show p∈([]:List (Addr×Obj)) from hp) (by simp),I3.hok.kept old,?_⟩
    · unfold slots at e2
      rw [List.getElem?_map] at e2
      cases ej:js[i]? with
      | none=>rw [ej] at e2;cases e2
      | some jo=>
        rw [ej] at e2
        cases jo with
        | none=>cases e2
        | some j=>
          obtain ⟨y,n1,n2,k1,k2⟩:=K.from_ i j ej
          have exy:y=x:=Option.some.inj (n1.symm.trans e1)
          subst exy
          have e2':(σ[j]?).join=some v:=Option.some.inj e2
          have e4:σ[j]? =some (some v):=by
            cases es:σ[j]? with
            | none=>rw [es] at e2';cases e2'
            | some w=>rw [es] at e2';exact congrArg some e2'
          obtain ⟨m,_,hl⟩:=I3.loc
          obtain ⟨u,ru,lk⟩:=hl j y v n2 e4 (by
            rcases k2 with z | z
            · exact .inr (.inl z)
            · exact .inr (.inr z))
          refine ⟨u,ru, .inr ⟨k1,?_⟩⟩
          obtain ⟨c,hcl⟩:=K.has y k1
          refine ⟨c,hcl,?_⟩
          rcases lk with ⟨z,_⟩ | ⟨_,c',e5,ic⟩
          · rcases k2 with q | q
            · rw [q] at z;cases z
            · rw [q] at z;cases z
          · have:c'=c:=Option.some.inj (e5.symm.trans (K.same y c hcl))
            subst this
            obtain ⟨o,ho,hd⟩:=ic
            exact ⟨o,old _ _ ho,hd⟩
    · obtain ⟨v,o,ho,hd⟩:=I3.cell x c (K.same x c e)
      exact ⟨v,o,old _ _ ho,hd⟩
    · unfold slots;rw [List.length_map];exact K.len
  have loop:∀s₃:Shared,s₃={s2 with heap:=h₁,toks:=s2.toks+([]:List (Str×Value)).length}→
      codeAny (model X.prog X.w) X.A (.compLoop (.ListComp elt [⟨target,iter,ifs,0⟩] scope pos) 0 (.ref it) (.ref D) (X.comp sc cl N h3.objs.size {s2 with heap:=h3} (upd H2 D (.lst [])) fp).env)
        (compPost (model X.prog X.w) X.A X.xe use Qv (.ref D) h3.objs.size) s₃:=by
    rintro s₃ rfl
    refine mz (fun n s'=>∃i σ' H',Inv (X.comp sc cl N h3.objs.size {s2 with heap:=h3} (upd H2 D (.lst [])) fp) [] σ' H' s'∧tn i s'.heap∧(∀b∈fp,H' b=none)∧W i n σ' H') ?_ m0
      ⟨0,_,_,IY,T.keep _ _ _ st2 (fun b hb o e=>old b o (old3 b o e)),frD,w0⟩
    rintro n s4 ⟨i,σ4,H4,I4,st4,fr4,w4⟩
    have ff:∀{H':Hp},(∀b∈fp,H' b=none)→∀b∈fp,kK (X.comp sc cl N h3.objs.size {s2 with heap:=h3} (upd H2 D (.lst [])) fp) [] H' b:=fun hn b hb=>
      ⟨hn b hb,(YOk.exf b hb).1,YOk.exfs b hb, .inl hb,(YOk.exf b hb).2,fun p hp=>absurd (show p∈([]:List (Addr×Obj)) from hp) (by simp)⟩
    have hg:=hgg h3.objs.size {s2 with heap:=h3} (upd H2 D (.lst [])) fp
    have ht:=htt h3.objs.size {s2 with heap:=h3} (upd H2 D (.lst [])) fp
    have he:=hee h3.objs.size {s2 with heap:=h3} (upd H2 D (.lst [])) fp
    rcases turn i n σ4 H4 w4 with ⟨stop,qn⟩ | ⟨go,Nx,hN,step⟩
    · refine cO (T.done (X.comp sc cl N h3.objs.size {s2 with heap:=h3} (upd H2 D (.lst [])) fp) rfl rfl rfl hc i [] s4 σ4 H4 _ I4 (ff fr4) st4 stop) fun r s5 ⟨hr,I5⟩=>?_
      subst hr
      obtain ⟨m,hn,_⟩:=I5.loc
      have IX:Inv X pins σ H4 s5:=I3.call' (ch:=fp) I5.os I5.base I5.hok I5.bare fun b hb=>⟨(f3 b hb).2.2.2.1,(f3 b hb).2.1,(f3 b hb).2.2.2.2.1,(f3 b hb).2.2.2.2.2⟩
      exact hend D h3.objs.size H4 s5 m IX hn I5.free (Ne.symm (Nat.ne_of_lt I3.lt)) (I3.nofs (Nat.le_refl _)) I3.sz (fun x c e=>Nat.ne_of_lt (cellC x c e)) (fun p hp=>Nat.ne_of_lt (Heap.lt_size (I3.pin p hp).1)) qn
    · refine cO (T.item (X.comp sc cl N h3.objs.size {s2 with heap:=h3} (upd H2 D (.lst [])) fp) rfl rfl rfl hc i [] s4 σ4 H4 _ I4 (ff fr4) st4 go) fun r s5 ⟨u,hr,h5⟩=>?_
      subst hr
      refine cO h5 fun _ s6 ⟨x,H6,I6,r6,y6,st6,fr6⟩=>?_
      have I6':=I6.pinned (ff fr6) (T.obj _ _ st6)
      have back:∀{σ7:St} {H7:Hp} {s7:Shared},Inv (X.comp sc cl N h3.objs.size {s2 with heap:=h3} (upd H2 D (.lst [])) fp) ([]++jT fp s6.heap) σ7 H7 s7→
          Inv (X.comp sc cl N h3.objs.size {s2 with heap:=h3} (upd H2 D (.lst [])) fp) [] σ7 H7 s7∧tn (i+1) s7.heap∧∀b∈fp,H7 b=none:=fun {σ7 H7 s7} I7=>
        ⟨I7.unpinned,T.keep _ _ _ st6 fun b hb o e=>(I7.pin (b,o) (List.mem_append_right _ (List.mem_append_right _ (gE hb e)))).1,fun b hb=>by
          obtain ⟨o,e,d⟩:=T.obj _ _ st6 b hb
          exact (I7.pin (b,o) (List.mem_append_right _ (List.mem_append_right _ (gE hb e)))).2.1⟩
      refine cO (hg _ s6 σ4 H6 x u _ I6' r6 (step x H6 y6)) fun _ s7 ⟨σ7,H7,I7,q7⟩=>?_
      refine cO (ht _ s7 σ7 H7 _ I7 q7) fun b s8 ⟨H8,I8,q8⟩=>?_
      cases b with
      | false=>
        obtain ⟨m',hm,w8⟩:=hN σ7 H8 q8
        obtain ⟨J1,J2,J3⟩:=back I8
        exact ⟨m',hm,i+1,σ7,H8,J1,J2,J3,w8⟩
      | true=>
        refine cO (he _ s8 σ7 H8 _ I8 q8) fun yv s9 ⟨y,H9,I9,r9,ys,hl,hz,n9⟩=>?_
        obtain ⟨m',hm,w9⟩:=hN _ _ n9
        refine cO (lP _ s9 σ7 H9 (.ref D) [y] (.ref D) [yv] (fun v H'=>v= .non∧H'=upd H9 D (.lst (ys++[y]))) I9 rfl (.cons r9 .nil) ⟨D,ys,y,rfl,rfl,hl,hz,rfl,rfl⟩) fun _ sA ⟨_,HA,IA,_,_,eA⟩=>?_
        subst eA
        obtain ⟨J1,J2,J3⟩:=back IA
        exact ⟨m',hm,i+1,σ7,_,J1,J2,J3,w9⟩
  rw [K.rel]
  exact codeAny_compStart_list (loop _ rfl) (T.self _ 0 _ _ _ (T.keep _ _ _ st2 (fun b hb o e=>old b o (old3 b o e))) (loop _ rfl))
theorem qz (K:CompOk X scope sc cl N js) (hc:X.calm=true) (hi:PI X target iter wi)
    (hgg:∀C s₀ H₀ fp,PG (X.comp sc cl N C s₀ H₀ fp) target g) (htt:∀C s₀ H₀ fp,BI (X.comp sc cl N C s₀ H₀ fp) ifs tt) (hee:∀C s₀ H₀ fp,PE (X.comp sc cl N C s₀ H₀ fp) elt te)
    (hs:∀x,foldedSetIterable iter X.env x=pure x:=by intro _;rfl):PE X (.ListComp elt [⟨target,iter,ifs,0⟩] scope pos) (qy js wi g tt te):=by
  intro pins s σ H Q I h
  rw [eval_ListComp]
  refine tR (use:=none) K hc hi hgg htt hee hs pins s σ H Q I h fun D C H4 s5 m IX hn fC nL _ sz nc np qn=>?_
  exact ⟨m,hn,fun h' hs'=>⟨.ref D,H4,IX.turned (t':=s5.toks) (it:=C) (fun b o hb e=>(hs'.2 b hb).trans e) fC nL (.inr sz) nc np,rfl,qn⟩⟩
end
end L2
namespace L2
open PySem PySem.Spec PyProof.Rows
theorem gG {X:Cx} {scope:Scope} {N:List Str} {js:List (Option Nat)} (hf:∀x∈scope.names,x.2≠ .free:=by decide+kernel) (hcell:∀x∈scope.names,x.2≠ .cell:=by decide+kernel)
    (hk:scope.kind= .function:=by rfl) (hn:∀y∈scope.names,y.2= .local→scope.names.lookup y.1=some .local:=by decide+kernel) (hl:js.length=N.length:=by rfl) (hj:∀j∈js,j=none:=by decide):CompOk X scope scope [] N js where
  clos:=closureFor_none hf
  rel:=by
    unfold relabel
    have e:(scope.names.map fun (x:Str×NameKind)=>match x with | (n,k)=>if (k == .free&&X.env.scope.kind == .function&&X.env.kindOf n == some .cell) then (n,NameKind.cell) else (n,k))=scope.names:=by
      refine map_eq_self fun x hx=>?_
      obtain ⟨n,k⟩:=x
      have:(k == NameKind.free)=false:=by simpa using hf _ hx
      simp [this]
    rw [e]
  nocell:=hcell
  kind:=hk
  names:=hn
  same:=fun x c e=>by simp at e
  has:=fun x h=>by
    rcases h with h | h
    · exact absurd rfl (hcell _ (PySem.mem_of_lookup h))
    · exact absurd rfl (hf _ (PySem.mem_of_lookup h))
  len:=hl
  from_:=fun i j h=>by
    have:=hj _ (List.mem_of_getElem? h)
    cases this
theorem vR {σ:St} {H:Hp} {A B:Bool→Hp→Prop} (h:A true H):tQ σ H (fun b H4=>if b=true then A b H4 else B b H4):=by
  show (if true=true then A true H else B true H)
  rw [if_pos rfl]
  exact h
theorem rN {i:Nat} {x:V} {σ:St} {H:Hp} {A B:St→Bool→Hp→Prop} (h:A (σ.set i (some x)) true H):nR i x σ H (fun σ3 H3=>tQ σ3 H3 fun b H4=>if b=true then A σ3 b H4 else B σ3 b H4):=
  vR (σ:=σ.set i (some x)) (A:=A (σ.set i (some x))) (B:=B (σ.set i (some x))) h
structure Own (P:Program) (w:World) (K:PySem.W.Frag) (mg:Str→Option Value) (base:Heap) (k:Nat) (x:Str) (ps:List Str) (sp:Sp):Prop where
  ex:∃(f:Addr) (fd:FuncData),FnOk P w K mg base ir k f fd ps sp∧Binds K fd ps []∧mg x=some (.ref f)∧PySem.W.keepIn K (.ref f)=true
theorem tT {X:Cx} {k:Nat} {x:Str} {ps:List Str} {sp:Sp} {p pos:Pos} {e:Expr} {es:List Expr} {t:TA} (D:Own X.prog X.w X.K X.mg X.base k x ps sp) (hr:Room k X.A) (hg:Gl X x) (ha:PA X (e::es) t)
    (hdb:(x == ("__debug__":Str))=false:=by decide) (he:starEach (e::es) X.env=(false,eval e X.env)::starEach es X.env:=by rfl) (hpl:(backTo pos (starEach es X.env)).any (·.1)=false:=by rfl):
    PE X (.Call (.Name x p) (e::es) [] pos) (wX sp [] E0 t):=by
  obtain ⟨f,fd,F,b,m,kp⟩:=D.ex
  exact vF F hr hg m kp b .nil qv ha hdb he hpl
structure Def (K:PySem.W.Frag) (mg:Str→Option Value) (x:Str) (st:Stmt) (ps:List Str):Prop where
  ex:∃(f:Addr) (fd:FuncData),Fun K x x st f fd∧mg x=some (.ref f)∧Binds K fd ps []
theorem Def.own {P:Program} {w:World} {K:PySem.W.Frag} {mg:Str→Option Value} {base:Heap} {x:Str} {st:Stmt} {N ps:List Str} {k:Nat} {sp:Sp} (D:Def K mg x st ps) (S:FnScope N ps (aj st))
    (len:∀vs H Q E,sp vs H Q E→vs.length=ps.length)
    (hbody:∀(f:Addr) (cdv:Value) (A:Around) (outer:List Env) (s:Shared) (H:Hp) (vs:List V) (Q:VK) (E:XK),Room k (A.deeper (envOfC x (aj st) s.heap.objs.size f cdv))→sp vs H Q E→
      ∃t,PSs (jZ ir P w K mg base N x (aj st) f cdv A outer s H E).nox (bL st) t∧t {nx:=fun _ H'=>Q .non H',rt:=Q} (cD N vs) H):Own P w K mg base (k+1) x ps sp:=by
  obtain ⟨f,fd,F,m,b⟩:=D.ex
  exact ⟨f,fd,F.ok S len (hbody f),b,m,F.kp⟩
theorem ye {K:PySem.W.Frag} {h:Heap} {mg:Str→Option Value} {x:Str} {st:Stmt} {ps:List Str} {f:Addr} {oc:Value} {od an:Option Addr} {osl:Array (Option Value)} {kV doc pm cdv ct:Value} (X:K.In h) (G:h.Ns mainGlobals mg)
    (a:PySem.W.nsIn K mainGlobals x=some (some (.ref f))) (l:K.lookup f=some ⟨oc,od, .func (PySem.W.fnOf x x (cV st) (bL st) (aj st) .none kV doc pm an cdv ct),osl⟩)
    (c:PySem.W.codeIn K cdv x=true) (k:PySem.W.keepIn K (.ref f)=true)
    (b:∀(kV doc pm:Value) (an:Option Addr) (cdv ct:Value) (us:List Value),us.length=ps.length→bindArgs (PySem.W.fnOf x x (cV st) (bL st) (aj st) .none kV doc pm an cdv ct) ⟨us,[]⟩=pure (ps.zip us)):Def K mg x st ps:=
  ⟨f,_,j2 l c k,PySem.W.mg_of X G a,(j2 (st:=st) l c k).binds b⟩
end L2
namespace Nh
open PySem L2
section
variable {α β:Type} {F:α→β→Prop}
theorem ii:∀{a:List α} {b:List β} {c:List α} {d:List β},Paired F a b→Paired F c d→Paired F (a++c) (b++d)
  | _,_,_,_, .nil,s=>s
  | _,_,_,_, .cons r t,s=> .cons r (ii t s)
theorem qA:∀{a:List α} {b:List β} (n:Nat),Paired F a b→Paired F (a.take n) (b.take n)
  | _,_,0,_=> .nil
  | _,_,_+1, .nil=> .nil
  | _,_,n+1, .cons r t=> .cons r (qA n t)
theorem qB:∀{a:List α} {b:List β} (n:Nat),Paired F a b→Paired F (a.drop n) (b.drop n)
  | _,_,0,r=>r
  | _,_,_+1, .nil=> .nil
  | _,_,n+1, .cons _ t=>qB n t
theorem iD:∀{a:List α} {b:List β},Paired F a b→Paired F a.reverse b.reverse
  | _,_, .nil=> .nil
  | _,_, .cons r t=>by
    rw [List.reverse_cons,List.reverse_cons]
    exact ii (iD t) (.cons r .nil)
theorem tU:∀{a:List α} {b:List β} {i:Nat} {x:α},Paired F a b→a[i]? =some x→∃y,b[i]? =some y∧F x y
  | _,_,_,_, .nil,e=>by simp at e
  | _,_,0,_, .cons r _,e=>by simp at e;subst e;exact ⟨_,rfl,r⟩
  | _,_,i+1,x, .cons _ t,e=>by
    obtain ⟨u,h1,h2⟩:=tU (i:=i) (x:=x) t (by simpa using e)
    exact ⟨u,by simpa using h1,h2⟩
theorem qC:∀{a:List α} {b:List β} {i:Nat} {y:β},Paired F a b→b[i]? =some y→∃x,a[i]? =some x∧F x y
  | _,_,_,_, .nil,e=>by simp at e
  | _,_,0,_, .cons r _,e=>by simp at e;subst e;exact ⟨_,rfl,r⟩
  | _,_,i+1,x, .cons _ t,e=>by
    obtain ⟨u,h1,h2⟩:=qC (i:=i) (y:=x) t (by simpa using e)
    exact ⟨u,by simpa using h1,h2⟩
theorem tV {a:List α} {b:List β} (h:Paired F a b):∀k:Nat,Paired F (List.replicate k a).flatten (List.replicate k b).flatten
  | 0=> .nil
  | k+1=>by
    rw [List.replicate_succ,List.replicate_succ,List.flatten_cons,List.flatten_cons]
    exact ii h (tV h k)
end
abbrev Pc:=Nat×Int
def tv (p:Pc):List V:=[.str ⟨#[p.1]⟩, .int p.2]
def BJ (H:Hp) (v:V) (p:Pc):Prop:=∃t,v= .ref t∧H t=some (.tup (tv p))
abbrev PAll (H:Hp):List V→List Pc→Prop:=Paired (BJ H)
section
variable {H H':Hp} {l:Addr} {xs ys:List V} {c:List Pc}
theorem PAll.same (s:Same H H') (h:PAll H xs c):PAll H' xs c:=Paired.mapP h fun _ _ ⟨t,e,q⟩=>⟨t,e,s _ _ q⟩
theorem PAll.len (h:PAll H xs c):xs.length=c.length:=Paired.length h
end
def Cord (H:Hp) (a:Addr) (c:List Pc):Prop:=∃xs,H a=some (.lst xs)∧PAll H xs c
section
variable {H H':Hp} {a:Addr} {c d:List Pc}
theorem Cord.same (s:Same H H') (h:Cord H a c):Cord H' a c:=let ⟨xs,e,p⟩:=h;⟨xs,s _ _ e,p.same s⟩
end
def bn (p:Pc):PyData:= .tuple [.str ⟨#[p.1]⟩, .int p.2]
def zP (c:List Pc):PyData:= .list (c.map bn)
def NailsOk (c:List Pc):Prop:=∀p∈c,p.1 < 128
theorem lQ {K:PySem.W.Frag} {H:Hp}:∀{xs:List V} {c:List Pc},PAll H xs c→DAll K H xs (c.map bn)
  | _,_, .nil=> .nil
  | _,_, .cons ⟨t,e,q⟩ r=>by
    subst e
    exact .cons (.tup (SqT.of q) (.cons (.str _) (.cons (.int _) .nil))) (lQ r)
theorem Cord.data {K:PySem.W.Frag} {H:Hp} {a:Addr} {c:List Pc} (h:Cord H a c):DOf K H (.ref a) (zP c):=
  let ⟨_,e,p⟩:=h; .lst (SqL.of e) (lQ p)
theorem zQ {p:Pc} (h:p.1 < 128):(bn p).canLay0=true:=by
  have:p.1 < 1114112:=by omega
  simp [bn,PyData.canLay0,PyData.canLayAll0,PyData.strOk,this]
theorem yf (p q:Pc):PyData.eqv (bn p) (bn q)=decide (p=q):=by
  obtain ⟨n,a⟩:=p
  obtain ⟨m,b⟩:=q
  simp only [bn,PyData.eqv,PyData.eqvAll,Bool.and_true]
  rw [Bool.eq_iff_iff]
  simp
end Nh
namespace PL
open PySem PySem.Spec PyProof.Rows L2 Nh
def BK:eh→PyData
  | .inl i=> .int i
  | .inr x=> .str x
def wY (a C:Addr):Heap→Prop:=fun h=>∃o,h.get? a=some o∧o.cls= .ref C
def j3:List Str:=["pieces","cord","made","text"]
def rO:PyData×PyData→Bool
  | (.none, .tuple [.str _])=>true
  | _=>false
abbrev eL (cn:Str) (kvs:List (PyData×PyData)):PyData:= .dict ((.none, .tuple [.str cn])::kvs)
mutual
inductive Rp (K:PySem.W.Frag) (H:Hp):V→PyData→Prop
  | non:Rp K H .non .none
  | bl (b:Bool):Rp K H (.bl b) (.bool b)
  | int (i:Int):Rp K H (.int i) (.int i)
  | str (x:Str):Rp K H (.str x) (.str x)
  | lst {a:Addr} {xs:List V} {ds:List PyData}:SqL K H a xs→RpA K H xs ds→Rp K H (.ref a) (.list ds)
  | tup {a:Addr} {xs:List V} {ds:List PyData}:SqT K H a xs→RpA K H xs ds→Rp K H (.ref a) (.tuple ds)
  | dct {a:Addr} {us:List (eh×V)} {kvs:List (PyData×PyData)}:Rd H a (.dK us)→RpK K H us kvs→Rp K H (.ref a) (.dict kvs)
  | obj {a C dx:Addr} {cn:Str} {fs:List (Str×V)} {kvs:List (PyData×PyData)}:PySem.W.nsIn K mainGlobals cn=some (some (.ref C))→H a=some (.ins C dx fs)→(∀m∈j3,fs.lookup m=none)→RpN K H fs kvs→Rp K H (.ref a) (.dict ((.none, .tuple [.str cn])::kvs))
  | exc {a C:Addr} {n:Str} {o:Obj}:H a=some (.frz o (.ext (wY a C)))→PySem.W.nsIn K mainGlobals n=some (some (.ref C))→Rp K H (.ref a) (.dict [(.none, .str n)])
inductive RpA (K:PySem.W.Frag) (H:Hp):List V→List PyData→Prop
  | nil:RpA K H [] []
  | cons {x:V} {xs:List V} {d:PyData} {ds:List PyData}:Rp K H x d→RpA K H xs ds→RpA K H (x::xs) (d::ds)
inductive RpK (K:PySem.W.Frag) (H:Hp):List (eh×V)→List (PyData×PyData)→Prop
  | nil:RpK K H [] []
  | cons {k:eh} {x:V} {us:List (eh×V)} {d:PyData} {kvs:List (PyData×PyData)}:Rp K H x d→RpK K H us kvs→RpK K H ((k,x)::us) ((BK k,d)::kvs)
inductive RpN (K:PySem.W.Frag) (H:Hp):List (Str×V)→List (PyData×PyData)→Prop
  | nil {fs:List (Str×V)}:RpN K H fs []
  | cons {fs:List (Str×V)} {f:Str} {x:V} {d:PyData} {kvs:List (PyData×PyData)}:fs.lookup f=some x→Rp K H x d→RpN K H fs kvs→RpN K H fs ((.str f,d)::kvs)
end
mutual
def aP:PyData→Bool
  | .none=>true
  | .bool _=>true
  | .int _=>true
  | .str _=>true
  | .list _=>false
  | .tuple xs=>ba xs
  | .dict kvs=>lR kvs
def ba:List PyData→Bool
  | []=>true
  | d::ds=>aP d&&ba ds
def nZ:PyData×PyData→Bool
  | (_,d)=>aP d
def j4:List (PyData×PyData)→Bool
  | []=>true
  | p::r=>nZ p&&j4 r
def lR:List (PyData×PyData)→Bool
  | []=>false
  | p::r=>rO p&&j4 r
end
def wZ:HO→Bool
  | .tup _=>true
  | .frz _ _=>true
  | .ins _ _ _=>true
  | _=>false
def tups (H:Hp):Hp:=fun b=>(H b).filter wZ
theorem gr (H:Hp):Same (tups H) H:=fun b o h=>(Option.filter_eq_some_iff.mp h).1
theorem eW {H:Hp} {b:Addr} {o:HO} (h:H b=some o) (c:wZ o=true):tups H b=some o:=Option.filter_eq_some_iff.mpr ⟨h,c⟩
theorem j5 {H:Hp} {l:Addr} {xs ys:List V} (h:H l=some (.lst xs)):tups (upd H l (.lst ys))=tups H:=by
  funext b
  unfold tups
  by_cases e:b=l
  · subst e
    rw [aJ,h]
    rfl
  · rw [ay e]
section
variable {K:PySem.W.Frag} {H H':Hp}
theorem RpK.hot {us:List (eh×V)} {kvs:List (PyData×PyData)} (h:RpK K H us kvs):aP (.dict kvs)=false:=by
  cases h with
  | nil=>rfl
  | @cons k x us d kvs a b=>cases k <;> rfl
theorem tW {a:Addr} {xs:List V} (h:SqT K H a xs):SqT K (tups H) a xs:=by
  rcases h with (h | ⟨o,h⟩) | h
  · exact .inl (.inl (eW h rfl))
  · exact .inl (.inr ⟨o,eW h rfl⟩)
  · exact .inr h
theorem vS {a:Addr} {u:HO} (s:Same H H') (h:Rd H a u):Rd H' a u:=by
  rcases h with h | ⟨o,h⟩
  · exact .inl (s _ _ h)
  · exact .inr ⟨o,s _ _ h⟩
mutual
theorem Rp.same (s:Same H H'):∀{v:V} {d:PyData},Rp K H v d→Rp K H' v d
  | _,_, .non=> .non
  | _,_, .bl b=> .bl b
  | _,_, .int i=> .int i
  | _,_, .str x=> .str x
  | _,_, .lst h r=> .lst (s.seq h) (RpA.same s r)
  | _,_, .tup h r=> .tup (s.tup h) (RpA.same s r)
  | _,_, .dct h r=> .dct (vS s h) (RpK.same s r)
  | _,_, .obj c h n r=> .obj c (s _ _ h) n (RpN.same s r)
  | _,_, .exc h r=> .exc (s _ _ h) r
theorem RpA.same (s:Same H H'):∀{v:List V} {d:List PyData},RpA K H v d→RpA K H' v d
  | _,_, .nil=> .nil
  | _,_, .cons h r=> .cons (Rp.same s h) (RpA.same s r)
theorem RpK.same (s:Same H H'):∀{v:List (eh×V)} {d:List (PyData×PyData)},RpK K H v d→RpK K H' v d
  | _,_, .nil=> .nil
  | _,_, .cons h r=> .cons (Rp.same s h) (RpK.same s r)
theorem RpN.same (s:Same H H'):∀{v:List (Str×V)} {d:List (PyData×PyData)},RpN K H v d→RpN K H' v d
  | _,_, .nil=> .nil
  | _,_, .cons l h r=> .cons l (Rp.same s h) (RpN.same s r)
end
mutual
theorem Rp.cold:∀{v:V} {d:PyData},Rp K H v d→aP d=true→Rp K (tups H) v d
  | _,_, .non,_=> .non
  | _,_, .bl b,_=> .bl b
  | _,_, .int i,_=> .int i
  | _,_, .str x,_=> .str x
  | _,_, .lst h r,e=>by simp [aP] at e
  | _,_, .dct h r,e=>by rw [r.hot] at e;cases e
  | _,_, .obj c h n r,e=> .obj c (eW h rfl) n (RpN.cold r (by simpa [aP,lR,rO] using e))
  | _,_, .exc h r,e=>by simp [aP,lR,rO] at e
  | _,_, .tup h r,e=> .tup (tW h) (RpA.cold r (by simpa [aP] using e))
theorem RpA.cold:∀{v:List V} {d:List PyData},RpA K H v d→ba d=true→RpA K (tups H) v d
  | _,_, .nil,_=> .nil
  | _,_, .cons h r,e=>by
    simp only [ba,Bool.and_eq_true] at e
    exact .cons (Rp.cold h e.1) (RpA.cold r e.2)
theorem RpN.cold:∀{v:List (Str×V)} {d:List (PyData×PyData)},RpN K H v d→j4 d=true→RpN K (tups H) v d
  | _,_, .nil,_=> .nil
  | _,_, .cons l h r,e=>by
    simp only [j4,nZ,Bool.and_eq_true] at e
    exact .cons l (Rp.cold h e.1) (RpN.cold r e.2)
end
mutual
theorem Rp.dof':∀{v:V} {d:PyData},Rp K H v d→d.canLay0=true→DOf K H v d
  | _,_, .non,_=> .non
  | _,_, .bl b,_=> .bl b
  | _,_, .int i,_=> .int i
  | _,_, .str x,_=> .str x
  | _,_, .lst h r,e=> .lst h (RpA.dof' r (by simpa [PyData.canLay0] using e))
  | _,_, .tup h r,e=> .tup h (RpA.dof' r (by simpa [PyData.canLay0] using e))
  | _,_, .dct h r,e=>by simp [PyData.canLay0] at e
  | _,_, .obj c h n r,e=>by simp [PyData.canLay0] at e
  | _,_, .exc h r,e=>by simp [PyData.canLay0] at e
theorem RpA.dof':∀{v:List V} {d:List PyData},RpA K H v d→PyData.canLayAll0 d=true→DAll K H v d
  | _,_, .nil,_=> .nil
  | _,_, .cons h r,e=>by
    simp only [PyData.canLayAll0,Bool.and_eq_true] at e
    exact .cons (Rp.dof' h e.1) (RpA.dof' r e.2)
end
theorem Rp.dof {v:V} {d:PyData} (h:Rp K H v d) (e:SeqAt.shaped d=true):DOf K H v d:=h.dof' (SeqAt.canLay_of_shaped e)
theorem RpA.pr:∀{vs:List V} {ds:List PyData},RpA K H vs ds→Paired (Rp K H) vs ds
  | _,_, .nil=> .nil
  | _,_, .cons h r=> .cons h (RpA.pr r)
theorem RpA.of {vs:List V} {ds:List PyData} (h:Paired (Rp K H) vs ds):RpA K H vs ds:=by
  induction h with
  | nil=>exact .nil
  | cons a _ b=>exact .cons a b
theorem RpA.len {vs:List V} {ds:List PyData} (h:RpA K H vs ds):vs.length=ds.length:=Paired.length h.pr
theorem RpA.append {vs us:List V} {ds es:List PyData} (h:RpA K H vs ds) (k:RpA K H us es):RpA K H (vs++us) (ds++es):= .of (ii h.pr k.pr)
theorem RpA.take {vs:List V} {ds:List PyData} (n:Nat) (h:RpA K H vs ds):RpA K H (vs.take n) (ds.take n):= .of (qA n h.pr)
theorem RpA.drop {vs:List V} {ds:List PyData} (n:Nat) (h:RpA K H vs ds):RpA K H (vs.drop n) (ds.drop n):= .of (qB n h.pr)
theorem RpA.rev {vs:List V} {ds:List PyData} (h:RpA K H vs ds):RpA K H vs.reverse ds.reverse:= .of (iD h.pr)
theorem RpA.rep {vs:List V} {ds:List PyData} (n:Nat) (h:RpA K H vs ds):RpA K H (List.replicate n vs).flatten (List.replicate n ds).flatten:= .of (tV h.pr n)
theorem RpA.get {vs:List V} {ds:List PyData} {i:Nat} {d:PyData} (h:RpA K H vs ds) (e:ds[i]? =some d):∃v,vs[i]? =some v∧Rp K H v d:=qC h.pr e
theorem RpA.getV {vs:List V} {ds:List PyData} {i:Nat} {v:V} (h:RpA K H vs ds) (e:vs[i]? =some v):∃d,ds[i]? =some d∧Rp K H v d:=tU h.pr e
theorem RpA.set:∀{vs:List V} {ds:List PyData} {v:V} {d:PyData} (i:Nat),RpA K H vs ds→Rp K H v d→RpA K H (vs.set i v) (ds.set i d)
  | _,_,_,_,_, .nil,_=> .nil
  | _,_,_,_,0, .cons _ r,h=> .cons h r
  | _,_,_,_,i+1, .cons q r,h=> .cons q (RpA.set i r h)
theorem RpA.snoc {vs:List V} {ds:List PyData} {v:V} {d:PyData} (h:RpA K H vs ds) (k:Rp K H v d):RpA K H (vs++[v]) (ds++[d]):=h.append (.cons k .nil)
end
inductive Pt where
  | fl (d:PyData) | ol (ds:List PyData)
def Pt.val:Pt→PyData
  | .fl d=>d
  | .ol ds=> .list ds
inductive Sl where
  /-- nothing is known -/
  | no
  /-- never written again -/
  | sh (d:PyData)
  /-- a list of one's own -/
  | ow (ds:List PyData)
  /-- a dict of one's own,its values lists of one's own -/
  | od (kvs:List (eh×List PyData))
  /-- the list handed in,of numbers:it is written into -/
  | io (l:Addr) (zs:List Int)
  /-- a tuple with lists of one's own -/
  | tx (ps:List Pt)
  /-- (a part of an expression) the value of a name -/
  | al (i:Nat)
  /-- (a part of an expression) as it stands just now -/
  | br (d:PyData)
def PtsOk (K:PySem.W.Frag) (F H:Hp):List V→List Pt→List Addr→Prop
  | [],[],A=>A=[]
  | v::vs, .fl d::ps,A=>Rp K F v d∧PtsOk K F H vs ps A
  | v::vs, .ol ds::ps,A=>∃l us A',v= .ref l∧A=l::A'∧H l=some (.lst us)∧RpA K F us ds∧PtsOk K F H vs ps A'
  | _,_,_=>False
def DlOk (K:PySem.W.Frag) (F H:Hp):List (eh×V)→List (eh×List PyData)→List Addr→Prop
  | [],[],A=>A=[]
  | p::us,q::kvs,A=>∃l vs A',p=(q.1, .ref l)∧A=l::A'∧H l=some (.lst vs)∧RpA K F vs q.2∧DlOk K F H us kvs A'
  | _,_,_=>False
def SlOk (K:PySem.W.Frag) (F H:Hp) (σ:L2.St) (o:Option V):Sl→List Addr→Prop
  | .no,A=>A=[]
  | .sh d,A=>A=[]∧∃v,o=some v∧Rp K F v d
  | .ow ds,A=>∃l vs,o=some (.ref l)∧A=[l]∧H l=some (.lst vs)∧RpA K F vs ds
  | .od kvs,A=>∃l us A',o=some (.ref l)∧A=l::A'∧H l=some (.dK us)∧DlOk K F H us kvs A'
  | .io l zs,A=>o=some (.ref l)∧A=[l]∧H l=some (.lst (zs.map V.int))
  | .tx ps,A=>∃t vs,o=some (.ref t)∧F t=some (.tup vs)∧PtsOk K F H vs ps A
  | .al i,A=>A=[]∧∃v,o=some v∧σ[i]? =some (some v)
  | .br d,A=>A=[]∧∃v,o=some v∧Rp K H v d
def Sl.isBr:Sl→Bool
  | .br _=>true
  | _=>false
def Sl.isAl:Sl→Bool
  | .al _=>true
  | .br _=>true
  | _=>false
section
variable {K:PySem.W.Frag} {F F' H H':Hp} {σ σ':L2.St}
theorem PtsOk.stay (s:Same F F'):∀{vs:List V} {ps:List Pt} {A:List Addr},(∀b∈A,H' b=H b)→PtsOk K F H vs ps A→PtsOk K F' H' vs ps A
  | [],[],A,_,h=>h
  | v::vs, .fl d::ps,A,e,h=>⟨h.1.same s,PtsOk.stay s e h.2⟩
  | v::vs, .ol ds::ps,A,e,h=>by
    obtain ⟨l,us,A',rfl,rfl,hl,hr,q⟩:=h
    exact ⟨l,us,A',rfl,rfl,(e l (List.mem_cons_self ..)).trans hl,hr.same s,q.stay s fun b hb=>e b (List.mem_cons_of_mem _ hb)⟩
  | [],_::_,_,_,h=>False.elim h
  | _::_,[],_,_,h=>False.elim h
theorem DlOk.stay (s:Same F F'):∀{us:List (eh×V)} {kvs:List (eh×List PyData)} {A:List Addr},(∀b∈A,H' b=H b)→DlOk K F H us kvs A→DlOk K F' H' us kvs A
  | [],[],A,_,h=>h
  | p::us,q::kvs,A,e,h=>by
    obtain ⟨l,vs,A',rfl,rfl,hl,hr,k⟩:=h
    exact ⟨l,vs,A',rfl,rfl,(e l (List.mem_cons_self ..)).trans hl,hr.same s,k.stay s fun b hb=>e b (List.mem_cons_of_mem _ hb)⟩
  | [],_::_,_,_,h=>False.elim h
  | _::_,[],_,_,h=>False.elim h
theorem DlOk.some:∀{us:List (eh×V)} {kvs:List (eh×List PyData)} {A:List Addr},DlOk K F H us kvs A→∀a∈A,∃vs,H a=some (.lst vs)
  | [],[],A,h,a,ha=>by rw [show A=[] from h] at ha;cases ha
  | p::us,q::kvs,A,h,a,ha=>by
    obtain ⟨l,vs,A',rfl,rfl,hl,hr,k⟩:=h
    rcases List.mem_cons.mp ha with e | e
    · subst e;exact ⟨vs,hl⟩
    · exact k.some a e
  | [],_::_,_,h,_,_=>False.elim h
  | _::_,[],_,h,_,_=>False.elim h
theorem PtsOk.some:∀{vs:List V} {ps:List Pt} {A:List Addr},PtsOk K F H vs ps A→∀a∈A,∃us,H a=some (.lst us)
  | [],[],A,h,a,ha=>by rw [show A=[] from h] at ha;cases ha
  | v::vs, .fl d::ps,A,h,a,ha=>PtsOk.some h.2 a ha
  | v::vs, .ol ds::ps,A,h,a,ha=>by
    obtain ⟨l,us,A',rfl,rfl,hl,hr,q⟩:=h
    rcases List.mem_cons.mp ha with e | e
    · subst e;exact ⟨us,hl⟩
    · exact q.some a e
  | [],_::_,_,h,_,_=>False.elim h
  | _::_,[],_,h,_,_=>False.elim h
theorem PtsOk.rp (s:Same F H):∀{vs:List V} {ps:List Pt} {A:List Addr},PtsOk K F H vs ps A→RpA K H vs (ps.map Pt.val)
  | [],[],A,_=> .nil
  | v::vs, .fl d::ps,A,h=> .cons (h.1.same s) (PtsOk.rp s h.2)
  | v::vs, .ol ds::ps,A,h=>by
    obtain ⟨l,us,A',rfl,rfl,hl,hr,q⟩:=h
    exact .cons (.lst (SqL.of hl) (hr.same s)) (q.rp s)
  | [],_::_,_,h=>False.elim h
  | _::_,[],_,h=>False.elim h
theorem SlOk.stay {o:Option V} {s:Sl} {A:List Addr} (hF:Same F F') (e:∀b∈A,H' b=H b) (hb:s.isBr=true→Same H H') (h:SlOk K F H σ o s A):SlOk K F' H' σ o s A:=by
  cases s with
  | no=>exact h
  | sh d=>obtain ⟨rfl,v,rfl,r⟩:=h;exact ⟨rfl,v,rfl,r.same hF⟩
  | ow ds=>obtain ⟨l,vs,rfl,rfl,hl,r⟩:=h;exact ⟨l,vs,rfl,rfl,(e l (by simp)).trans hl,r.same hF⟩
  | io l zs=>obtain ⟨rfl,rfl,hl⟩:=h;exact ⟨rfl,rfl,(e l (by simp)).trans hl⟩
  | od kvs=>obtain ⟨l,us,A',rfl,rfl,hl,r⟩:=h;exact ⟨l,us,A',rfl,rfl,(e l (by simp)).trans hl,r.stay hF fun b hb=>e b (List.mem_cons_of_mem _ hb)⟩
  | tx ps=>obtain ⟨t,vs,rfl,ht,r⟩:=h;exact ⟨t,vs,rfl,hF _ _ ht,r.stay hF e⟩
  | al i=>exact h
  | br d=>obtain ⟨rfl,v,rfl,r⟩:=h;exact ⟨rfl,v,rfl,r.same (hb rfl)⟩
theorem SlOk.mut {o:Option V} {s:Sl} {A:List Addr} (h:SlOk K F H σ o s A):∀a∈A,(∃us,H a=some (.lst us))∨∃us,H a=some (.dK us):=by
  cases s with
  | no=>intro a ha;rw [show A=[] from h] at ha;cases ha
  | sh d=>obtain ⟨rfl,_⟩:=h;intro a ha;cases ha
  | ow ds=>obtain ⟨l,vs,rfl,rfl,hl,r⟩:=h;intro a ha;rw [List.mem_singleton.mp ha];exact .inl ⟨_,hl⟩
  | io l zs=>obtain ⟨rfl,rfl,hl⟩:=h;intro a ha;rw [List.mem_singleton.mp ha];exact .inl ⟨_,hl⟩
  | od kvs=>
    obtain ⟨l,vs,A',rfl,rfl,hl,r⟩:=h
    intro a ha
    rcases List.mem_cons.mp ha with z | z
    · rw [z];exact .inr ⟨_,hl⟩
    · exact .inl (r.some a z)
  | tx ps=>obtain ⟨t,vs,rfl,ht,r⟩:=h;exact fun a ha=> .inl (r.some a ha)
  | al i=>obtain ⟨rfl,_⟩:=h;intro a ha;cases ha
  | br d=>obtain ⟨rfl,_⟩:=h;intro a ha;cases ha
end
inductive SAll (P:Option V→Sl→List Addr→Prop):List (Option V)→List Sl→List Addr→Prop
  | nil:SAll P [] [] []
  | cons {o:Option V} {s:Sl} {A:List Addr} {os:List (Option V)} {ss:List Sl} {B:List Addr}:P o s A→SAll P os ss B→SAll P (o::os) (s::ss) (A++B)
section
variable {P P':Option V→Sl→List Addr→Prop}
theorem SAll.len {os:List (Option V)} {ss:List Sl} {A:List Addr} (h:SAll P os ss A):os.length=ss.length:=by
  induction h with
  | nil=>rfl
  | cons _ _ b=>exact congrArg (· +1) b
theorem SAll.mono {os:List (Option V)} {ss:List Sl} {A:List Addr} (h:SAll P os ss A):(∀o s B,s∈ss→(∀b∈B,b∈A)→P o s B→P' o s B)→SAll P' os ss A:=by
  induction h with
  | nil=>exact fun _=> .nil
  | cons h _ r=>exact fun f=> .cons (f _ _ _ (List.mem_cons_self ..) (fun b hb=>List.mem_append_left _ hb) h) (r fun o s B hs hB q=>f o s B (List.mem_cons_of_mem _ hs) (fun b hb=>List.mem_append_right _ (hB b hb)) q)
theorem SAll.all {R:Addr→Prop} (hR:∀o s B,P o s B→∀b∈B,R b) {os:List (Option V)} {ss:List Sl} {A:List Addr} (h:SAll P os ss A):∀a∈A,R a:=by
  induction h with
  | nil=>exact fun _ ha=>nomatch ha
  | cons h _ r=>exact fun a ha=>(List.mem_append.mp ha).elim (hR _ _ _ h a) (r a)
theorem SAll.at:∀{os:List (Option V)} {ss:List Sl} {A:List Addr} {k:Nat} {s:Sl},SAll P os ss A→ss[k]? =some s→
    ∃o A0 A1 A2,A=A0++(A1++A2)∧os[k]? =some o∧P o s A1∧∀(P':Option V→Sl→List Addr→Prop) (o':Option V) (s':Sl) (A1':List Addr),P' o' s' A1'→
      (∀o s B,s∈ss→(∀b∈B,b∈A0∨b∈A2)→P o s B→P' o s B)→SAll P' (os.set k o') (ss.set k s') (A0++(A1'++A2))
  | _,_,_,_,_, .nil,e=>by simp at e
  | _,_,_,0,s, .cons (o:=o) (A:=A) (B:=B) h r,e=>by
    simp at e;subst e
    refine ⟨o,[],A,B,by simp,rfl,h,fun P' o' s' A1' h' f=>?_⟩
    have z:SAll P' _ _ (A1'++B):= .cons h' (r.mono (P':=P') fun o s B hs hB q=>f o s B (List.mem_cons_of_mem _ hs) (fun b hb=> .inr (hB b hb)) q)
    exact z
  | _,_,_,k+1,s, .cons (o:=o) (A:=A) (B:=B) h r,e=>by
    obtain ⟨o2,A0,A1,A2,eA,eo,hp,f⟩:=r.at (k:=k) (s:=s) (by simpa using e)
    subst eA
    refine ⟨o2,A++A0,A1,A2,by simp,by simpa using eo,hp,fun P' o' s' A1' h' g=>?_⟩
    have z:=f P' o' s' A1' h' fun o s B hs hB q=>g o s B (List.mem_cons_of_mem _ hs) (fun b hb=>(hB b hb).imp (fun x=>List.mem_append_right _ x) id) q
    rw [List.append_assoc]
    exact .cons (g _ _ _ (List.mem_cons_self ..) (fun b hb=> .inl (List.mem_append_left _ hb)) h) z
end
end PL
namespace PL
open PySem L2 Nh
abbrev Sg:=L2.St
structure FrF (K:PySem.W.Frag) (B F:Hp) (A:List Addr) (σ:Sg) (H:Hp) (E:List Sl) (xs:List V) (Xs:List Sl):Prop where
  bf:Same B F
  fh:Same F H
  tf:Same (tups H) F
  sl:SAll (SlOk K F H σ) (xs.map some++σ) (Xs++E) A
  nd:A.Nodup
  fr:∀a∈A,F a=none
  len:xs.length=Xs.length
  pl:∀s∈E,s.isAl=false
def Frm (K:PySem.W.Frag) (B:Hp) (σ:Sg) (H:Hp) (E:List Sl) (xs:List V) (Xs:List Sl):Prop:=∃F A,FrF K B F A σ H E xs Xs
def Sl.val:Sl→Option PyData
  | .sh d=>some d
  | .ow ds=>some (.list ds)
  | .tx ps=>some (.tuple (ps.map Pt.val))
  | .br d=>some d
  | _=>none
def look (E:List Sl):Sl→Option PyData
  | .al i=>(E[i]?).bind Sl.val
  | s=>s.val
def bx:Sl→Bool
  | .br _=>true
  | .tx _=>true
  | _=>false
def hot (E:List Sl):Sl→Bool
  | .al i=>(E[i]?).any bx
  | s=>bx s
def RpF (K:PySem.W.Frag) (F H:Hp) (v:V):PyData→Prop
  | .list ds=>∃a vs,v= .ref a∧SqL K H a vs∧RpA K F vs ds
  | d=>Rp K F v d
def n0 (F H:Hp) (A:List Addr):Hp:=fun b=>if b∈A then H b else F b
theorem mB {F H:Hp} {A:List Addr} {b:Addr} (h:b∈A):n0 F H A b=H b:=if_pos h
theorem j6 {F H:Hp} {A:List Addr} {b:Addr} (h:b∉A):n0 F H A b=F b:=if_neg h
section
variable {K:PySem.W.Frag} {B F:Hp} {A:List Addr} {σ:Sg} {H:Hp} {E:List Sl} {xs:List V} {Xs:List Sl} {v:V} {s:Sl} {d:PyData}
theorem RpF.of (h:Rp K F v d) (s:Same F H):RpF K F H v d:=by
  cases h with
  | lst h r=>exact ⟨_,_,rfl,s.seq h,r⟩
  | non=>exact .non
  | bl b=>exact .bl b
  | int i=>exact .int i
  | str x=>exact .str x
  | tup h r=>exact .tup h r
  | dct h r=>exact .dct h r
  | obj c h n r=>exact .obj c h n r
  | exc h r=>exact .exc h r
theorem SlOk.val {o:Option V} {A1:List Addr} (h:SlOk K F H σ o s A1) (hF:Same F H) (e:s.val=some d):∃v,o=some v∧Rp K H v d∧(bx s=false→RpF K F H v d):=by
  cases s with
  | no=>cases e
  | sh d'=>
    obtain ⟨rfl,v,rfl,r⟩:=h
    cases e
    exact ⟨v,rfl,r.same hF,fun _=>RpF.of r hF⟩
  | ow ds=>
    obtain ⟨l,vs,rfl,rfl,hl,r⟩:=h
    cases e
    exact ⟨_,rfl, .lst (SqL.of hl) (r.same hF),fun _=>⟨_,_,rfl,SqL.of hl,r⟩⟩
  | io l zs=>cases e
  | od kvs=>cases e
  | tx ps=>
    obtain ⟨t,vs,rfl,ht,r⟩:=h
    cases e
    exact ⟨_,rfl, .tup (SqT.of (hF _ _ ht)) (r.rp hF),fun z=>by cases z⟩
  | al i=>cases e
  | br d'=>
    obtain ⟨rfl,v,rfl,r⟩:=h
    cases e
    exact ⟨v,rfl,r,fun z=>by cases z⟩
theorem FrF.slen (h:FrF K B F A σ H E xs Xs):σ.length=E.length:=by
  have e:=h.sl.len
  have:=h.len
  simp only [List.length_append,List.length_map] at e
  omega
theorem FrF.var {i:Nat} (h:FrF K B F A σ H E xs Xs) (e:E[i]? =some s):∃o A1,σ[i]? =some o∧SlOk K F H σ o s A1:=by
  obtain ⟨o,A0,A1,A2,eA,eo,hp,_⟩:=h.sl.at (k:=Xs.length+i) (s:=s) (by rw [List.getElem?_append_right (by omega)];simpa using e)
  rw [List.getElem?_append_right (by rw [List.length_map,h.len];omega),List.length_map,h.len,Nat.add_sub_cancel_left] at eo
  exact ⟨o,A1,eo,hp⟩
theorem FrF.ext {k:Nat} (h:FrF K B F A σ H E xs Xs) (e:Xs[k]? =some s):∃v A1,xs[k]? =some v∧SlOk K F H σ (some v) s A1:=by
  have hk:k < Xs.length:=(List.getElem?_eq_some_iff.mp e).1
  obtain ⟨o,A0,A1,A2,eA,eo,hp,_⟩:=h.sl.at (k:=k) (s:=s) (by rw [List.getElem?_append_left hk];exact e)
  rw [List.getElem?_append_left (by rw [List.length_map,h.len];omega),List.getElem?_map] at eo
  cases q:xs[k]? with
  | none=>rw [q] at eo;cases eo
  | some v=>rw [q] at eo;cases eo;exact ⟨v,A1,rfl,hp⟩
theorem FrF.look {k:Nat} (h:FrF K B F A σ H E xs Xs) (e:Xs[k]? =some s) (q:look E s=some d):∃v,xs[k]? =some v∧Rp K H v d∧(hot E s=false→RpF K F H v d):=by
  obtain ⟨v,A1,ev,hs⟩:=h.ext e
  cases s with
  | al i=>
    obtain ⟨rfl,w,ew,hw⟩:=hs
    cases ew
    cases ei:E[i]? with
    | none=>simp [PL.look,ei] at q
    | some t=>
      obtain ⟨o,A2,eo,ht⟩:=h.var ei
      rw [hw] at eo
      cases eo
      obtain ⟨v',e',r,c⟩:=ht.val h.fh (d:=d) (by simpa [PL.look,ei] using q)
      cases e'
      exact ⟨v,ev,r,fun z=>c (by simpa [hot,ei] using z)⟩
  | no=>cases q
  | io l zs=>cases q
  | od kvs=>cases q
  | sh d'=>obtain ⟨v',e',r,c⟩:=hs.val h.fh q;cases e';exact ⟨v,ev,r,c⟩
  | ow ds=>obtain ⟨v',e',r,c⟩:=hs.val h.fh q;cases e';exact ⟨v,ev,r,c⟩
  | tx ps=>obtain ⟨v',e',r,c⟩:=hs.val h.fh q;cases e';exact ⟨v,ev,r,c⟩
  | br d'=>obtain ⟨v',e',r,c⟩:=hs.val h.fh q;cases e';exact ⟨v,ev,r,c⟩
theorem FrF.look0 (h:FrF K B F A σ H E (v::xs) (s::Xs)) (q:PL.look E s=some d):Rp K H v d∧(hot E s=false→RpF K F H v d):=by
  obtain ⟨v',e,r⟩:=h.look (k:=0) rfl q
  cases e
  exact r
theorem FrF.look1 {w:V} {t:Sl} (h:FrF K B F A σ H E (w::v::xs) (t::s::Xs)) (q:PL.look E s=some d):Rp K H v d∧(hot E s=false→RpF K F H v d):=by
  obtain ⟨v',e,r⟩:=h.look (k:=1) rfl q
  cases e
  exact r
theorem FrF.mutA (h:FrF K B F A σ H E xs Xs):∀a∈A,(∃us,H a=some (.lst us))∨∃us,H a=some (.dK us):=
  SAll.all (R:=fun a=>(∃us,H a=some (.lst us))∨∃us,H a=some (.dK us)) (fun _ _ _ q=>q.mut) h.sl
theorem FrF.newA {p:Addr} (h:FrF K B F A σ H E xs Xs) (hp:H p=none):p∉A:=fun hm=>by
  rcases h.mutA p hm with ⟨_,z⟩ | ⟨_,z⟩ <;> rw [hp] at z <;> cases z
theorem FrF.cold {u:V} {e:PyData} (h:FrF K B F A σ H E xs Xs) (r:Rp K H u e) (f:aP e=true):Rp K F u e:=(r.cold f).same h.tf
theorem FrF.coldA {us:List V} {es:List PyData} (h:FrF K B F A σ H E xs Xs) (r:RpA K H us es) (f:ba es=true):RpA K F us es:=(r.cold f).same h.tf
theorem FrF.push (h:FrF K B F A σ H E xs Xs) (q:SlOk K F H σ (some v) s []):FrF K B F A σ H E (v::xs) (s::Xs):=
  ⟨h.bf,h.fh,h.tf, .cons (A:=[]) q h.sl,h.nd,h.fr,by simp [h.len],h.pl⟩
theorem FrF.pop (h:FrF K B F A σ H E (v::xs) (s::Xs)):∃A',FrF K B F A' σ H E xs Xs:=by
  obtain ⟨bf,fh,tf,sl,nd,fr,len,pl⟩:=h
  generalize hT:List.map some (v::xs)++σ=T at sl
  generalize hS:(s::Xs)++E=S at sl
  cases sl with
  | nil=>cases hS
  | cons q r=>
    injection hT with _ hT
    injection hS with _ hS
    subst hT hS
    exact ⟨_,bf,fh,tf,r,(List.nodup_append.mp nd).2.1,fun a ha=>fr a (List.mem_append_right _ ha),by simpa using len,pl⟩
theorem FrF.grow {H':Hp} (h:FrF K B F A σ H E xs Xs) (g:Same H H'):FrF K B (fun b=>if b∈A then none else H' b) A σ H' E xs Xs:=by
  have nF:∀b o,F b=some o→b∉A:=fun b o e hb=>by rw [h.fr b hb] at e;cases e
  have FF:Same F (fun b=>if b∈A then none else H' b):=fun b o e=>by
    show (if b∈A then none else H' b)=some o
    rw [if_neg (nF b o e)]
    exact g _ _ (h.fh _ _ e)
  have hA:∀b∈A,H' b=H b:=fun b hb=>by
    rcases h.mutA b hb with ⟨_,z⟩ | ⟨_,z⟩ <;> rw [z,g _ _ z]
  refine ⟨h.bf.trans FF,fun b o e=>?_,fun b o e=>?_,h.sl.mono fun o s C _ hC q=>q.stay FF (fun b hb=>hA b (hC b hb)) fun _=>g,h.nd,fun a ha=>if_pos ha,h.len,h.pl⟩
  · by_cases hb:b∈A
    · rw [if_pos hb] at e;cases e
    · rw [if_neg hb] at e;exact e
  · obtain ⟨e1,e2⟩:=Option.filter_eq_some_iff.mp e
    show (if b∈A then none else H' b)=some o
    by_cases hb:b∈A
    · rw [hA b hb] at e1
      rcases h.mutA b hb with ⟨_,z⟩ | ⟨_,z⟩ <;> rw [z] at e1 <;> cases e1 <;> cases e2
    · rw [if_neg hb];exact e1
theorem FrF.newl {p:Addr} {vs:List V} {ds:List PyData} (h:FrF K B F A σ H E xs Xs) (r:RpA K F vs ds) (hp:H p=none):FrF K B F (p::A) σ (upd H p (.lst vs)) E (.ref p::xs) (.ow ds::Xs):=by
  have g:Same H (upd H p (.lst vs)):=gq hp _
  have nA:=h.newA hp
  refine ⟨h.bf,h.fh.trans g,fun b o e=>?_, .cons (A:=[p]) ⟨p,vs,rfl,rfl,aJ,r⟩ (h.sl.mono fun o s C _ hC q=>q.stay (Same.refl _) (fun b hb=>ay fun z=>nA (z▸hC b hb)) fun _=>g),List.nodup_cons.mpr ⟨nA,h.nd⟩,fun a ha=>?_,by simp [h.len],h.pl⟩
  · obtain ⟨e1,e2⟩:=Option.filter_eq_some_iff.mp e
    by_cases hb:b=p
    · subst hb;rw [aJ] at e1;cases e1;cases e2
    · rw [ay hb] at e1;exact h.tf b o (eW e1 e2)
  · rcases List.mem_cons.mp ha with z | z
    · subst z;exact h.fh.free hp
    · exact h.fr a z
theorem FrF.newt {p:Addr} {vs:List V} {ds:List PyData} (h:FrF K B F A σ H E xs Xs) (r:RpA K F vs ds) (hp:H p=none):FrF K B (upd F p (.tup vs)) A σ (upd H p (.tup vs)) E (.ref p::xs) (.sh (.tuple ds)::Xs):=by
  have g:Same H (upd H p (.tup vs)):=gq hp _
  have nA:=h.newA hp
  have gF:Same F (upd F p (.tup vs)):=gq (h.fh.free hp) _
  refine ⟨h.bf.trans gF,fun b o e=>?_,fun b o e=>?_, .cons (A:=[]) ⟨rfl,_,rfl, .tup (.inl (.inl aJ)) (r.same gF)⟩ (h.sl.mono fun o s C _ hC q=>q.stay gF (fun b hb=>ay fun z=>nA (z▸hC b hb)) fun _=>g),h.nd,fun a ha=>?_,by simp [h.len],h.pl⟩
  · by_cases hb:b=p
    · subst hb;rw [aJ] at e ⊢;exact e
    · rw [ay hb] at e ⊢;exact h.fh _ _ e
  · obtain ⟨e1,e2⟩:=Option.filter_eq_some_iff.mp e
    by_cases hb:b=p
    · subst hb;rw [aJ] at e1 ⊢;exact e1
    · rw [ay hb] at e1 ⊢;exact h.tf b o (eW e1 e2)
  · have ne:a≠p:=fun z=>nA (z▸ha)
    rw [ay ne];exact h.fr a ha
theorem FrF.mut {i:Nat} {ds:List PyData} (h:FrF K B F A σ H E xs Xs) (e:E[i]? =some (.ow ds)) (c:∀s∈Xs,s.isBr=false):
    ∃l vs,σ[i]? =some (some (.ref l))∧H l=some (.lst vs)∧RpA K F vs ds∧∀vs' ds',RpA K F vs' ds'→FrF K B F A σ (upd H l (.lst vs')) (E.set i (.ow ds')) xs Xs:=by
  obtain ⟨o,A0,A1,A2,eA,eo,hp,put⟩:=h.sl.at (k:=Xs.length+i) (s:= .ow ds) (by rw [List.getElem?_append_right (by omega)];simpa using e)
  rw [List.getElem?_append_right (by rw [List.length_map,h.len];omega),List.length_map,h.len,Nat.add_sub_cancel_left] at eo
  obtain ⟨l,vs,rfl,rfl,hl,r⟩:=hp
  refine ⟨l,vs,eo,hl,r,fun vs' ds' r'=>?_⟩
  have hlA:l∈A:=by rw [eA];simp
  have nl:∀b,b∈A0∨b∈A2→b≠l:=fun b hb z=>by
    subst z
    have nd:=h.nd
    rw [eA] at nd
    rcases hb with hb | hb
    · exact (List.nodup_append.mp nd).2.2 b hb b (by simp) rfl
    · exact (List.nodup_append.mp (List.nodup_append.mp nd).2.1).2.2 b (by simp) b hb rfl
  have lF:F l=none:=h.fr l hlA
  have z:=put (SlOk K F (upd H l (.lst vs')) σ) (some (.ref l)) (.ow ds') [l] ⟨l,vs',rfl,rfl,aJ,r'⟩ fun o s C hs hC q=>q.stay (Same.refl _) (fun b hb=>ay (nl b (hC b hb))) fun z=>by
    rcases List.mem_append.mp hs with hs | hs
    · rw [c s hs] at z;cases z
    · have:=h.pl s hs
      cases s <;> simp [Sl.isAl,Sl.isBr] at this z
  have e3:(Xs++E).set (Xs.length+i) (.ow ds')=Xs++E.set i (.ow ds'):=by
    rw [List.set_append_right _ _ (by omega),Nat.add_sub_cancel_left]
  have e2:(List.map some xs++σ).set (Xs.length+i) (some (V.ref l))=List.map some xs++σ:=by
    rw [←h.len,List.set_append_right _ _ (by rw [List.length_map];omega),List.length_map,Nat.add_sub_cancel_left]
    congr 1
    exact List.ext_getElem? fun j=>by
      by_cases hj:i=j
      · subst hj
        rw [List.getElem?_set_self',eo];rfl
      · rw [List.getElem?_set_ne hj]
  rw [e2,e3,←eA] at z
  refine ⟨h.bf,fun b o q=>?_,?_,z,h.nd,h.fr,h.len,fun s hs=>?_⟩
  · rw [ay (fun z=>by rw [z,lF] at q;cases q)]
    exact h.fh _ _ q
  · rw [j5 hl];exact h.tf
  · rcases List.mem_or_eq_of_mem_set hs with hs | hs
    · exact h.pl s hs
    · subst hs;rfl
theorem FrF.frzAt {k:Nat} (h:FrF K B F A σ H E xs Xs) (e:(Xs++E)[k]? =some s) (q:s.val=some d) (c:s.isAl=false):
    ∃F' A' v,(xs.map some++σ)[k]? =some (some v)∧Rp K F' v d∧Same B F'∧Same F' H∧Same (tups H) F'∧SAll (SlOk K F' H σ) (xs.map some++σ) ((Xs++E).set k (.sh d)) A'∧A'.Nodup∧∀a∈A',F' a=none:=by
  obtain ⟨o,A0,A1,A2,eA,eo,hp,put⟩:=h.sl.at e
  have nd:=h.nd
  rw [eA] at nd
  have nA1:∀b o,F b=some o→b∉A1:=fun b o e hb=>by
    have:=h.fr b (by rw [eA];simp [hb])
    rw [this] at e;cases e
  have FF:Same F (n0 F H A1):=fun b o e=>by rw [j6 (nA1 b o e)];exact e
  obtain ⟨v,rfl,r⟩:∃v,o=some v∧Rp K (n0 F H A1) v d:=by
    cases s with
    | no=>cases q
    | io l zs=>cases q
    | od kvs=>cases q
    | al i=>cases c
    | br d'=>cases c
    | sh d'=>
      obtain ⟨rfl,v,rfl,r⟩:=hp
      cases q
      exact ⟨v,rfl,r.same FF⟩
    | ow ds=>
      obtain ⟨l,vs,rfl,rfl,hl,r⟩:=hp
      cases q
      exact ⟨_,rfl, .lst (SqL.of ((mB (by simp)).trans hl)) (r.same FF)⟩
    | tx ps=>
      obtain ⟨t,vs,rfl,ht,r⟩:=hp
      cases q
      refine ⟨_,rfl, .tup (SqT.of (FF _ _ ht)) ?_⟩
      have r':PtsOk K (n0 F H A1) (n0 F H A1) vs ps A1:=r.stay FF fun b hb=>mB hb
      exact r'.rp (Same.refl _)
  have e2:(List.map some xs++σ).set k (some v)=List.map some xs++σ:=List.ext_getElem? fun j=>by
    by_cases hj:k=j
    · subst hj
      rw [List.getElem?_set_self',eo];rfl
    · rw [List.getElem?_set_ne hj]
  have z:=put (SlOk K (n0 F H A1) H σ) (some v) (.sh d) [] ⟨rfl,v,rfl,r⟩ fun o s C _ hC q=>q.stay FF (fun b _=>rfl) fun _=>Same.refl _
  rw [e2] at z
  refine ⟨n0 F H A1,A0++A2,v,eo,r,h.bf.trans FF,fun b o e=>?_,fun b o e=>FF _ _ (h.tf _ _ e),by simpa using z,?_,fun a ha=>?_⟩
  · by_cases hb:b∈A1
    · rw [mB hb] at e;exact e
    · rw [j6 hb] at e;exact h.fh _ _ e
  · exact List.Nodup.sublist (List.Sublist.append (List.Sublist.refl _) (List.sublist_append_right _ _)) nd
  · have hn:a∉A1:=fun hm=>by
      rcases List.mem_append.mp ha with z | z
      · exact (List.nodup_append.mp nd).2.2 a z a (by simp [hm]) rfl
      · exact (List.nodup_append.mp (List.nodup_append.mp nd).2.1).2.2 a hm a z rfl
    rw [j6 hn]
    exact h.fr a (by rw [eA];rcases List.mem_append.mp ha with z | z <;> simp [z])
end
def frz (E:List Sl):Sl→Option (PyData×List Sl)
  | .sh d=>some (d,E)
  | .ow ds=>some (.list ds,E)
  | .tx ps=>some (.tuple (ps.map Pt.val),E)
  | .br d=>if aP d then some (d,E) else none
  | .al i=>match E[i]? with
    | some (.sh d)=>some (d,E)
    | some (.ow ds)=>some (.list ds,E.set i (.sh (.list ds)))
    | some (.tx ps)=>some (.tuple (ps.map Pt.val),E.set i (.sh (.tuple (ps.map Pt.val))))
    | _=>none
  | _=>none
section
variable {K:PySem.W.Frag} {B F:Hp} {A:List Addr} {σ:Sg} {H:Hp} {E E':List Sl} {xs:List V} {Xs:List Sl} {v:V} {s:Sl} {d:PyData}
theorem FrF.frzVar {i:Nat} (h:FrF K B F A σ H E xs Xs) (e:E[i]? =some s) (q:s.val=some d):∃F' A' v,σ[i]? =some (some v)∧Rp K F' v d∧FrF K B F' A' σ H (E.set i (.sh d)) xs Xs:=by
  obtain ⟨F',A',v,ev,r,b1,b2,b3,sl,nd,fr⟩:=h.frzAt (k:=Xs.length+i) (by rw [List.getElem?_append_right (by omega)];simpa using e) q (h.pl s (List.mem_of_getElem? e))
  rw [List.getElem?_append_right (by rw [List.length_map,h.len];omega),List.length_map,h.len,Nat.add_sub_cancel_left] at ev
  have e3:(Xs++E).set (Xs.length+i) (.sh d)=Xs++E.set i (.sh d):=by
    rw [List.set_append_right _ _ (by omega),Nat.add_sub_cancel_left]
  rw [e3] at sl
  refine ⟨F',A',v,ev,r,b1,b2,b3,sl,nd,fr,h.len,fun s hs=>?_⟩
  rcases List.mem_or_eq_of_mem_set hs with hs | hs
  · exact h.pl s hs
  · subst hs;rfl
theorem FrF.frz0 (h:FrF K B F A σ H E (v::xs) (s::Xs)) (q:PL.frz E s=some (d,E')):∃F' A',FrF K B F' A' σ H E' (v::xs) (.sh d::Xs):=by
  have key:s.val=some d→s.isAl=false→E=E'→∃F' A',FrF K B F' A' σ H E' (v::xs) (.sh d::Xs):=fun q' c e=>by
    subst e
    obtain ⟨F',A',v',ev,r,b1,b2,b3,sl,nd,fr⟩:=h.frzAt (k:=0) rfl q' c
    exact ⟨F',A',b1,b2,b3,sl,nd,fr,by simpa using h.len,h.pl⟩
  have al:∀i t,s= .al i→E[i]? =some t→t.val=some d→E'=E.set i (.sh d)→∃F' A',FrF K B F' A' σ H E' (v::xs) (.sh d::Xs):=fun i t es ei qt eE=>by
    subst es eE
    obtain ⟨v',A1,ev,hs⟩:=h.ext (k:=0) rfl
    cases ev
    obtain ⟨rfl,w,ew,hw⟩:=hs
    cases ew
    obtain ⟨F',A',w,ew,r,h'⟩:=h.frzVar ei qt
    rw [hw] at ew
    cases ew
    obtain ⟨A2,h2⟩:=h'.pop
    exact ⟨F',A2,h2.push ⟨rfl,_,rfl,r⟩⟩
  cases s with
  | no=>cases q
  | io l zs=>cases q
  | od kvs=>cases q
  | sh d'=>cases q;exact key rfl rfl rfl
  | ow ds=>cases q;exact key rfl rfl rfl
  | tx ps=>cases q;exact key rfl rfl rfl
  | br d'=>
    simp only [PL.frz] at q
    split at q
    · rename_i hf
      cases q
      obtain ⟨r,_⟩:=h.look0 (d:=d) rfl
      obtain ⟨A2,h2⟩:=h.pop
      exact ⟨F,A2,h2.push ⟨rfl,_,rfl,h.cold r hf⟩⟩
    · cases q
  | al i=>
    simp only [PL.frz] at q
    split at q
    · rename_i d' ei
      cases q
      refine al i _ rfl ei rfl ?_
      exact List.ext_getElem? fun j=>by
        by_cases hj:i=j
        · subst hj;rw [List.getElem?_set_self',ei];rfl
        · rw [List.getElem?_set_ne hj]
    · rename_i ds ei
      cases q
      exact al i _ rfl ei rfl rfl
    · rename_i ps ei
      cases q
      exact al i _ rfl ei rfl rfl
    · cases q
theorem FrF.store {i:Nat} (h:FrF K B F A σ H E (v::xs) (s::Xs)) (c:s.isAl=false) (cx:∀s∈Xs,s.isAl=false) (hi:i < E.length):∃A',FrF K B F A' (σ.set i (some v)) H (E.set i s) xs Xs:=by
  have hlen:=h.len
  have hsl:=h.slen
  obtain ⟨bf,fh,tf,sl,nd,fr,len,pl⟩:=h
  generalize hT:List.map some (v::xs)++σ=T at sl
  generalize hS:(s::Xs)++E=S at sl
  cases sl with
  | nil=>cases hS
  | cons q r=>
    rename_i A1 _ _ A2
    injection hT with h1 hT
    injection hS with h2 hS
    subst h1 h2 hT hS
    have len':xs.length=Xs.length:=by simpa using len
    have r:SAll (SlOk K F H σ) (List.map some xs++σ) (Xs++E) A2:=r
    obtain ⟨t,et⟩:∃t,E[i]? =some t:=⟨E[i],List.getElem?_eq_getElem hi⟩
    obtain ⟨o,C0,C1,C2,eA,eo,hp,put⟩:=r.at (k:=Xs.length+i) (s:=t) (by rw [List.getElem?_append_right (by omega)];simpa using et)
    have all:∀s'∈Xs++E,s'.isAl=false:=fun s' hs=>(List.mem_append.mp hs).elim (cx s') (pl s')
    have chg:∀(o:Option V) (s':Sl) (C:List Addr),s'.isAl=false→SlOk K F H σ o s' C→SlOk K F H (σ.set i (some v)) o s' C:=fun o s' C hc z=>by
      cases s' <;> first | exact z | cases hc
    have z:=put (SlOk K F H (σ.set i (some v))) (some v) s A1 (chg _ _ _ c q) fun o s' C hs _ z=>chg o s' C (all s' hs) z
    have e3:(Xs++E).set (Xs.length+i) s=Xs++E.set i s:=by
      rw [List.set_append_right _ _ (by omega),Nat.add_sub_cancel_left]
    have e2:(List.map some xs++σ).set (Xs.length+i) (some v)=List.map some xs++σ.set i (some v):=by
      rw [←len',List.set_append_right _ _ (by rw [List.length_map];omega),List.length_map,Nat.add_sub_cancel_left]
    rw [e2,e3] at z
    refine ⟨_,bf,fh,tf,z,?_,fun a ha=>fr a ?_,len',fun s' hs=>?_⟩
    · rw [eA] at nd
      have p:(C0++(A1++C2)).Perm (A1++(C0++C2)):=by
        rw [←List.append_assoc,←List.append_assoc]
        exact List.Perm.append_right _ List.perm_append_comm
      refine p.nodup_iff.mpr (List.Nodup.sublist ?_ nd)
      exact List.Sublist.append (List.Sublist.refl _) (List.Sublist.append (List.Sublist.refl _) (List.sublist_append_right _ _))
    · rw [eA]
      simp only [List.mem_append] at ha ⊢
      rcases ha with z | z | z
      · exact .inr (.inl z)
      · exact .inl z
      · exact .inr (.inr (.inr z))
    · rcases List.mem_or_eq_of_mem_set hs with hs | hs
      · exact pl s' hs
      · subst hs;exact c
end
end PL
namespace PL
open PySem L2 Nh
abbrev b9:=List Sl→Option (Sl×List Sl)
abbrev iR:=List Sl→Option (Bool×List Sl)
abbrev j7:=List Sl→Option (List Sl×List Sl)
abbrev kI:=List Sl→Option (List PyData×List Sl)
inductive Fl where
  | nx | bk | ct | rt (r:Sl)
abbrev bA:=List Sl→Option (List Sl×Fl)
abbrev Calm (Xs:List Sl):Prop:=∀s∈Xs,s.isBr=false
abbrev Still (Xs:List Sl):Prop:=∀s∈Xs,s.isAl=false
theorem Still.calm {Xs:List Sl} (h:Still Xs):Calm Xs:=fun s hs=>by
  have:=h s hs
  cases s <;> simp [Sl.isAl,Sl.isBr] at this ⊢
theorem Still.nil {Xs:List Sl} (h:Xs=[]):Still Xs:=fun s hs=>by subst h;cases hs
theorem Calm.nil {Xs:List Sl} (h:Xs=[]):Calm Xs:=(Still.nil h).calm
theorem Calm.cons {Xs:List Sl} {s:Sl} (h:Calm Xs) (hs:s.isBr=false):Calm (s::Xs):=fun t ht=>(List.mem_cons.mp ht).elim (fun e=>e▸hs) (h t)
def rd (K:PySem.W.Frag) (m:Bool) (f:b9):TE:=fun σ H Q=>∃B E xs Xs r E',Frm K B σ H E xs Xs∧(m=true→Calm Xs)∧f E=some (r,E')∧∀v H',Frm K B σ H' E' (v::xs) (r::Xs)→Q v H'
def rt (K:PySem.W.Frag) (m:Bool) (f:iR):TT:=fun σ H Q=>∃B E xs Xs b E',Frm K B σ H E xs Xs∧(m=true→Calm Xs)∧f E=some (b,E')∧∀H',Frm K B σ H' E' xs Xs→Q b H'
def ra (K:PySem.W.Frag) (m:Bool) (f:j7):TA:=fun σ H Q=>∃B E xs Xs rs E',Frm K B σ H E xs Xs∧(m=true→Calm Xs)∧f E=some (rs,E')∧∀vs H',vs.length=rs.length→Frm K B σ H' E' (vs.reverse++xs) (rs.reverse++Xs)→Q vs H'
def CB (K:PySem.W.Frag) (m:Bool) (f:kI):TA:=fun σ H Q=>∃B E xs Xs ds E',Frm K B σ H E xs Xs∧(m=true→Calm Xs)∧f E=some (ds,E')∧∀vs H',vs.length=ds.length→Frm K B σ H' E' (vs.reverse++xs) (ds.reverse.map .sh++Xs)→Q vs H'
def rs (K:PySem.W.Frag) (g:bA):TS:=fun D σ H=>∃B E xs Xs E' fl,Frm K B σ H E xs Xs∧Xs=[]∧g E=some (E',fl)∧match fl with
  | .nx=>∀σ' H',Frm K B σ' H' E' xs Xs→D.nx σ' H'
  | .bk=>∀σ' H',Frm K B σ' H' E' xs Xs→D.bk σ' H'
  | .ct=>∀σ' H',Frm K B σ' H' E' xs Xs→D.ct σ' H'
  | .rt r=>∀σ' v H',Frm K B σ' H' E' (v::xs) (r::Xs)→D.rt v H'
def EX (X:Cx) (e:Expr) (m:Bool) (f:b9):Prop:=PE X e (rd X.K m f)
def TX (X:Cx) (e:Expr) (m:Bool) (f:iR):Prop:=PT X e (rt X.K m f)
def WX (X:Cx) (e:Expr) (m:Bool) (f:iR):Prop:=PW X e (rt X.K m f)
def AX (X:Cx) (es:List Expr) (m:Bool) (f:j7):Prop:=PA X es (ra X.K m f)
def DX (X:Cx) (es:List Expr) (m:Bool) (f:kI):Prop:=PA X es (CB X.K m f)
def SX (X:Cx) (s:Stmt) (g:bA):Prop:=PS X s (rs X.K g)
def sP (X:Cx) (s:List Stmt) (g:bA):Prop:=PSs X s (rs X.K g)
section
variable {X:Cx}
theorem bw {e:Expr} {t t':TE} (h:PE X e t) (k:∀σ H Q,t' σ H Q→t σ H Q):PE X e t':=fun pins s σ H Q I q=>h pins s σ H Q I (k σ H Q q)
theorem mC {e:Expr} {t t':TT} (h:PT X e t) (k:∀σ H Q,t' σ H Q→t σ H Q):PT X e t':=fun pins s σ H Q I q=>h pins s σ H Q I (k σ H Q q)
theorem tX {e:Expr} {t t':TT} (h:PW X e t) (k:∀σ H Q,t' σ H Q→t σ H Q):PW X e t':=fun whole pins s σ H Q I q=>h whole pins s σ H Q I (k σ H Q q)
theorem jc {es:List Expr} {t t':TA} (h:PA X es t) (k:∀σ H Q,t' σ H Q→t σ H Q):PA X es t':=fun pos pins s σ H Q I q=>h pos pins s σ H Q I (k σ H Q q)
theorem gh {st:Stmt} {t t':TS} (h:PS X st t) (k:∀D σ H,t' D σ H→t D σ H):PS X st t':=fun pins s σ H D I q=>h pins s σ H D I (k D σ H q)
theorem qD {st:List Stmt} {t t':TS} (h:PSs X st t) (k:∀D σ H,t' D σ H→t D σ H):PSs X st t':=fun pins s σ H D I q=>h pins s σ H D I (k D σ H q)
end
def w5:PyData→Option V
  | .none=>some .non
  | .bool b=>some (.bl b)
  | .int i=>some (.int i)
  | .str x=>some (.str x)
  | _=>none
theorem j8 {K:PySem.W.Frag} {H:Hp} {d:PyData} {v:V} (h:w5 d=some v):Rp K H v d:=by
  cases d <;> simp [w5] at h <;> subst h <;> constructor
def ad (i:Nat):b9:=fun E=>match E[i]? with
  | some (.sh d)=>some (.sh d,E)
  | some (.ow _)=>some (.al i,E)
  | some (.od _)=>some (.al i,E)
  | some (.tx _)=>some (.al i,E)
  | _=>none
def pC (d:PyData):b9:=fun E=>some (.sh d,E)
section
variable {X:Cx} {K:PySem.W.Frag}
theorem aa (i:Nat) {x:Str} {pos:Pos} (hN:X.N[i]? =some x:=by rfl) (hv:ve X.env.scope x:=by first | exact Or.inl rfl | exact Or.inr (Or.inl rfl) | exact Or.inr (Or.inr rfl)) (hd:(x == ("__debug__":Str))=false:=by decide)
    (hcd:(x == ("__classdict__":Str))=false:=by decide):EX X (.Name x pos) false (ad i):=by
  refine bw (gZ hN hv hd hcd) fun σ H Q h=>?_
  obtain ⟨B,E,xs,Xs,r,E',⟨F,A,fr⟩,_,e,q⟩:=h
  unfold ad at e
  split at e
  · rename_i d ei
    cases e
    obtain ⟨o,A1,eo,rfl,v,rfl,rp⟩:=fr.var ei
    exact ⟨v,eo,q v H ⟨F,A,fr.push ⟨rfl,v,rfl,rp⟩⟩⟩
  · rename_i ds ei
    cases e
    obtain ⟨o,A1,eo,l,vs,rfl,_⟩:=fr.var ei
    exact ⟨_,eo,q _ H ⟨F,A,fr.push ⟨rfl,_,rfl,eo⟩⟩⟩
  · rename_i ds ei
    cases e
    obtain ⟨o,A1,eo,l,vs,A2,rfl,_⟩:=fr.var ei
    exact ⟨_,eo,q _ H ⟨F,A,fr.push ⟨rfl,_,rfl,eo⟩⟩⟩
  · rename_i ds ei
    cases e
    obtain ⟨o,A1,eo,l,vs,rfl,_⟩:=fr.var ei
    exact ⟨_,eo,q _ H ⟨F,A,fr.push ⟨rfl,_,rfl,eo⟩⟩⟩
  · cases e
theorem yg {e:Expr} {v:V} (d:PyData) (h:PE X e (tC v)) (hd:w5 d=some v:=by rfl):EX X e false (pC d):=by
  refine bw h fun σ H Q h=>?_
  obtain ⟨B,E,xs,Xs,r,E',⟨F,A,fr⟩,_,e,q⟩:=h
  cases e
  exact q v H ⟨F,A,fr.push ⟨rfl,v,rfl,j8 hd⟩⟩
theorem ai {i j pos}:EX X (.Constant (.int i) j pos) false (pC (.int i)):=yg _ g8
theorem j9 {b j pos}:EX X (.Constant (.bool b) j pos) false (pC (.bool b)):=yg _ zm
theorem aS {x j pos}:EX X (.Constant (.str x) j pos) false (pC (.str x)):=yg _ sR
end
abbrev P2:=List Sl→Sl→Sl→Option (Sl×List Sl)
def hE (K:PySem.W.Frag) (r:R2) (p:P2):Prop:=∀{B F:Hp} {A:List Addr} {σ:Sg} {H:Hp} {E:List Sl} {xs:List V} {Xs:List Sl} {v1 v2:V} {s1 s2 res:Sl} {E':List Sl} {Q:VK},
  FrF K B F A σ H E (v2::v1::xs) (s2::s1::Xs)→p E s1 s2=some (res,E')→(∀v H',Frm K B σ H' E' (v::xs) (res::Xs)→Q v H')→r v1 v2 H Q
def af (p:P2) (m2:Bool) (f g:b9):b9:=fun E=>(f E).bind fun a=>if m2&&a.1.isBr then none else (g a.2).bind fun b=>p b.2 a.1 b.1
theorem mD {K:PySem.W.Frag} {r:R2} {p:P2} (hp:hE K r p) {m1 m2:Bool} {f g:b9} {σ:Sg} {H:Hp} {Q:VK} (h:rd K (m1||m2) (af p m2 f g) σ H Q):wT r (rd K m1 f) (rd K m2 g) σ H Q:=by
  obtain ⟨B,E,xs,Xs,res,E',fr,c,e,q⟩:=h
  obtain ⟨⟨s1,E1⟩,e1,e⟩:=Option.bind_eq_some_iff.mp e
  by_cases hb:(m2&&s1.isBr)=true
  · rw [if_pos hb] at e;cases e
  rw [if_neg hb] at e
  obtain ⟨⟨s2,E2⟩,e2,e⟩:=Option.bind_eq_some_iff.mp e
  refine ⟨B,E,xs,Xs,s1,E1,fr,fun z=>c (by simp [z]),e1,fun v1 H1 fr1=>?_⟩
  refine ⟨B,E1,v1::xs,s1::Xs,s2,E2,fr1,fun z=>?_,e2,fun v2 H2 fr2=>?_⟩
  · refine Calm.cons (c (by simp [z])) ?_
    cases hs:s1.isBr with
    | false=>rfl
    | true=>exact absurd (by simp [z,hs]) hb
  · obtain ⟨F,A,fr2⟩:=fr2
    exact hp fr2 e q
def bR (op:PyData→PyData→Option PyData):P2:=fun E s1 s2=>(look E s1).bind fun d1=>(look E s2).bind fun d2=>(op d1 d2).map fun d=>(.sh d,E)
theorem FrF.res2 {K:PySem.W.Frag} {B F:Hp} {A:List Addr} {σ:Sg} {H:Hp} {E:List Sl} {xs:List V} {Xs:List Sl} {v1 v2 v:V} {s1 s2 s:Sl} (h:FrF K B F A σ H E (v2::v1::xs) (s2::s1::Xs)) (q:SlOk K F H σ (some v) s []):Frm K B σ H E (v::xs) (s::Xs):=by
  obtain ⟨A1,h⟩:=h.pop
  obtain ⟨A2,h⟩:=h.pop
  exact ⟨F,A2,h.push q⟩
theorem jd {K:PySem.W.Frag} {r:R2} {op:PyData→PyData→Option PyData} (h:∀(d1 d2 d:PyData) (v1 v2:V) (H:Hp) (Q:VK),op d1 d2=some d→Rp K H v1 d1→Rp K H v2 d2→∃v,w5 d=some v∧(Q v H→r v1 v2 H Q)):hE K r (bR op):=by
  intro B F A σ H E xs Xs v1 v2 s1 s2 res E' Q fr e q
  obtain ⟨d1,e1,e⟩:=Option.bind_eq_some_iff.mp e
  obtain ⟨d2,e2,e⟩:=Option.bind_eq_some_iff.mp e
  obtain ⟨d,e3,e⟩:=Option.map_eq_some_iff.mp e
  cases e
  obtain ⟨v,hv,k⟩:=h d1 d2 d v1 v2 H Q e3 (fr.look1 e1).1 (fr.look0 e2).1
  exact k (q v H (fr.res2 ⟨rfl,v,rfl,j8 hv⟩))
section
variable {X:Cx} {a b:Expr} {m1 m2:Bool} {f g:b9} {pos:Pos}
theorem j_ {op:Operator} {r:R2} {p:P2} (ho:OpR X (binaryOp op) r) (hp:hE X.K r p) (ha:EX X a m1 f) (hb:EX X b m2 g):EX X (.BinOp a op b pos) (m1||m2) (af p m2 f g):=bw (lK ho ha hb) fun _ _ _ h=>mD hp h
theorem tY {op:CmpOp} {r:R2} {p:P2} (ho:OpR X (compareOp op) r) (hp:hE X.K r p) (ha:EX X a m1 f) (hb:EX X b m2 g) (hm:behindInMarks op b=false):EX X (.Compare a [op] [b] pos) (m1||m2) (af p m2 f g):=bw (vA ho ha hb hm) fun _ _ _ h=>mD hp h
def bG (f:b9):iR:=fun E=>(f E).bind fun a=>match a.1 with
  | .sh (.bool b)=>some (b,a.2)
  | _=>none
theorem tZ {K:PySem.W.Frag} {m:Bool} {f:b9} {σ:Sg} {H:Hp} {Q:Bool→Hp→Prop} (h:rt K m (bG f) σ H Q):rd K m f σ H (fun x H'=>∃k,x= .bl k∧Q k H'):=by
  obtain ⟨B,E,xs,Xs,b,E',fr,c,e,q⟩:=h
  obtain ⟨⟨s,E1⟩,e1,e⟩:=Option.bind_eq_some_iff.mp e
  refine ⟨B,E,xs,Xs,s,E1,fr,c,e1,fun v H' ⟨F,A,fr'⟩=>?_⟩
  simp only at e
  split at e
  · cases e
    obtain ⟨r,_⟩:=fr'.look0 (d:= .bool b) rfl
    cases r
    obtain ⟨A',fr2⟩:=fr'.pop
    exact ⟨b,rfl,q H' ⟨F,A',fr2⟩⟩
  · cases e
theorem mE {op:CmpOp} {r:R2} {p:P2} (ho:OpR X (compareOp op) r) (hp:hE X.K r p) (ha:EX X a m1 f) (hb:EX X b m2 g) (hm:behindInMarks op b=false):TX X (.Compare a [op] [b] pos) (m1||m2) (bG (af p m2 f g)):=by
  refine mC (vB ho ha hb hm) fun σ H Q h=>?_
  exact mD hp (tZ h)
end
def yh:Int:=2 ^ 20000
def dP (i j:Int):Bool:=decide (-(2 ^ 64) < i∧i < 2 ^ 64)||decide (-(2 ^ 64) < j∧j < 2 ^ 64)||decide (-yh < i∧i < yh∧ -yh < j∧j < yh)
def ka (j:Int):Bool:=decide (0 < j∧j < 2 ^ 400)
def iE (C:Int→Int→Bool) (g:Int→Int→PyData):PyData→PyData→Option PyData
  | .int i, .int j=>if C i j then some (g i j) else none
  | _,_=>none
abbrev y8 (C:Int→Int→Bool) (g:Int→Int→V):R2:=rI (fun i j=>C i j=true) g
theorem mF {K:PySem.W.Frag} {C:Int→Int→Bool} {g:Int→Int→PyData} {g':Int→Int→V} (hg:∀i j,w5 (g i j)=some (g' i j)):hE K (y8 C g') (bR (iE C g)):=by
  refine jd fun d1 d2 d v1 v2 H Q e r1 r2=>?_
  unfold iE at e
  split at e
  · split at e
    · cases e
      cases r1
      cases r2
      rename_i hC
      exact ⟨_,hg _ _,fun q=>⟨_,_,rfl,rfl,hC,q⟩⟩
    · cases e
  · cases e
section
variable {X:Cx}
theorem ju {i:Int} (h1: -yh < i) (h2:i < yh):Builtin.Int.intBits i≤2 ^ 20:=by
  unfold yh at h1 h2
  have h:i.natAbs < 2 ^ 20000:=by
    have e:((2 ^ 20000:Nat):Int)=2 ^ 20000:=Int.natCast_pow 2 20000
    generalize (2 ^ 20000:Int)=z at h1 h2 e
    generalize (2 ^ 20000:Nat)=y at e ⊢
    omega
  unfold Builtin.Int.intBits
  split
  · exact Nat.zero_le _
  · rename_i hz
    have hz':i≠0:=by simpa using hz
    have:i.natAbs.log2 < 20000:=(Nat.log2_lt (by omega)).mpr h
    omega
theorem t8 {i j:Int} (h:dP i j=true):PySem.IntMulOk i j:=by
  unfold dP at h
  simp only [Bool.or_eq_true,decide_eq_true_eq] at h
  rcases h with (h | h) | h
  · exact CMul.ok (.inl h)
  · exact CMul.ok (.inr h)
  · exact PySem.IntMulOk.of_bits (ju h.1 h.2.1) (ju h.2.2.1 h.2.2.2)
end
end PL
namespace PL
open PySem L2 Nh PyProof.Rows
abbrev iO:=L2.St
section
variable {X:Cx}
theorem OpR.or {f:Value→Value→Sem Value} {r r':R2} (h:OpR X f r) (h':OpR X f r'):OpR X f (fun x y H Q=>r x y H Q∨r' x y H Q):=by
  intro pins s σ H x y v u Q I rx ry q
  rcases q with q | q
  · exact h pins s σ H x y v u Q I rx ry q
  · exact h' pins s σ H x y v u Q I rx ry q
theorem OpR.imp {f:Value→Value→Sem Value} {r r':R2} (h:OpR X f r) (k:∀x y H Q,r' x y H Q→r x y H Q):OpR X f r':=fun pins s σ H x y v u Q I rx ry q=>h pins s σ H x y v u Q I rx ry (k _ _ _ _ q)
def w6 (K:PySem.W.Frag):R2:=fun x y H Q=>∃l b xs zs,x= .ref l∧y= .ref b∧SqL K H l xs∧SqL K H b zs∧xs.length+zs.length≤sizeLine∧∀p,H p=none→Q (.ref p) (upd H p (.lst (xs++zs)))
theorem vT:OpR X (binaryOp .Add) (w6 X.K):=by
  intro pins s σ H x y v u Q I rx ry h
  obtain ⟨l,b,xs,zs,rfl,rfl,hH,hB,hz,q⟩:=h
  cases rx
  cases ry
  obtain ⟨its,r,p1,z1⟩:=I.list hH
  obtain ⟨its2,r2,p2,z2⟩:=I.list hB
  obtain ⟨⟨cls,dd,data,sl⟩,ho,hc,n,hd⟩:=p1.isList
  obtain ⟨⟨cls2,dd2,data2,sl2⟩,ho2,hc2,n2,mw⟩:=p2.isList
  simp only at hc hd hc2 mw
  subst hc hd hc2 mw
  have l1:=r.length
  have l2:=r2.length
  refine concat_meets ⟨_,ho,rfl⟩ ⟨_,ho2,rfl⟩ noFill_list_add seq_list_add PySem.F.slot_list_add PySem.F.entry_list_add (PySem.F.args_list_add_2 _ _) (list_addW l b its.toArray its2.toArray n n2 dd dd2 sl sl2 (by simp only [List.size_toArray];omega)) ⟨ho,ho2,?_⟩
  have ea:its.toArray++its2.toArray=(its++its2).toArray:=by simp
  rw [ea]
  exact ⟨.ref _,_,I.lnew (t':=s.toks) (r.append r2) (by rw [List.length_append];omega),rfl,q _ I.fresh⟩
def w_ (K:PySem.W.Frag):R2:=fun x y H Q=>∃l k xs,x= .ref l∧y= .int k∧SqL K H l xs∧ -(2 ^ 63)≤k∧k < 2 ^ 63∧xs.length*k.toNat≤sizeLine∧
  ∀p,H p=none→Q (.ref p) (upd H p (.lst (List.replicate k.toNat xs).flatten))
theorem vU:OpR X (binaryOp .Mult) (w_ X.K):=by
  intro pins s σ H x y v u Q I rx ry h
  obtain ⟨l,k,xs,rfl,rfl,hH,h1,h2,hz,q⟩:=h
  cases rx
  obtain ⟨t,rfl⟩:=ry
  obtain ⟨its,r,p1,z1⟩:=I.list hH
  obtain ⟨⟨cls,d,data,sl⟩,ho,hcl,n,hd⟩:=p1.isList
  simp only at hcl hd
  subst hcl hd
  have l1:=r.length
  have hsz:its.toArray.size*k.toNat≤2 ^ 24:=by rw [List.size_toArray,←l1];exact hz
  refine wpAny_binaryOp_repeat_ref (T:="list") (U:="int") (by decide) ⟨_,ho,rfl⟩ (fun s'=>typeIs_int s' k t) noFill_list_mul F.fills_int_mul F.slot_int_rmul repeat_list F.slot_int_index.lookup
    (call_meets F.slot_int_rmul (typeIs_int s k t) F.entry_int_rmul (F.args_int_rmul_2 _ _) (lm_int_rmul_list_any k t l its.toArray n d sl)
      ⟨ho,rfl,⟨_,ho,rfl⟩,call_meets F.slot_list_mul ⟨_,ho,rfl⟩ F.entry_list_mul (F.args_list_mul_2 _ _)
        (lm_list_mul_any l its.toArray n d sl k t (by simp [Builtin.List.listFitsIndex];omega) (by omega) (by simp [Builtin.List.listTooLong,sizeLine];omega))
        ⟨ho,?_⟩⟩)
  rw [listMul_foldl_if]
  exact ⟨.ref _,_,I.lnew (t':=s.toks) (r.rep k.toNat) (by rw [vQ,Nat.mul_comm];exact hz),rfl,q _ I.fresh⟩
end
def aC:P2:=fun E s1 s2=>(look E s1).bind fun d1=>(look E s2).bind fun d2=>match d1,d2 with
  | .int i, .int j=>some (.sh (.int (i+j)),E)
  | .str a, .str b=>if a.length+b.length≤1000000 then some (.sh (.str (a++b)),E) else none
  | .list a, .list b=>if decide (a.length+b.length≤1000000)&&(!hot E s1||ba a)&&(!hot E s2||ba b) then some (.ow (a++b),E) else none
  | _,_=>none
theorem qE {n:Nat} (h:n≤1000000):n < sizeLine:=Nat.lt_of_le_of_lt h (by rw [sizeLine_eq];decide)
theorem fM {n:Nat} (h:n≤1000000):n≤sizeLine:=Nat.le_of_lt (qE h)
section
variable {K:PySem.W.Frag} {B F:Hp} {A:List Addr} {σ:iO} {H:Hp} {E:List Sl} {xs:List V} {Xs:List Sl} {v:V} {s:Sl} {ds:List PyData}
theorem FrF.items {k:Nat} (h:FrF K B F A σ H E xs Xs) (e:Xs[k]? =some s) (q:PL.look E s=some (.list ds)) (c:(!hot E s||ba ds)=true):∃a vs,xs[k]? =some (.ref a)∧SqL K H a vs∧RpA K F vs ds:=by
  obtain ⟨v,ev,r,f⟩:=h.look e q
  cases hh:hot E s with
  | false=>
    obtain ⟨a,vs,rfl,h1,h2⟩:=f hh
    exact ⟨a,vs,ev,h1,h2⟩
  | true=>
    rw [hh] at c
    cases r with
    | lst h1 h2=>exact ⟨_,_,ev,h1,h.coldA h2 (by simpa using c)⟩
theorem FrF.res2l {v1 v2:V} {s1 s2:Sl} {vs:List V} (h:FrF K B F A σ H E (v2::v1::xs) (s2::s1::Xs)) (r:RpA K F vs ds) {p:Addr} (hp:H p=none):Frm K B σ (upd H p (.lst vs)) E (.ref p::xs) (.ow ds::Xs):=by
  obtain ⟨A1,h⟩:=h.pop
  obtain ⟨A2,h⟩:=h.pop
  exact ⟨F,_,h.newl r hp⟩
end
abbrev xa (K:PySem.W.Frag):R2:=fun x y H Q=>(∃i j,x= .int i∧y= .int j∧Q (.int (i+j)) H)∨(∃i j,x= .str i∧y= .str j∧i.length+j.length≤sizeLine∧Q (.str (i++j)) H)∨w6 K x y H Q
theorem vV {X:Cx}:OpR X (binaryOp .Add) (xa X.K):=OpR.or s_ (OpR.or pb vT)
theorem vW {K:PySem.W.Frag}:hE K (xa K) aC:=by
  intro B F A σ H E xs Xs v1 v2 s1 s2 res E' Q fr e q
  obtain ⟨d1,e1,e⟩:=Option.bind_eq_some_iff.mp e
  obtain ⟨d2,e2,e⟩:=Option.bind_eq_some_iff.mp e
  have r1:=(fr.look1 e1).1
  have r2:=(fr.look0 e2).1
  split at e
  · cases e;cases r1;cases r2
    exact .inl ⟨_,_,rfl,rfl,q _ _ (fr.res2 ⟨rfl,_,rfl, .int _⟩)⟩
  · split at e
    · rename_i hl
      cases e;cases r1;cases r2
      exact .inr (.inl ⟨_,_,rfl,rfl,fM hl,q _ _ (fr.res2 ⟨rfl,_,rfl, .str _⟩)⟩)
    · cases e
  · split at e
    · rename_i hc
      cases e
      simp only [Bool.and_eq_true,decide_eq_true_eq] at hc
      obtain ⟨a1,u1,x1,q1,i1⟩:=fr.items (k:=1) rfl e1 hc.1.2
      obtain ⟨a2,u2,x2,q2,i2⟩:=fr.items (k:=0) rfl e2 hc.2
      cases x1;cases x2
      have l1:=i1.len
      have l2:=i2.len
      exact .inr (.inr ⟨_,_,_,_,rfl,rfl,q1,q2,fM (by omega),fun p hp=>q _ _ (fr.res2l (i1.append i2) hp)⟩)
    · cases e
  · cases e
def eM:P2:=bR (iE (fun _ _=>true) fun i j=> .int (i - j))
def qF:P2:=bR (iE (fun _ j=>ka j) fun i j=> .int (i / j))
def je:P2:=bR (iE (fun _ j=>decide (0 < j)) fun i j=> .int (i % j))
def iS:P2:=bR (iE (fun i j=>decide (0≤j∧j≤1000000∧ -(2 ^ 64) < i∧i < 2 ^ 64)) fun i j=> .int (i ^ j.toNat))
section
variable {X:Cx}
theorem vX:OpR X (binaryOp .Sub) (y8 (fun _ _=>true) fun i j=> .int (i - j)):=OpR.imp xT fun x y H Q ⟨i,j,a,b,_,q⟩=>⟨i,j,a,b,q⟩
theorem n6:OpR X (binaryOp .FloorDiv) (y8 (fun _ j=>ka j) fun i j=> .int (i / j)):=AJ fun i j _ _ _ _ _ hc q=>by
  obtain ⟨h1,h2⟩:=of_decide_eq_true hc
  have h3:j.natAbs.log2 < 9000:=by
    have:j.natAbs < 2 ^ 400:=by omega
    have:=(Nat.log2_lt (n:=j.natAbs) (k:=400) (by omega)).mpr this
    omega
  exact floordiv_int (by omega) (by rw [Int.fdiv_eq_ediv_of_nonneg i (by omega)];exact q) (.inl (PyProof.noPylong_of_log2 h3))
theorem vY:OpR X (binaryOp .Mod) (y8 (fun _ j=>decide (0 < j)) fun i j=> .int (i % j)):=OpR.imp td fun x y H Q ⟨i,j,a,b,c,q⟩=>⟨i,j,a,b,of_decide_eq_true c,q⟩
theorem vZ {i j:Int} (c:0≤j∧j≤1000000∧ -(2 ^ 64) < i∧i < 2 ^ 64):zz i j:=⟨c.1,c.2.1,by omega⟩
theorem v4:OpR X (binaryOp .Pow) (y8 (fun i j=>decide (0≤j∧j≤1000000∧ -(2 ^ 64) < i∧i < 2 ^ 64)) fun i j=> .int (i ^ j.toNat)):=OpR.imp xU fun x y H Q ⟨i,j,a,b,c,q⟩=>⟨i,j,a,b,vZ (of_decide_eq_true c),q⟩
end
def eR:P2:=fun E s1 s2=>(look E s1).bind fun d1=>(look E s2).bind fun d2=>match d1,d2 with
  | .int i, .int j=>if dP i j then some (.sh (.int (i*j)),E) else none
  | .list a, .int k=>if decide (a.length*k.toNat≤1000000∧ -1000000≤k∧k≤1000000)&&(!hot E s1||ba a) then some (.ow (List.replicate k.toNat a).flatten,E) else none
  | _,_=>none
abbrev qG (K:PySem.W.Frag):R2:=fun x y H Q=>y8 dP (fun i j=> .int (i*j)) x y H Q∨w_ K x y H Q
theorem mG {X:Cx}:OpR X (binaryOp .Mult) (qG X.K):=OpR.or (AJ fun _ _ _ _ _ _ _ hc q=>mul_int q (t8 hc)) vU
theorem v5 {K:PySem.W.Frag}:hE K (qG K) eR:=by
  intro B F A σ H E xs Xs v1 v2 s1 s2 res E' Q fr e q
  obtain ⟨d1,e1,e⟩:=Option.bind_eq_some_iff.mp e
  obtain ⟨d2,e2,e⟩:=Option.bind_eq_some_iff.mp e
  have r1:=(fr.look1 e1).1
  have r2:=(fr.look0 e2).1
  split at e
  · split at e
    · rename_i hm
      cases e;cases r1;cases r2
      exact .inl ⟨_,_,rfl,rfl,hm,q _ _ (fr.res2 ⟨rfl,_,rfl, .int _⟩)⟩
    · cases e
  · split at e
    · rename_i hc
      cases e
      simp only [Bool.and_eq_true,decide_eq_true_eq] at hc
      obtain ⟨a1,u1,x1,q1,i1⟩:=fr.items (k:=1) rfl e1 hc.2
      cases x1;cases r2
      have l1:=i1.len
      exact .inr ⟨_,_,_,rfl,rfl,q1,by omega,by omega,fM (by rw [l1];exact hc.1.1),fun p hp=>q _ _ (fr.res2l (i1.rep _) hp)⟩
    · cases e
  · cases e
section
variable {X:Cx} {a b:Expr} {m1 m2:Bool} {f g:b9} {pos:Pos}
theorem aE (ha:EX X a m1 f) (hb:EX X b m2 g):EX X (.BinOp a .Add b pos) (m1||m2) (af aC m2 f g):=j_ vV vW ha hb
theorem iF (ha:EX X a m1 f) (hb:EX X b m2 g):EX X (.BinOp a .Sub b pos) (m1||m2) (af eM m2 f g):=j_ vX (mF fun _ _=>rfl) ha hb
theorem fN (ha:EX X a m1 f) (hb:EX X b m2 g):EX X (.BinOp a .Mult b pos) (m1||m2) (af eR m2 f g):=j_ mG v5 ha hb
theorem qH (ha:EX X a m1 f) (hb:EX X b m2 g):EX X (.BinOp a .FloorDiv b pos) (m1||m2) (af qF m2 f g):=j_ n6 (mF fun _ _=>rfl) ha hb
theorem kd (ha:EX X a m1 f) (hb:EX X b m2 g):EX X (.BinOp a .Mod b pos) (m1||m2) (af je m2 f g):=j_ vY (mF fun _ _=>rfl) ha hb
theorem mH (ha:EX X a m1 f) (hb:EX X b m2 g):EX X (.BinOp a .Pow b pos) (m1||m2) (af iS m2 f g):=j_ v4 (mF fun _ _=>rfl) ha hb
end
def BL (K:PySem.W.Frag) (r:V→Hp→VK→Prop) (op:PyData→Option PyData):Prop:=∀(d1 d:PyData) (v1:V) (H:Hp) (Q:VK),op d1=some d→Rp K H v1 d1→∃v,w5 d=some v∧(Q v H→r v1 H Q)
def gD (op:PyData→Option PyData) (f:b9):b9:=fun E=>(f E).bind fun a=>(look a.2 a.1).bind fun d1=>(op d1).map fun d=>(.sh d,a.2)
theorem zR {K:PySem.W.Frag} {r:V→Hp→VK→Prop} {op:PyData→Option PyData} (hp:BL K r op) {m:Bool} {f:b9} {σ:iO} {H:Hp} {Q:VK} (h:rd K m (gD op f) σ H Q):rd K m f σ H (fun x H1=>r x H1 Q):=by
  obtain ⟨B,E,xs,Xs,res,E',fr,c,e,q⟩:=h
  obtain ⟨⟨s1,E1⟩,e1,e⟩:=Option.bind_eq_some_iff.mp e
  obtain ⟨d1,e2,e⟩:=Option.bind_eq_some_iff.mp e
  obtain ⟨d,e3,e⟩:=Option.map_eq_some_iff.mp e
  cases e
  refine ⟨B,E,xs,Xs,s1,E1,fr,c,e1,fun v1 H1 ⟨F,A,fr1⟩=>?_⟩
  obtain ⟨v,hv,k⟩:=hp d1 d v1 H1 Q e3 (fr1.look0 e2).1
  obtain ⟨A',fr2⟩:=fr1.pop
  exact k (q v H1 ⟨F,A',fr2.push ⟨rfl,v,rfl,j8 hv⟩⟩)
def gi:PyData→Option PyData
  | .int i=>some (.int (-i))
  | _=>none
section
variable {X:Cx} {a b c:Expr} {m1 m2 m3:Bool} {f g h:b9} {pos:Pos}
theorem jf (ha:EX X a m1 f):EX X (.UnaryOp .USub a pos) m1 (gD gi f):=bw (zx xV ha) fun σ H Q h=>zR (r:=rU fun i=> .int (-i)) (fun d1 d v1 H Q e r=>by
  cases d1 <;> simp [gi] at e
  cases e;cases r
  exact ⟨_,rfl,fun q=>⟨_,rfl,q⟩⟩) h
end
def rP (d1 d2:PyData):Option Bool:=match d1,d2 with
  | .int i, .int j=>some (decide (i=j))
  | .str a, .str b=>some (decide (a=b))
  | .bool a, .bool b=>some (decide (a=b))
  | .none, .none=>some true
  | .none, .str _=>some false
  | .str _, .none=>some false
  | d1,d2=>if SeqAt.shaped d1&&SeqAt.shaped d2 then some (PyData.eqv d1 d2) else none
def gH:P2:=bR fun d1 d2=>(rP d1 d2).map fun b=> .bool b
def mI:P2:=bR fun d1 d2=>(rP d1 d2).map fun b=> .bool (!b)
abbrev BM (K:PySem.W.Frag):R2:=fun x y H Q=>B7 x y H Q∨zN K x y H Q
abbrev BN (K:PySem.W.Frag):R2:=fun x y H Q=>B8 x y H Q∨zO K x y H Q
theorem t9 {K:PySem.W.Frag} {H:Hp} {v1 v2:V} {d1 d2:PyData} {b:Bool} (e:rP d1 d2=some b) (r1:Rp K H v1 d1) (r2:Rp K H v2 d2):
    (xW v1 v2=true∧decide (v1=v2)=b)∨(DOf K H v1 d1∧DOf K H v2 d2∧SeqAt.shaped d1=true∧SeqAt.shaped d2=true∧PyData.eqv d1 d2=b):=by
  unfold rP at e
  split at e
  · cases e;cases r1;cases r2;exact .inl ⟨rfl,by simp⟩
  · cases e;cases r1;cases r2;exact .inl ⟨rfl,by simp⟩
  · cases e;cases r1;cases r2;exact .inl ⟨rfl,by simp⟩
  · cases e;cases r1;cases r2;exact .inl ⟨rfl,rfl⟩
  · cases e;cases r1;cases r2;exact .inl ⟨rfl,rfl⟩
  · cases e;cases r1;cases r2;exact .inl ⟨rfl,rfl⟩
  · split at e
    · rename_i hs
      cases e
      simp only [Bool.and_eq_true] at hs
      exact .inr ⟨r1.dof hs.1,r2.dof hs.2,hs.1,hs.2,rfl⟩
    · cases e
theorem t_ {K:PySem.W.Frag}:hE K (BM K) gH:=jd fun d1 d2 d v1 v2 H Q e r1 r2=>by
  obtain ⟨b,e',rfl⟩:=Option.map_eq_some_iff.mp e
  refine ⟨_,rfl,fun q=>?_⟩
  rcases t9 e' r1 r2 with ⟨a,rfl⟩ | ⟨a1,a2,a3,a4,rfl⟩
  · exact .inl ⟨a,q⟩
  · exact .inr ⟨_,_,a1,a2,a3,a4,q⟩
theorem ua {K:PySem.W.Frag}:hE K (BN K) mI:=jd fun d1 d2 d v1 v2 H Q e r1 r2=>by
  obtain ⟨b,e',rfl⟩:=Option.map_eq_some_iff.mp e
  refine ⟨_,rfl,fun q=>?_⟩
  rcases t9 e' r1 r2 with ⟨a,rfl⟩ | ⟨a1,a2,a3,a4,rfl⟩
  · exact .inl ⟨a,q⟩
  · exact .inr ⟨_,_,a1,a2,a3,a4,q⟩
def mJ (K:PySem.W.Frag) (r:R2) (op:PyData→PyData→Option PyData):Prop:=∀(d1 d2 d:PyData) (v1 v2:V) (H:Hp) (Q:VK),op d1 d2=some d→Rp K H v1 d1→Rp K H v2 d2→∃v,w5 d=some v∧(Q v H→r v1 v2 H Q)
def bF (op op':PyData→PyData→Option PyData) (m2 m3:Bool) (f g h:b9):b9:=fun E=>(f E).bind fun a=>if (m2||m3)&&a.1.isBr then none else (g a.2).bind fun b=>if m3&&b.1.isBr then none else
  (look b.2 a.1).bind fun d1=>(look b.2 b.1).bind fun d2=>match op d1 d2 with
    | some (.bool true)=>(h b.2).bind fun c=>(look c.2 b.1).bind fun d2=>(look c.2 c.1).bind fun d3=>(op' d2 d3).map fun d=>(.sh d,c.2)
    | some (.bool false)=>some (.sh (.bool false),b.2)
    | _=>none
section
variable {X:Cx} {a b c:Expr} {m1 m2 m3:Bool} {f g h:b9} {pos:Pos}
theorem zS (hu:X.A.units+64 < cLine) (ha:EX X a m1 f) (hb:EX X b m2 g):EX X (.Compare a [.Eq] [b] pos) (m1||m2) (af gH m2 f g):=tY (OpR.or wU (tN hu)) t_ ha hb (jU _)
theorem xb (hu:X.A.units+64 < cLine) (ha:EX X a m1 f) (hb:EX X b m2 g):EX X (.Compare a [.NotEq] [b] pos) (m1||m2) (af mI m2 f g):=tY (OpR.or wV (tO hu)) ua ha hb (jU _)
theorem iT (hu:X.A.units+64 < cLine) (ha:EX X a m1 f) (hb:EX X b m2 g):TX X (.Compare a [.Eq] [b] pos) (m1||m2) (bG (af gH m2 f g)):=mE (OpR.or wU (tN hu)) t_ ha hb (jU _)
theorem n8 (hu:X.A.units+64 < cLine) (ha:EX X a m1 f) (hb:EX X b m2 g):TX X (.Compare a [.NotEq] [b] pos) (m1||m2) (bG (af mI m2 f g)):=mE (OpR.or wV (tO hu)) ua ha hb (jU _)
theorem n_ {K:PySem.W.Frag} {r r':R2} {op op':PyData→PyData→Option PyData} (k:mJ K r op) (k':mJ K r' op') {σ:iO} {H:Hp} {Q:VK} (z:rd K (m1||(m2||m3)) (bF op op' m2 m3 f g h) σ H Q):o8 r r' (rd K m1 f) (rd K m2 g) (rd K m3 h) σ H Q:=by
  obtain ⟨B,E,xs,Xs,res,E',fr,cl,e,q⟩:=z
  obtain ⟨⟨s1,E1⟩,e1,e⟩:=Option.bind_eq_some_iff.mp e
  by_cases hb:((m2||m3)&&s1.isBr)=true
  · rw [if_pos hb] at e;cases e
  rw [if_neg hb] at e
  obtain ⟨⟨s2,E2⟩,e2,e⟩:=Option.bind_eq_some_iff.mp e
  by_cases hb2:(m3&&s2.isBr)=true
  · rw [if_pos hb2] at e;cases e
  rw [if_neg hb2] at e
  obtain ⟨d1,l1,e⟩:=Option.bind_eq_some_iff.mp e
  obtain ⟨d2,l2,e⟩:=Option.bind_eq_some_iff.mp e
  have n1:(m2||m3)=true→s1.isBr=false:=fun z=>by
    cases hs:s1.isBr with
    | false=>rfl
    | true=>exact absurd (by rw [z,hs];rfl) hb
  have n2:m3=true→s2.isBr=false:=fun z=>by
    cases hs:s2.isBr with
    | false=>rfl
    | true=>exact absurd (by rw [z,hs];rfl) hb2
  refine ⟨B,E,xs,Xs,s1,E1,fr,fun z=>cl (by simp [z]),e1,fun v1 H1 fr1=>?_⟩
  refine ⟨B,E1,v1::xs,s1::Xs,s2,E2,fr1,fun z=>Calm.cons (cl (by simp [z])) (n1 (by simp [z])),e2,fun v2 H2 ⟨F,A,fr2⟩=>?_⟩
  cases ho:op d1 d2 with
  | none=>rw [ho] at e;cases e
  | some d=>
    rw [ho] at e
    obtain ⟨v,hv,kk⟩:=k d1 d2 d v1 v2 H2 (fun z H3=>∃k,z= .bl k∧(if k=true then rd K m3 h σ H3 fun w' H4=>r' v2 w' H4 Q else Q (.bl false) H3)) ho (fr2.look1 l1).1 (fr2.look0 l2).1
    cases d with
    | bool t=>
      cases hv
      refine kk ⟨t,rfl,?_⟩
      cases t with
      | true=>
        rw [if_pos rfl]
        obtain ⟨⟨s3,E3⟩,e3,e⟩:=Option.bind_eq_some_iff.mp e
        obtain ⟨d2',l2',e⟩:=Option.bind_eq_some_iff.mp e
        obtain ⟨d3,l3,e⟩:=Option.bind_eq_some_iff.mp e
        obtain ⟨d,ho',e⟩:=Option.map_eq_some_iff.mp e
        cases e
        refine ⟨B,E2,v2::v1::xs,s2::s1::Xs,s3,E3,⟨F,A,fr2⟩,fun z=>Calm.cons (Calm.cons (cl (by simp [z])) (n1 (by simp [z]))) (n2 z),e3,fun v3 H3 ⟨F3,A3,fr3⟩=>?_⟩
        obtain ⟨v,hv,kk⟩:=k' d2' d3 d v2 v3 H3 Q ho' (fr3.look1 l2').1 (fr3.look0 l3).1
        obtain ⟨A4,fr4⟩:=fr3.pop
        exact kk (q v H3 (fr4.res2 ⟨rfl,v,rfl,j8 hv⟩))
      | false=>
        rw [if_neg (by decide)]
        cases e
        exact q _ _ (fr2.res2 ⟨rfl,_,rfl, .bl _⟩)
    | none=>cases e
    | int i=>cases e
    | str x=>cases e
    | list xs=>cases e
    | tuple xs=>cases e
    | dict kvs=>cases e
theorem ub {o1 o2:CmpOp} {r r':R2} {op op':PyData→PyData→Option PyData} (ho:OpR X (compareOp o1) r) (ho':OpR X (compareOp o2) r') (k:mJ X.K r op) (k':mJ X.K r' op') (ha:EX X a m1 f) (hb:EX X b m2 g) (hc:EX X c m3 h)
    (hm:lastMarks [o1,o2] [b,c]=false:=by with_unfolding_all rfl):EX X (.Compare a [o1,o2] [b,c] pos) (m1||(m2||m3)) (bF op op' m2 m3 f g h):=bw (tm ho ho' ha hb hc hm) fun _ _ _ z=>n_ k k' z
end
end PL
namespace PL
open PySem L2 Nh
def oa (f g:b9):b9:=fun E=>(f E).bind fun a=>match a.1 with
  | .sh (.bool true)=>g a.2
  | .sh (.bool false)=>some (.sh (.bool false),a.2)
  | _=>none
def dQ (f g:iR):iR:=fun E=>(f E).bind fun a=>if a.1 then g a.2 else some (false,a.2)
def eT (f g:iR):iR:=fun E=>(f E).bind fun a=>if a.1 then some (true,a.2) else g a.2
def bM (f:iR):iR:=fun E=>(f E).map fun a=>(!a.1,a.2)
def kJ (c:iR) (f g:b9):b9:=fun E=>(c E).bind fun a=>if a.1 then f a.2 else g a.2
def eX:PyData→Option Bool
  | .none=>some false
  | .bool b=>some b
  | .int i=>some (i != 0)
  | .str x=>if x.length≤1000000 then some ((x.length:Int) != 0) else none
  | .list xs=>some (!xs.isEmpty)
  | .tuple xs=>some (!xs.isEmpty)
  | .dict _=>none
def cQ (f:b9):iR:=fun E=>(f E).bind fun a=>match a.1 with
  | .al i=>match a.2[i]? with
    | some (.od kvs)=>some (!kvs.isEmpty,a.2)
    | some s=>(s.val.bind eX).map fun b=>(b,a.2)
    | none=>none
  | s=>(s.val.bind eX).map fun b=>(b,a.2)
section
variable {X:Cx} {a b c:Expr} {cz:List Expr} {m1 m2 m3:Bool} {f g h:b9} {t u:iR} {pos:Pos} {K:PySem.W.Frag}
theorem yi {op} (h:EX X a m1 f):EX X (.BoolOp op [a] pos) m1 f:=xJ h
theorem uc (ha:EX X a m1 f) (hb:EX X (.BoolOp .And (b::cz) pos) m2 g):EX X (.BoolOp .And (a::b::cz) pos) (m1||m2) (oa f g):=by
  refine bw (xK ha hb) fun σ H Q z=>?_
  obtain ⟨B,E,xs,Xs,res,E',fr,cl,e,q⟩:=z
  obtain ⟨⟨s1,E1⟩,e1,e⟩:=Option.bind_eq_some_iff.mp e
  refine ⟨B,E,xs,Xs,s1,E1,fr,fun z=>cl (by simp [z]),e1,fun v1 H1 ⟨F,A,fr1⟩=>?_⟩
  simp only at e
  split at e
  · obtain ⟨r,_⟩:=fr1.look0 (d:= .bool true) rfl
    cases r
    obtain ⟨A',fr2⟩:=fr1.pop
    exact ⟨true,rfl,(if_pos rfl).mpr ⟨B,E1,xs,Xs,res,E',⟨F,A',fr2⟩,fun z=>cl (by simp [z]),e,q⟩⟩
  · cases e
    obtain ⟨r,_⟩:=fr1.look0 (d:= .bool false) rfl
    cases r
    exact ⟨false,rfl,(if_neg (by decide)).mpr (q _ _ ⟨F,A,fr1⟩)⟩
  · cases e
theorem jM (ha:TX X a m1 t):WX X (.BoolOp .And [a] pos) m1 t:=vq ha
theorem iG (ha:TX X a m1 t):WX X (.BoolOp .Or [a] pos) m1 t:=xG ha
theorem mK (ha:TX X a m1 t) (hb:WX X (.BoolOp .And (b::cz) pos) m2 u):WX X (.BoolOp .And (a::b::cz) pos) (m1||m2) (dQ t u):=by
  refine tX (xH ha hb) fun σ H Q z=>?_
  obtain ⟨B,E,xs,Xs,res,E',fr,cl,e,q⟩:=z
  obtain ⟨⟨b1,E1⟩,e1,e⟩:=Option.bind_eq_some_iff.mp e
  refine ⟨B,E,xs,Xs,b1,E1,fr,fun z=>cl (by simp [z]),e1,fun H1 fr1=>?_⟩
  cases b1 with
  | true=>exact (if_pos rfl).mpr ⟨B,E1,xs,Xs,res,E',fr1,fun z=>cl (by simp [z]),e,q⟩
  | false=>cases e;exact (if_neg (by decide)).mpr (q _ fr1)
theorem iy (ha:TX X a m1 t) (hb:WX X (.BoolOp .Or (b::cz) pos) m2 u):WX X (.BoolOp .Or (a::b::cz) pos) (m1||m2) (eT t u):=by
  refine tX (zn ha hb) fun σ H Q z=>?_
  obtain ⟨B,E,xs,Xs,res,E',fr,cl,e,q⟩:=z
  obtain ⟨⟨b1,E1⟩,e1,e⟩:=Option.bind_eq_some_iff.mp e
  refine ⟨B,E,xs,Xs,b1,E1,fr,fun z=>cl (by simp [z]),e1,fun H1 fr1=>?_⟩
  cases b1 with
  | true=>cases e;exact (if_pos rfl).mpr (q _ fr1)
  | false=>exact (if_neg (by decide)).mpr ⟨B,E1,xs,Xs,res,E',fr1,fun z=>cl (by simp [z]),e,q⟩
theorem ke (h:WX X a m1 t):TX X a m1 t:=PW.pt h
theorem eU (ha:TX X a m1 t):TX X (.UnaryOp .Not a pos) m1 (bM t):=by
  refine mC (xI ha) fun σ H Q z=>?_
  obtain ⟨B,E,xs,Xs,res,E',fr,cl,e,q⟩:=z
  obtain ⟨⟨b1,E1⟩,e1,e⟩:=Option.map_eq_some_iff.mp e
  cases e
  exact ⟨B,E,xs,Xs,b1,E1,fr,cl,e1,fun H1 fr1=>q _ fr1⟩
theorem og (hc:TX X c m1 t) (ha:EX X a m2 f) (hb:EX X b m3 g):EX X (.IfExp c a b pos) (m1||(m2||m3)) (kJ t f g):=by
  refine bw (sS hc ha hb) fun σ H Q z=>?_
  obtain ⟨B,E,xs,Xs,res,E',fr,cl,e,q⟩:=z
  obtain ⟨⟨b1,E1⟩,e1,e⟩:=Option.bind_eq_some_iff.mp e
  refine ⟨B,E,xs,Xs,b1,E1,fr,fun z=>cl (by simp [z]),e1,fun H1 fr1=>?_⟩
  cases b1 with
  | true=>exact (if_pos rfl).mpr ⟨B,E1,xs,Xs,res,E',fr1,fun z=>cl (by simp [z]),e,q⟩
  | false=>exact (if_neg (by decide)).mpr ⟨B,E1,xs,Xs,res,E',fr1,fun z=>cl (by simp [z]),e,q⟩
theorem yj {H:Hp} {v:V} {d:PyData} {b:Bool} (r:Rp K H v d) (e:eX d=some b):tz K v H b:=by
  cases r with
  | non=>cases e;rfl
  | bl b=>cases e;rfl
  | int i=>cases e;rfl
  | str x=>
    simp only [eX] at e
    split at e
    · rename_i hl
      cases e
      exact ⟨fM hl,rfl⟩
    · cases e
  | lst h r=>cases e;exact .inl ⟨_,h,by cases r <;> rfl⟩
  | tup h r=>cases e;exact .inr (.inl ⟨_,h,by cases r <;> rfl⟩)
  | dct h r=>cases e
  | exc h r=>cases e
  | obj c h n r=>cases e
theorem dl (ha:EX X a m1 f) (he:∀whole,isTrue a X.env whole=(do let v ←whole;standAt a.pos;holding [v] (truthy v)):=by exact fun _=>rfl):TX X a m1 (cQ f):=by
  refine mC (tB ha he) fun σ H Q z=>?_
  obtain ⟨B,E,xs,Xs,res,E',fr,cl,e,q⟩:=z
  obtain ⟨⟨s,E1⟩,e1,e⟩:=Option.bind_eq_some_iff.mp e
  refine ⟨B,E,xs,Xs,s,E1,fr,cl,e1,fun v1 H1 ⟨F,A,fr1⟩=>?_⟩
  have key:∀d,look E1 s=some d→(eX d).map (fun b=>(b,E1))=some (res,E')→∃k,tz X.K v1 H1 k∧Q k H1:=fun d l e=>by
    obtain ⟨b,e',z⟩:=Option.map_eq_some_iff.mp e
    cases z
    obtain ⟨A',fr2⟩:=fr1.pop
    exact ⟨_,yj (fr1.look0 l).1 e',q _ ⟨F,A',fr2⟩⟩
  have kv:(s.val.bind eX).map (fun b=>(b,E1))=some (res,E')→(∀i,s≠ .al i)→∃k,tz X.K v1 H1 k∧Q k H1:=fun e na=>by
    obtain ⟨b,e',z⟩:=Option.map_eq_some_iff.mp e
    obtain ⟨d,e1,e2⟩:=Option.bind_eq_some_iff.mp e'
    refine key d ?_ (by rw [e2];exact congrArg some z)
    cases s <;> first | exact e1 | exact absurd rfl (na _)
  simp only at e
  split at e
  · rename_i i
    split at e
    · rename_i kvs ei
      cases e
      obtain ⟨v',A1,ev,rfl,w,ew,hw⟩:=fr1.ext (k:=0) rfl
      cases ev;cases ew
      obtain ⟨o,A1,eo,l,us,A2,rfl,_,hl,r⟩:=fr1.var ei
      rw [hw] at eo
      cases eo
      obtain ⟨A',fr2⟩:=fr1.pop
      exact ⟨_, .inr (.inr ⟨_,hl,by cases us <;> cases kvs <;> first | rfl | exact False.elim r⟩),q _ ⟨F,A',fr2⟩⟩
    · rename_i s' _ ei
      obtain ⟨b,e',z⟩:=Option.map_eq_some_iff.mp e
      obtain ⟨d,e1,e2⟩:=Option.bind_eq_some_iff.mp e'
      exact key d (by simp [look,ei,e1]) (by rw [e2];exact congrArg some z)
    · cases e
  · rename_i na
    exact kv e na
end
theorem ud {X:Cx} {a b c:Expr} {m1 m2 m3:Bool} {f g h:b9} {pos:Pos} {o1 o2:CmpOp} {r r':R2} {op op':PyData→PyData→Option PyData} (ho:OpR X (compareOp o1) r) (ho':OpR X (compareOp o2) r') (k:mJ X.K r op) (k':mJ X.K r' op') (ha:EX X a m1 f) (hb:EX X b m2 g) (hc:EX X c m3 h)
    (hm:lastMarks [o1,o2] [b,c]=false:=by with_unfolding_all rfl):TX X (.Compare a [o1,o2] [b,c] pos) (m1||(m2||m3)) (bG (bF op op' m2 m3 f g h)):=mC (tp ho ho' ha hb hc hm) fun _ _ _ z=>n_ k k' (tZ z)
def ao:j7:=fun E=>some ([],E)
def ae (m2:Bool) (f:b9) (g:j7):j7:=fun E=>(f E).bind fun a=>if m2&&a.1.isBr then none else (g a.2).map fun b=>(a.1::b.1,b.2)
def bP:kI:=fun E=>some ([],E)
def aR (f:b9) (g:kI):kI:=fun E=>(f E).bind fun a=>(frz a.2 a.1).bind fun b=>(g b.2).map fun c=>(b.1::c.1,c.2)
def gj (f:kI):b9:=fun E=>(f E).bind fun a=>if a.1.length≤1000000 then some (.sh (.tuple a.1),a.2) else none
def cR (f:kI):b9:=fun E=>(f E).bind fun a=>if a.1.length≤1000000 then some (.ow a.1,a.2) else none
section
variable {X:Cx} {e:Expr} {es:List Expr} {m1 m2:Bool} {f:b9} {g:j7} {d:kI} {pos:Pos} {K:PySem.W.Frag}
theorem au:AX X [] false ao:=by
  refine jc dO fun σ H Q z=>?_
  obtain ⟨B,E,xs,Xs,res,E',fr,cl,e,q⟩:=z
  cases e
  exact q [] H rfl fr
theorem ag (ha:EX X e m1 f) (hr:AX X es m2 g) (hs:starEach (e::es) X.env=(false,eval e X.env)::starEach es X.env:=by rfl):AX X (e::es) (m1||m2) (ae m2 f g):=by
  refine jc (bZ ha hr hs) fun σ H Q z=>?_
  obtain ⟨B,E,xs,Xs,res,E',fr,cl,e,q⟩:=z
  obtain ⟨⟨s,E1⟩,e1,e⟩:=Option.bind_eq_some_iff.mp e
  by_cases hb:(m2&&s.isBr)=true
  · rw [if_pos hb] at e;cases e
  rw [if_neg hb] at e
  obtain ⟨⟨rs,E2⟩,e2,e⟩:=Option.map_eq_some_iff.mp e
  cases e
  refine ⟨B,E,xs,Xs,s,E1,fr,fun z=>cl (by simp [z]),e1,fun v1 H1 fr1=>?_⟩
  refine ⟨B,E1,v1::xs,s::Xs,rs,E2,fr1,fun z=>Calm.cons (cl (by simp [z])) ?_,e2,fun vs H2 hl fr2=>?_⟩
  · cases hs:s.isBr with
    | false=>rfl
    | true=>exact absurd (by simp [z,hs]) hb
  · exact q (v1::vs) H2 (by simp [hl]) (by simpa using fr2)
theorem yk:DX X [] false bP:=by
  refine jc dO fun σ H Q z=>?_
  obtain ⟨B,E,xs,Xs,res,E',fr,cl,e,q⟩:=z
  cases e
  exact q [] H rfl fr
theorem v6 (ha:EX X e m1 f) (hr:DX X es m2 d) (hs:starEach (e::es) X.env=(false,eval e X.env)::starEach es X.env:=by rfl):DX X (e::es) (m1||m2) (aR f d):=by
  refine jc (bZ ha hr hs) fun σ H Q z=>?_
  obtain ⟨B,E,xs,Xs,res,E',fr,cl,e,q⟩:=z
  obtain ⟨⟨s,E1⟩,e1,e⟩:=Option.bind_eq_some_iff.mp e
  obtain ⟨⟨d1,E2⟩,e2,e⟩:=Option.bind_eq_some_iff.mp e
  obtain ⟨⟨rs,E3⟩,e3,e⟩:=Option.map_eq_some_iff.mp e
  cases e
  refine ⟨B,E,xs,Xs,s,E1,fr,fun z=>cl (by simp [z]),e1,fun v1 H1 ⟨F,A,fr1⟩=>?_⟩
  obtain ⟨F2,A2,fr2⟩:=fr1.frz0 e2
  refine ⟨B,E2,v1::xs, .sh d1::Xs,rs,E3,⟨F2,A2,fr2⟩,fun z=>Calm.cons (cl (by simp [z])) rfl,e3,fun vs H2 hl fr2=>?_⟩
  exact q (v1::vs) H2 (by simp [hl]) (by simpa using fr2)
theorem FrF.shsR {B F:Hp} {σ:iO} {H:Hp} {E:List Sl} {xs:List V} {Xs:List Sl}:∀{us:List V} {es:List PyData} {A:List Addr},us.length=es.length→FrF K B F A σ H E (us++xs) (es.map .sh++Xs)→RpA K F us es∧∃A',FrF K B F A' σ H E xs Xs
  | [],[],A,_,h=>⟨.nil,A,h⟩
  | u::us,e::es,A,hl,h=>by
    obtain ⟨v,A1,ev,rfl,w,ew,r⟩:=h.ext (k:=0) rfl
    cases ev;cases ew
    obtain ⟨A',h'⟩:=FrF.pop (xs:=us++xs) (Xs:=es.map .sh++Xs) h
    obtain ⟨r',q⟩:=FrF.shsR (by simpa using hl) h'
    exact ⟨.cons r r',q⟩
  | [],_::_,_,e,_=>by cases e
  | _::_,[],_,e,_=>by cases e
theorem FrF.shs {B F:Hp} {σ:iO} {H:Hp} {E:List Sl} {xs:List V} {Xs:List Sl} {us:List V} {es:List PyData} {A:List Addr} (hl:us.length=es.length) (h:FrF K B F A σ H E (us.reverse++xs) (es.reverse.map .sh++Xs)):RpA K F us es∧∃A',FrF K B F A' σ H E xs Xs:=by
  obtain ⟨r,q⟩:=FrF.shsR (by simpa using hl) h
  have:=r.rev
  rw [List.reverse_reverse,List.reverse_reverse] at this
  exact ⟨this,q⟩
theorem ym {x1} (h:DX X es m1 d):EX X (.Tuple es x1 pos) m1 (gj d):=by
  refine bw (tI h) fun σ H Q z=>?_
  obtain ⟨B,E,xs,Xs,res,E',fr,cl,e,q⟩:=z
  obtain ⟨⟨ds,E1⟩,e1,e⟩:=Option.bind_eq_some_iff.mp e
  simp only at e
  split at e
  · rename_i hl
    cases e
    refine ⟨B,E,xs,Xs,ds,_,fr,cl,e1,fun vs H1 hv ⟨F,A,fr1⟩=>?_⟩
    obtain ⟨r,A',fr2⟩:=fr1.shs hv
    exact ⟨fM (by omega),fun p hp=>q _ _ ⟨_,_,fr2.newt r hp⟩⟩
  · cases e
theorem yn (h:DX X es m1 d):EX X (.List es pos) m1 (cR d):=by
  refine bw (xZ h) fun σ H Q z=>?_
  obtain ⟨B,E,xs,Xs,res,E',fr,cl,e,q⟩:=z
  obtain ⟨⟨ds,E1⟩,e1,e⟩:=Option.bind_eq_some_iff.mp e
  simp only at e
  split at e
  · rename_i hl
    cases e
    refine ⟨B,E,xs,Xs,ds,_,fr,cl,e1,fun vs H1 hv ⟨F,A,fr1⟩=>?_⟩
    obtain ⟨r,A',fr2⟩:=fr1.shs hv
    exact ⟨fM (by omega),fun p hp=>q _ _ ⟨_,_,fr2.newl r hp⟩⟩
  · cases e
end
def rQ (ds:List PyData) (lo hi:Option Int):List PyData:=(ds.drop (HT.j0 ds.length 0 lo)).take (HT.j0 ds.length ds.length hi - HT.j0 ds.length 0 lo)
def b6:P2:=fun E s1 s2=>(look E s1).bind fun d1=>(look E s2).bind fun d2=>match d2 with
  | .int i=>match d1 with
    | .list ds=>(atI ds i).map fun d=>(if hot E s1&& !aP d then .br d else .sh d,E)
    | .tuple ds=>(atI ds i).map fun d=>(if hot E s1&& !aP d then .br d else .sh d,E)
    | .str z=>if z.length≤1000000 then (atI z.cps.toList i).map fun c=>(.sh (.str ⟨#[c]⟩),E) else none
    | _=>none
  | _=>none
section
variable {K:PySem.W.Frag} {H:Hp}
theorem RpA.atI {vs:List V} {ds:List PyData} {i:Int} {d:PyData} (h:RpA K H vs ds) (e:L2.atI ds i=some d):∃v,L2.atI vs i=some v∧Rp K H v d:=by
  unfold L2.atI at e ⊢
  obtain ⟨j,e1,e2⟩:=Option.bind_eq_some_iff.mp e
  obtain ⟨v,ev,r⟩:=h.get e2
  exact ⟨v,by rw [h.len,e1];exact ev,r⟩
theorem FrF.item {B F:Hp} {A:List Addr} {σ:iO} {E:List Sl} {xs:List V} {Xs:List Sl} {v1 v2 v:V} {s1 s2:Sl} {d:PyData} (fr:FrF K B F A σ H E (v2::v1::xs) (s2::s1::Xs)) (r:Rp K H v d) (f:hot E s1=false→Rp K F v d):
    Frm K B σ H E (v::xs) ((if hot E s1&& !aP d then .br d else .sh d)::Xs):=by
  by_cases hc:(hot E s1&& !aP d)=true
  · rw [if_pos hc]
    exact fr.res2 ⟨rfl,v,rfl,r⟩
  · rw [if_neg hc]
    refine fr.res2 ⟨rfl,v,rfl,?_⟩
    cases hh:hot E s1 with
    | false=>exact f hh
    | true=>
      rw [hh] at hc
      exact fr.cold r (by simpa using hc)
theorem yo:hE K (B9 K) b6:=by
  intro B F A σ H E xs Xs v1 v2 s1 s2 res E' Q fr e q
  obtain ⟨d1,e1,e⟩:=Option.bind_eq_some_iff.mp e
  obtain ⟨d2,e2,e⟩:=Option.bind_eq_some_iff.mp e
  obtain ⟨r1,f1⟩:=fr.look1 e1
  have r2:=(fr.look0 e2).1
  split at e
  · cases r2
    split at e
    · obtain ⟨d,ed,e⟩:=Option.map_eq_some_iff.mp e
      cases e
      cases hh:hot E s1 with
      | false=>
        obtain ⟨a,vs,rfl,h1,h2⟩:=f1 hh
        obtain ⟨v,ev,rv⟩:=h2.atI ed
        have z:=fr.item (rv.same fr.fh) fun _=>rv
        rw [hh] at z q
        exact .inl ⟨_,_,_,v,rfl,rfl,h1,ev,q _ _ z⟩
      | true=>
        cases r1 with
        | lst h1 h2=>
          obtain ⟨v,ev,rv⟩:=h2.atI ed
          have z:=fr.item rv fun h=>absurd (hh.symm.trans h) (by decide)
          rw [hh] at z q
          exact .inl ⟨_,_,_,v,rfl,rfl,h1,ev,q _ _ z⟩
    · obtain ⟨d,ed,e⟩:=Option.map_eq_some_iff.mp e
      cases e
      cases hh:hot E s1 with
      | false=>
        have h0:Rp K F v1 _:=f1 hh
        cases h0 with
        | tup h1 h2=>
          obtain ⟨v,ev,rv⟩:=h2.atI ed
          have z:=fr.item (rv.same fr.fh) fun _=>rv
          rw [hh] at z q
          exact .inr (.inl ⟨_,_,_,v,rfl,rfl,fr.fh.tup h1,ev,q _ _ z⟩)
      | true=>
        cases r1 with
        | tup h1 h2=>
          obtain ⟨v,ev,rv⟩:=h2.atI ed
          have z:=fr.item rv fun h=>absurd (hh.symm.trans h) (by decide)
          rw [hh] at z q
          exact .inr (.inl ⟨_,_,_,v,rfl,rfl,h1,ev,q _ _ z⟩)
    · split at e
      · rename_i hl
        obtain ⟨c,ec,e⟩:=Option.map_eq_some_iff.mp e
        cases e;cases r1
        exact .inr (.inr ⟨_,_,c,rfl,rfl,fM hl,ec,q _ _ (fr.res2 ⟨rfl,_,rfl, .str _⟩)⟩)
      · cases e
    · cases e
  · cases e
end
end PL
namespace L2
open PySem PySem.Spec PyProof.Rows
section
variable {κ:Type} [DecidableEq κ]
def jC (kvs:List (κ×V)) (k:κ):Option V:=(kvs.find? fun kv=>decide (kv.1=k)).map (·.2)
def oh (kvs:List (κ×V)) (k:κ) (v:V):List (κ×V):=
  if (kvs.any fun kv=>decide (kv.1=k))=true then kvs.map (fun kv=>if kv.1=k then (kv.1,v) else kv) else kvs++[(k,v)]
def xc (kvs:List (κ×V)) (k:κ):List (κ×V):=kvs.filter fun kv=>decide (kv.1≠k)
theorem kf {p:κ×V} {r:List (κ×V)} {k:κ} (e:p.1=k):jC (p::r) k=some p.2:=by simp [jC,List.find?_cons,e]
theorem kg {p:κ×V} {r:List (κ×V)} {k:κ} (e:¬p.1=k):jC (p::r) k=jC r k:=by simp [jC,List.find?_cons,e]
theorem oi (k:κ):∀kvs:List (κ×V),(kvs.any fun kv=>decide (kv.1=k))=(jC kvs k).isSome
  | []=>rfl
  | p::r=>by
    rw [List.any_cons]
    by_cases e:p.1=k
    · simp only [kf e,decide_eq_true e,Bool.true_or,Option.isSome_some]
    · rw [kg e,decide_eq_false e,Bool.false_or];exact oi k r
theorem RelO.isSome_eq {o:Option V} {u:Option Value} (r:RelO o u):o.isSome=u.isSome:=by
  cases o with
  | none=>cases u with
    | none=>rfl
    | some _=>exact (show False from r).elim
  | some _=>cases u with
    | none=>exact (show False from r).elim
    | some _=>rfl
theorem RelO.getD {o:Option V} {u:Option Value} {d:V} {d':Value} (r:RelO o u) (rd:RelV d d'):RelV (o.getD d) (u.getD d'):=by
  cases o with
  | none=>cases u with
    | none=>exact rd
    | some _=>exact (show False from r).elim
  | some _=>cases u with
    | none=>exact (show False from r).elim
    | some _=>exact r
theorem KV.val {kvs:List (κ×V)} {vs:List (κ×Value)} (r:KV kvs vs) (k:κ):RelO (jC kvs k) (valueAt vs k):=by
  unfold KV at r
  induction r with
  | nil=>exact True.intro
  | @cons p q ps qs h t ih=>
    obtain ⟨h1,h2⟩:=h
    by_cases e:p.1=k
    · have e':q.1=k:=h1.symm.trans e
      have b:valueAt (q::qs) k=some q.2:=by simp [valueAt,List.find?_cons,e']
      rw [kf e,b];exact h2
    · have e':¬q.1=k:=fun z=>e (h1.trans z)
      have b:valueAt (q::qs) k=valueAt qs k:=by simp [valueAt,List.find?_cons,e']
      rw [kg e,b];exact ih
theorem KV.any {kvs:List (κ×V)} {vs:List (κ×Value)} (r:KV kvs vs) (k:κ):(kvs.any fun kv=>decide (kv.1=k))=vs.any fun kv=>decide (kv.1=k):=by
  unfold KV at r
  induction r with
  | nil=>rfl
  | cons h t ih=>rw [List.any_cons,List.any_cons,ih,h.1]
theorem KV.repl {kvs:List (κ×V)} {vs:List (κ×Value)} (r:KV kvs vs) (k:κ) {y:V} {u:Value} (ry:RelV y u):
    KV (kvs.map fun kv=>if kv.1=k then (kv.1,y) else kv) (vs.map fun kv=>if kv.1=k then (kv.1,u) else kv):=by
  unfold KV at r ⊢
  induction r with
  | nil=>exact .nil
  | @cons p q ps qs h t ih=>
    rw [List.map_cons,List.map_cons]
    refine .cons ?_ ih
    obtain ⟨h1,h2⟩:=h
    by_cases e:p.1=k
    · rw [if_pos e,if_pos (h1.symm.trans e)];exact ⟨h1,ry⟩
    · rw [if_neg e,if_neg (fun z=>e (h1.trans z))];exact ⟨h1,h2⟩
theorem KV.put {kvs:List (κ×V)} {vs:List (κ×Value)} (r:KV kvs vs) (k:κ) {y:V} {u:Value} (ry:RelV y u):KV (oh kvs k y) (stored vs k u):=by
  unfold oh stored
  rw [r.any k]
  by_cases e:(vs.any fun kv=>decide (kv.1=k))=true
  · rw [if_pos e,if_pos e];exact r.repl k ry
  · rw [if_neg e,if_neg e];exact Paired.snoc r ⟨rfl,ry⟩
theorem KV.drop {kvs:List (κ×V)} {vs:List (κ×Value)} (r:KV kvs vs) (k:κ):KV (xc kvs k) (without vs k):=by
  unfold KV at r ⊢
  unfold xc without
  induction r with
  | nil=>exact .nil
  | @cons p q ps qs h t ih=>
    obtain ⟨h1,h2⟩:=h
    rw [List.filter_cons,List.filter_cons]
    by_cases e:p.1=k
    · have a:¬decide (p.1≠k)=true:=by simp [e]
      have b:¬decide (q.1≠k)=true:=by simp [h1.symm.trans e]
      rw [if_neg a,if_neg b];exact ih
    · have e':¬q.1=k:=fun z=>e (h1.trans z)
      have a:decide (p.1≠k)=true:=by simp [e]
      have b:decide (q.1≠k)=true:=by simp [e']
      rw [if_pos a,if_pos b];exact .cons ⟨h1,h2⟩ ih
theorem KV.keys {kvs:List (κ×V)} {vs:List (κ×Value)} (r:KV kvs vs):kvs.map (·.1)=vs.map (·.1):=by
  unfold KV at r
  induction r with
  | nil=>rfl
  | cons h t ih=>rw [List.map_cons,List.map_cons,ih,h.1]
theorem KV.length {kvs:List (κ×V)} {vs:List (κ×Value)} (r:KV kvs vs):kvs.length=vs.length:=Paired.length r
end
abbrev KT (H:Hp):List (List eh×V)→List (List eh×Addr×Value)→Prop:=Paired fun p q=>p.1=q.1∧H q.2.1=some (.tup (p.1.map kV))∧RelV p.2 q.2.2
theorem KT.val {H:Hp} {kvs:List (List eh×V)} {xs:List (List eh×Addr×Value)} (r:KT H kvs xs) (k:List eh):RelO (jC kvs k) ((atKey xs k).map (·.2)):=by
  induction r with
  | nil=>exact True.intro
  | @cons p q ps qs h t ih=>
    obtain ⟨h1,_,h2⟩:=h
    by_cases e:p.1=k
    · have e':q.1=k:=h1.symm.trans e
      have b:atKey (q::qs) k=some q.2:=by simp [atKey,List.find?_cons,e']
      rw [kf e,b];exact h2
    · have e':¬q.1=k:=fun z=>e (h1.trans z)
      have b:atKey (q::qs) k=atKey qs k:=by simp [atKey,List.find?_cons,e']
      rw [kg e,b];exact ih
theorem KT.repl {H:Hp} {kvs:List (List eh×V)} {xs:List (List eh×Addr×Value)} (r:KT H kvs xs) (k:List eh) {y:V} {u:Value} (ry:RelV y u):
    KT H (kvs.map fun kv=>if kv.1=k then (kv.1,y) else kv) (xs.map (putAt k u)):=by
  induction r with
  | nil=>exact .nil
  | @cons p q ps qs h t ih=>
    rw [List.map_cons,List.map_cons]
    refine .cons ?_ ih
    obtain ⟨h1,h2,h3⟩:=h
    unfold putAt
    by_cases e:p.1=k
    · rw [if_pos e,if_pos (h1.symm.trans e)];exact ⟨h1,h2,ry⟩
    · rw [if_neg e,if_neg (fun z=>e (h1.trans z))];exact ⟨h1,h2,h3⟩
theorem KT.put {H:Hp} {kvs:List (List eh×V)} {xs:List (List eh×Addr×Value)} (r:KT H kvs xs) (k:List eh) {b:Addr} {y:V} {u:Value} (hb:H b=some (.tup (k.map kV))) (ry:RelV y u):
    KT H (oh kvs k y) (storedH xs k b u):=by
  have e:(kvs.any fun kv=>decide (kv.1=k))=(atKey xs k).isSome:=by
    rw [oi,(r.val k).isSome_eq,Option.isSome_map]
  unfold oh storedH
  rw [e]
  by_cases q:(atKey xs k).isSome=true
  · rw [if_pos q,if_pos q];exact r.repl k ry
  · rw [if_neg q,if_neg q];exact Paired.snoc r ⟨rfl,hb,ry⟩
theorem KT.keeps {H H':Hp} {kvs:List (List eh×V)} {xs:List (List eh×Addr×Value)} (r:KT H kvs xs) (ht:∀b ys,H b=some (.tup ys)→H' b=some (.tup ys)):KT H' kvs xs:=
  Paired.mapP r fun _ _ z=>⟨z.1,ht _ _ z.2.1,z.2.2⟩
section
variable {P:Program} {w:World} {H:Hp} {h:Heap} {a:Addr}
theorem zT {u:HO} (ok:HOk P w H h) (e:Rd H a u):ObjOk P w H h a u:=e.ok ok
theorem zU {kvs:List (eh×V)} (ok:HOk P w H h) (e:Rd H a (.dK kvs)):kvs.length≤sizeLine∧(a == sysModules)=false∧∃vs,KV kvs vs∧h.DictOf (jK P w) a vs:=
  show ObjOk P w H h a (.dK kvs) from zT ok e
end
def DGet (H:Hp) (a:Addr) (y:V) (r:Option V):Prop:=
  (∃kvs k,Rd H a (.dK kvs)∧y=kV k∧r=jC kvs k)∨∃kvs k b,Rd H a (.dT kvs)∧y= .ref b∧H b=some (.tup (k.map kV))∧r=jC kvs k
def DPut (H:Hp) (a:Addr) (y v:V) (H':Hp):Prop:=
  (∃kvs k,H a=some (.dK kvs)∧y=kV k∧kvs.length < sizeLine∧H'=upd H a (.dK (oh kvs k v)))∨
  ∃kvs k b,H a=some (.dT kvs)∧y= .ref b∧H b=some (.tup (k.map kV))∧kvs.length < sizeLine∧H'=upd H a (.dT (oh kvs k v))
theorem DGet.k {H:Hp} {a:Addr} {kvs:List (eh×V)} {k:eh} (e:H a=some (.dK kvs)):DGet H a (kV k) (jC kvs k):= .inl ⟨kvs,k, .inl e,rfl,rfl⟩
theorem DGet.t {H:Hp} {a b:Addr} {kvs:List (List eh×V)} {k:List eh} (e:H a=some (.dT kvs)) (eb:H b=some (.tup (k.map kV))):DGet H a (.ref b) (jC kvs k):= .inr ⟨kvs,k,b, .inl e,rfl,eb,rfl⟩
theorem DPut.k {H:Hp} {a:Addr} {kvs:List (eh×V)} {k:eh} {v:V} (e:H a=some (.dK kvs)) (hl:kvs.length < sizeLine):DPut H a (kV k) v (upd H a (.dK (oh kvs k v))):= .inl ⟨kvs,k,e,rfl,hl,rfl⟩
theorem DPut.t {H:Hp} {a b:Addr} {kvs:List (List eh×V)} {k:List eh} {v:V} (e:H a=some (.dT kvs)) (eb:H b=some (.tup (k.map kV))) (hl:kvs.length < sizeLine):
    DPut H a (.ref b) v (upd H a (.dT (oh kvs k v))):= .inr ⟨kvs,k,b,e,rfl,eb,hl,rfl⟩
end L2
namespace PL
open PySem L2 Nh
theorem bv {X:Cx} {a b:Expr} {m1 m2:Bool} {f g:b9} {pos:Pos} (ha:EX X a m1 f) (hb:EX X b m2 g) (hs:qp b:=by exact fun _ _=>rfl):EX X (.Subscript a b pos) (m1||m2) (af b6 m2 f g):=bw (qr ya ha hb hs) fun _ _ _ h=>mD yo h
abbrev yp:=List Sl→Option (Option Int×List Sl)
def ro (K:PySem.W.Frag) (m:Bool) (f:yp):TO:=fun σ H Q=>∃B E xs Xs o E',Frm K B σ H E xs Xs∧(m=true→Calm Xs)∧f E=some (o,E')∧∀H',Frm K B σ H' E' xs Xs→Q o H'
def OX (X:Cx) (e:Option Expr) (m:Bool) (f:yp):Prop:=PO X e (ro X.K m f)
def qI:yp:=fun E=>some (none,E)
def jv (f:b9):yp:=fun E=>(f E).bind fun a=>match look a.2 a.1 with
  | some (.int i)=>some (some i,a.2)
  | _=>none
section
variable {X:Cx} {e:Expr} {lo hi:Option Expr} {m1 m2 m3:Bool} {f:b9} {g h:yp} {pos p2:Pos} {K:PySem.W.Frag}
theorem ue {e:Option Expr} {t t':TO} (h:PO X e t) (k:∀σ H Q,t' σ H Q→t σ H Q):PO X e t':=fun pins s σ H Q I q=>h pins s σ H Q I (k σ H Q q)
theorem v7:OX X none false qI:=ue vJ fun σ H Q z=>by
  obtain ⟨B,E,xs,Xs,res,E',fr,cl,e,q⟩:=z
  cases e
  exact q _ fr
theorem mL (he:EX X e m1 f):OX X (some e) m1 (jv f):=ue (vK he) fun σ H Q z=>by
  obtain ⟨B,E,xs,Xs,res,E',fr,cl,e,q⟩:=z
  obtain ⟨⟨s,E1⟩,e1,e⟩:=Option.bind_eq_some_iff.mp e
  refine ⟨B,E,xs,Xs,s,E1,fr,cl,e1,fun v1 H1 ⟨F,A,fr1⟩=>?_⟩
  simp only at e
  split at e
  · rename_i i l
    cases e
    have r:=(fr1.look0 l).1
    cases r
    obtain ⟨A',fr2⟩:=fr1.pop
    exact ⟨i,rfl,q _ ⟨F,A',fr2⟩⟩
  · cases e
theorem RpA.cut {F:Hp} {vs:List V} {ds:List PyData} (h:RpA K F vs ds) (lo hi:Option Int):RpA K F (rJ vs lo hi) (rQ ds lo hi):=by
  unfold rJ rQ
  rw [h.len]
  exact (h.drop _).take _
end
def az (E:List Sl):List Sl→Option (List PyData)
  | []=>some []
  | s::ss=>(look E s).bind fun d=>(az E ss).map fun ds=>d::ds
theorem lookA_iff {E:List Sl}:∀{ss:List Sl} {ds:List PyData},az E ss=some ds↔Paired (fun s d=>look E s=some d) ss ds
  | [],ds=>⟨fun h=>by cases h;exact .nil,fun h=>by cases h;rfl⟩
  | s::ss,ds=>by
    constructor
    · intro h
      obtain ⟨d,h1,h⟩:=Option.bind_eq_some_iff.mp h
      obtain ⟨es,h2,h⟩:=Option.map_eq_some_iff.mp h
      cases h
      exact .cons h1 (lookA_iff.mp h2)
    · intro h
      cases h with
      | cons h1 h2=>simp [az,h1,lookA_iff.mpr h2]
theorem rR {E:List Sl} {ss:List Sl} {ds:List PyData} (h:az E ss=some ds):az E ss.reverse=some ds.reverse:=lookA_iff.mpr (iD (lookA_iff.mp h))
section
variable {X:Cx} {K:PySem.W.Frag} {B F:Hp} {σ:iO} {H:Hp} {E:List Sl} {xs:List V} {Xs:List Sl}
theorem FrF.looksR:∀{us:List V} {ts:List Sl} {es:List PyData} {A:List Addr},us.length=ts.length→FrF K B F A σ H E (us++xs) (ts++Xs)→az E ts=some es→RpA K H us es∧∃A',FrF K B F A' σ H E xs Xs
  | [],[],es,A,_,h,e=>by cases e;exact ⟨.nil,A,h⟩
  | u::us,t::ts,es,A,hl,h,e=>by
    obtain ⟨d,h1,e⟩:=Option.bind_eq_some_iff.mp e
    obtain ⟨es',h2,e⟩:=Option.map_eq_some_iff.mp e
    cases e
    have r:=(FrF.look0 (xs:=us++xs) (Xs:=ts++Xs) h h1).1
    obtain ⟨A',h'⟩:=FrF.pop (xs:=us++xs) (Xs:=ts++Xs) h
    obtain ⟨r',q⟩:=FrF.looksR (by simpa using hl) h' h2
    exact ⟨.cons r r',q⟩
  | [],_::_,_,_,e,_,_=>by cases e
  | _::_,[],_,_,e,_,_=>by cases e
theorem FrF.looks {us:List V} {ts:List Sl} {es:List PyData} {A:List Addr} (hl:us.length=ts.length) (h:FrF K B F A σ H E (us.reverse++xs) (ts.reverse++Xs)) (e:az E ts=some es):RpA K H us es∧∃A',FrF K B F A' σ H E xs Xs:=by
  obtain ⟨r,q⟩:=FrF.looksR (by simpa using hl) h (rR e)
  have:=r.rev
  rw [List.reverse_reverse,List.reverse_reverse] at this
  exact ⟨this,q⟩
end
def yq (K:PySem.W.Frag) (r:List V→Hp→VK→Prop) (op:List PyData→Option PyData):Prop:=∀(ds:List PyData) (d:PyData) (vs:List V) (H:Hp) (Q:VK),op ds=some d→RpA K H vs ds→∃v,w5 d=some v∧(Q v H→r vs H Q)
def bt (op:List PyData→Option PyData) (g:j7):b9:=fun E=>(g E).bind fun a=>(az a.2 a.1).bind fun ds=>(op ds).map fun d=>(.sh d,a.2)
theorem mM {K:PySem.W.Frag} {r:List V→Hp→VK→Prop} {op:List PyData→Option PyData} (hp:yq K r op) {m:Bool} {g:j7} {σ:iO} {H:Hp} {Q:VK} (h:rd K m (bt op g) σ H Q):x8 r (ra K m g) σ H Q:=by
  obtain ⟨B,E,xs,Xs,res,E',fr,cl,e,q⟩:=h
  obtain ⟨⟨rs,E1⟩,e1,e⟩:=Option.bind_eq_some_iff.mp e
  obtain ⟨ds,e2,e⟩:=Option.bind_eq_some_iff.mp e
  obtain ⟨d,e3,e⟩:=Option.map_eq_some_iff.mp e
  cases e
  refine ⟨B,E,xs,Xs,rs,E1,fr,cl,e1,fun vs H1 hl ⟨F,A,fr1⟩=>?_⟩
  obtain ⟨r1,A',fr2⟩:=fr1.looks hl e2
  obtain ⟨v,hv,k⟩:=hp ds d vs H1 Q e3 r1
  exact k (q v H1 ⟨F,A',fr2.push ⟨rfl,v,rfl,j8 hv⟩⟩)
def dR:List PyData→Option PyData
  | [.list xs]=>some (.int xs.length)
  | [.tuple xs]=>some (.int xs.length)
  | [.str z]=>if z.length≤1000000 then some (.int z.length) else none
  | _=>none
def jD:List PyData→Option PyData
  | [.int i]=>some (.int (if i < 0 then -i else i))
  | _=>none
theorem RpA.one {K:PySem.W.Frag} {H:Hp} {vs:List V} {d:PyData} (h:RpA K H vs [d]):∃v,vs=[v]∧Rp K H v d:=by
  cases h with
  | cons h t=>cases t;exact ⟨_,rfl,h⟩
theorem RpA.two {K:PySem.W.Frag} {H:Hp} {vs:List V} {d e:PyData} (h:RpA K H vs [d,e]):∃v u,vs=[v,u]∧Rp K H v d∧Rp K H u e:=by
  cases h with
  | cons h t=>
    obtain ⟨u,rfl,r⟩:=t.one
    exact ⟨_,_,rfl,h,r⟩
section
variable {X:Cx} {e:Expr} {es:List Expr} {m1:Bool} {g:j7} {p pos:Pos} {K:PySem.W.Frag}
abbrev zV (K:PySem.W.Frag):List V→Hp→VK→Prop:=fun xs H Q=>(∃p ys,xs=[.ref p]∧(SqL K H p ys∨SqT K H p ys)∧Q (.int ys.length) H)∨(∃z,xs=[.str z]∧z.length≤sizeLine∧Q (.int z.length) H)
theorem v8:yq K (zV K) dR:=fun ds d vs H Q e r=>by
  unfold dR at e
  split at e
  · cases e
    obtain ⟨v,rfl,r'⟩:=r.one
    cases r' with
    | lst h1 h2=>exact ⟨_,rfl,fun q=> .inl ⟨_,_,rfl, .inl h1,by rw [h2.len];exact q⟩⟩
  · cases e
    obtain ⟨v,rfl,r'⟩:=r.one
    cases r' with
    | tup h1 h2=>exact ⟨_,rfl,fun q=> .inl ⟨_,_,rfl, .inr h1,by rw [h2.len];exact q⟩⟩
  · split at e
    · rename_i hl
      cases e
      obtain ⟨v,rfl,r'⟩:=r.one
      cases r'
      exact ⟨_,rfl,fun q=> .inr ⟨_,rfl,fM hl,q⟩⟩
    · cases e
  · cases e
theorem oj {x:Str} {id:String} {r:List V→Hp→VK→Prop} {op:List PyData→Option PyData} (hp:yq X.K r op) (hc:CallR X (.builtin id) r) (hg:Gl X x) (hm:X.mg x=none) (hv:bootBuiltins x=some (.builtin id)) (ha:AX X (e::es) m1 g) (hn:x≠"__name__":=by decide) (hdb:(x == ("__debug__":Str))=false:=by decide)
    (he:starEach (e::es) X.env=(false,eval e X.env)::starEach es X.env:=by rfl) (hpl:(backTo pos (starEach es X.env)).any (·.1)=false:=by rfl):EX X (.Call (.Name x p) (e::es) [] pos) m1 (bt op g):=
  bw (g_ hc hg hm hv ha hn hdb he hpl) fun _ _ _ h=>mM hp h
theorem gk (hg:Gl X "len") (hm:X.mg "len"=none) (ha:AX X [e] m1 g) (he:starEach [e] X.env=[(false,eval e X.env)]:=by rfl):EX X (.Call (.Name "len" p) [e] [] pos) m1 (bt dR g):=oj v8 (CallR.or mr ms) hg hm PySem.boot_len ha (by decide) (by decide) he rfl
theorem pk (hg:Gl X "abs") (hm:X.mg "abs"=none) (ha:AX X [e] m1 g) (he:starEach [e] X.env=[(false,eval e X.env)]:=by rfl):EX X (.Call (.Name "abs" p) [e] [] pos) m1 (bt jD g):=oj (fun ds d vs H Q e r=>by
  unfold jD at e
  split at e
  · cases e
    obtain ⟨v,rfl,r'⟩:=r.one
    cases r'
    exact ⟨_,rfl,fun q=>⟨_,rfl,q⟩⟩
  · cases e) nT hg hm PyProof.Rows.boot_abs ha (by decide) (by decide) he rfl
end
inductive Ty where
  | non | bool | int | str | list | tuple | dict
def Ty.name:Ty→String
  | .non=>"NoneType"
  | .bool=>"bool"
  | .int=>"int"
  | .str=>"str"
  | .list=>"list"
  | .tuple=>"tuple"
  | .dict=>"dict"
def Ty.is:Ty→Ty→Bool
  | .non, .non=>true
  | .bool, .bool=>true
  | .bool, .int=>true
  | .int, .int=>true
  | .str, .str=>true
  | .list, .list=>true
  | .tuple, .tuple=>true
  | .dict, .dict=>true
  | _,_=>false
def vg:PyData→Ty
  | .none=> .non
  | .bool _=> .bool
  | .int _=> .int
  | .str _=> .str
  | .list _=> .list
  | .tuple _=> .tuple
  | .dict _=> .dict
theorem zW (K:PySem.W.Frag) (t n:Ty):PySem.W.kitOne K (.type t.name) (.type n.name)=some (t.is n):=by cases t <;> cases n <;> rfl
def hG (n:Ty):PyData→Option PyData
  | .dict ((.none,_)::_)=>none
  | d=>some (.bool ((vg d).is n))
section
variable {X:Cx} {e:Expr} {m1:Bool} {f:b9} {p p2 pos:Pos}
theorem rS {pins:List (Addr×Obj)} {s:Shared} {σ:iO} {H:Hp} {x:V} {u:Value} {d r:PyData} {n:Ty} {A:Around} {E:Value→Shared→Prop} {Q:Value→Shared→Prop} (I:Inv X pins σ H s) (rx:RelV x u) (rp:Rp X.K H x d) (hd:hG n d=some r) (h:∀tk b,r= .bool b→Q (.bool b) {s with toks:=tk}):
    wpAny (model X.prog X.w) A (call (.builtin "isinstance") [u, .type n.name]) Q E s:=by
  have e:=zW X.K (vg d) n
  have h:∀tk,r= .bool ((vg d).is n)→Q (.bool ((vg d).is n)) {s with toks:=tk}:=fun tk z=>h tk _ z
  cases rp with
  | non=>cases hd;exact ig I rx .non e fun tk=>h tk rfl
  | bl b=>cases hd;exact ig I rx (.bl b) e fun tk=>h tk rfl
  | int i=>cases hd;exact ig I rx (.int i) e fun tk=>h tk rfl
  | str y=>cases hd;exact ig I rx (.str y) e fun tk=>h tk rfl
  | lst h1 _=>
    cases hd
    cases rx
    obtain ⟨its,rv,⟨o,n',e1,c,_,d⟩,_⟩:=I.list h1
    exact PySem.W.kia_one PySem.W.kitx_list I.kIn ⟨_,e1,c⟩ e (fun z=>nomatch z) fun tk=>h tk rfl
  | tup h1 _=>
    cases hd
    cases rx
    obtain ⟨its,rv,⟨o,e1,c,n',d⟩,_⟩:=I.tuple h1
    exact PySem.W.kia_one PySem.W.kitx_tuple I.kIn ⟨_,e1,c⟩ e (fun z=>nomatch z) fun tk=>h tk rfl
  | dct h1 hk=>
    cases rx
    obtain ⟨_,_,vs,_,ob,es,ep,e1,c,_⟩:=zU I.hok h1
    refine PySem.W.kia_one PySem.W.kitx_dict I.kIn ⟨_,e1,c.1⟩ e (fun z=>nomatch z) fun tk=>h tk ?_
    cases hk with
    | nil=>cases hd;rfl
    | @cons k x us d kvs a b=>cases k <;> (cases hd;rfl)
  | exc h1 h2=>cases hd
  | obj c h n r=>cases hd
theorem rT (n:Ty):CallR X (.builtin "isinstance") (fun xs H Q=>∃x d r,xs=[x, .ty n.name]∧Rp X.K H x d∧hG n d=some r∧∀b,r= .bool b→Q (.bl b) H):=by
  intro pins s σ H xs us Q I r h
  obtain ⟨x,d,r',rfl,rp,hd,q⟩:=h
  obtain ⟨u,w',rfl,ru,rw'⟩:=r.two
  cases (show w'=Value.type n.name from rw')
  exact rS I ru rp hd fun tk b z=>⟨.bl _,H,I.tok _,rfl,q b z⟩
theorem hJ (n:Ty) (hg:Gl X "isinstance") (hm:X.mg "isinstance"=none) (ha:EX X e m1 f) {x:Str} (hgx:Gl X x) (hmx:X.mg x=none) (hbx:bootBuiltins x=some (.type n.name)) (hnx:x≠"__name__":=by decide) (hdx:(x == ("__debug__":Str))=false:=by decide)
    (he:starEach [e, .Name x p2] X.env=(false,eval e X.env)::starEach [.Name x p2] X.env:=by rfl) (he2:starEach [.Name x p2] X.env=[(false,eval (.Name x p2) X.env)]:=by rfl) (hpl:(backTo pos (starEach [.Name x p2] X.env)).any (·.1)=false:=by rfl):
    EX X (.Call (.Name "isinstance" p) [e, .Name x p2] [] pos) m1 (gD (hG n) f):=by
  have h2:PE X (.Name x p2) (tC (.ty n.name)):=vp (v:= .ty n.name) hgx hmx hbx rfl hnx hdx
  refine bw (g_ (rT n) hg hm PyProof.Rows.boot_isinstance (bZ ha (bZ h2 dO he2) he) (by decide) (by decide) he hpl) fun σ H Q z=>?_
  obtain ⟨B,E,xs,Xs,res,E',fr,cl,e,q⟩:=z
  obtain ⟨⟨s,E1⟩,e1,e⟩:=Option.bind_eq_some_iff.mp e
  obtain ⟨d1,e2,e⟩:=Option.bind_eq_some_iff.mp e
  obtain ⟨d2,e3,e⟩:=Option.map_eq_some_iff.mp e
  cases e
  refine ⟨B,E,xs,Xs,s,E1,fr,cl,e1,fun v1 H1 ⟨F,A,fr1⟩=>?_⟩
  obtain ⟨A',fr2⟩:=fr1.pop
  exact ⟨v1,d1,d2,rfl,(fr1.look0 e2).1,e3,fun b z=>q _ _ ⟨F,A',fr2.push ⟨rfl,_,rfl,z▸ .bl b⟩⟩⟩
end
end PL
namespace PL
open PySem L2 Nh
def ResOk (K:PySem.W.Frag) (H H':Hp) (v:V):Sl→Prop
  | .sh d=>Rp K (tups H') v d
  | .ow ds=>∃l vs,v= .ref l∧H l=none∧H' l=some (.lst vs)∧RpA K (tups H') vs ds
  | .tx ps=>∃t vs A,v= .ref t∧tups H' t=some (.tup vs)∧A.Nodup∧(∀a∈A,H a=none)∧PtsOk K (tups H') H' vs ps A
  | .od kvs=>∃l us A,v= .ref l∧(l::A).Nodup∧(∀a∈l::A,H a=none)∧H' l=some (.dK us)∧DlOk K (tups H') H' us kvs A
  | .br d=>Rp K H' v d
  | _=>False
def cy (K:PySem.W.Frag) (c:List PyData→Option Sl):Sp:=fun vs H Q _=>∃ds r,c ds=some r∧RpA K H vs ds∧∀v H',Same H H'→ResOk K H H' v r→Q v H'
section
variable {K:PySem.W.Frag} {B F:Hp} {A N:List Addr} {σ:iO} {H H':Hp} {E:List Sl} {xs:List V} {Xs:List Sl} {v:V} {s:Sl}
theorem FrF.growN (h:FrF K B F A σ H E xs Xs) (g:Same H H') (hN:∀a∈N,H a=none∧((∃us,H' a=some (.lst us))∨∃us,H' a=some (.dK us))):FrF K B (fun b=>if b∈N then none else if b∈A then none else H' b) A σ H' E xs Xs:=by
  have h1:=h.grow g
  have nF:∀b o,F b=some o→b∉N:=fun b o e hb=>by
    have:=h.fh.free (hN b hb).1
    rw [this] at e;cases e
  have FF:Same F (fun b=>if b∈N then none else if b∈A then none else H' b):=fun b o e=>by
    have nA:b∉A:=fun hb=>by rw [h.fr b hb] at e;cases e
    show (if b∈N then none else if b∈A then none else H' b)=some o
    rw [if_neg (nF b o e),if_neg nA]
    exact g _ _ (h.fh _ _ e)
  have hA:∀b∈A,H' b=H b:=fun b hb=>by
    rcases h.mutA b hb with ⟨_,z⟩ | ⟨_,z⟩ <;> rw [z,g _ _ z]
  refine ⟨h.bf.trans FF,fun b o e=>?_,fun b o e=>?_,h.sl.mono fun o s C _ hC q=>q.stay FF (fun b hb=>hA b (hC b hb)) fun _=>g,h.nd,fun a ha=>?_,h.len,h.pl⟩
  · by_cases hb:b∈N
    · rw [if_pos hb] at e;cases e
    · rw [if_neg hb] at e;exact h1.fh _ _ e
  · show (if b∈N then none else if b∈A then none else H' b)=some o
    by_cases hb:b∈N
    · obtain ⟨e1,e2⟩:=Option.filter_eq_some_iff.mp e
      rcases (hN b hb).2 with ⟨us,z⟩ | ⟨us,z⟩ <;> rw [z] at e1 <;> cases e1 <;> cases e2
    · rw [if_neg hb];exact h1.tf _ _ e
  · show (if a∈N then none else if a∈A then none else H' a)=none
    by_cases hb:a∈N
    · rw [if_pos hb]
    · rw [if_neg hb,if_pos ha]
theorem FrF.pushR (h:FrF K B F A σ H E xs Xs) (q:SlOk K F H σ (some v) s N) (nd:N.Nodup) (dj:∀a∈N,a∉A) (fr:∀a∈N,F a=none):FrF K B F (N++A) σ H E (v::xs) (s::Xs):=
  ⟨h.bf,h.fh,h.tf, .cons q h.sl,List.nodup_append.mpr ⟨nd,h.nd,fun a ha b hb e=>dj a ha (e▸hb)⟩,fun a ha=>(List.mem_append.mp ha).elim (fr a) (h.fr a),by simp [h.len],h.pl⟩
theorem FrF.told (h:FrF K B F A σ H E xs Xs) (g:Same H H') (q:ResOk K H H' v s):Frm K B σ H' E (v::xs) (s::Xs):=by
  cases s with
  | sh d=>
    have h1:=h.grow g
    exact ⟨_,_,h1.push ⟨rfl,v,rfl,Rp.same h1.tf q⟩⟩
  | ow ds=>
    obtain ⟨l,vs,rfl,hl,hl',r⟩:=q
    have h1:=h.growN (N:=[l]) g fun a ha=>by rw [List.mem_singleton.mp ha];exact ⟨hl, .inl ⟨vs,hl'⟩⟩
    exact ⟨_,_,h1.pushR (N:=[l]) ⟨l,vs,rfl,rfl,hl',r.same h1.tf⟩ (by simp) (fun a ha=>by rw [List.mem_singleton.mp ha];exact h.newA hl) fun a ha=>if_pos ha⟩
  | tx ps=>
    obtain ⟨t,vs,N,rfl,ht,nd,hN,r⟩:=q
    have h1:=h.growN (N:=N) g fun a ha=>⟨hN a ha, .inl (r.some a ha)⟩
    exact ⟨_,_,h1.pushR (N:=N) ⟨t,vs,rfl,h1.tf _ _ ht,r.stay h1.tf fun _ _=>rfl⟩ nd (fun a ha=>h.newA (hN a ha)) fun a ha=>if_pos ha⟩
  | no=>exact False.elim q
  | io l zs=>exact False.elim q
  | od kvs=>
    obtain ⟨l,us,N,rfl,nd,hN,hl,r⟩:=q
    have h1:=h.growN (N:=l::N) g fun a ha=>⟨hN a ha,(List.mem_cons.mp ha).elim (fun z=> .inr ⟨us,z▸hl⟩) fun z=> .inl (r.some a z)⟩
    exact ⟨_,_,h1.pushR (N:=l::N) ⟨l,us,N,rfl,rfl,hl,r.stay h1.tf fun _ _=>rfl⟩ nd (fun a ha=>h.newA (hN a ha)) fun a ha=>if_pos ha⟩
  | al i=>exact False.elim q
  | br d=>
    have h1:=h.grow g
    exact ⟨_,_,h1.push ⟨rfl,v,rfl,q⟩⟩
end
def aA (c:List PyData→Option Sl) (g:j7):b9:=fun E=>(g E).bind fun a=>(az a.2 a.1).bind fun ds=>(c ds).map fun r=>(r,a.2)
theorem a9 {X:Cx} {k:Nat} {x:Str} {ps:List Str} {c:List PyData→Option Sl} {p pos:Pos} {e:Expr} {es:List Expr} {m:Bool} {g:j7} (D:Own X.prog X.w X.K X.mg X.base k x ps (cy X.K c)) (hr:Room k X.A) (hg:Gl X x) (ha:AX X (e::es) m g)
    (hdb:(x == ("__debug__":Str))=false:=by decide) (he:starEach (e::es) X.env=(false,eval e X.env)::starEach es X.env:=by rfl) (hpl:(backTo pos (starEach es X.env)).any (·.1)=false:=by rfl):
    EX X (.Call (.Name x p) (e::es) [] pos) m (aA c g):=by
  refine bw (tT D hr hg ha hdb he hpl) fun σ H Q z=>?_
  obtain ⟨B,E,xs,Xs,res,E',fr,cl,e,q⟩:=z
  obtain ⟨⟨rs,E1⟩,e1,e⟩:=Option.bind_eq_some_iff.mp e
  obtain ⟨ds,e2,e⟩:=Option.bind_eq_some_iff.mp e
  obtain ⟨r,e3,e⟩:=Option.map_eq_some_iff.mp e
  cases e
  refine ⟨B,E,xs,Xs,rs,E1,fr,cl,e1,fun vs H1 hl ⟨F,A,fr1⟩=>?_⟩
  obtain ⟨r1,A',fr2⟩:=fr1.looks hl e2
  exact ⟨ds,res,e3,by rw [List.append_nil];exact r1,fun v H' g q'=>q v H' (fr2.told g q')⟩
def ij (i:Nat) (f:b9):b9:=fun E=>match E[i]? with
  | some (.ow _)=>(f E).bind fun a=>(frz a.2 a.1).bind fun b=>match b.2[i]? with
    | some (.ow ds)=>if ds.length < 1000000 then some (.sh .none,b.2.set i (.ow (ds++[b.1]))) else none
    | _=>none
  | _=>none
section
variable {X:Cx} {e:Expr} {m1:Bool} {f:b9} {x:Str} {p apos cpos:Pos}
theorem lU (i:Nat) (he:EX X e m1 f) (hN:X.N[i]? =some x:=by rfl) (hv:ve X.env.scope x:=by first | exact Or.inl rfl | exact Or.inr (Or.inl rfl) | exact Or.inr (Or.inr rfl)) (hd:(x == ("__debug__":Str))=false:=by decide) (hcd:(x == ("__classdict__":Str))=false:=by decide)
    (hs:starEach [e] X.env=[(false,eval e X.env)]:=by rfl) (hbase:attributeBase (.Name x p) "append" X.env (eval (.Name x p) X.env)=eval (.Name x p) X.env:=by rfl)
    (hfew:((backTo cpos (starEach [e] X.env)).all (fun x=> !x.1)&&(backToKw cpos (keywordEach [] X.env)).all (fun x=>x.1.isSome)
      &&decide (([e]:List Expr).length+([]:List Keyword).length+(if ([]:List Keyword).isEmpty then 0 else 1) < 30))=true:=by rfl) (hline:(apos.endLine == cpos.line)=true:=by rfl):
    EX X (.Call (.Attribute (.Name x p) "append" apos) [e] [] cpos) true (ij i f):=by
  refine bw (qu PySem.F.plainAttrs_list PySem.F.slot_list_append PySem.F.type_list_append lP (gZ hN hv hd hcd) (bZ he dO hs) hbase hfew hline hs rfl) fun σ H Q z=>?_
  obtain ⟨B,E,xs,Xs,res,E',⟨F,A,fr⟩,cl,e,q⟩:=z
  unfold ij at e
  split at e
  · rename_i ds0 ei
    obtain ⟨⟨s,E1⟩,e1,e⟩:=Option.bind_eq_some_iff.mp e
    obtain ⟨⟨d,E2⟩,e2,e⟩:=Option.bind_eq_some_iff.mp e
    simp only at e
    split at e
    · rename_i ds ei2
      split at e
      · rename_i hl
        cases e
        obtain ⟨o,A1,eo,l,vs,rfl,rfl,hl0,_⟩:=fr.var ei
        refine ⟨_,eo, .inl ⟨rfl,_,SqL.of hl0⟩,B,E,xs,Xs,s,E1,⟨F,A,fr⟩,fun _=>cl rfl,e1,fun v H1 ⟨F1,A1,fr1⟩=>?_⟩
        obtain ⟨F2,A2,fr2⟩:=fr1.frz0 e2
        obtain ⟨v',A3,ev,rfl,w,ew,rv⟩:=fr2.ext (k:=0) rfl
        cases ev;cases ew
        obtain ⟨A4,fr3⟩:=fr2.pop
        obtain ⟨l',vs',eo',hl',r',put⟩:=fr3.mut ei2 (cl rfl)
        rw [eo] at eo'
        cases eo'
        have ll:=r'.len
        have fr4:=put (vs'++[v]) (ds++[d]) (r'.snoc rv)
        exact ⟨l,vs',v,rfl,rfl,hl',qE (by omega),q _ _ ⟨_,_,fr4.push ⟨rfl,_,rfl, .non⟩⟩⟩
      · cases e
    · cases e
  · cases e
end
def uf (s:Sl):Sl:=match s.val with
  | some d=> .sh d
  | none=> .no
def frzAll (E:List Sl):List Sl:=E.map uf
def settle (E:List Sl):Sl→Option (Sl×List Sl)
  | .al i=>(frz E (.al i)).map fun a=>(.sh a.1,a.2)
  | .br d=>if aP d then some (.sh d,E) else some (.sh d,frzAll E)
  | s=>some (s,E)
def ar (g h:bA):bA:=fun E=>(g E).bind fun a=>match a.2 with
  | .nx=>h a.1
  | fl=>some (a.1,fl)
def aB:bA:=fun E=>some (E, .nx)
def kh (f:b9):bA:=fun E=>(f E).map fun a=>(a.2, .nx)
def aF (f:b9):bA:=fun E=>(f E).bind fun a=>match a.1 with
  | .al i=>(a.2[i]?).map fun s=>(a.2.set i .no, .rt s)
  | s=>some (a.2, .rt s)
def aU (c:iR) (g h:bA):bA:=fun E=>(c E).bind fun a=>if a.1 then g a.2 else h a.2
def aG (i:Nat) (f:b9):bA:=fun E=>(f E).bind fun a=>(settle a.2 a.1).bind fun b=>if i < b.2.length then some (b.2.set i b.1, .nx) else none
section
variable {K:PySem.W.Frag} {B F:Hp} {A:List Addr} {σ:iO} {H:Hp} {E E':List Sl} {xs:List V} {Xs:List Sl} {v:V} {s s':Sl} {d:PyData}
theorem FrF.frzAll (h:FrF K B F A σ H E xs Xs) (hX:Xs=[]):FrF K B H [] σ H (PL.frzAll E) [] []:=by
  subst hX
  have hx:xs=[]:=by simpa using h.len
  subst hx
  refine ⟨h.bf.trans h.fh,Same.refl _,gr H,?_,List.nodup_nil,fun a ha=>(by cases ha),rfl,fun s hs=>?_⟩
  · have key:∀{os:List (Option V)} {ss:List Sl} {C:List Addr},SAll (SlOk K F H σ) os ss C→SAll (SlOk K H H σ) os (PL.frzAll ss) []:=fun {os ss C} r=>by
      induction r with
      | nil=>exact .nil
      | cons q _ ih=>
        refine .cons (A:=[]) ?_ ih
        unfold uf
        split
        · rename_i d e
          obtain ⟨v,rfl,r,_⟩:=q.val h.fh e
          exact ⟨rfl,v,rfl,r⟩
        · exact rfl
    exact key h.sl
  · obtain ⟨t,_,rfl⟩:=List.mem_map.mp hs
    unfold uf
    split <;> rfl
theorem FrF.settle (h:FrF K B F A σ H E (v::xs) (s::Xs)) (hX:Xs=[]) (q:PL.settle E s=some (s',E')):s'.isAl=false∧Frm K B σ H E' (v::xs) (s'::Xs):=by
  cases s with
  | al i=>
    obtain ⟨⟨d,E2⟩,e,z⟩:=Option.map_eq_some_iff.mp (show (frz E (.al i)).map (fun a=>(Sl.sh a.1,a.2))=some (s',E') from q)
    cases z
    obtain ⟨F',A',h'⟩:=h.frz0 e
    exact ⟨rfl,F',A',h'⟩
  | br d=>
    have r:=(h.look0 (d:=d) rfl).1
    obtain ⟨A',h'⟩:=h.pop
    simp only [PL.settle] at q
    split at q
    · rename_i hf
      cases q
      exact ⟨rfl,F,A',h'.push ⟨rfl,v,rfl,h.cold r hf⟩⟩
    · cases q
      have h2:=h'.frzAll hX
      have hl:=h'.len
      subst hX
      have hx:xs=[]:=by simpa using hl
      subst hx
      exact ⟨rfl,H,[],h2.push ⟨rfl,v,rfl,r⟩⟩
  | no=>cases q;exact ⟨rfl,F,A,h⟩
  | sh d=>cases q;exact ⟨rfl,F,A,h⟩
  | ow ds=>cases q;exact ⟨rfl,F,A,h⟩
  | io l zs=>cases q;exact ⟨rfl,F,A,h⟩
  | od kvs=>cases q;exact ⟨rfl,F,A,h⟩
  | tx ps=>cases q;exact ⟨rfl,F,A,h⟩
theorem FrF.move {i:Nat} (h:FrF K B F A σ H E (v::xs) (.al i::Xs)) (e:E[i]? =some s):Frm K B σ H (E.set i .no) (v::xs) (s::Xs):=by
  obtain ⟨v',A1,ev,rfl,w,ew,hw⟩:=h.ext (k:=0) rfl
  cases ev;cases ew
  obtain ⟨A',h'⟩:=h.pop
  obtain ⟨o,A0,A1,A2,eA,eo,hp,put⟩:=h'.sl.at (k:=Xs.length+i) (s:=s) (by rw [List.getElem?_append_right (by omega)];simpa using e)
  have z:=put (SlOk K F H σ) o .no [] rfl fun _ _ _ _ _ q=>q
  have e3:(Xs++E).set (Xs.length+i) .no=Xs++E.set i .no:=by
    rw [List.set_append_right _ _ (by omega),Nat.add_sub_cancel_left]
  have e2:(List.map some xs++σ).set (Xs.length+i) o=List.map some xs++σ:=List.ext_getElem? fun j=>by
    by_cases hj:Xs.length+i=j
    · subst hj
      rw [List.getElem?_set_self',eo];rfl
    · rw [List.getElem?_set_ne hj]
  rw [e2,e3] at z
  rw [List.getElem?_append_right (by rw [List.length_map,h'.len];omega),List.length_map,h'.len,Nat.add_sub_cancel_left,hw] at eo
  cases eo
  have nd:=h'.nd
  rw [eA] at nd
  refine ⟨F,A1++(A0++([]++A2)),h.bf,h.fh,h.tf, .cons hp z,?_,fun a ha=>h'.fr a ?_,h.len,fun s' hs=>?_⟩
  · have p:(A1++(A0++([]++A2))).Perm (A0++(A1++A2)):=by
      rw [List.nil_append,←List.append_assoc,←List.append_assoc]
      exact List.Perm.append_right _ List.perm_append_comm
    exact p.nodup_iff.mpr nd
  · rw [eA]
    simp only [List.mem_append,List.nil_append] at ha ⊢
    rcases ha with z | z | z
    · exact .inr (.inl z)
    · exact .inl z
    · exact .inr (.inr z)
  · rcases List.mem_or_eq_of_mem_set hs with hs | hs
    · exact h.pl s' hs
    · subst hs;rfl
end
section
variable {X:Cx} {st:Stmt} {cz a b:List Stmt} {g h:bA} {e c:Expr} {m:Bool} {f:b9} {t:iR} {pos:Pos}
theorem bb:sP X [] aB:=qD vt fun D σ H z=>by
  obtain ⟨B,E,xs,Xs,E',fl,fr,cl,e,q⟩:=z
  cases e
  exact q _ _ fr
theorem ap (h1:SX X st g):sP X [st] g:=ie h1
theorem yr {K:PySem.W.Frag} {D:Ends} {σ:iO} {H:Hp} (z:rs K (ar g h) D σ H):rs K g {D with nx:=rs K h D} σ H:=by
  obtain ⟨B,E,xs,Xs,E',fl,fr,cl,e,q⟩:=z
  obtain ⟨⟨E1,f1⟩,e1,e⟩:=Option.bind_eq_some_iff.mp e
  refine ⟨B,E,xs,Xs,E1,f1,fr,cl,e1,?_⟩
  cases f1 with
  | nx=>exact fun σ' H' fr'=>⟨B,E1,xs,Xs,E',fl,fr',cl,e,q⟩
  | bk=>cases e;exact q
  | ct=>cases e;exact q
  | rt r=>cases e;exact q
theorem ah (h1:SX X st g) (h2:sP X cz h):sP X (st::cz) (ar g h):=qD (cY h1 h2) fun D σ H z=>yr z
theorem mN (he:EX X e m f) (hs:swapsWith e none pos.line X.env=pure false:=by rfl):SX X (.Expr e pos) (kh f):=gh (vv he hs) fun D σ H z=>by
  obtain ⟨B,E,xs,Xs,E',fl,fr,cl,e,q⟩:=z
  obtain ⟨⟨s,E1⟩,e1,e⟩:=Option.map_eq_some_iff.mp e
  cases e
  refine ⟨B,E,xs,Xs,s,E1,fr,fun _=>Calm.nil cl,e1,fun v H1 ⟨F,A,fr1⟩=>?_⟩
  obtain ⟨A',fr2⟩:=fr1.pop
  exact q _ _ ⟨F,A',fr2⟩
theorem aL (he:EX X e m f):SX X (.Return (some e) pos) (aF f):=gh (sT he) fun D σ H z=>by
  obtain ⟨B,E,xs,Xs,E',fl,fr,cl,e,q⟩:=z
  obtain ⟨⟨s,E1⟩,e1,e⟩:=Option.bind_eq_some_iff.mp e
  refine ⟨B,E,xs,Xs,s,E1,fr,fun _=>Calm.nil cl,e1,fun v H1 ⟨F,A,fr1⟩=>?_⟩
  simp only at e
  split at e
  · obtain ⟨s',es,e⟩:=Option.map_eq_some_iff.mp e
    cases e
    exact q σ _ _ (fr1.move es)
  · cases e
    exact q σ _ _ ⟨F,A,fr1⟩
theorem cB (hc:TX X c m t) (ha:sP X a g) (hb:sP X b h):SX X (.If c a b pos) (aU t g h):=gh (zr hc ha hb) fun D σ H z=>by
  obtain ⟨B,E,xs,Xs,E',fl,fr,cl,e,q⟩:=z
  obtain ⟨⟨b1,E1⟩,e1,e⟩:=Option.bind_eq_some_iff.mp e
  refine ⟨B,E,xs,Xs,b1,E1,fr,fun _=>Calm.nil cl,e1,fun H1 fr1=>?_⟩
  cases b1 with
  | true=>exact (if_pos rfl).mpr ⟨B,E1,xs,Xs,E',fl,fr1,cl,e,q⟩
  | false=>exact (if_neg (by decide)).mpr ⟨B,E1,xs,Xs,E',fl,fr1,cl,e,q⟩
theorem aQ (i:Nat) {x:Str} {pos':Pos} (hN:X.N.Nodup) (he:EX X e m f) (hi:X.N[i]? =some x:=by rfl) (hx:y2 X.env.scope x:=by first | exact Or.inl rfl | exact Or.inr rfl) (hs:swapsWith e (some (.Name x pos')) pos.line X.env=pure false:=by rfl) (hf:X.fn x=true∨X.env.scope.names.lookup x=some .local:=by first | exact .inl rfl | exact .inr rfl | assumption):
    SX X (.Assign [.Name x pos'] e pos) (aG i f):=gh (sX hN hi hx he hs hf) fun D σ H z=>by
  obtain ⟨B,E,xs,Xs,E',fl,fr,cl,e,q⟩:=z
  obtain ⟨⟨s,E1⟩,e1,e⟩:=Option.bind_eq_some_iff.mp e
  obtain ⟨⟨s',E2⟩,e2,e⟩:=Option.bind_eq_some_iff.mp e
  refine ⟨B,E,xs,Xs,s,E1,fr,fun _=>Calm.nil cl,e1,fun v H1 ⟨F,A,fr1⟩=>?_⟩
  obtain ⟨c1,F2,A2,fr2⟩:=fr1.settle cl e2
  simp only at e
  split at e
  · rename_i hi
    cases e
    obtain ⟨A3,fr3⟩:=fr2.store c1 (Still.nil cl) hi
    exact q _ _ ⟨F2,A3,fr3⟩
  · cases e
end
end PL
namespace PL
open PySem L2 Nh
abbrev ki:=PyData→List Sl→Option (List Sl)
abbrev om:=List PyData→List Sl→Option (List Sl)
def rg (K:PySem.W.Frag) (h:ki):TG:=fun v σ H Q=>∃B E xs Xs d E',Frm K B σ H E (v::xs) (.sh d::Xs)∧Still Xs∧h d E=some E'∧∀σ' H',Frm K B σ' H' E' xs Xs→Q σ' H'
def CC (K:PySem.W.Frag) (h:om):vw:=fun vs σ H Q=>∃B E xs Xs ds E',vs.length=ds.length∧Frm K B σ H E (vs++xs) (ds.map .sh++Xs)∧Still Xs∧h ds E=some E'∧∀σ' H',Frm K B σ' H' E' xs Xs→Q σ' H'
def GX (X:Cx) (e:Expr) (h:ki):Prop:=PG X e (rg X.K h)
def AL (X:Cx) (es:List Expr) (h:om):Prop:=xM X es (CC X.K h)
def aW (i:Nat):ki:=fun d E=>if i < E.length then some (E.set i (.sh d)) else none
def dS:om:=fun ds E=>if ds.isEmpty then some E else none
def bj (h:ki) (hs:om):om:=fun ds E=>match ds with
  | d::ds=>(h d E).bind (hs ds)
  | []=>none
def dI (n:Nat) (hs:om):ki:=fun d E=>match d with
  | .tuple ds=>if ds.length=n then hs ds E else none
  | _=>none
section
variable {X:Cx}
theorem ug {e:Expr} {t t':TG} (h:PG X e t) (k:∀v σ H Q,t' v σ H Q→t v σ H Q):PG X e t':=fun pins s σ H v u Q I r q=>h pins s σ H v u Q I r (k v σ H Q q)
theorem qJ {es:List Expr} {t t':vw} (h:xM X es t) (k:∀v σ H Q,t' v σ H Q→t v σ H Q):xM X es t':=fun pins s σ H v u Q I r q=>h pins s σ H v u Q I r (k v σ H Q q)
theorem bN (i:Nat) {x:Str} {pos:Pos} (hN:X.N.Nodup) (hi:X.N[i]? =some x:=by rfl) (hx:y2 X.env.scope x:=by first | exact Or.inl rfl | exact Or.inr rfl) (hf:X.fn x=true∨X.env.scope.names.lookup x=some .local:=by first | exact .inl rfl | exact .inr rfl | assumption):GX X (.Name x pos) (aW i):=ug (qi hN hi hx hf) fun v σ H Q z=>by
  obtain ⟨B,E,xs,Xs,d,E',⟨F,A,fr⟩,cl,e,q⟩:=z
  unfold aW at e
  split at e
  · rename_i hi
    cases e
    obtain ⟨A',fr'⟩:=fr.store rfl cl hi
    exact q _ _ ⟨F,A',fr'⟩
  · cases e
theorem gI:AL X [] dS:=qJ vx fun v σ H Q z=>by
  obtain ⟨B,E,xs,Xs,ds,E',hl,fr,cl,e,q⟩:=z
  unfold dS at e
  split at e
  · rename_i hd
    cases e
    have:ds=[]:=by simpa using hd
    subst this
    have hv:v=[]:=by simpa using hl
    subst hv
    exact ⟨rfl,q _ _ fr⟩
  · cases e
theorem bQ {e:Expr} {es:List Expr} {h:ki} {hs:om} (h1:GX X e h) (h2:AL X es hs) (hst:(assignEach (e::es) X.env).map (·.2)=assign e X.env::(assignEach es X.env).map (·.2):=by rfl):AL X (e::es) (bj h hs):=qJ (sV h1 h2 hst) fun v σ H Q z=>by
  obtain ⟨B,E,xs,Xs,ds,E',hl,fr,cl,e,q⟩:=z
  cases ds with
  | nil=>cases e
  | cons d ds=>
    cases v with
    | nil=>cases hl
    | cons v vs=>
      obtain ⟨E1,e1,e2⟩:=Option.bind_eq_some_iff.mp e
      refine ⟨v,vs,rfl,B,E,vs++xs,ds.map Sl.sh++Xs,d,E1,fr,fun s hs=>?_,e1,fun σ1 H1 fr1=>⟨B,E1,xs,Xs,ds,E',by simpa using hl,fr1,cl,e2,q⟩⟩
      rcases List.mem_append.mp hs with hs | hs
      · obtain ⟨d',_,rfl⟩:=List.mem_map.mp hs
        rfl
      · exact cl s hs
theorem iH {es:List Expr} {k:Nat} {pos:Pos} {hs:om} {n:Nat} (hc:X.calm=true) (h:AL X es hs) (hn:(assignEach es X.env).length=n:=by rfl) (hst:(assignEach es X.env).findIdx? (·.1)=none:=by rfl):GX X (.Tuple es k pos) (dI n hs):=ug (xO hc h hn hst) fun v σ H Q z=>by
  obtain ⟨B,E,xs,Xs,d,E',⟨F,A,fr⟩,cl,e,q⟩:=z
  unfold dI at e
  split at e
  · rename_i ds
    split at e
    · rename_i hl
      obtain ⟨v',A1,ev,rfl,w,ew,r⟩:=fr.ext (k:=0) rfl
      cases ev;cases ew
      cases r with
      | tup h1 h2=>
        obtain ⟨A',fr'⟩:=fr.pop
        have key:∀{us:List V} {es:List PyData},RpA X.K F us es→FrF X.K B F A' σ H E (us++xs) (es.map .sh++Xs):=fun {us es} r=>by
          induction us generalizing es with
          | nil=>cases r;exact fr'
          | cons u us ih=>
            cases r with
            | cons r1 r2=>exact (ih r2).push ⟨rfl,_,rfl,r1⟩
        exact ⟨_,_,rfl,fr.fh.tup h1,by rw [h2.len];exact hl,B,E,xs,Xs,ds,E',h2.len,⟨F,A',key h2⟩,cl,e,q⟩
    · cases e
  · cases e
end
def iI (f:b9) (h:ki):bA:=fun E=>(f E).bind fun a=>(frz a.2 a.1).bind fun b=>(h b.1 b.2).map fun E'=>(E', .nx)
theorem mO {X:Cx} {tg e:Expr} {m:Bool} {f:b9} {h:ki} {pos:Pos} (he:EX X e m f) (hg:GX X tg h) (hs:swapsWithSole [tg] e pos.line X.env=pure false:=by rfl) (hw:swappedStores [tg] e X.env=pure none:=by rfl) (h1:(assignEach [tg] X.env).map (·.2)=[assign tg X.env]:=by rfl):SX X (.Assign [tg] e pos) (iI f h):=gh (o0 he hg hs hw h1) fun D σ H z=>by
  obtain ⟨B,E,xs,Xs,E',fl,fr,cl,e,q⟩:=z
  obtain ⟨⟨s,E1⟩,e1,e⟩:=Option.bind_eq_some_iff.mp e
  obtain ⟨⟨d,E2⟩,e2,e⟩:=Option.bind_eq_some_iff.mp e
  obtain ⟨E3,e3,e⟩:=Option.map_eq_some_iff.mp e
  cases e
  refine ⟨B,E,xs,Xs,s,E1,fr,fun _=>Calm.nil cl,e1,fun v H1 ⟨F,A,fr1⟩=>?_⟩
  obtain ⟨F2,A2,fr2⟩:=fr1.frz0 e2
  exact ⟨B,E2,xs,Xs,d,E',⟨F2,A2,fr2⟩,Still.nil cl,e3,q⟩
def on (K:PySem.W.Frag) (B0:Hp) (J:It) (ds:List PyData):Prop:=∀{B F:Hp} {A:List Addr} {σ:iO} {H:Hp} {E:List Sl} {xs:List V} {Xs:List Sl} (i:Nat),Same B0 B→FrF K B F A σ H E xs Xs→
  (∀d,ds[i]? =some d→J.go i H∧∀x H2,J.yld i H x H2→Frm K B σ H2 E (x::xs) (.sh d::Xs))∧(i=ds.length→J.stop i H)
def ri (K:PySem.W.Frag) (m:Bool) (f:kI):TI:=fun σ H R=>∃B E xs Xs ds E',Frm K B σ H E xs Xs∧(m=true→Calm Xs)∧f E=some (ds,E')∧∀B' J H',Same B B'→Frm K B' σ H' E' xs Xs→on K B' J ds→R J H'
def IX (X:Cx) (tg e:Expr) (m:Bool) (f:kI):Prop:=PI X tg e (ri X.K m f)
theorem FrF.base {K:PySem.W.Frag} {B B' F:Hp} {A:List Addr} {σ:iO} {H:Hp} {E:List Sl} {xs:List V} {Xs:List Sl} (h:FrF K B' F A σ H E xs Xs) (s:Same B B'):FrF K B F A σ H E xs Xs:=⟨s.trans h.bf,h.fh,h.tf,h.sl,h.nd,h.fr,h.len,h.pl⟩
theorem Frm.base {K:PySem.W.Frag} {B B':Hp} {σ:iO} {H:Hp} {E:List Sl} {xs:List V} {Xs:List Sl} (h:Frm K B' σ H E xs Xs) (s:Same B B'):Frm K B σ H E xs Xs:=let ⟨F,A,h⟩:=h;⟨F,A,h.base s⟩
theorem FrF.raise {K:PySem.W.Frag} {B F:Hp} {A:List Addr} {σ:iO} {H:Hp} {E:List Sl} {xs:List V} {Xs:List Sl} (h:FrF K B F A σ H E xs Xs):FrF K F F A σ H E xs Xs:=⟨Same.refl _,h.fh,h.tf,h.sl,h.nd,h.fr,h.len,h.pl⟩
def jE (lo:Int) (n:Nat):List PyData:=(List.range n).map fun (k:Nat)=> .int (lo+(k:Int))
def jg (g:j7):kI:=fun E=>(g E).bind fun a=>match az a.2 a.1 with
  | some [.int j]=>if -1000000≤j∧j≤1000000 then some (jE 0 j.toNat,a.2) else none
  | _=>none
def oo (f:b9):kI:=fun E=>(f E).bind fun a=>(frz a.2 a.1).bind fun b=>match b.1 with
  | .list ds=>some (ds.reverse,b.2)
  | _=>none
section
variable {X:Cx} {tg e e2:Expr} {m:Bool} {f:b9} {g:j7} {p pos:Pos} {K:PySem.W.Frag} {B:Hp}
theorem mP {t t':TI} (h:PI X tg e t) (k:∀σ H Q,t' σ H Q→t σ H Q):PI X tg e t':=fun pins s σ H R I q=>h pins s σ H R I (k σ H R q)
theorem rV {a:Addr} {vs:List V} {ds:List PyData} (h:SqL K B a vs) (r:RpA K B vs ds):on K B (y3 K a) ds:=fun {B' F A σ H E xs Xs} i sB fr=>by
  have hH:=fr.fh.seq (fr.bf.seq (sB.seq h))
  refine ⟨fun d ed=>?_,fun e=>⟨vs,hH,by rw [e,r.len];exact Nat.le_refl _⟩⟩
  obtain ⟨v,ev,rv⟩:=r.get ed
  refine ⟨⟨vs,v,hH,ev⟩,fun x H2 ⟨e2,y⟩=>?_⟩
  subst e2
  have:=y vs hH
  rw [ev] at this
  cases this
  exact ⟨F,A,fr.push ⟨rfl,_,rfl,rv.same (sB.trans fr.bf)⟩⟩
theorem uh {a:Addr} {vs:List V} {ds:List PyData} (h:SqL K B a vs) (r:RpA K B vs ds):on K B (BG K a vs) ds.reverse:=fun {B' F A σ H E xs Xs} i sB fr=>by
  have hH:=fr.fh.seq (fr.bf.seq (sB.seq h))
  refine ⟨fun d ed=>?_,fun e=>⟨hH,by rw [e,List.length_reverse,r.len]⟩⟩
  obtain ⟨v,ev,rv⟩:=r.rev.get ed
  have hi:i < vs.length:=by
    have:=(List.getElem?_eq_some_iff.mp ev).1
    simpa using this
  refine ⟨⟨hH,hi⟩,fun x H2 ⟨e2,y⟩=>?_⟩
  subst e2
  rw [ev] at y
  cases y
  exact ⟨F,A,fr.push ⟨rfl,_,rfl,rv.same (sB.trans fr.bf)⟩⟩
theorem pp {lo:Int} {n:Nat}:on K B (AI lo n) (jE lo n):=fun {B' F A σ H E xs Xs} i sB fr=>by
  have hl:(jE lo n).length=n:=by simp [jE]
  refine ⟨fun d ed=>?_,fun e=>?_⟩
  · have hi:i < n:=by have:=(List.getElem?_eq_some_iff.mp ed).1;omega
    refine ⟨hi,fun x H2 ⟨e2,y⟩=>?_⟩
    subst e2 y
    have:d= .int (lo+i):=by
      unfold jE at ed
      rw [List.getElem?_map,List.getElem?_range hi] at ed
      exact (Option.some.inj ed).symm
    subst this
    exact ⟨F,A,fr.push ⟨rfl,_,rfl, .int _⟩⟩
  · show n≤i
    omega
theorem uk (hg:Gl X "reversed") (hm:X.mg "reversed"=none) (he:EX X e m f) (hs:starEach [e] X.env=[(false,eval e X.env)]:=by rfl):IX X tg (.Call (.Name "reversed" p) [e] [] pos) m (oo f):=mP (yd hg hm (bZ he dO hs) hs) fun σ H R z=>by
  obtain ⟨B,E,xs,Xs,ds,E',fr,cl,e,q⟩:=z
  obtain ⟨⟨s,E1⟩,e1,e⟩:=Option.bind_eq_some_iff.mp e
  obtain ⟨⟨d,E2⟩,e2,e⟩:=Option.bind_eq_some_iff.mp e
  refine ⟨B,E,xs,Xs,s,E1,fr,cl,e1,fun v H1 ⟨F,A,fr1⟩=>?_⟩
  obtain ⟨F2,A2,fr2⟩:=fr1.frz0 e2
  simp only at e
  split at e
  · cases e
    obtain ⟨v',A1,ev,rfl,w,ew,r⟩:=fr2.ext (k:=0) rfl
    cases ev;cases ew
    cases r with
    | lst h1 h2=>
      obtain ⟨A3,fr3⟩:=fr2.pop
      exact ⟨_,_,rfl,fr2.fh.seq h1,q F2 _ _ fr2.bf ⟨F2,A3,fr3.raise⟩ (uh h1 h2)⟩
  · cases e
theorem lV (hg:Gl X "range") (hm:X.mg "range"=none) (ha:AX X [e] m g) (hs:starEach [e] X.env=[(false,eval e X.env)]:=by rfl):IX X tg (.Call (.Name "range" p) [e] [] pos) m (jg g):=mP (rA hg hm ha hs) fun σ H R z=>by
  obtain ⟨B,E,xs,Xs,ds,E',fr,cl,e,q⟩:=z
  obtain ⟨⟨rs,E1⟩,e1,e⟩:=Option.bind_eq_some_iff.mp e
  refine ⟨B,E,xs,Xs,rs,E1,fr,cl,e1,fun vs H1 hl ⟨F,A,fr1⟩=>?_⟩
  simp only at e
  split at e
  · rename_i j ld
    split at e
    · rename_i hj
      cases e
      obtain ⟨r,A',fr2⟩:=fr1.looks hl ld
      obtain ⟨v,rfl,r'⟩:=r.one
      cases r'
      exact ⟨j,rfl,by omega,by omega,q B _ _ (Same.refl _) ⟨F,A',fr2⟩ pp⟩
    · cases e
  · cases e
end
def eN (tg:ki) (body:bA):List PyData→bA
  | [],E=>some (E, .nx)
  | d::ds,E=>((tg d E).bind body).bind fun a=>match a.2 with
    | .nx=>eN tg body ds a.1
    | .ct=>eN tg body ds a.1
    | .bk=>some (a.1, .nx)
    | .rt r=>some (a.1, .rt r)
def kN (it:kI) (tg:ki) (body:bA):bA:=fun E=>(it E).bind fun a=>eN tg body a.1 a.2
theorem mQ {X:Cx} {tg iter:Expr} {body:List Stmt} {m:Bool} {it:kI} {g:ki} {b:bA} {pos:Pos} (hp:PassesOwn (model X.prog X.w) X.A X.env X.xe) (hc:X.calm=true) (hi:IX X tg iter m it) (hg:GX X tg g) (hb:sP X body b)
    (hs:∀x,foldedSetIterable iter X.env x=pure x:=by intro _;rfl):SX X (.For tg iter body [] pos) (kN it g b):=gh (xR hp hc hi hg hb hs) fun D σ H z=>by
  obtain ⟨B,E,xs,Xs,E',fl,fr,cl,e,q⟩:=z
  obtain ⟨⟨ds,E1⟩,e1,e⟩:=Option.bind_eq_some_iff.mp e
  refine ⟨B,E,xs,Xs,ds,E1,fr,fun _=>Calm.nil cl,e1,fun B' J H1 hB fr1 ok=>?_⟩
  refine ⟨fun i mm σ' H'=>mm=ds.length - i∧i≤ds.length∧∃Ei,eN g b (ds.drop i) Ei=some (E',fl)∧Frm X.K B' σ' H' Ei xs Xs,⟨ds.length,by simp,Nat.zero_le _,E1,by simpa using e,fr1⟩,?_⟩
  rintro i mm σ' H' ⟨rfl,hi,Ei,ei,F,A,fri⟩
  obtain ⟨go,stop⟩:=ok i (Same.refl _) fri
  by_cases hlt:i < ds.length
  · obtain ⟨d,ed⟩:∃d,ds[i]? =some d:=⟨ds[i],List.getElem?_eq_getElem hlt⟩
    obtain ⟨g1,yl⟩:=go d ed
    have edr:ds.drop i=d::ds.drop (i+1):=by
      rw [List.drop_eq_getElem_cons hlt]
      congr 1
      exact Option.some.inj ((List.getElem?_eq_getElem hlt).symm.trans ed)
    rw [edr] at ei
    obtain ⟨⟨E2,f2⟩,e2,ei⟩:=Option.bind_eq_some_iff.mp ei
    obtain ⟨E3,e3,e2⟩:=Option.bind_eq_some_iff.mp e2
    refine .inr ⟨g1,fun σ2 H2=>∃Ej,eN g b (ds.drop (i+1)) Ej=some (E',fl)∧Frm X.K B' σ2 H2 Ej xs Xs,fun σ2 H2 ⟨Ej,ej,frj⟩=>⟨ds.length - (i+1),by omega,rfl,hlt,Ej,ej,frj⟩,fun x H2 y=>?_⟩
    refine ⟨B',Ei,xs,Xs,d,E3,yl x H2 y,Still.nil cl,e3,fun σ3 H3 fr3=>?_⟩
    refine ⟨B',E3,xs,Xs,E2,f2,fr3,cl,e2,?_⟩
    cases f2 with
    | nx=>exact fun σ4 H4 fr4=>⟨E2,ei,fr4⟩
    | ct=>exact fun σ4 H4 fr4=>⟨E2,ei,fr4⟩
    | bk=>cases ei;exact fun σ4 H4 fr4=>q _ _ (fr4.base hB)
    | rt r=>cases ei;exact fun σ4 v H4 fr4=>q _ _ _ (fr4.base hB)
  · have e0:i=ds.length:=by omega
    refine .inl ⟨stop e0,?_⟩
    rw [e0,List.drop_length] at ei
    cases ei
    exact q _ _ (Frm.base ⟨F,A,fri⟩ hB)
def a7:Sl→Bool
  | .sh d=>aP d
  | .ow ds=>ba ds
  | .tx ps=>ps.all fun p=>match p with | .fl d=>aP d | .ol ds=>ba ds
  | .od kvs=>kvs.all fun p=>ba p.2
  | _=>false
def ax (n:Nat) (ds:List PyData):List Sl:=ds.map .sh++List.replicate (n - ds.length) .no
def bz (r:Sl):Option Sl:=if a7 r then some r else match r with
  | .sh d=>some (.br d)
  | .ow ds=>some (.br (.list ds))
  | .tx ps=>some (.br (.tuple (ps.map Pt.val)))
  | .br d=>some (if aP d then .sh d else .br d)
  | _=>none
def b7 (n:Nat) (g:bA):List PyData→Option Sl:=fun ds=>(g (ax n ds)).bind fun a=>match a.2 with
  | .rt r=>bz r
  | .nx=>some (.sh .none)
  | _=>none
section
variable {K:PySem.W.Frag} {B F:Hp} {A:List Addr} {σ:iO} {H:Hp} {E:List Sl} {v:V} {r:Sl}
theorem DlOk.cold {F H:Hp} (sF:Same F H):∀{us:List (eh×V)} {kvs:List (eh×List PyData)} {A:List Addr},(∀p∈kvs,ba p.2=true)→DlOk K F H us kvs A→DlOk K (tups H) H us kvs A
  | [],[],A,_,h=>h
  | p::us,q::kvs,A,c,h=>by
    obtain ⟨l,vs,A',rfl,rfl,hl,hr,k⟩:=h
    exact ⟨l,vs,A',rfl,rfl,hl,(hr.same sF).cold (c q (List.mem_cons_self ..)),DlOk.cold sF (fun p hp=>c p (List.mem_cons_of_mem _ hp)) k⟩
  | [],_::_,_,_,h=>False.elim h
  | _::_,[],_,_,h=>False.elim h
theorem PtsOk.cold {F H G:Hp} (sF:Same F H) (tG:∀{v:V} {d:PyData},Rp K F v d→aP d=true→Rp K G v d):∀{vs:List V} {ps:List Pt} {A:List Addr},(∀p∈ps,(match p with | .fl d=>aP d | .ol ds=>ba ds)=true)→PtsOk K F H vs ps A→PtsOk K G H vs ps A
  | [],[],A,_,h=>h
  | v::vs, .fl d::ps,A,c,h=>⟨tG h.1 (c (.fl d) (List.mem_cons_self ..)),PtsOk.cold sF tG (fun p hp=>c p (List.mem_cons_of_mem _ hp)) h.2⟩
  | v::vs, .ol ds::ps,A,c,h=>by
    obtain ⟨l,us,A',rfl,rfl,hl,hr,q⟩:=h
    refine ⟨l,us,A',rfl,rfl,hl,?_,q.cold sF tG fun p hp=>c p (List.mem_cons_of_mem _ hp)⟩
    have cd:ba ds=true:=c (.ol ds) (List.mem_cons_self ..)
    have key:∀{us:List V} {ds:List PyData},RpA K F us ds→ba ds=true→RpA K G us ds:=fun {us ds} r c=>by
      induction us generalizing ds with
      | nil=>cases r;exact .nil
      | cons u us ih=>
        cases r with
        | cons r1 r2=>
          simp only [ba,Bool.and_eq_true] at c
          exact .cons (tG r1 c.1) (ih r2 c.2)
    exact key hr cd
  | [],_::_,_,_,h=>False.elim h
  | _::_,[],_,_,h=>False.elim h
theorem FrF.result (h:FrF K B F A σ H E [v] [r]) (c:a7 r=true):Same B H∧ResOk K B H v r:=by
  refine ⟨h.bf.trans h.fh,?_⟩
  have nB:∀a,F a=none→B a=none:=fun a e=>h.bf.free e
  have cold:∀{v:V} {d:PyData},Rp K F v d→aP d=true→Rp K (tups H) v d:=fun r f=>(r.same h.fh).cold f
  obtain ⟨v',A1,ev,hs⟩:=h.ext (k:=0) rfl
  cases ev
  obtain ⟨o,C0,C1,C2,eA,eo,hp,_⟩:=h.sl.at (k:=0) (s:=r) rfl
  cases eo
  have sub:∀a∈C1,F a=none:=fun a ha=>h.fr a (by rw [eA];simp [ha])
  have nd:C1.Nodup:=by
    have:=h.nd
    rw [eA] at this
    exact (List.nodup_append.mp (List.nodup_append.mp this).2.1).1
  cases r with
  | sh d=>obtain ⟨_,w,ew,r⟩:=hp;cases ew;exact cold r c
  | ow ds=>
    obtain ⟨l,vs,el,rfl,hl,r⟩:=hp
    cases el
    exact ⟨l,vs,rfl,nB l (sub l (by simp)),hl,(r.same h.fh).cold c⟩
  | tx ps=>
    obtain ⟨t,vs,et,ht,r⟩:=hp
    cases et
    exact ⟨t,vs,C1,rfl,eW (h.fh _ _ ht) rfl,nd,fun a ha=>nB a (sub a ha),r.cold h.fh cold (by simpa [a7,List.all_eq_true] using c)⟩
  | no=>cases c
  | io l zs=>cases c
  | od kvs=>
    obtain ⟨l,us,A',el,rfl,hl,r⟩:=hp
    cases el
    exact ⟨l,us,A',rfl,nd,fun a ha=>nB a (sub a ha),hl,r.cold h.fh (by simpa [a7,List.all_eq_true] using c)⟩
  | al i=>cases c
  | br d=>cases c
theorem FrF.resultO {r':Sl} (h:FrF K B F A σ H E [v] [r]) (c:bz r=some r'):Same B H∧ResOk K B H v r':=by
  unfold bz at c
  split at c
  · rename_i hc
    cases c
    exact h.result hc
  · refine ⟨h.bf.trans h.fh,?_⟩
    cases r with
    | sh d=>cases c;exact (h.look0 (d:=d) rfl).1
    | ow ds=>cases c;exact (h.look0 (d:= .list ds) rfl).1
    | tx ps=>cases c;exact (h.look0 (d:= .tuple (ps.map Pt.val)) rfl).1
    | br d=>
      have r:=(h.look0 (d:=d) rfl).1
      simp only at c
      split at c
      · rename_i hf
        cases c
        exact r.cold hf
      · cases c
        exact r
    | no=>cases c
    | io l zs=>cases c
    | od kvs=>cases c
    | al i=>cases c
theorem mR {N:List Str} {vs:List V} {ds:List PyData} (r:RpA K H vs ds) (hn:ds.length≤N.length):FrF K H H [] (L2.cD N vs) H (ax N.length ds) [] []:=by
  refine ⟨Same.refl _,Same.refl _,gr H,?_,List.nodup_nil,fun a ha=>(by cases ha),rfl,?_⟩
  · have l:=r.len
    unfold L2.cD ax
    rw [l]
    generalize N.length - ds.length=k
    have base:∀τ:iO,SAll (SlOk K H H τ) (List.replicate k none) (List.replicate k .no) []:=fun τ=>by
      induction k with
      | zero=>exact .nil
      | succ k ih=>exact .cons (A:=[]) rfl ih
    have key:∀(τ:iO) {us:List V} {es:List PyData},RpA K H us es→SAll (SlOk K H H τ) (us.map some++List.replicate k none) (es.map .sh++List.replicate k .no) []:=fun τ us es r=>by
      induction us generalizing es with
      | nil=>cases r;exact base τ
      | cons u us ih=>
        cases r with
        | cons r1 r2=>exact .cons (A:=[]) ⟨rfl,_,rfl,r1⟩ (ih _ r2)
    exact key _ r
  · intro s hs
    unfold ax at hs
    rcases List.mem_append.mp hs with hs | hs
    · obtain ⟨d,_,rfl⟩:=List.mem_map.mp hs
      rfl
    · rw [(List.mem_replicate.mp hs).2]
      rfl
end
def cj (k n:Nat) (g:bA):List PyData→Option Sl:=fun ds=>if ds.length=k then b7 n g ds else none
theorem gl {P:Program} {w:World} {K:PySem.W.Frag} {mg:Str→Option Value} {base:Heap} {x:Str} {st:Stmt} {N ps:List Str} {k a n:Nat} {g:bA} (D:Def K mg x st ps) (S:FnScope N ps (aj st)) (hpa:ps.length=a) (hNn:N.length=n) (hps:a≤n)
    (hbody:∀(f:Addr) (cdv:Value) (A:Around) (outer:List Env) (s:Shared) (H:Hp) (E:XK),Room k (A.deeper (PyProof.Rows.envOfC x (aj st) s.heap.objs.size f cdv))→
      sP (jZ ir P w K mg base N x (aj st) f cdv A outer s H E).nox (bL st) g):Own P w K mg base (k+1) x ps (cy K (cj a n g)):=by
  subst hpa hNn
  refine D.own S (fun vs H Q E h=>?_) (fun f cdv A outer s H vs Q E hr h=>?_)
  · obtain ⟨ds,r,e,rp,_⟩:=h
    unfold cj at e
    split at e
    · rename_i hl
      rw [rp.len];exact hl
    · cases e
  obtain ⟨ds,r,e,rp,q⟩:=h
  unfold cj at e
  split at e
  · rename_i hl
    refine ⟨_,hbody f cdv A outer s H E hr,?_⟩
    obtain ⟨⟨E',fl⟩,e1,e⟩:=Option.bind_eq_some_iff.mp e
    refine ⟨H,ax N.length ds,[],[],E',fl,⟨H,[],mR rp (by omega)⟩,rfl,e1,?_⟩
    cases fl with
    | nx=>
      cases e
      rintro σ' H' ⟨F',A',fr'⟩
      exact q _ _ (fr'.bf.trans fr'.fh) .non
    | bk=>cases e
    | ct=>cases e
    | rt r'=>
      rintro σ' v H' ⟨F',A',fr'⟩
      obtain ⟨s1,s2⟩:=fr'.resultO e
      exact q v H' s1 s2
  · cases e
theorem CD {P:Program} {w:World} {K:PySem.W.Frag} {mg:Str→Option Value} {base:Heap} {x:Str} {st:Stmt} {N ps:List Str} {k a n:Nat} {g:bA} {f0:Addr} {fd:FuncData} (D:Fun K x x st f0 fd) (S:FnScope N ps (aj st)) (hpa:ps.length=a) (hNn:N.length=n) (hps:a≤n)
    (hbody:∀(cdv:Value) (A:Around) (outer:List Env) (s:Shared) (H:Hp) (E:XK),Room k (A.deeper (PyProof.Rows.envOfC x (aj st) s.heap.objs.size f0 cdv))→
      sP (jZ ir P w K mg base N x (aj st) f0 cdv A outer s H E).nox (bL st) g):FnOk P w K mg base ir (k+1) f0 fd ps (cy K (cj a n g)):=by
  subst hpa hNn
  refine D.ok S (fun vs H Q E h=>?_) (fun cdv A outer s H vs Q E hr h=>?_)
  · obtain ⟨ds,r,e,rp,_⟩:=h
    unfold cj at e
    split at e
    · rename_i hl
      rw [rp.len];exact hl
    · cases e
  obtain ⟨ds,r,e,rp,q⟩:=h
  unfold cj at e
  split at e
  · rename_i hl
    refine ⟨_,hbody cdv A outer s H E hr,?_⟩
    obtain ⟨⟨E',fl⟩,e1,e⟩:=Option.bind_eq_some_iff.mp e
    refine ⟨H,ax N.length ds,[],[],E',fl,⟨H,[],mR rp (by omega)⟩,rfl,e1,?_⟩
    cases fl with
    | nx=>
      cases e
      rintro σ' H' ⟨F',A',fr'⟩
      exact q _ _ (fr'.bf.trans fr'.fh) .non
    | bk=>cases e
    | ct=>cases e
    | rt r'=>
      rintro σ' v H' ⟨F',A',fr'⟩
      obtain ⟨s1,s2⟩:=fr'.resultO e
      exact q v H' s1 s2
  · cases e
theorem lW {K:PySem.W.Frag} {H:Hp}:∀ns:List Int,RpA K H (ns.map V.int) (ns.map PyData.int)
  | []=> .nil
  | n::ns=> .cons (.int n) (lW ns)
theorem yt {K:PySem.W.Frag} {H:Hp} {a:Addr} {ns:List Int} {c:List PyData→Option Sl} (e:c [.list (ns.map .int)]=some (.sh (.bool true))) (h:SqL K H a (ns.map V.int)):cy K c [.ref a] H (fun v _=>v= .bl true) fun _ _ _=>False:=
  ⟨_,_,e, .cons (.lst h (lW ns)) .nil,fun v H' _ r=>by
    have r':Rp K (tups H') v (.bool true):=r
    cases r'
    rfl⟩
end PL
namespace PL
open PySem L2 Nh
def oq (E:List Sl):Option Nat→Sl
  | none=> .no
  | some j=>match (E[j]?).bind Sl.val with
    | some d=> .sh d
    | none=> .no
def iJ (js:List (Option Nat)) (E:List Sl):List Sl:=js.map (oq E)
def iz:iR:=fun E=>some (true,E)
def gW (tg:ki) (cond:iR) (elt:b9):List PyData→List Sl→Option (List PyData)
  | [],_=>some []
  | d::ds,E=>(tg d E).bind fun E1=>(cond E1).bind fun b=>if b.1 then (elt b.2).bind fun c=>(frz c.2 c.1).bind fun e=>(gW tg cond elt ds e.2).map fun r=>e.1::r else gW tg cond elt ds b.2
def jw (js:List (Option Nat)) (it:kI) (tg:ki) (cond:iR) (elt:b9):b9:=fun E=>(it E).bind fun a=>(gW tg cond elt a.1 (iJ js a.2)).bind fun ds=>if ba ds&&decide (ds.length≤1000000) then some (.ow ds,a.2) else none
section
variable {X:Cx} {elt target iter:Expr} {ifs:List Expr} {scope sc:Scope} {cl:List (Str×Addr)} {N:List Str} {pos:Pos} {js:List (Option Nat)} {K:PySem.W.Frag}
theorem um {B F:Hp} {A:List Addr} {σ:iO} {H:Hp} {E:List Sl} {xs:List V} {Xs:List Sl} (fr:FrF K B F A σ H E xs Xs) (js:List (Option Nat)):FrF K H H [] (slots js σ) H (iJ js E) [] []:=by
  refine ⟨Same.refl _,Same.refl _,gr H,?_,List.nodup_nil,fun a ha=>(by cases ha),rfl,fun s hs=>?_⟩
  · have key:∀(τ:iO) (ks:List (Option Nat)),SAll (SlOk K H H τ) (slots ks σ) (iJ ks E) []:=fun τ ks=>by
      induction ks with
      | nil=>exact .nil
      | cons j ks ih=>
        refine .cons (A:=[]) ?_ ih
        cases j with
        | none=>exact rfl
        | some j=>
          show SlOk K H H τ _ (match (E[j]?).bind Sl.val with | some d=> .sh d | none=> .no) []
          cases ej:E[j]? with
          | none=>exact rfl
          | some s=>
            cases ev:s.val with
            | none=>simp only [Option.bind_some,ev];exact rfl
            | some d=>
              simp only [Option.bind_some,ev]
              obtain ⟨o,A1,eo,hs⟩:=fr.var ej
              obtain ⟨v,rfl,r,_⟩:=hs.val fr.fh ev
              refine ⟨rfl,v,?_,r⟩
              show (σ[j]?).join=some v
              rw [eo]
              rfl
    exact key _ js
  · obtain ⟨j,_,rfl⟩:=List.mem_map.mp hs
    cases j with
    | none=>rfl
    | some j=>
      simp only [oq]
      split <;> rfl
theorem rW {m2 m3:Bool} {tg:ki} {cond:iR} {el:b9} {tt:TT} (htt:∀σ H Q,rt K m2 cond σ H Q→tt σ H Q) {B B' F:Hp} {A:List Addr} {σ:iO} {H1:Hp} {E1:List Sl} {xs:List V} {Xs:List Sl} {ds rs:List PyData} {J:It} {Q:VK}
    (fr1:FrF K B F A σ H1 E1 xs Xs) (B2:Same B' H1) (ok:on K B' J ds) (e2:gW tg cond el ds (iJ js E1)=some rs) (hc:ba rs=true∧rs.length≤1000000) (q:∀v H',Frm K B σ H' E1 (v::xs) (.ow rs::Xs)→Q v H') (l:Addr) (hl:H1 l=none):
    ∃W:Nat→Nat→iO→Hp→Prop,(∃m,W 0 m (slots js σ) (upd H1 l (.lst [])))∧
  ∀i m σ' H',W i m σ' H'→(J.stop i H'∧Q (.ref l) H')∨(J.go i H'∧∃N:iO→Hp→Prop,(∀σ' H',N σ' H'→∃m',m' < m∧W (i+1) m' σ' H')∧∀x H2,J.yld i H' x H2→rg K tg x σ' H2 fun σ3 H3=>tt σ3 H3 fun b H4=>
    if b=true then rd K m3 el σ3 H4 fun y H5=>∃ys,H5 l=some (.lst ys)∧ys.length < sizeLine∧N σ3 (upd H5 l (.lst (ys++[y]))) else N σ3 H4):=by
  have fr0:=(um fr1 js).newl (ds:=[]) .nil hl
  refine ⟨fun i mm σ' H'=>mm=ds.length - i∧i≤ds.length∧∃Ei acc cz,gW tg cond el (ds.drop i) Ei=some cz∧rs=acc++cz∧Frm K H1 σ' H' Ei [.ref l] [.ow acc],⟨ds.length,by simp,Nat.zero_le _,_,[],rs,by simpa using e2,rfl,⟨_,_,fr0⟩⟩,?_⟩
  rintro i mm σ' H' ⟨rfl,hi,Ei,acc,cz,ei,er,F',A',fri⟩
  obtain ⟨go,stop⟩:=ok i B2 fri
  by_cases hlt:i < ds.length
  · obtain ⟨d,ed⟩:∃d,ds[i]? =some d:=⟨ds[i],List.getElem?_eq_getElem hlt⟩
    obtain ⟨g1,yl⟩:=go d ed
    have edr:ds.drop i=d::ds.drop (i+1):=by
      rw [List.drop_eq_getElem_cons hlt]
      congr 1
      exact Option.some.inj ((List.getElem?_eq_getElem hlt).symm.trans ed)
    rw [edr] at ei
    obtain ⟨E3,e3,ei⟩:=Option.bind_eq_some_iff.mp ei
    obtain ⟨⟨b,E4⟩,e4,ei⟩:=Option.bind_eq_some_iff.mp ei
    refine .inr ⟨g1,fun σ2 H2=>∃Ej acc cz,gW tg cond el (ds.drop (i+1)) Ej=some cz∧rs=acc++cz∧Frm K H1 σ2 H2 Ej [.ref l] [.ow acc],fun σ2 H2 ⟨Ej,ac,rt,ej,er,frj⟩=>⟨ds.length - (i+1),by omega,rfl,hlt,Ej,ac,rt,ej,er,frj⟩,fun x H2 y=>?_⟩
    have clm:Calm [Sl.ow acc]:=Calm.cons (fun s hs=>absurd hs (by simp)) rfl
    refine ⟨H1,Ei,[.ref l],[.ow acc],d,E3,yl x H2 y,(fun s hs=>by rw [List.mem_singleton.mp hs];rfl),e3,fun σ3 H3 fr3=>htt _ _ _ ?_⟩
    refine ⟨H1,E3,[.ref l],[.ow acc],b,E4,fr3,fun _=>clm,e4,fun H4 fr4=>?_⟩
    cases b with
    | false=>
      rw [if_neg (by decide)]
      exact ⟨E4,acc,cz,ei,er,fr4⟩
    | true=>
      rw [if_pos rfl]
      obtain ⟨⟨s5,E5⟩,e5,ei⟩:=Option.bind_eq_some_iff.mp ei
      obtain ⟨⟨d6,E6⟩,e6,ei⟩:=Option.bind_eq_some_iff.mp ei
      obtain ⟨rest',e7,ei⟩:=Option.map_eq_some_iff.mp ei
      subst ei
      refine ⟨H1,E4,[.ref l],[.ow acc],s5,E5,fr4,fun _=>clm,e5,fun y5 H5 ⟨F5,A5,fr5⟩=>?_⟩
      obtain ⟨F6,A6,fr6⟩:=fr5.frz0 e6
      obtain ⟨v',C1,ev,rfl,w,ew,ry⟩:=fr6.ext (k:=0) rfl
      cases ev;cases ew
      obtain ⟨A7,fr7⟩:=fr6.pop
      -- the list under way is the one part that owns
      obtain ⟨bf,fh,tf,sl,nd,frn,len,pl⟩:=fr7
      generalize hT:List.map some [V.ref l]++σ3=T at sl
      generalize hS:[Sl.ow acc]++E6=S at sl
      cases sl with
      | nil=>cases hS
      | cons q0 r0=>
        injection hT with h1 hT
        injection hS with h2 hS
        subst h1 h2 hT hS
        obtain ⟨l',us,el,rfl,hl5,ru⟩:=q0
        cases el
        have lu:=ru.len
        refine ⟨us,hl5,qE (by rw [er] at hc;simp at hc;omega),E6,acc++[d6],rest',e7,by rw [er];simp,F6,_,bf,fun b o qb=>?_,?_, .cons (A:=[l]) ⟨l,us++[y5],rfl,rfl,aJ,ru.snoc ry⟩ (r0.mono fun o s C hs hC qq=>qq.stay (Same.refl _) (fun b hb=>ay fun z=>?_) fun z=>?_),nd,frn,rfl,pl⟩
        · have lF:F6 l=none:=frn l (by simp)
          rw [ay (fun z=>by rw [z,lF] at qb;cases qb)]
          exact fh _ _ qb
        · rw [j5 hl5];exact tf
        · have:=hC b hb
          rw [z] at this
          exact (List.nodup_cons.mp nd).1 this
        · have:=pl s hs
          cases s <;> simp [Sl.isAl,Sl.isBr] at this z
  · have e0:i=ds.length:=by omega
    refine .inl ⟨stop e0,?_⟩
    rw [e0,List.drop_length] at ei
    cases ei
    rw [List.append_nil] at er
    subst er
    obtain ⟨g1,g2⟩:=fri.result hc.1
    exact q _ _ (fr1.told g1 g2)
theorem v9 {m m2 m3:Bool} {it:kI} {tg:ki} {cond:iR} {el:b9} {tt:TT} (htt:∀σ H Q,rt K m2 cond σ H Q→tt σ H Q) {σ:iO} {H:Hp} {Q:VK} (z:rd K m (jw js it tg cond el) σ H Q):qy js (ri K m it) (rg K tg) tt (rd K m3 el) σ H Q:=by
  obtain ⟨B,E,xs,Xs,res,E',fr,cl,e,q⟩:=z
  obtain ⟨⟨ds,E1⟩,e1,e⟩:=Option.bind_eq_some_iff.mp e
  obtain ⟨rs,e2,e⟩:=Option.bind_eq_some_iff.mp e
  simp only at e
  split at e
  · rename_i hc
    cases e
    simp only [Bool.and_eq_true,decide_eq_true_eq] at hc
    exact ⟨B,E,xs,Xs,ds,_,fr,cl,e1,fun B' J H1 hB ⟨F,A,fr1⟩ ok l hl=>rW htt (fr1.base hB) (fr1.bf.trans fr1.fh) ok e2 hc q l hl⟩
  · cases e
theorem kj {m m3:Bool} {it:kI} {tg:ki} {el:b9} (C:CompOk X scope sc cl N js) (hc:X.calm=true) (hi:IX X target iter m it) (hg:∀C s₀ H₀ fp,GX (X.comp sc cl N C s₀ H₀ fp) target tg) (he:∀C s₀ H₀ fp,EX (X.comp sc cl N C s₀ H₀ fp) elt m3 el)
    (hs:∀x,foldedSetIterable iter X.env x=pure x:=by intro _;rfl):EX X (.ListComp elt [⟨target,iter,[],0⟩] scope pos) m (jw js it tg iz el):=
  bw (qz (g:=rg X.K tg) (te:=rd X.K m3 el) C hc hi hg (fun _ _ _ _=>qx) he hs) fun σ H Q z=>v9 (m2:=false) (fun σ H Q z=>by
    obtain ⟨B,E,xs,Xs,b,E',fr,cl,e,q⟩:=z
    cases e
    exact q _ fr) z
end
end PL
namespace PL
open PySem L2 Nh
section
variable {X:Cx} {elt target iter:Expr} {ifs:List Expr} {scope sc:Scope} {cl:List (Str×Addr)} {N:List Str} {pos:Pos} {js:List (Option Nat)} {K:PySem.W.Frag}
theorem SAll.split {P:Option V→Sl→List Addr→Prop}:∀{os os':List (Option V)} {ss ss':List Sl} {A:List Addr},os.length=ss.length→SAll P (os++os') (ss++ss') A→∃A1 A2,A=A1++A2∧SAll P os ss A1∧SAll P os' ss' A2
  | [],_,[],_,A,_,h=>⟨[],A,rfl, .nil,h⟩
  | o::os,_,s::ss,_,_,l, .cons h r=>by
    obtain ⟨A1,A2,rfl,h1,h2⟩:=SAll.split (os:=os) (ss:=ss) (by simpa using l) r
    exact ⟨_,A2,by rw [List.append_assoc], .cons h h1,h2⟩
  | [],_,_::_,_,_,l,_=>by simp at l
  | _::_,_,[],_,_,l,_=>by simp at l
end
end PL
namespace PL
open PySem L2 Nh
theorem cp {α:Type} (xs:List α) (k:Nat):atI xs (k:Int)=xs[k]? :=by
  unfold atI vL
  rw [if_pos (by omega)]
  split
  · simp
  · rw [List.getElem?_eq_none (by omega)];rfl
theorem iA {α:Type} (a:α) (l:List α):atI (a::l) 0=some a:=cp (a::l) 0
theorem iB {α:Type} (a b:α) (l:List α):atI (a::b::l) 1=some b:=cp (a::b::l) 1
theorem qK {α:Type} (a b c:α) (l:List α):atI (a::b::c::l) 2=some c:=cp (a::b::c::l) 2
theorem lX:∀{a:List PyData},(∀d∈a,aP d=true)→ba a=true
  | [],_=>rfl
  | x::a,h=>by simp [ba,h x (List.mem_cons_self ..),lX fun d hd=>h d (List.mem_cons_of_mem _ hd)]
theorem lY {α:Type} {f:α→PyData} (h:∀a,aP (f a)=true) (l:List α):ba (l.map f)=true:=lX fun d hd=>by
  obtain ⟨a,_,rfl⟩:=List.mem_map.mp hd
  exact h a
theorem v_ (p:Pc):aP (bn p)=true:=rfl
theorem bC (c:List Pc):ba (c.map bn)=true:=lY v_ c
theorem rX (l:List Str):ba (l.map PyData.str)=true:=lY (fun _=>rfl) l
def cutL {α:Type} (l:List α) (lo hi:Option Int):List α:=(l.drop (HT.j0 l.length 0 lo)).take (HT.j0 l.length l.length hi - HT.j0 l.length 0 lo)
theorem uo {α:Type} (f:α→PyData) (l:List α) (lo hi:Option Int):rQ (l.map f) lo hi=(cutL l lo hi).map f:=by
  unfold rQ cutL
  rw [List.length_map,List.map_take,List.map_drop]
theorem rY {α:Type} (l:List α) {m:Int} (h:0≤m):((cutL l none (some m)).length:Int)≤m:=by
  unfold cutL
  have e:m=((m.toNat:Nat):Int):=by omega
  have z:HT.j0 l.length l.length (some m)≤m.toNat:=by
    rw [e,HT.vH,Int.toNat_natCast]
    exact Nat.min_le_left _ _
  rw [List.length_take,List.length_drop]
  omega
theorem ot {α:Type} {l:List α} {lo hi:Option Int} {x:α} (h:x∈cutL l lo hi):x∈l:=List.mem_of_mem_drop (List.mem_of_mem_take h)
theorem jN {α β:Type} (f:α→β) (k:Nat) (l:List α):(List.replicate k (l.map f)).flatten=((List.replicate k l).flatten).map f:=by
  induction k with
  | zero=>rfl
  | succ k ih=>rw [List.replicate_succ,List.replicate_succ,List.flatten_cons,List.flatten_cons,List.map_append,ih]
theorem jh (lo:Int) (n:Nat):jE lo (n+1)= .int lo::jE (lo+1) n:=by
  unfold jE
  rw [List.range_succ_eq_map,List.map_cons,List.map_map]
  simp only [Int.natCast_zero,Int.add_zero]
  congr 1
  refine List.map_congr_left fun k _=>?_
  show PyData.int (lo+((k+1:Nat):Int))=PyData.int (lo+1+(k:Int))
  congr 1
  omega
end PL
namespace L2
open PySem PySem.Spec PyProof.Rows
section
variable {X:Cx} {pins:List (Addr×Obj)} {σ:L2.St} {H:Hp} {s:Shared} {h':Heap}
theorem Inv.turnedL {t':Nat} {fp:List Addr} (I:Inv X pins σ H s) (k:∀b o,b∉fp→s.heap.get? b=some o→h'.get? b=some o) (hf:∀b∈fp,kK X pins H b):Inv X pins σ H {s with heap:=h',toks:=t'}:=by
  have nit:∀b u,H b=some u→b∉fp:=fun b u e z=>by rw [(hf b z).1] at e;cases e
  refine I.step (g':=s.gens) (d':=s.drawn) (ch:=fp) (fun b hb=>?_) (fun b o _ _ hc e _=>k b o hc e) (fun b o _ _ hc e _=>⟨o.slots,k b o hc e⟩) (fun _ _ _ _ n=>n)
    (fun b o hc e=>⟨o,k b o hc e⟩) (fun _ _ e=>e) (fun _ _ _ e=>e) (fun _ _ e=>e) (fun m hm=>?_) (fun b u e=>?_) I.bare
  · obtain ⟨f0,f1,f2,f3,f4,f5⟩:=hf b hb
    exact ⟨f3,f1,f4,f5⟩
  · obtain ⟨o,es,ep,ho,r⟩:=hm
    exact ⟨o,es,ep,k _ o (fun z=>(hf _ z).2.1 rfl) ho,r⟩
  · refine (I.hok b u e).stay (fun c v hc q=>k c v ?_ q) (fun _ q=>q) fun _ _ q=>q
    rcases hc with z | z
    · rw [z];exact nit b u e
    · exact nit c _ z
theorem pq {h:Heap} {o o':Obj} {c:Addr} (hc:c≠h.objs.size) (e:(h.push o').get? c=some o):h.get? c=some o:=(Heap.get?_push_cases e).elim (fun z=>absurd z.1 hc) id
theorem up {t':Nat} {us:List Value} {vs:List V} (I:Inv X pins σ H s) (r:Vals vs us) (hz:vs.length≤sizeLine):
    Inv X pins σ (upd H s.heap.objs.size (.tup vs)) {s with heap:=s.heap.push {cls:= .type "tuple",data:= .seq us.toArray},toks:=t'}:=
  I.laid (fun b u e=>Heap.get?_push_of_some _ e) (Nat.le_refl _) ⟨hz,us,r,⟨_,Heap.get?_push_size _ rfl,rfl,_,rfl⟩⟩
end
def BO (K:PySem.W.Frag) (a b:Addr) (xs ys:List V):It:=
  ⟨fun i H=>SqL K H a xs∧SqL K H b ys∧i < xs.length∧i < ys.length,fun i H x H'=>∃T u v,H T=none∧xs[i]? =some u∧ys[i]? =some v∧x= .ref T∧H'=upd H T (.tup [u,v]),
   fun i H=>SqL K H a xs∧SqL K H b ys∧i=min xs.length ys.length⟩
theorem uq {P:Program} {w:World} {K:PySem.W.Frag} {rZ:List Expr} {k:Nat} {pos:Pos} {z TI TO i1 i2 a b:Addr} (D:ZipApart z TI TO i1 i2 a b) (xs ys:List V):Turn P w K (.Tuple rZ k pos) (BO K a b xs ys) [z,TI,TO,i1,i2] z
    (fun i h=>IsZip h z TI TO .none∧IsPair h TI (.ref i1) (.ref i2)∧(∃a b,IsPair h TO a b)∧h.IsListIter i1 a i∧h.IsListIter i2 b i) where
  mem:=by simp
  obj:=fun i h st c hc=>by
    obtain ⟨h1,h2,⟨x,y,h3⟩,⟨o4,h4,_,d4⟩,⟨o5,h5,_,d5⟩⟩:=st
    simp only [List.mem_cons,List.not_mem_nil,or_false] at hc
    rcases hc with rfl | rfl | rfl | rfl | rfl
    · exact ⟨_,h1,fun v z=>by cases z⟩
    · exact ⟨_,h2,fun v z=>by cases z⟩
    · exact ⟨_,h3,fun v z=>by cases z⟩
    · exact ⟨_,h4,fun v z=>by rw [d4] at z;cases z⟩
    · exact ⟨_,h5,fun v z=>by rw [d5] at z;cases z⟩
  keep:=fun i h h' st kk=>by
    obtain ⟨h1,h2,⟨x,y,h3⟩,h4,h5⟩:=st
    exact ⟨kk z (by simp) _ h1,kk TI (by simp) _ h2,⟨x,y,kk TO (by simp) _ h3⟩,h4.at fun o e=>kk i1 (by simp) o e,h5.at fun o e=>kk i2 (by simp) o e⟩
  item:=by
    intro X hP hw hK hc i pins s σ H E I hf st hg
    subst hP hw hK
    obtain ⟨h1,h2,⟨x,y,h3⟩,h4,h5⟩:=st
    obtain ⟨q1,q2,l1,l2⟩:=hg
    obtain ⟨its,rv,p,hz⟩:=I.list q1
    obtain ⟨its2,rv2,p2,hz2⟩:=I.list q2
    obtain ⟨u,hu⟩:∃u,xs[i]? =some u:=⟨xs[i],List.getElem?_eq_getElem l1⟩
    obtain ⟨v,hv⟩:∃v,ys[i]? =some v:=⟨ys[i],List.getElem?_eq_getElem l2⟩
    obtain ⟨u',hu',ru⟩:=rv.get hu
    obtain ⟨v',hv',rv'⟩:=rv2.get hv
    refine wpAny_pyNext_zip_item D h1 h2 h3 h4 h5 p.isList p2.isList (by simpa using hu') (by simpa using hv') fun h' a1 a2 a3 a4 a5 a6 hk=>?_
    have I0:=up (t':=s.toks) I (us:=[u',v']) (vs:=[u,v]) (.cons ru (.cons rv' .nil)) (by show 2≤sizeLine;decide)
    have hT:∀c∈[z,TI,TO,i1,i2],c≠s.heap.objs.size:=fun c hc ZE=>by
      have:c < s.heap.objs.size:=by
        simp only [List.mem_cons,List.not_mem_nil,or_false] at hc
        rcases hc with rfl | rfl | rfl | rfl | rfl
        · exact Heap.lt_size h1
        · exact Heap.lt_size h2
        · exact Heap.lt_size h3
        · obtain ⟨o,q,_⟩:=h4;exact Heap.lt_size q
        · obtain ⟨o,q,_⟩:=h5;exact Heap.lt_size q
      rw [ZE] at this;exact Nat.lt_irrefl _ this
    have hf2:∀c∈[z,TI,TO,i1,i2],kK X pins (upd H s.heap.objs.size (.tup [u,v])) c:=fun c hc=>by
      obtain ⟨f0,f⟩:=hf c hc
      exact ⟨by rw [ay (hT c hc)];exact f0,f⟩
    have I1:=I0.turnedL (h':=h') (t':=s.toks) (fp:=[z,TI,TO,i1,i2]) (fun c o hc e=>by
      simp only [List.mem_cons,List.not_mem_nil,or_false,not_or] at hc
      by_cases ec:c=s.heap.objs.size
      · subst ec
        rw [Heap.get?_push_size _ rfl] at e
        cases e
        exact a5
      · have e':s.heap.get? c=some o:=by
          exact pq ec e
        exact hk c o hc.1 hc.2.2.1 hc.2.2.2.1 hc.2.2.2.2 e') hf2
    refine ⟨_,rfl,wpAny_letOwnedTupleGo_zip (s:={s with heap:=h'}) a1 fun h'' z'' s''=>?_⟩
    have I2:=I1.turnedL (h':=h'') (t':=s.toks) (fp:=[z,TI,TO,i1,i2]) (fun c o hc e=>(s''.2 c fun e'=>hc (by simp [e'])).trans e) hf2
    refine ⟨.ref s.heap.objs.size,_,I2,rfl,⟨_,u,v,I.hok.fresh (Nat.le_refl _),hu,hv,rfl,rfl⟩,⟨z'',?_,⟨_,_,s''.extBut _ _ D.TOz a2⟩,a3.extBut s''.extBut D.i1z,a4.extBut s''.extBut D.i2z⟩,fun c hc=>(hf2 c hc).1⟩
    exact s''.extBut _ _ D.TIz (hk _ _ D.TIz D.TITO D.TIi1 D.TIi2 h2)
  done:=by
    intro X hP hw hK hc i pins s σ H E I hf st hg
    subst hP hw hK
    obtain ⟨h1,h2,⟨x,y,h3⟩,h4,h5⟩:=st
    obtain ⟨q1,q2,hi⟩:=hg
    obtain ⟨its,rv,p,hz⟩:=I.list q1
    obtain ⟨its2,rv2,p2,hz2⟩:=I.list q2
    have n1:=rv.length
    have n2:=rv2.length
    refine wpAny_pyNext_zip_end (I.ok.hd hc) D h1 h2 h3 h4 h5 p.isList p2.isList ?_ fun h' hk=>⟨rfl,I.turnedL (t':=s.toks) (fp:=[z,TI,TO,i1,i2]) (fun c o hc e=>?_) hf⟩
    · rcases Nat.le_total xs.length ys.length with h | h
      · exact .inl (Array.getElem?_eq_none (by rw [List.size_toArray];omega))
      · exact .inr (Array.getElem?_eq_none (by rw [List.size_toArray];omega))
    · simp only [List.mem_cons,List.not_mem_nil,or_false,not_or] at hc
      exact hk c o hc.1 hc.2.2.1 hc.2.2.2.1 hc.2.2.2.2 e
  self:=fun _ _ _ _ _ st h=>wpAny_pyIter_zip st.1 h
def BP (K:PySem.W.Frag) (tl:TA):TI:=fun σ H R=>tl σ H fun vs H1=>∃a b xs ys,vs=[.ref a, .ref b]∧SqL K H1 a xs∧SqL K H1 b ys∧R (BO K a b xs ys) H1
section
variable {X:Cx} {rZ:List Expr} {kt:Nat} {pt:Pos}
theorem yu {l l2:Expr} {tl:TA} {p pos:Pos} (hg:Gl X "zip") (hm:X.mg "zip"=none) (ha:PA X [l,l2] tl) (hs:starEach [l,l2] X.env=(false,eval l X.env)::starEach [l2] X.env:=by rfl) (hs2:starEach [l2] X.env=[(false,eval l2 X.env)]:=by rfl):PI X (.Tuple rZ kt pt) (.Call (.Name "zip" p) [l,l2] [] pos) (BP X.K tl):=by
  intro pins s σ H R I h
  refine Call_ (i_ I hg hm boot_zip (PyProof.Rows.callWith_type1 (cO (ha pos pins s σ H _ I h) fun us s1 ⟨vs,H1,I1,r1,q1⟩=>?_) hs (by rw [hs2];rfl)))
  obtain ⟨a,b,xs,ys,e,hq,hq2,q⟩:=q1
  subst e
  obtain ⟨u,v,rfl,ru,rv⟩:=r1.two
  cases ru;cases rv
  obtain ⟨its,rva,p1,hz⟩:=I1.list hq
  obtain ⟨its2,rvb,p2,hz2⟩:=I1.list hq2
  have la:a < s1.heap.objs.size:=by obtain ⟨_,e,_⟩:=p1.isList;exact Heap.lt_size e
  have lb:b < s1.heap.objs.size:=by obtain ⟨_,e,_⟩:=p2.isList;exact Heap.lt_size e
  refine call_zip_2 p1.isList p2.isList fun h' z1 z2 z3 z4 z5 z6 hk=>?_
  have I2:Inv X pins σ H1 {s1 with heap:=h'}:=I1.kept (t':=s1.toks) hk
  refine wpAny_pyIter_zip (s:={s1 with heap:=h'}) z1 ⟨_,[_,_,_,_,_],_,_,H1,rfl,I2,uq (zipApart_new la lb) xs ys,⟨z1,z2,⟨_,_,z3⟩,z4,z5⟩,fun c hc=>?_,q⟩
  have le:s1.heap.objs.size≤c:=by
    simp only [List.mem_cons,List.not_mem_nil,or_false] at hc
    rcases hc with rfl | rfl | rfl | rfl | rfl
    · exact Nat.le_add_right _ 4
    · exact Nat.le_add_right _ 2
    · exact Nat.le_add_right _ 3
    · exact Nat.le_refl _
    · exact Nat.le_add_right _ 1
  exact I1.fpOk le (I1.hok.fresh le)
end
def AM (x:Str):It:=⟨fun i _=>i < x.cps.toList.length,fun i H v H'=>H'=H∧∃c,x.cps.toList[i]? =some c∧v= .str ⟨#[c]⟩,fun i _=>i=x.cps.toList.length⟩
theorem ur {P:Program} {w:World} {K:PySem.W.Frag} {tg:Expr} {it:Addr} {T:String} {x:Str} {t:Tok} (hT:T="str_ascii_iterator"∨T="str_iterator"):Turn P w K tg (AM x) [it] it (fun i h=>h.IsStrIter it T x t i) where
  mem:=by simp
  obj:=fun i h st b hb=>by
    have e:b=it:=by simpa using hb
    subst e
    obtain ⟨o,e,c,d⟩:=st
    exact ⟨o,e,fun v z=>by rw [d] at z;cases z⟩
  keep:=fun i h h' st k=>let ⟨o,ho,r⟩:=st;⟨o,k it (by simp) o ho,r⟩
  item:=by
    intro X hP hw hK hc i pins s σ H E I hf st hg
    subst hP hw hK
    obtain ⟨f0,f1,f2,f3,f4,f5⟩:=hf it (by simp)
    have hi:i < x.cps.toList.length:=hg
    have hx:x.cps[i]? =some (x.cps.toList[i]'hi):=by simp at hi;simp [hi]
    have fin:∀(h':Heap),h'.IsStrIter it T x t (i+1)→Heap.SameBut it s.heap h'→∃u,some (Value.str ⟨#[x.cps.toList[i]'hi]⟩ s.toks)=some u∧
        wpAny (model X.prog X.w) X.A (letOwnedTupleGo tg (.ref it) u) (fun _ s2=>∃v H',Inv X pins σ H' s2∧RelV v u∧(AM x).yld i H v H'∧s2.heap.IsStrIter it T x t (i+1)∧∀b∈[it],H' b=none) E {s with heap:=h',toks:=s.toks+1}:=fun h' st' sb=>by
      have I1:Inv X pins σ H {s with heap:=h',toks:=s.toks+1}:=I.turned (t':=s.toks+1) (fun b o hb e=>(sb.2 b hb).trans e) f0 f1 f3 f4 f5
      obtain ⟨o,e,c,d⟩:=id st'
      exact ⟨_,rfl,nS (s:={s with heap:=h',toks:=s.toks+1}) e c d (by rcases hT with rfl | rfl <;> decide) ⟨.str ⟨#[x.cps.toList[i]'hi]⟩,H,I1,⟨_,rfl⟩,⟨rfl,_,List.getElem?_eq_getElem hi,rfl⟩,st',fun b hb=>(hf b hb).1⟩⟩
    rcases hT with rfl | rfl
    · exact wpAny_pyNext_ascii_item st hx fun h' st' sb=>fin h' st' sb
    · exact wpAny_pyNext_wide_item st hx fun h' st' sb=>fin h' st' sb
  done:=by
    intro X hP hw hK hc i pins s σ H E I hf st hg
    subst hP hw hK
    obtain ⟨f0,f1,f2,f3,f4,f5⟩:=hf it (by simp)
    have hi:i=x.cps.toList.length:=hg
    have hx:x.cps[i]? =none:=by simp at hi;simp [hi]
    rcases hT with rfl | rfl
    · exact wpAny_pyNext_ascii_end (I.ok.hd hc) st hx fun h' eb=>⟨rfl,I.turned (t':=s.toks) (fun b o hb e=>eb b o hb e) f0 f1 f3 f4 f5⟩
    · exact wpAny_pyNext_wide_end (I.ok.hd hc) st hx fun h' eb=>⟨rfl,I.turned (t':=s.toks) (fun b o hb e=>eb b o hb e) f0 f1 f3 f4 f5⟩
  self:=fun _ _ _ _ _ st h=>by
    rcases hT with rfl | rfl
    · exact wpAny_pyIter_striter_ascii st h
    · exact wpAny_pyIter_striter_wide st h
def BQ (tl:TE):TI:=fun σ H R=>tl σ H fun v H1=>∃x,v= .str x∧R (AM x) H1
theorem yw {X:Cx} {tg l:Expr} {tl:TE} (hl:PE X l tl):PI X tg l (BQ tl):=by
  intro pins s σ H R I h
  refine cO (hl pins s σ H _ I h) fun v s1 ⟨y,H1,I1,r1,q1⟩=>?_
  obtain ⟨x,e,q⟩:=q1
  subst e
  obtain ⟨t,rfl⟩:=r1
  refine wpAny_pyIter_strU ?_
  refine ⟨s1.heap.objs.size,[s1.heap.objs.size],fun i h=>h.IsStrIter s1.heap.objs.size (strIterType x) x t i,_,H1,rfl,I1.kept (t':=s1.toks) fun b o e=>Heap.get?_push_of_some _ e,ur (t:=t) ?_,⟨_,Heap.get?_push_size _ rfl,rfl,rfl⟩,fun b hb=>?_,q⟩
  · unfold strIterType
    split
    · exact .inl rfl
    · exact .inr rfl
  · have e:b=s1.heap.objs.size:=by simpa using hb
    subst e
    exact I1.fpOk (Nat.le_refl _) (I1.hok.fresh (Nat.le_refl _))
theorem PI.or {X:Cx} {tg l:Expr} {a b:TI} (h1:PI X tg l a) (h2:PI X tg l b):PI X tg l (fun σ H R=>a σ H R∨b σ H R):=by
  intro pins s σ H R I h
  rcases h with h | h
  · exact h1 pins s σ H R I h
  · exact h2 pins s σ H R I h
end L2
namespace PL
open PySem L2 Nh
def iU:List PyData→List PyData→List PyData
  | a::as,b::bs=> .tuple [a,b]::iU as bs
  | _,_=>[]
def ut (f g:b9):kI:=fun E=>(f E).bind fun a=>(frz a.2 a.1).bind fun b=>(g b.2).bind fun c=>(frz c.2 c.1).bind fun d=>match b.1,d.1 with
  | .list xs, .list ys=>some (iU xs ys,d.2)
  | _,_=>none
def mS (x:Str):List PyData:=x.cps.toList.map fun c=> .str ⟨#[c]⟩
def uu (f:b9):kI:=fun E=>(f E).bind fun a=>(frz a.2 a.1).bind fun b=>match b.1 with
  | .list ds=>some (ds,b.2)
  | .tuple ds=>some (ds,b.2)
  | .str x=>some (mS x,b.2)
  | _=>none
section
variable {X:Cx} {K:PySem.W.Frag} {B:Hp}
theorem ou:∀{as bs:List PyData} {i:Nat} {d:PyData},(iU as bs)[i]? =some d→∃a b,as[i]? =some a∧bs[i]? =some b∧d= .tuple [a,b]
  | a::as,b::bs,0,d,e=>by simp [iU] at e;exact ⟨a,b,rfl,rfl,e.symm⟩
  | a::as,b::bs,i+1,d,e=>by
    obtain ⟨x,y,h1,h2,h3⟩:=ou (as:=as) (bs:=bs) (i:=i) (by simpa [iU] using e)
    exact ⟨x,y,by simpa using h1,by simpa using h2,h3⟩
  | [],_,_,_,e=>by simp [iU] at e
  | _::_,[],_,_,e=>by simp [iU] at e
theorem oy:∀(as bs:List PyData),(iU as bs).length=min as.length bs.length
  | a::as,b::bs=>by simp [iU,oy as bs]
  | [],_=>by simp [iU]
  | _::_,[]=>by simp [iU]
theorem uv {a b:Addr} {vs us:List V} {ds es:List PyData} (h:SqL K B a vs) (r:RpA K B vs ds) (h2:SqL K B b us) (r2:RpA K B us es):on K B (BO K a b vs us) (iU ds es):=fun {B' F A σ H E xs Xs} i sB fr=>by
  have hH:=fr.fh.seq (fr.bf.seq (sB.seq h))
  have hH2:=fr.fh.seq (fr.bf.seq (sB.seq h2))
  refine ⟨fun d ed=>?_,fun e=>⟨hH,hH2,by rw [e,oy,r.len,r2.len]⟩⟩
  obtain ⟨x,y,ex,ey,rfl⟩:=ou ed
  obtain ⟨v,ev,rv⟩:=r.get ex
  obtain ⟨u,eu,ru⟩:=r2.get ey
  refine ⟨⟨hH,hH2,(List.getElem?_eq_some_iff.mp ev).1,(List.getElem?_eq_some_iff.mp eu).1⟩,fun z H2 ⟨T,v',u',hT,e1,e2,e3,e4⟩=>?_⟩
  rw [ev] at e1;cases e1
  rw [eu] at e2;cases e2
  subst e3 e4
  have s1:=sB.trans fr.bf
  exact ⟨_,_,fr.newt (.cons (rv.same s1) (.cons (ru.same s1) .nil)) hT⟩
theorem uw {x:Str}:on K B (AM x) (mS x):=fun {B' F A σ H E xs Xs} i sB fr=>by
  refine ⟨fun d ed=>?_,fun e=>by show i=x.cps.toList.length;rw [e];simp [mS]⟩
  unfold mS at ed
  rw [List.getElem?_map] at ed
  obtain ⟨c,ec,rfl⟩:=Option.map_eq_some_iff.mp ed
  refine ⟨(List.getElem?_eq_some_iff.mp ec).1,fun z H2 ⟨e1,c',e2,e3⟩=>?_⟩
  rw [ec] at e2;cases e2
  subst e1 e3
  exact ⟨F,A,fr.push ⟨rfl,_,rfl, .str _⟩⟩
theorem ux {a:Addr} {vs:List V} {ds:List PyData} (h:SqT K B a vs) (r:RpA K B vs ds):on K B (Bx K a) ds:=fun {B' F A σ H E xs Xs} i sB fr=>by
  have hH:=fr.fh.tup (fr.bf.tup (sB.tup h))
  refine ⟨fun d ed=>?_,fun e=>⟨vs,hH,by rw [e,r.len];exact Nat.le_refl _⟩⟩
  obtain ⟨v,ev,rv⟩:=r.get ed
  refine ⟨⟨vs,v,hH,ev⟩,fun x H2 ⟨e2,y⟩=>?_⟩
  subst e2
  have:=y vs hH
  rw [ev] at this
  cases this
  exact ⟨F,A,fr.push ⟨rfl,_,rfl,rv.same (sB.trans fr.bf)⟩⟩
theorem uy {tg e:Expr} {m:Bool} {f:b9} (he:EX X e m f):IX X tg e m (uu f):=mP (PI.or (qj he) (PI.or (xQ he) (yw he))) fun σ H R z=>by
  obtain ⟨B,E,xs,Xs,ds,E',fr,cl,e,q⟩:=z
  obtain ⟨⟨s,E1⟩,e1,e⟩:=Option.bind_eq_some_iff.mp e
  obtain ⟨⟨d,E2⟩,e2,e⟩:=Option.bind_eq_some_iff.mp e
  have key:∀(v:V) (H1:Hp),Frm X.K B σ H1 E1 (v::xs) (s::Xs)→∃F2 A2 A3,Rp X.K F2 v d∧Same B F2∧FrF X.K F2 F2 A3 σ H1 E2 xs Xs∧FrF X.K B F2 A2 σ H1 E2 (v::xs) (.sh d::Xs):=fun v H1 ⟨F,A,fr1⟩=>by
    obtain ⟨F2,A2,fr2⟩:=fr1.frz0 e2
    obtain ⟨v',A1,ev,rfl,w,ew,r⟩:=fr2.ext (k:=0) rfl
    cases ev;cases ew
    obtain ⟨A3,fr3⟩:=fr2.pop
    exact ⟨F2,A2,A3,r,fr2.bf,fr3.raise,fr2⟩
  simp only at e
  split at e
  · cases e
    refine .inl ⟨B,E,xs,Xs,s,E1,fr,cl,e1,fun v H1 fr1=>?_⟩
    obtain ⟨F2,A2,A3,r,sb,fr3,fr2⟩:=key v H1 fr1
    cases r with
    | lst h1 h2=>exact ⟨_,rfl,⟨_,fr2.fh.seq h1⟩,q F2 _ _ sb ⟨F2,A3,fr3⟩ (rV h1 h2)⟩
  · cases e
    refine .inr (.inl ⟨B,E,xs,Xs,s,E1,fr,cl,e1,fun v H1 fr1=>?_⟩)
    obtain ⟨F2,A2,A3,r,sb,fr3,fr2⟩:=key v H1 fr1
    cases r with
    | tup h1 h2=>exact ⟨_,rfl,⟨_,fr2.fh.tup h1⟩,q F2 _ _ sb ⟨F2,A3,fr3⟩ (ux h1 h2)⟩
  · cases e
    refine .inr (.inr ⟨B,E,xs,Xs,s,E1,fr,cl,e1,fun v H1 fr1=>?_⟩)
    obtain ⟨F2,A2,A3,r,sb,fr3,fr2⟩:=key v H1 fr1
    cases r
    exact ⟨_,rfl,q F2 _ _ sb ⟨F2,A3,fr3⟩ uw⟩
  · cases e
theorem yx {rZ:List Expr} {kt:Nat} {pt p pos:Pos} {e e2:Expr} {m m2:Bool} {f g:b9} (hg:Gl X "zip") (hm:X.mg "zip"=none) (he:EX X e m f) (he2:EX X e2 m2 g) (hs:starEach [e,e2] X.env=(false,eval e X.env)::starEach [e2] X.env:=by rfl) (hs2:starEach [e2] X.env=[(false,eval e2 X.env)]:=by rfl):IX X (.Tuple rZ kt pt) (.Call (.Name "zip" p) [e,e2] [] pos) (m||m2) (ut f g):=mP (yu hg hm (bZ he (bZ he2 dO hs2) hs) hs hs2) fun σ H R z=>by
  obtain ⟨B,E,xs,Xs,ds,E',fr,cl,e,q⟩:=z
  obtain ⟨⟨s,E1⟩,e1,e⟩:=Option.bind_eq_some_iff.mp e
  obtain ⟨⟨d,E2⟩,e2,e⟩:=Option.bind_eq_some_iff.mp e
  obtain ⟨⟨s3,E3⟩,e3,e⟩:=Option.bind_eq_some_iff.mp e
  obtain ⟨⟨d4,E4⟩,e4,e⟩:=Option.bind_eq_some_iff.mp e
  refine ⟨B,E,xs,Xs,s,E1,fr,fun z=>cl (by simp [z]),e1,fun v H1 ⟨F,A,fr1⟩=>?_⟩
  obtain ⟨F2,A2,fr2⟩:=fr1.frz0 e2
  refine ⟨B,E2,v::xs, .sh d::Xs,s3,E3,⟨F2,A2,fr2⟩,fun z=>Calm.cons (cl (by simp [z])) rfl,e3,fun v3 H3 ⟨F3,A3,fr3⟩=>?_⟩
  obtain ⟨F4,A4,fr4⟩:=fr3.frz0 e4
  simp only at e
  split at e
  · cases e
    obtain ⟨v',A1,ev,rfl,w,ew,r⟩:=fr4.ext (k:=0) rfl
    cases ev;cases ew
    obtain ⟨v',A1,ev,rfl,w,ew,r2⟩:=fr4.ext (k:=1) rfl
    cases ev;cases ew
    cases r with
    | lst h1 h2=>
      cases r2 with
      | lst h3 h4=>
        obtain ⟨A5,fr5⟩:=fr4.pop
        obtain ⟨A6,fr6⟩:=fr5.pop
        exact ⟨_,_,_,_,rfl,fr4.fh.seq h3,fr4.fh.seq h1,q F4 _ _ fr4.bf ⟨F4,A6,fr6.raise⟩ (uv h3 h4 h1 h2)⟩
  · cases e
end
def b5 (c:iR) (g:bA):Nat→bA
  | 0,_=>none
  | n+1,E=>(c E).bind fun a=>if a.1 then (g a.2).bind fun b=>(match b.2 with
      | .nx=>b5 c g n b.1
      | .ct=>b5 c g n b.1
      | .bk=>some (b.1, .nx)
      | .rt r=>some (b.1, .rt r)) else some (a.2, .nx)
open Classical in
def iK (c:iR) (g:bA):bA:=fun E=>if h:∃n r,b5 c g n E=some r then some h.choose_spec.choose else none
theorem gJ (c:iR) (g:bA):∀{n:Nat} {E:List Sl} {r:List Sl×Fl},b5 c g n E=some r→b5 c g (n+1) E=some r
  | n+1,E,r,h=>by
    obtain ⟨a,e1,h⟩:=Option.bind_eq_some_iff.mp h
    rw [b5,e1,Option.bind_some]
    cases ha:a.1 with
    | false=>rw [ha] at h;exact h
    | true=>
      rw [ha] at h
      obtain ⟨b,e2,h⟩:=Option.bind_eq_some_iff.mp h
      rw [if_pos rfl,e2,Option.bind_some]
      cases hb:b.2 with
      | nx=>rw [hb] at h;exact gJ c g h
      | ct=>rw [hb] at h;exact gJ c g h
      | bk=>rw [hb] at h;exact h
      | rt r=>rw [hb] at h;exact h
theorem kl (c:iR) (g:bA) {n m:Nat} {E:List Sl} {r:List Sl×Fl} (h:b5 c g n E=some r) (hl:n≤m):b5 c g m E=some r:=by
  induction hl with
  | refl=>exact h
  | step _ ih=>exact gJ c g ih
theorem lZ {c:iR} {g:bA} {n:Nat} {E:List Sl} {r:List Sl×Fl} (h:b5 c g n E=some r):iK c g E=some r:=by
  have ex:∃n r,b5 c g n E=some r:=⟨n,r,h⟩
  unfold iK
  rw [dif_pos ex]
  have e:=ex.choose_spec.choose_spec
  have a:=kl c g e (Nat.le_max_left ex.choose n)
  have b:=kl c g h (Nat.le_max_right ex.choose n)
  rw [a] at b
  exact b
theorem oz {X:Cx} {c:Expr} {body:List Stmt} {m:Bool} {t:iR} {b:bA} {pos:Pos} (hp:PassesOwn (model X.prog X.w) X.A X.env X.xe) (hc:TX X c m t) (hb:sP X body b):SX X (.While c body [] pos) (iK t b):=gh (sY hp hc hb) fun D σ H z=>by
  obtain ⟨B,E,xs,Xs,E',fl,fr,cl,e,q⟩:=z
  unfold iK at e
  split at e
  · rename_i ex
    have e0:=ex.choose_spec.choose_spec
    rw [Option.some.inj e] at e0
    refine ⟨fun n σ' H'=>∃E1,b5 t b n E1=some (E',fl)∧Frm X.K B σ' H' E1 xs Xs,⟨_,E,e0,fr⟩,?_⟩
    rintro n σ' H' ⟨E1,e1,fr1⟩
    cases n with
    | zero=>cases e1
    | succ n=>
      obtain ⟨⟨b1,E2⟩,e2,e1⟩:=Option.bind_eq_some_iff.mp e1
      refine ⟨B,E1,xs,Xs,b1,E2,fr1,fun _=>Calm.nil cl,e2,fun H2 fr2=>?_⟩
      cases b1 with
      | false=>
        cases e1
        exact (if_neg (by decide)).mpr (q _ _ fr2)
      | true=>
        refine (if_pos rfl).mpr ?_
        obtain ⟨⟨E3,f3⟩,e3,e1⟩:=Option.bind_eq_some_iff.mp e1
        refine ⟨fun σ4 H4=>∃E1,b5 t b n E1=some (E',fl)∧Frm X.K B σ4 H4 E1 xs Xs,fun σ4 H4 z=>⟨n,Nat.lt_succ_self _,z⟩,B,E2,xs,Xs,E3,f3,fr2,cl,e3,?_⟩
        cases f3 with
        | nx=>exact fun σ4 H4 fr4=>⟨E3,e1,fr4⟩
        | ct=>exact fun σ4 H4 fr4=>⟨E3,e1,fr4⟩
        | bk=>cases e1;exact fun σ4 H4 fr4=>q _ _ fr4
        | rt r=>cases e1;exact fun σ4 v H4 fr4=>q _ _ _ fr4
  · cases e
end PL
namespace PL
open PySem L2 Nh
inductive Cm where
  | lt | le | gt | ge
def Cm.op:Cm→CmpOp
  | .lt=> .Lt
  | .le=> .LtE
  | .gt=> .Gt
  | .ge=> .GtE
def Cm.i:Cm→Int→Int→Bool
  | .lt,i,j=>decide (i < j)
  | .le,i,j=>decide (i≤j)
  | .gt,i,j=>decide (j < i)
  | .ge,i,j=>decide (j≤i)
def Cm.s:Cm→List Nat→List Nat→Bool
  | .lt,i,j=>decide (i < j)
  | .le,i,j=> !decide (j < i)
  | .gt,i,j=>decide (j < i)
  | .ge,i,j=> !decide (i < j)
def aZ (c:Cm):PyData→PyData→Option PyData
  | .int i, .int j=>some (.bool (c.i i j))
  | .str x, .str y=>some (.bool (c.s x.cps.toList y.cps.toList))
  | _,_=>none
def Cc (c:Cm):R2:=fun x y H Q=>(∃i j,x= .int i∧y= .int j∧Q (.bl (c.i i j)) H)∨(∃i j,x= .str i∧y= .str j∧Q (.bl (c.s i.cps.toList j.cps.toList)) H)
section
variable {X:Cx} {a b c:Expr} {m1 m2 m3:Bool} {f g h:b9} {pos:Pos} {K:PySem.W.Frag}
theorem oA (c:Cm):OpR X (compareOp c.op) (Cc c):=by
  cases c with
  | lt=>exact OpR.or zA rC
  | le=>exact OpR.or zB (fun pins s σ H x y v u Q I rx ry h=>by
      obtain ⟨i,j,rfl,rfl,q⟩:=h
      obtain ⟨t,rfl⟩:=rx
      obtain ⟨t',rfl⟩:=ry
      exact PySem.P.le_str (bh I q rfl))
  | gt=>exact OpR.or zC (fun pins s σ H x y v u Q I rx ry h=>by
      obtain ⟨i,j,rfl,rfl,q⟩:=h
      obtain ⟨t,rfl⟩:=rx
      obtain ⟨t',rfl⟩:=ry
      exact PySem.P.gt_str (bh I q rfl))
  | ge=>exact OpR.or zD (fun pins s σ H x y v u Q I rx ry h=>by
      obtain ⟨i,j,rfl,rfl,q⟩:=h
      obtain ⟨t,rfl⟩:=rx
      obtain ⟨t',rfl⟩:=ry
      exact PySem.P.ge_str (bh I q rfl))
theorem oB (c:Cm):mJ K (Cc c) (aZ c):=fun d1 d2 d v1 v2 H Q e r1 r2=>by
  unfold aZ at e
  split at e
  · cases e;cases r1;cases r2
    exact ⟨_,rfl,fun q=> .inl ⟨_,_,rfl,rfl,q⟩⟩
  · cases e;cases r1;cases r2
    exact ⟨_,rfl,fun q=> .inr ⟨_,_,rfl,rfl,q⟩⟩
  · cases e
theorem r8 (c:Cm) (b:Expr):behindInMarks c.op b=false:=by cases c <;> exact jU _
theorem fO (c:Cm) (ha:EX X a m1 f) (hb:EX X b m2 g):TX X (.Compare a [c.op] [b] pos) (m1||m2) (bG (af (bR (aZ c)) m2 f g)):=mE (oA c) (jd (oB c)) ha hb (r8 c b)
theorem zX (c1 c2:Cm) (ha:EX X a m1 f) (hb:EX X b m2 g) (hc:EX X c m3 h) (hm:lastMarks [c1.op,c2.op] [b,c]=false:=by with_unfolding_all rfl):EX X (.Compare a [c1.op,c2.op] [b,c] pos) (m1||(m2||m3)) (bF (aZ c1) (aZ c2) m2 m3 f g h):=ub (oA c1) (oA c2) (oB c1) (oB c2) ha hb hc hm
theorem uz (c1 c2:Cm) (ha:EX X a m1 f) (hb:EX X b m2 g) (hc:EX X c m3 h) (hm:lastMarks [c1.op,c2.op] [b,c]=false:=by with_unfolding_all rfl):TX X (.Compare a [c1.op,c2.op] [b,c] pos) (m1||(m2||m3)) (bG (bF (aZ c1) (aZ c2) m2 m3 f g h)):=ud (oA c1) (oA c2) (oB c1) (oB c2) ha hb hc hm
def isInt:PyData→Option Int
  | .int x=>some x
  | _=>none
def hM:List PyData→Option (List Str)
  | []=>some []
  | .str x::ds=>(hM ds).map fun xs=>x::xs
  | _::_=>none
def mT:List PyData→Option (List Int)
  | []=>some []
  | .int x::ds=>(mT ds).map fun xs=>x::xs
  | _::_=>none
theorem pw (xs:List Str):hM (xs.map .str)=some xs:=by
  induction xs with
  | nil=>rfl
  | cons x xs ih=>simp [hM,ih]
theorem gs:∀{ds:List PyData} {xs:List Str},hM ds=some xs→ds=xs.map .str
  | [],xs,h=>by cases h;rfl
  | d::ds,xs,h=>by
    cases d with
    | str x=>
      obtain ⟨ys,e,rfl⟩:=Option.map_eq_some_iff.mp h
      rw [gs e];rfl
    | _=>cases h
theorem ji:∀{ds:List PyData} {xs:List Int},mT ds=some xs→ds=xs.map .int
  | [],xs,h=>by cases h;rfl
  | d::ds,xs,h=>by
    cases d with
    | int x=>
      obtain ⟨ys,e,rfl⟩:=Option.map_eq_some_iff.mp h
      rw [ji e];rfl
    | _=>cases h
theorem hO {H:Hp}:∀{vs:List V} {xs:List Str},RpA K H vs (xs.map .str)→vs=xs.map .str
  | [],[],_=>rfl
  | v::vs,x::xs, .cons h r=>by cases h;rw [hO r];rfl
theorem km {H:Hp}:∀{vs:List V} {xs:List Int},RpA K H vs (xs.map .int)→vs=xs.map .int
  | [],[],_=>rfl
  | v::vs,x::xs, .cons h r=>by cases h;rw [km r];rfl
def zY:PyData→PyData→Option Bool
  | .str x, .str y=>some (!(Builtin.Str.occurrences y x 0 y.length 1).isEmpty)
  | .str x, .list ds=>(hM ds).map fun xs=>xs.contains x
  | .str x, .tuple ds=>(hM ds).map fun xs=>xs.contains x
  | .int x, .list ds=>(mT ds).map fun xs=>xs.contains x
  | .int x, .tuple ds=>(mT ds).map fun xs=>xs.contains x
  | _,_=>none
def zZ (K:PySem.W.Frag) (neg:Bool):R2:=fun x y H Q=>(∃i j,x= .str i∧y= .str j∧Q (.bl (if neg then !(!(Builtin.Str.occurrences j i 0 j.length 1).isEmpty) else !(Builtin.Str.occurrences j i 0 j.length 1).isEmpty)) H)∨B_ K neg x y H Q
theorem oC (x:Str) (xs:List Str):y7 (.str x) (xs.map .str)=xs.contains x:=by
  induction xs with
  | nil=>rfl
  | cons y xs ih=>
    rw [List.contains_cons,←ih]
    show (vf (.str y) (.str x)||y7 (.str x) (xs.map .str))=_
    congr 1
    show (y == x)=(x == y)
    exact BEq.comm
theorem oE (x:Int) (xs:List Int):y7 (.int x) (xs.map .int)=xs.contains x:=by
  induction xs with
  | nil=>rfl
  | cons y xs ih=>
    rw [List.contains_cons,←ih]
    show (vf (.int y) (.int x)||y7 (.int x) (xs.map .int))=_
    congr 1
    show (y == x)=(x == y)
    exact BEq.comm
theorem yy (neg:Bool):mJ K (zZ K neg) (fun d1 d2=>(zY d1 d2).map fun b=> .bool (if neg then !b else b)):=fun d1 d2 d v1 v2 H Q e r1 r2=>by
  obtain ⟨b,e',rfl⟩:=Option.map_eq_some_iff.mp e
  clear e
  have e:=e'
  clear e'
  refine ⟨_,rfl,fun q=>?_⟩
  have hs:∀xs:List Str,(xs.map V.str).all gV=true:=fun xs=>by simp [List.all_eq_true,gV]
  have hi:∀xs:List Int,(xs.map V.int).all gV=true:=fun xs=>by simp [List.all_eq_true,gV]
  unfold zY at e
  split at e
  · cases e;cases r1;cases r2
    exact .inl ⟨_,_,rfl,rfl,q⟩
  · obtain ⟨xs,ex,rfl⟩:=Option.map_eq_some_iff.mp e
    cases r1
    cases r2 with
    | lst h1 h2=>
      rw [gs ex] at h2
      rw [hO h2] at h1
      exact .inr ⟨_,_,rfl, .inl h1,rfl,hs _,by rw [oC];exact q⟩
  · obtain ⟨xs,ex,rfl⟩:=Option.map_eq_some_iff.mp e
    cases r1
    cases r2 with
    | tup h1 h2=>
      rw [gs ex] at h2
      rw [hO h2] at h1
      exact .inr ⟨_,_,rfl, .inr h1,rfl,hs _,by rw [oC];exact q⟩
  · obtain ⟨xs,ex,rfl⟩:=Option.map_eq_some_iff.mp e
    cases r1
    cases r2 with
    | lst h1 h2=>
      rw [ji ex] at h2
      rw [km h2] at h1
      exact .inr ⟨_,_,rfl, .inl h1,rfl,hi _,by rw [oE];exact q⟩
  · obtain ⟨xs,ex,rfl⟩:=Option.map_eq_some_iff.mp e
    cases r1
    cases r2 with
    | tup h1 h2=>
      rw [ji ex] at h2
      rw [km h2] at h1
      exact .inr ⟨_,_,rfl, .inr h1,rfl,hi _,by rw [oE];exact q⟩
  · cases e
def AN (neg:Bool):P2:=bR fun d1 d2=>(zY d1 d2).map fun b=> .bool (if neg then !b else b)
theorem r_:OpR X (compareOp .NotIn) (zZ X.K true):=OpR.or mq mo
theorem yz (ha:EX X a m1 f) (hb:EX X b m2 g) (hm:behindInMarks .NotIn b=false:=by with_unfolding_all rfl):TX X (.Compare a [.NotIn] [b] pos) (m1||m2) (bG (af (AN true) m2 f g)):=mE r_ (jd (yy true)) ha hb hm
end
def kO:List PyData→Option PyData
  | [.int i]=>some (.int i)
  | [.bool b]=>some (.int (if b then 1 else 0))
  | _=>none
def qL (x:Str):PyData→Option PyData
  | .list ds=>(hM ds).bind fun ys=>if (ys.map (·.length)).sum+ys.length*x.length≤1000000 then some (.str (Txt.join x ys)) else none
  | .tuple ds=>(hM ds).bind fun ys=>if (ys.map (·.length)).sum+ys.length*x.length≤1000000 then some (.str (Txt.join x ys)) else none
  | _=>none
theorem l5 {ys:List Str}:∀{us:List Value},Vals (ys.map V.str) us→PyProof.Rows.StrsAre us ys:=by
  induction ys with
  | nil=>intro us h;cases h;exact .nil
  | cons y ys ih=>
    intro us h
    cases h with
    | cons h r=>
      obtain ⟨t,rfl⟩:=h
      exact .cons y t (ih r)
def z_ (K:PySem.W.Frag):V→List V→Hp→VK→Prop:=fun x vs H Q=>∃z p ys,x= .str z∧vs=[.ref p]∧(SqL K H p (ys.map .str)∨SqT K H p (ys.map .str))∧(ys.map (·.length)).sum+ys.length*z.length≤16777216∧Q (.str (Txt.join z ys)) H
theorem wa {X:Cx}:MtR X "str.join" (z_ X.K):=by
  intro pins s σ H x vs v us Q I rx rv h
  obtain ⟨z,p,ys,rfl,rfl,hq,hl,q⟩:=h
  obtain ⟨t,rfl⟩:=rx
  obtain ⟨u,rfl,ru⟩:=rv.one
  cases ru
  rcases hq with hq | hq
  · obtain ⟨its,r,pl,_⟩:=I.list hq
    exact PyProof.Rows.join_list pl.isList (by simpa using l5 r) hl fun t' k=>⟨.str _,H,I.tok _,⟨_,rfl⟩,q⟩
  · obtain ⟨its,r,pl,_⟩:=I.tuple hq
    exact PyProof.Rows.join_tuple pl (by simpa using l5 r) hl fun t' k=>⟨.str _,H,I.tok _,⟨_,rfl⟩,q⟩
section
variable {X:Cx} {e o:Expr} {m1 m2:Bool} {g:j7} {f h:b9} {p pos apos cpos:Pos} {K:PySem.W.Frag}
theorem qM (hg:Gl X "int") (hm:X.mg "int"=none) (ha:AX X [e] m1 g) (he:starEach [e] X.env=[(false,eval e X.env)]:=by rfl):EX X (.Call (.Name "int" p) [e] [] pos) m1 (bt kO g):=
  bw (gn rD hg hm PyProof.Rows.boot_int ha (by decide) (by decide) he rfl) fun _ _ _ z=>mM (fun ds d vs H Q e r=>by
    unfold kO at e
    split at e
    · cases e
      obtain ⟨v,rfl,r'⟩:=r.one
      cases r'
      exact ⟨_,rfl,fun q=> .inl ⟨_,rfl,q⟩⟩
    · cases e
      obtain ⟨v,rfl,r'⟩:=r.one
      cases r'
      exact ⟨_,rfl,fun q=> .inr ⟨_,rfl,q⟩⟩
    · cases e) z
def uA (x:Str) (f:b9):b9:=gD (qL x) f
theorem wb {x:Str} {j:Nat} {sp:Pos} (he:EX X e m1 f) (hs:starEach [e] X.env=[(false,eval e X.env)]:=by rfl) (hbase:attributeBase (.Constant (.str x) j sp) "join" X.env (eval (.Constant (.str x) j sp) X.env)=eval (.Constant (.str x) j sp) X.env:=by rfl)
    (hfew:((backTo cpos (starEach [e] X.env)).all (fun x=> !x.1)&&(backToKw cpos (keywordEach [] X.env)).all (fun x=>x.1.isSome)
      &&decide (([e]:List Expr).length+([]:List Keyword).length+(if ([]:List Keyword).isEmpty then 0 else 1) < 30))=true:=by rfl) (hline:(apos.endLine == cpos.line)=true:=by rfl):
    EX X (.Call (.Attribute (.Constant (.str x) j sp) "join" apos) [e] [] cpos) m1 (uA x f):=by
  refine bw (qu PySem.F.plainAttrs_str PySem.F.slot_str_join PySem.F.type_str_join wa (sR) (bZ he dO hs) hbase hfew hline hs rfl) fun σ H Q z=>?_
  obtain ⟨B,E,xs,Xs,res,E',fr,c,e,q⟩:=z
  obtain ⟨⟨s1,E1⟩,e1,e⟩:=Option.bind_eq_some_iff.mp e
  obtain ⟨d1,e2,e⟩:=Option.bind_eq_some_iff.mp e
  obtain ⟨d,e3,e⟩:=Option.map_eq_some_iff.mp e
  cases e
  refine ⟨rfl,B,E,xs,Xs,s1,E1,fr,c,e1,fun v1 H1 ⟨F,A,fr1⟩=>?_⟩
  have r:=(fr1.look0 e2).1
  obtain ⟨A',fr2⟩:=fr1.pop
  unfold qL at e3
  split at e3
  · obtain ⟨ys,ey,e3⟩:=Option.bind_eq_some_iff.mp e3
    split at e3
    · rename_i hl
      cases e3
      cases r with
      | lst h1 h2=>
        rw [gs ey] at h2
        rw [hO h2] at h1
        exact ⟨x,_,ys,rfl,rfl, .inl h1,by omega,q _ _ ⟨F,A',fr2.push ⟨rfl,_,rfl, .str _⟩⟩⟩
    · cases e3
  · obtain ⟨ys,ey,e3⟩:=Option.bind_eq_some_iff.mp e3
    split at e3
    · rename_i hl
      cases e3
      cases r with
      | tup h1 h2=>
        rw [gs ey] at h2
        rw [hO h2] at h1
        exact ⟨x,_,ys,rfl,rfl, .inr h1,by omega,q _ _ ⟨F,A',fr2.push ⟨rfl,_,rfl, .str _⟩⟩⟩
    · cases e3
  · cases e3
end
theorem gu {X:Cx} {st:Stmt}:SX X st (fun _=>none):=gh sU fun D σ H z=>by
  obtain ⟨B,E,xs,Xs,E',fl,fr,cl,e,q⟩:=z
  cases e
def jj:bA:=fun _=>none
end PL
namespace PL
open PySem L2 Nh
theorem yA {X:Cx}:SlR X (fun x lo hi H Q=>∃z,x= .str z∧z.length≤sizeLine∧Q (.str (Txt.slice z lo hi)) H):=by
  intro pins s σ H x v vl vu lo hi sl Q I rx hs pl pu h
  obtain ⟨z,rfl,hz,q⟩:=h
  obtain ⟨t,rfl⟩:=rx
  cases pl with
  | none=>
    cases pu with
    | none=>exact ⟨"str",_,PySem.F.slot_str_getitem.lookup,typeIs_str _ _ _,wpAny_getItem_str_slice (l:=none) (u:=none) (st:=none) hs rfl (post_val_or_str ⟨Nat.le_trans (Txt.slice_le z _ _) hz,fun t' k=>⟨.str _,H,I.tok _,⟨_,rfl⟩,q⟩⟩)⟩
    | int j uj=>exact ⟨"str",_,PySem.F.slot_str_getitem.lookup,typeIs_str _ _ _,wpAny_getItem_str_slice (l:=none) (u:=some (j,uj)) (st:=none) hs rfl (post_val_or_str ⟨Nat.le_trans (Txt.slice_le z _ _) hz,fun t' k=>⟨.str _,H,I.tok _,⟨_,rfl⟩,q⟩⟩)⟩
  | int i ui=>
    cases pu with
    | none=>exact ⟨"str",_,PySem.F.slot_str_getitem.lookup,typeIs_str _ _ _,wpAny_getItem_str_slice (l:=some (i,ui)) (u:=none) (st:=none) hs rfl (post_val_or_str ⟨Nat.le_trans (Txt.slice_le z _ _) hz,fun t' k=>⟨.str _,H,I.tok _,⟨_,rfl⟩,q⟩⟩)⟩
    | int j uj=>exact ⟨"str",_,PySem.F.slot_str_getitem.lookup,typeIs_str _ _ _,wpAny_getItem_str_slice (l:=some (i,ui)) (u:=some (j,uj)) (st:=none) hs rfl (post_val_or_str ⟨Nat.le_trans (Txt.slice_le z _ _) hz,fun t' k=>⟨.str _,H,I.tok _,⟨_,rfl⟩,q⟩⟩)⟩
def pA (m2:Bool) (f:b9) (lo hi:yp):b9:=fun E=>(f E).bind fun a=>if m2&&a.1.isBr then none else (lo a.2).bind fun b=>(hi b.2).bind fun c=>match look c.2 a.1 with
  | some (.list ds)=>if !hot c.2 a.1||ba (rQ ds b.1 c.1) then some (.ow (rQ ds b.1 c.1),c.2) else none
  | some (.str z)=>if z.length≤1000000 then some (.sh (.str (Txt.slice z b.1 c.1)),c.2) else none
  | _=>none
theorem uB {X:Cx} {e:Expr} {lo hi:Option Expr} {m1 m2 m3:Bool} {f:b9} {g h:yp} {pos p2:Pos} (he:EX X e m1 f) (hl:OX X lo m2 g) (hh:OX X hi m3 h):EX X (.Subscript e (.Slice lo hi none p2) pos) (m1||(m2||m3)) (pA (m2||m3) f g h):=by
  refine bw (tK (SlR.or vM yA) he hl hh) fun σ H Q z=>?_
  obtain ⟨B,E,xs,Xs,res,E',fr,cl,e,q⟩:=z
  obtain ⟨⟨s,E1⟩,e1,e⟩:=Option.bind_eq_some_iff.mp e
  by_cases hb:((m2||m3)&&s.isBr)=true
  · rw [if_pos hb] at e;cases e
  rw [if_neg hb] at e
  have n1:(m2||m3)=true→s.isBr=false:=fun z=>by
    cases hs:s.isBr with
    | false=>rfl
    | true=>exact absurd (by rw [z,hs];rfl) hb
  obtain ⟨⟨l,E2⟩,e2,e⟩:=Option.bind_eq_some_iff.mp e
  obtain ⟨⟨u,E3⟩,e3,e⟩:=Option.bind_eq_some_iff.mp e
  refine ⟨B,E,xs,Xs,s,E1,fr,fun z=>cl (by simp [z]),e1,fun v1 H1 fr1=>?_⟩
  refine ⟨B,E1,v1::xs,s::Xs,l,E2,fr1,fun z=>Calm.cons (cl (by simp [z])) (n1 (by simp [z])),e2,fun H2 fr2=>?_⟩
  refine ⟨B,E2,v1::xs,s::Xs,u,E3,fr2,fun z=>Calm.cons (cl (by simp [z])) (n1 (by simp [z])),e3,fun H3 ⟨F,A,fr3⟩=>?_⟩
  simp only at e
  split at e
  · rename_i ds ld
    split at e
    · rename_i hc
      cases e
      obtain ⟨v,ev,r,f0⟩:=fr3.look (k:=0) rfl ld
      cases ev
      obtain ⟨A',fr4⟩:=fr3.pop
      cases hh:hot E' s with
      | false=>
        obtain ⟨a,vs,rfl,h1,h2⟩:=f0 hh
        exact .inl ⟨a,vs,rfl,h1,fun p hp=>q _ _ ⟨F,_,fr4.newl (h2.cut l u) hp⟩⟩
      | true=>
        rw [hh] at hc
        cases r with
        | lst h1 h2=>exact .inl ⟨_,_,rfl,h1,fun p hp=>q _ _ ⟨F,_,fr4.newl (fr3.coldA (h2.cut l u) (by simpa using hc)) hp⟩⟩
    · cases e
  · rename_i z ld
    split at e
    · rename_i hc
      cases e
      have r:=(fr3.look0 ld).1
      cases r
      obtain ⟨A',fr4⟩:=fr3.pop
      exact .inr ⟨_,rfl,fM hc,q _ _ ⟨F,A',fr4.push ⟨rfl,_,rfl, .str _⟩⟩⟩
    · cases e
  · cases e
def jO (i:Nat) (f:b9):b9:=fun E=>match E[i]? with
  | some (.ow _)=>(f E).bind fun a=>match a.1,a.2[i]? with
    | .ow es,some (.ow ds)=>if ds.length+es.length≤1000000 then some (.sh .none,a.2.set i (.ow (ds++es))) else none
    | _,_=>none
  | _=>none
section
variable {X:Cx} {e:Expr} {m1:Bool} {f:b9} {x:Str} {p apos cpos:Pos}
theorem sd (i:Nat) (he:EX X e m1 f) (hN:X.N[i]? =some x:=by rfl) (hv:ve X.env.scope x:=by first | exact Or.inl rfl | exact Or.inr (Or.inl rfl) | exact Or.inr (Or.inr rfl)) (hd:(x == ("__debug__":Str))=false:=by decide) (hcd:(x == ("__classdict__":Str))=false:=by decide)
    (hs:starEach [e] X.env=[(false,eval e X.env)]:=by rfl) (hbase:attributeBase (.Name x p) "extend" X.env (eval (.Name x p) X.env)=eval (.Name x p) X.env:=by rfl)
    (hfew:((backTo cpos (starEach [e] X.env)).all (fun x=> !x.1)&&(backToKw cpos (keywordEach [] X.env)).all (fun x=>x.1.isSome)
      &&decide (([e]:List Expr).length+([]:List Keyword).length+(if ([]:List Keyword).isEmpty then 0 else 1) < 30))=true:=by rfl) (hline:(apos.endLine == cpos.line)=true:=by rfl):
    EX X (.Call (.Attribute (.Name x p) "extend" apos) [e] [] cpos) true (jO i f):=by
  refine bw (qu PySem.F.plainAttrs_list PySem.F.slot_list_extend PySem.F.type_list_extend rK (gZ hN hv hd hcd) (bZ he dO hs) hbase hfew hline hs rfl) fun σ H Q z=>?_
  obtain ⟨B,E,xs,Xs,res,E',⟨F,A,fr⟩,cl,e,q⟩:=z
  unfold jO at e
  split at e
  · rename_i ds0 ei
    obtain ⟨⟨s,E1⟩,e1,e⟩:=Option.bind_eq_some_iff.mp e
    simp only at e
    split at e
    · rename_i s1 es ds ei2
      split at e
      · rename_i hc
        cases e
        obtain ⟨o,A1,eo,l,vs,rfl,rfl,hl0,_⟩:=fr.var ei
        refine ⟨_,eo, .inl ⟨rfl,_,SqL.of hl0⟩,B,E,xs,Xs,_,E1,⟨F,A,fr⟩,fun _=>cl rfl,e1,fun v H1 ⟨F1,A1,fr1⟩=>?_⟩
        obtain ⟨v',A3,ev,l2,us,el,rfl,hl2,ru⟩:=fr1.ext (k:=0) rfl
        cases ev;cases el
        obtain ⟨A4,fr3⟩:=fr1.pop
        obtain ⟨l',vs',eo',hl',r',put⟩:=fr3.mut ei2 (cl rfl)
        rw [eo] at eo'
        cases eo'
        have n1:=r'.len
        have n2:=ru.len
        have fr4:=put (vs'++us) (ds++es) (r'.append ru)
        exact ⟨l,l2,vs',us,rfl,rfl,hl',hl2,fM (by omega),q _ _ ⟨_,_,fr4.push ⟨rfl,_,rfl, .non⟩⟩⟩
      · cases e
    · cases e
  · cases e
end
structure Bn (mg:Str→Option Value):Prop where
  len:mg "len"=none
  range:mg "range"=none
  abs:mg "abs"=none
  min:mg "min"=none
  max:mg "max"=none
  reversed:mg "reversed"=none
  enumerate:mg "enumerate"=none
  isinstance:mg "isinstance"=none
  list:mg "list"=none
  tuple:mg "tuple"=none
  str:mg "str"=none
  int:mg "int"=none
  bool:mg "bool"=none
  sorted:mg "sorted"=none
  zip:mg "zip"=none
  sum:mg "sum"=none
  any:mg "any"=none
  all:mg "all"=none
  set:mg "set"=none
  dict:mg "dict"=none
theorem Aa {K:PySem.W.Frag} {h:Heap} {mg:Str→Option Value} (X:K.In h) (G:h.Ns mainGlobals mg)
    (z1:PySem.W.nsIn K mainGlobals "len"=some none) (z2:PySem.W.nsIn K mainGlobals "range"=some none) (z3:PySem.W.nsIn K mainGlobals "abs"=some none) (z4:PySem.W.nsIn K mainGlobals "min"=some none) (z5:PySem.W.nsIn K mainGlobals "max"=some none) (z6:PySem.W.nsIn K mainGlobals "reversed"=some none) (z7:PySem.W.nsIn K mainGlobals "enumerate"=some none) (z8:PySem.W.nsIn K mainGlobals "isinstance"=some none) (z9:PySem.W.nsIn K mainGlobals "list"=some none) (z10:PySem.W.nsIn K mainGlobals "tuple"=some none) (z11:PySem.W.nsIn K mainGlobals "str"=some none) (z12:PySem.W.nsIn K mainGlobals "int"=some none) (z13:PySem.W.nsIn K mainGlobals "bool"=some none) (z14:PySem.W.nsIn K mainGlobals "sorted"=some none) (z15:PySem.W.nsIn K mainGlobals "zip"=some none) (z16:PySem.W.nsIn K mainGlobals "sum"=some none) (z17:PySem.W.nsIn K mainGlobals "any"=some none) (z18:PySem.W.nsIn K mainGlobals "all"=some none) (z19:PySem.W.nsIn K mainGlobals "set"=some none) (z20:PySem.W.nsIn K mainGlobals "dict"=some none):Bn mg:=
  ⟨PySem.W.mg_none_of X G z1,PySem.W.mg_none_of X G z2,PySem.W.mg_none_of X G z3,PySem.W.mg_none_of X G z4,PySem.W.mg_none_of X G z5,PySem.W.mg_none_of X G z6,PySem.W.mg_none_of X G z7,PySem.W.mg_none_of X G z8,PySem.W.mg_none_of X G z9,PySem.W.mg_none_of X G z10,PySem.W.mg_none_of X G z11,PySem.W.mg_none_of X G z12,PySem.W.mg_none_of X G z13,PySem.W.mg_none_of X G z14,PySem.W.mg_none_of X G z15,PySem.W.mg_none_of X G z16,PySem.W.mg_none_of X G z17,PySem.W.mg_none_of X G z18,PySem.W.mg_none_of X G z19,PySem.W.mg_none_of X G z20⟩
end PL
namespace PL
open PySem L2 Nh
abbrev CZ:=List Sl→Option (List Sl×Bool)
end PL
namespace PL
open PySem L2 Nh
def pB:Pt→Sl
  | .fl d=> .sh d
  | .ol ds=> .ow ds
section
variable {K:PySem.W.Frag} {F H:Hp}
theorem PtsOk.append:∀{us:List V} {ts:List Pt} {A:List Addr} {us':List V} {ts':List Pt} {A':List Addr},PtsOk K F H us ts A→PtsOk K F H us' ts' A'→PtsOk K F H (us++us') (ts++ts') (A++A')
  | [],[],A,_,_,_,h,h'=>by rw [show A=[] from h];exact h'
  | v::vs, .fl d::ps,A,_,_,_,h,h'=>⟨h.1,PtsOk.append h.2 h'⟩
  | v::vs, .ol ds::ps,A,_,_,_,h,h'=>by
    obtain ⟨l,us,A1,rfl,rfl,hl,hr,q⟩:=h
    exact ⟨l,us,_,rfl,rfl,hl,hr,q.append h'⟩
  | [],_::_,_,_,_,_,h,_=>False.elim h
  | _::_,[],_,_,_,_,h,_=>False.elim h
theorem PtsOk.rev:∀{us:List V} {ts:List Pt} {A:List Addr},PtsOk K F H us ts A→PtsOk K F H us.reverse ts.reverse A.reverse
  | [],[],A,h=>by rw [show A=[] from h];exact rfl
  | v::vs, .fl d::ps,A,h=>by
    rw [List.reverse_cons,List.reverse_cons,←List.append_nil A.reverse]
    exact (PtsOk.rev h.2).append (us':=[v]) (ts':=[.fl d]) (A':=[]) ⟨h.1,rfl⟩
  | v::vs, .ol ds::ps,A,h=>by
    obtain ⟨l,us,A1,rfl,rfl,hl,hr,q⟩:=h
    rw [List.reverse_cons,List.reverse_cons,List.reverse_cons]
    exact q.rev.append (us':=[.ref l]) (ts':=[.ol ds]) (A':=[l]) ⟨l,us,[],rfl,rfl,hl,hr,rfl⟩
  | [],_::_,_,h=>False.elim h
  | _::_,[],_,h=>False.elim h
theorem PtsOk.len:∀{us:List V} {ts:List Pt} {A:List Addr},PtsOk K F H us ts A→us.length=ts.length
  | [],[],A,_=>rfl
  | v::vs, .fl d::ps,A,h=>congrArg (· +1) h.2.len
  | v::vs, .ol ds::ps,A,h=>by
    obtain ⟨l,us,A1,rfl,rfl,hl,hr,q⟩:=h
    exact congrArg (· +1) q.len
  | [],_::_,_,h=>False.elim h
  | _::_,[],_,h=>False.elim h
end
section
variable {K:PySem.W.Frag} {B F:Hp} {A:List Addr} {σ:iO} {H:Hp} {E:List Sl} {xs:List V} {Xs:List Sl}
theorem uC:∀{us:List V} {ts:List Pt} {os:List (Option V)} {ss:List Sl} {A:List Addr},us.length=ts.length→SAll (SlOk K F H σ) (us.map some++os) (ts.map pB++ss) A→∃A1 A2,A=A1++A2∧PtsOk K F H us ts A1∧SAll (SlOk K F H σ) os ss A2
  | [],[],os,ss,A,_,h=>⟨[],A,rfl,rfl,h⟩
  | u::us,t::ts,os,ss,A,hl,h=>by
    have h':SAll (SlOk K F H σ) (some u::(us.map some++os)) (pB t::(ts.map pB++ss)) A:=h
    cases h' with
    | cons q r=>
      obtain ⟨A1,A2,rfl,hp,hs⟩:=uC (by simpa using hl) r
      cases t with
      | fl d=>
        obtain ⟨rfl,w,ew,rw'⟩:=q
        cases ew
        exact ⟨A1,A2,rfl,⟨rw',hp⟩,hs⟩
      | ol ds=>
        obtain ⟨l,vs,el,rfl,hl',r'⟩:=q
        cases el
        exact ⟨l::A1,A2,rfl,⟨l,vs,A1,rfl,rfl,hl',r',hp⟩,hs⟩
  | [],_::_,_,_,_,e,_=>by cases e
  | _::_,[],_,_,_,e,_=>by cases e
theorem FrF.newx {p:Addr} {vs:List V} {ps:List Pt} (hl:vs.length=ps.length) (h:FrF K B F A σ H E (vs.reverse++xs) (ps.reverse.map pB++Xs)) (hp:H p=none):Frm K B σ (upd H p (.tup vs)) E (.ref p::xs) (.tx ps::Xs):=by
  have nA:=h.newA hp
  have sl:=h.sl
  rw [List.map_append,List.append_assoc,List.append_assoc] at sl
  obtain ⟨A1,A2,rfl,hpt,hs⟩:=uC (by simpa using hl) sl
  have g:Same H (upd H p (.tup vs)):=gq hp _
  have gF:Same F (upd F p (.tup vs)):=gq (h.fh.free hp) _
  have hr:=hpt.rev
  rw [List.reverse_reverse,List.reverse_reverse] at hr
  have n1:∀b∈A1,b≠p:=fun b hb z=>nA (by rw [←z];exact List.mem_append_left _ hb)
  have n2:∀b∈A2,b≠p:=fun b hb z=>nA (by rw [←z];exact List.mem_append_right _ hb)
  refine ⟨upd F p (.tup vs),A1.reverse++A2,h.bf.trans gF,fun b o e=>?_,fun b o e=>?_, .cons ⟨p,vs,rfl,aJ,hr.stay gF fun b hb=>ay (n1 b (List.mem_reverse.mp hb))⟩ (hs.mono fun o s C _ hC q=>q.stay gF (fun b hb=>ay (n2 b (hC b hb))) fun _=>g),?_,fun a ha=>?_,?_,h.pl⟩
  · by_cases hb:b=p
    · subst hb;rw [aJ] at e ⊢;exact e
    · rw [ay hb] at e ⊢;exact h.fh _ _ e
  · obtain ⟨e1,e2⟩:=Option.filter_eq_some_iff.mp e
    by_cases hb:b=p
    · subst hb;rw [aJ] at e1 ⊢;exact e1
    · rw [ay hb] at e1 ⊢;exact h.tf b o (eW e1 e2)
  · exact (List.Perm.append_right _ (List.reverse_perm A1)).nodup_iff.mpr h.nd
  · have ne:a≠p:=(List.mem_append.mp ha).elim (fun z=>n1 a (List.mem_reverse.mp z)) (n2 a)
    rw [ay ne]
    exact h.fr a ((List.mem_append.mp ha).elim (fun z=>List.mem_append_left _ (List.mem_reverse.mp z)) (fun z=>List.mem_append_right _ z))
  · have:=h.len
    simp only [List.length_append,List.length_reverse,List.length_map] at this
    simp only [List.length_cons]
    omega
end
def takeP (E:List Sl):Sl→Option (Pt×List Sl)
  | .sh d=>some (.fl d,E)
  | .ow ds=>some (.ol ds,E)
  | .br d=>if aP d then some (.fl d,E) else none
  | .al i=>match E[i]? with
    | some (.ow ds)=>some (.ol ds,E.set i .no)
    | some (.sh d)=>some (.fl d,E)
    | _=>none
  | _=>none
abbrev yB:=List Sl→Option (List Pt×List Sl)
def CG (K:PySem.W.Frag) (m:Bool) (f:yB):TA:=fun σ H Q=>∃B E xs Xs ps E',Frm K B σ H E xs Xs∧(m=true→Calm Xs)∧f E=some (ps,E')∧∀vs H',vs.length=ps.length→Frm K B σ H' E' (vs.reverse++xs) (ps.reverse.map pB++Xs)→Q vs H'
def MX (X:Cx) (es:List Expr) (m:Bool) (f:yB):Prop:=PA X es (CG X.K m f)
def dm:yB:=fun E=>some ([],E)
def aV (f:b9) (g:yB):yB:=fun E=>(f E).bind fun a=>(takeP a.2 a.1).bind fun b=>(g b.2).map fun c=>(b.1::c.1,c.2)
def bS (f:yB):b9:=fun E=>(f E).bind fun a=>if a.1.length≤1000000 then some (.tx a.1,a.2) else none
section
variable {X:Cx} {e:Expr} {es:List Expr} {m1 m2:Bool} {f:b9} {g:yB} {pos:Pos} {K:PySem.W.Frag}
theorem FrF.takeP {B F:Hp} {A:List Addr} {σ:iO} {H:Hp} {E E':List Sl} {xs:List V} {Xs:List Sl} {v:V} {s:Sl} {p:Pt} (h:FrF K B F A σ H E (v::xs) (s::Xs)) (q:PL.takeP E s=some (p,E')):Frm K B σ H E' (v::xs) (pB p::Xs):=by
  cases s with
  | sh d=>cases q;exact ⟨F,A,h⟩
  | ow ds=>cases q;exact ⟨F,A,h⟩
  | br d=>
    simp only [PL.takeP] at q
    split at q
    · rename_i hf
      cases q
      have r:=(h.look0 (d:=d) rfl).1
      obtain ⟨A',h'⟩:=h.pop
      exact ⟨F,A',h'.push ⟨rfl,v,rfl,h.cold r hf⟩⟩
    · cases q
  | al i=>
    simp only [PL.takeP] at q
    split at q
    · rename_i ds ei
      cases q
      exact h.move ei
    · rename_i d ei
      cases q
      obtain ⟨v',A1,ev,rfl,w,ew,hw⟩:=h.ext (k:=0) rfl
      cases ev;cases ew
      obtain ⟨o,A2,eo,rfl,w,ew,r⟩:=h.var ei
      rw [hw] at eo
      cases eo
      cases ew
      obtain ⟨A',h'⟩:=h.pop
      exact ⟨F,A',h'.push ⟨rfl,_,rfl,r⟩⟩
    · cases q
  | no=>cases q
  | io l zs=>cases q
  | od kvs=>cases q
  | tx ps=>cases q
theorem eV:MX X [] false dm:=by
  refine jc dO fun σ H Q z=>?_
  obtain ⟨B,E,xs,Xs,res,E',fr,cl,e,q⟩:=z
  cases e
  exact q [] H rfl fr
theorem a_ (ha:EX X e m1 f) (hr:MX X es m2 g) (hs:starEach (e::es) X.env=(false,eval e X.env)::starEach es X.env:=by rfl):MX X (e::es) (m1||m2) (aV f g):=by
  refine jc (bZ ha hr hs) fun σ H Q z=>?_
  obtain ⟨B,E,xs,Xs,res,E',fr,cl,e,q⟩:=z
  obtain ⟨⟨s,E1⟩,e1,e⟩:=Option.bind_eq_some_iff.mp e
  obtain ⟨⟨p,E2⟩,e2,e⟩:=Option.bind_eq_some_iff.mp e
  obtain ⟨⟨rs,E3⟩,e3,e⟩:=Option.map_eq_some_iff.mp e
  cases e
  refine ⟨B,E,xs,Xs,s,E1,fr,fun z=>cl (by simp [z]),e1,fun v1 H1 ⟨F,A,fr1⟩=>?_⟩
  refine ⟨B,E2,v1::xs,pB p::Xs,rs,E3,fr1.takeP e2,fun z=>Calm.cons (cl (by simp [z])) (by cases p <;> rfl),e3,fun vs H2 hl fr2=>?_⟩
  exact q (v1::vs) H2 (by simp [hl]) (by simpa using fr2)
theorem dA {x1} (h:MX X es m1 g):EX X (.Tuple es x1 pos) m1 (bS g):=by
  refine bw (tI h) fun σ H Q z=>?_
  obtain ⟨B,E,xs,Xs,res,E',fr,cl,e,q⟩:=z
  obtain ⟨⟨ps,E1⟩,e1,e⟩:=Option.bind_eq_some_iff.mp e
  simp only at e
  split at e
  · rename_i hl
    cases e
    refine ⟨B,E,xs,Xs,ps,_,fr,cl,e1,fun vs H1 hv ⟨F,A,fr1⟩=>?_⟩
    exact ⟨fM (by omega),fun p hp=>q _ _ (fr1.newx hv hp)⟩
  · cases e
end
def iu:Pt→Bool
  | .fl _=>true
  | _=>false
def bT (f:b9):b9:=fun E=>(f E).bind fun a=>match a.1 with
  | .tx ps=>if ps.all iu then some (.sh (.tuple (ps.map Pt.val)),a.2) else some a
  | _=>some a
theorem dB {X:Cx} {e:Expr} {m:Bool} {f:b9} (h:EX X e m f):EX X e m (bT f):=by
  refine bw h fun σ H Q z=>?_
  obtain ⟨B,E,xs,Xs,res,E',fr,cl,e,q⟩:=z
  obtain ⟨⟨s,E1⟩,e1,e⟩:=Option.bind_eq_some_iff.mp e
  refine ⟨B,E,xs,Xs,s,E1,fr,cl,e1,fun v H1 fr1=>?_⟩
  simp only at e
  split at e
  · split at e
    · cases e
      obtain ⟨F,A,fr1⟩:=fr1
      obtain ⟨F2,A2,fr2⟩:=fr1.frz0 (d:= .tuple _) rfl
      exact q _ _ ⟨F2,A2,fr2⟩
    · cases e
      exact q _ _ fr1
  · cases e
    exact q _ _ fr1
end PL
namespace PL
open PySem PySem.Spec L2 Nh PyProof.Rows
def CH (i:Int):Prop:= -1000000≤i∧i≤1000000
instance (i:Int):Decidable (CH i):=inferInstanceAs (Decidable (_∧_))
end PL
namespace PL
open PySem L2 Nh
theorem uD {P:Program} {w:World} {K:PySem.W.Frag} {mg:Str→Option Value} {base:Heap} {x:Str} {st:Stmt} {N ps:List Str} {k:Nat} (D:Def K mg x st ps) (S:FnScope N ps (aj st)):Own P w K mg base (k+1) x ps (cy K fun _=>none):=by
  refine D.own S (fun vs H Q E h=>?_) (fun f cdv A outer s H vs Q E hr h=>?_)
  · obtain ⟨ds,r,e,_⟩:=h
    cases e
  · obtain ⟨ds,r,e,_⟩:=h
    cases e
end PL
namespace PL
open PySem PySem.SeqAt
open AutoSeq1 (wpAny_loadPart')
open MeetsSeq MeetsSeq2 MeetsSeq3 SeqRoads2
def RcLtAt (A:Around) (s:Shared) (y x:Value) (b:Bool):Prop:=
  ∀(prog:Program) (w:World) (E:Value→Shared→Prop) (Q:Value→Shared→Prop),Q (.bool b) s→wpAny (model prog w) A (richCompare .Lt y x) Q E s
def jk (e r:Nat→Bool) (fin:Bool):List Nat→Bool
  | []=>fin
  | j::js=>if e j then jk e r fin js else r j
theorem se (l b:Addr) (items items2:Array Value) (n n2:Nat) (dd dd2:Option Addr) (sl sl2:Array (Option Value)) (e r:Nat→Bool) (k:Nat):
    ∀i:Nat,min items.size items2.size - i=k→Meets (Builtin.«list.__eq__.loop» ⟨[.ref l, .ref b,rawInt i,rawInt 0],[]⟩)
      (fun A R s=>s.heap.get? l=some {cls:= .type "list",dict:=dd,data:= .seq items n,slots:=sl}∧s.heap.get? b=some {cls:= .type "list",dict:=dd2,data:= .seq items2 n2,slots:=sl2}∧
        (∀j (h1:j < items.size) (h2:j < items2.size),EqAt A.in1 s items[j] items2[j] (e j))∧(∀j (h1:j < items.size) (h2:j < items2.size),e j=false→RcLtAt A.in1 s items[j] items2[j] (r j))∧
        R (.ok (.ret (.bool (jk e r (decide (items.size < items2.size)) ((List.range (min items.size items2.size)).drop i))))) s):=by
  induction k with
  | zero=>
    intro i hk prog w A R s h
    obtain ⟨hp,g,d,tk,os⟩:=s;obtain ⟨hl,hb,he,hr,h⟩:=h
    wp_walk using wpAny_loadPart' hl,wpAny_loadPart' hb
    have hd:(List.range (min items.size items2.size)).drop i=[]:=by simp;omega
    rw [hd] at h
    have hi:items[((i:Nat):Int).toNat]? =none∨items2[((i:Nat):Int).toNat]? =none:=by
      simp
      omega
    have fin:R (.ok (.ret (.bool (decide (items.size < items2.size))))) ⟨hp,g,d,tk,os⟩:=h
    rcases h1:items[((i:Nat):Int).toNat]? with _ | x1
    · wp_walk using wpAny_loadPart' hl,wpAny_loadPart' hb
      exact fin
    · rcases h2:items2[((i:Nat):Int).toNat]? with _ | x2
      · wp_walk using wpAny_loadPart' hl,wpAny_loadPart' hb
        exact fin
      · rw [h1,h2] at hi
        rcases hi with hi | hi <;> cases hi
  | succ k ih=>
    intro i hk prog w A R s h
    obtain ⟨hp,g,d,tk,os⟩:=s;obtain ⟨hl,hb,he,hr,h⟩:=h
    wp_walk using wpAny_loadPart' hl,wpAny_loadPart' hb
    have hm:i < min items.size items2.size:=by omega
    have hlt:i < items.size:=by omega
    have hlt2:i < items2.size:=by omega
    have hi1:items[((i:Nat):Int).toNat]? =some items[i]:=by simp [hlt]
    have hi2:items2[((i:Nat):Int).toNat]? =some items2[i]:=by simp [hlt2]
    have hd:(List.range (min items.size items2.size)).drop i=i::(List.range (min items.size items2.size)).drop (i+1):=by simp [List.drop_eq_getElem_cons,hm]
    have hc:((i:Int)+1)=((i+1:Nat):Int):=by push_cast;rfl
    rw [hd,jk] at h
    rw [hi1,hi2]
    refine wpAny_bind (he i hlt hlt2 prog w _ _ ?_)
    cases hb':e i with
    | true=>
      rw [hb',if_pos rfl] at h
      wp_walk
      rw [hc]
      exact ⟨plainId_quiet plain_eq_loop _,codeAny_builtin entry_eq_loop (by
        rw [Around.under_plainId plain_eq_loop _]
        exact ih (i+1) (by omega) prog w A R _ ⟨hl,hb,he,hr,h⟩)⟩
    | false=>
      rw [hb',if_neg (by decide)] at h
      wp_walk using wpAny_loadPart' hl,wpAny_loadPart' hb
      rw [hi1,hi2]
      refine wpAny_bind (hr i hlt hlt2 hb' prog w _ _ ?_)
      wp_walk
      exact h
theorem sf (l b:Addr) (items items2:Array Value) (n n2:Nat) (dd dd2:Option Addr) (sl sl2:Array (Option Value)) (e r:Nat→Bool):
    Meets (Builtin.«list.__lt__» ⟨[.ref l, .ref b],[]⟩)
      (fun A R s=>s.heap.get? l=some {cls:= .type "list",dict:=dd,data:= .seq items n,slots:=sl}∧s.heap.get? b=some {cls:= .type "list",dict:=dd2,data:= .seq items2 n2,slots:=sl2}∧
        (∀j (h1:j < items.size) (h2:j < items2.size),EqAt A.in1 s items[j] items2[j] (e j))∧(∀j (h1:j < items.size) (h2:j < items2.size),e j=false→RcLtAt A.in1 s items[j] items2[j] (r j))∧
        R (.ok (.ret (.bool (jk e r (decide (items.size < items2.size)) (List.range (min items.size items2.size)))))) s):=by
  intro prog w A R s h
  obtain ⟨hp,g,d,tk,os⟩:=s;obtain ⟨hl,hb,he,hr,h⟩:=h
  have f3:=AutoSeq1.sub_list_list
  wp_walk using wpAny_loadPart' hl,wpAny_loadPart' hb
  exact ⟨plainId_quiet plain_eq_loop _,codeAny_builtin entry_eq_loop (by
    rw [Around.under_plainId plain_eq_loop _]
    exact se l b items items2 n n2 dd dd2 sl sl2 e r _ 0 rfl prog w A R _ ⟨hl,hb,he,hr,by simpa using h⟩)⟩
theorem pD (l b:Addr) (items items2:Array Value) (n n2:Nat) (dd dd2:Option Addr) (sl sl2:Array (Option Value)) (e r:Nat→Bool):
    Meets (Builtin.«tuple.__lt__» ⟨[.ref l, .ref b],[]⟩)
      (fun A R s=>s.heap.get? l=some {cls:= .type "tuple",dict:=dd,data:= .seq items n,slots:=sl}∧s.heap.get? b=some {cls:= .type "tuple",dict:=dd2,data:= .seq items2 n2,slots:=sl2}∧
        (∀j (h1:j < items.size) (h2:j < items2.size),EqAt A.in1 s items[j] items2[j] (e j))∧(∀j (h1:j < items.size) (h2:j < items2.size),e j=false→RcLtAt A.in1 s items[j] items2[j] (r j))∧
        R (.ok (.ret (.bool (jk e r (decide (items.size < items2.size)) (List.range (min items.size items2.size)))))) s):=
  .of_wp fun prog w A R s h=>by
    obtain ⟨hp,g,d,tk,os⟩:=s;obtain ⟨hl,hb,he,hr,h⟩:=h
    have f2:=AutoSeq1.sub_tuple_tuple
    have hZ:(items.toList.zip items2.toList).length=min items.size items2.size:=by simp
    wp_walk using wpAny_loadPart' hl,wpAny_loadPart' hb,wpAny_forIn_list _ (fun cz b s'=>b.1=none∧s'=⟨hp,g,d,tk,os⟩∧∃i,cz=(items.toList.zip items2.toList).drop i∧
      R (.ok (.ret (.bool (jk e r (decide (items.size < items2.size)) ((List.range (min items.size items2.size)).drop i))))) ⟨hp,g,d,tk,os⟩) _
    case turn=>
      rintro ⟨y,x⟩ cz b s' ⟨hb',rfl,i,hz,hR⟩
      have hlt:i < (items.toList.zip items2.toList).length:=by
        rcases Nat.lt_or_ge i (items.toList.zip items2.toList).length with h' | h'
        · exact h'
        · rw [List.drop_of_length_le h'] at hz;cases hz
      have hm:i < min items.size items2.size:=hZ▸hlt
      have h1:i < items.size:=Nat.lt_of_lt_of_le hm (Nat.min_le_left _ _)
      have h2:i < items2.size:=Nat.lt_of_lt_of_le hm (Nat.min_le_right _ _)
      rw [List.drop_eq_getElem_cons hlt] at hz
      injection hz with hyx hrest
      have hy:y=items[i]:=by have:=congrArg Prod.fst hyx;simpa using this
      have hx:x=items2[i]:=by have:=congrArg Prod.snd hyx;simpa using this
      subst hy hx
      have hd:(List.range (min items.size items2.size)).drop i=i::(List.range (min items.size items2.size)).drop (i+1):=by simp [List.drop_eq_getElem_cons,hm]
      rw [hd,jk] at hR
      refine wpAny_bind (he i h1 h2 prog w _ _ ?_)
      cases hy:e i with
      | true=>
        rw [hy,if_pos rfl] at hR
        wp_walk
        exact ⟨rfl,rfl,i+1,hrest,hR⟩
      | false=>
        rw [hy,if_neg (by decide)] at hR
        rw [show (!false)=true from rfl,if_pos rfl]
        refine wpAny_bind (wpAny_rule (wpAny_bind (hr i h1 h2 hy prog w _ _ ?_)))
        wp_walk
        exact ⟨_,rfl,hR⟩
    case fin=>
      rintro ⟨b1,b2⟩ s' ⟨hb',rfl,i,hz,hR⟩
      simp only at hb'
      subst hb'
      have hge:min items.size items2.size≤i:=by
        rcases Nat.lt_or_ge i (items.toList.zip items2.toList).length with h' | h'
        · rw [List.drop_eq_getElem_cons h'] at hz;cases hz
        · exact hZ▸h'
      rw [List.drop_of_length_le (by simpa using hge)] at hR
      wp_walk
      exact ⟨_,rfl,hR⟩
    case h=>
      exact ⟨rfl,rfl,0,rfl,by simpa using h⟩
section
variable {A:Around} {s:Shared}
theorem RcLtAt.lists {l b:Addr} {items items2:Array Value} {e r:Nat→Bool} (hl:s.heap.IsList l items) (hb:s.heap.IsList b items2) (hu:A.units < cLine)
    (he:∀j (h1:j < items.size) (h2:j < items2.size),EqAt A.in1 s items[j] items2[j] (e j)) (hr:∀j (h1:j < items.size) (h2:j < items2.size),e j=false→RcLtAt A.in1 s items[j] items2[j] (r j)):RcLtAt A s (.ref l) (.ref b) (jk e r (decide (items.size < items2.size)) (List.range (min items.size items2.size))):=fun prog w E Q h=>by
  obtain ⟨⟨cls,dd,data,sl⟩,ho,hc,n,hd⟩:=id hl
  obtain ⟨⟨cls2,dd2,data2,sl2⟩,ho2,hc2,n2,mw⟩:=id hb
  simp only at hc hd hc2 mw
  subst hc hd hc2 mw
  exact richCompare_meets_room (op:= .Lt) ⟨_,ho,rfl⟩ ⟨_,ho2,rfl⟩ F.slot_list_lt F.entry_list_lt (F.args_list_lt_2 _ _) (sf l b items items2 n n2 dd dd2 sl sl2 e r)
    ⟨ho,ho2,he,hr,show Value.bool _≠Value.notImplemented∧Q (.bool _) s from ⟨(fun x=>nomatch x),h⟩⟩ hu
theorem RcLtAt.tuples {l b:Addr} {items items2:Array Value} {e r:Nat→Bool} (hl:s.heap.IsTuple l items) (hb:s.heap.IsTuple b items2) (hu:A.units < cLine)
    (he:∀j (h1:j < items.size) (h2:j < items2.size),EqAt A.in1 s items[j] items2[j] (e j)) (hr:∀j (h1:j < items.size) (h2:j < items2.size),e j=false→RcLtAt A.in1 s items[j] items2[j] (r j)):RcLtAt A s (.ref l) (.ref b) (jk e r (decide (items.size < items2.size)) (List.range (min items.size items2.size))):=fun prog w E Q h=>by
  obtain ⟨⟨cls,dd,data,sl⟩,ho,hc,n,hd⟩:=id hl
  obtain ⟨⟨cls2,dd2,data2,sl2⟩,ho2,hc2,n2,mw⟩:=id hb
  simp only at hc hd hc2 mw
  subst hc hd hc2 mw
  exact richCompare_meets_room (op:= .Lt) ⟨_,ho,rfl⟩ ⟨_,ho2,rfl⟩ F.slot_tuple_lt F.entry_tuple_lt (F.args_tuple_lt_2 _ _) (pD l b items items2 n n2 dd dd2 sl sl2 e r)
    ⟨ho,ho2,he,hr,show Value.bool _≠Value.notImplemented∧Q (.bool _) s from ⟨(fun x=>nomatch x),h⟩⟩ hu
theorem RcLtAt.ints (i j:Int) (t u:Tok):RcLtAt A s (.int i t) (.int j u) (decide (i < j)):=fun prog w E Q h=>PyProof.Rows.lt_int h
end
end PL
namespace PL
open PySem PySem.SeqAt L2 Nh
abbrev y9:=PyData→PyData→Option Bool
def Cd:y9
  | .int i, .int j=>some (decide (i < j))
  | .str a, .str b=>some (decide (a.cps.toList < b.cps.toList))
  | _,_=>none
def wc (lt:y9):List PyData→List PyData→Option Bool
  | [],ys=>some (!ys.isEmpty)
  | _::_,[]=>some false
  | x::xs,y::ys=>if PyData.eqv x y then wc lt xs ys else (lt x y).bind fun b=>(wc lt xs ys).map fun _=>b
def Ce (lt:y9):y9
  | .list xs, .list ys=>wc lt xs ys
  | .tuple xs, .tuple ys=>wc lt xs ys
  | d,e=>Cd d e
def rF (lt:y9) (xs ys:List PyData) (j:Nat):Bool:=match xs[j]?,ys[j]? with
  | some x,some y=>(lt x y).getD false
  | _,_=>false
def AK:y9:=Ce (Ce Cd)
end PL
namespace PL
open PySem L2 Nh
section
variable {X:Cx} {e:Expr} {es:List Expr} {m1:Bool} {g:j7} {p pos:Pos}
def yC (K:PySem.W.Frag):List V→Hp→VK→Prop:=fun xs H Q=>∃(p:Addr) (ns:List Int),xs=[.ref p]∧SqL K H p (ns.map V.int)∧Q (.int ns.sum) H
theorem gp:∀{ns:List Int} {us:List Value},Vals (ns.map V.int) us→us.length=ns.length∧∀(i:Nat) (v:Value),us[i]? =some v→∃t,v=Value.int (ns.getD i 0) t
  | [],_, .nil=>⟨rfl,fun i v h=>by simp at h⟩
  | n::ns,_, .cons h t=>by
    obtain ⟨tk,rfl⟩:=h
    obtain ⟨h1,h2⟩:=gp t
    refine ⟨by simp [h1],fun i v h=>?_⟩
    cases i with
    | zero=>simp at h;subst h;exact ⟨tk,rfl⟩
    | succ i=>simpa using h2 i v (by simpa using h)
theorem jx (ns:List Int):∀k,k≤ns.length→preSum (fun i=>ns.getD i 0) k=(ns.take k).sum
  | 0,_=>by simp [preSum]
  | k+1,h=>by
    have hk:k < ns.length:=by omega
    rw [preSum,jx ns k (by omega),List.take_add_one,List.getElem?_eq_getElem hk,List.sum_append]
    simp [List.getD_eq_getElem?_getD,hk]
theorem sg (hc:X.calm=true):CallR X (.builtin "sum") (yC X.K):=by
  intro pins s σ H xs us Q I r h
  obtain ⟨a,ns,rfl,hq,q⟩:=h
  cases r with
  | cons r rr=>
    cases rr
    cases r
    obtain ⟨its,rv,pl,hz⟩:=I.list hq
    obtain ⟨hl,hv⟩:=gp rv
    obtain ⟨o,n,eo,_⟩:=id pl
    have hlt:a < s.heap.objs.size:=Heap.lt_size eo
    refine call_sum_walkG (wpAny_pyIter_list pl.isList ?_)
    refine ⟨s.heap.objs.size,_,_,_,_,_,fun i=>ns.getD i 0,rfl,Walks.list (A:=X.A.in1) (I.ok.hd hc) s.heap.objs.size a (Nat.ne_of_lt hlt) its.toArray,?_,?_,?_,?_⟩
    · exact ⟨⟨_,Heap.get?_push_size _ rfl,rfl,rfl⟩,pl.isList.at fun o e=>Heap.get?_push_of_some _ e⟩
    · intro b hb
      have hsz:∀o,(s.heap.push o).objs.size=s.heap.objs.size+1:=fun o=>by simp [Heap.push]
      show b < (s.heap.push _).objs.size
      rw [hsz]
      rcases List.mem_cons.mp hb with rfl | hb
      · exact Nat.lt_succ_self _
      · have:b=a:=by simpa using hb
        subst this
        exact Nat.lt_succ_of_lt hlt
    · intro i v h
      exact hv i v (by simpa using h)
    · intro h' tk t' hk
      refine ⟨.int _,H,I.kept (t':=tk) fun b o e=>hk b o (fun z=>?_) (Heap.get?_push_of_some _ e),⟨t',rfl⟩,?_⟩
      · have:b=s.heap.objs.size:=by simpa using z
        exact Nat.lt_irrefl _ (this▸Heap.lt_size e)
      · rw [show its.toArray.size=ns.length by simpa using hl,jx ns _ (Nat.le_refl _),List.take_length]
        exact q
end
end PL
namespace PL
open PySem L2 Nh
def ko:PyData→PyData→Option PyData
  | .str a, .int k=>if a.length≤1000∧ -1000≤k∧k≤1000 then some (.str (Txt.mul a k)) else none
  | _,_=>none
def iV:P2:=bR ko
def xf:R2:=fun x y H Q=>∃a k,x= .str a∧y= .int k∧a.length≤1000∧ -1000≤k∧k≤1000∧Q (.str (Txt.mul a k)) H
theorem uE {a:Str} {k:Int} (h1:a.length≤1000) (h2:k≤1000):(Txt.mul a k).length≤sizeLine:=by
  have e:=PyProof.Rows.len_mul a k
  rw [sizeLine_eq]
  by_cases n:k < 0
  · simp only [n,decide_true,if_true,Int.mul_zero] at e
    omega
  · simp only [n,decide_false,Bool.false_eq_true,if_false] at e
    have:(a.length:Int)*k≤1000*1000:=Int.mul_le_mul (by omega) h2 (by omega) (by omega)
    omega
theorem wd {X:Cx}:OpR X (binaryOp .Mult) xf:=by
  intro pins s σ H x y v u Q I rx ry h
  obtain ⟨a,k,rfl,rfl,h1,h2,h3,q⟩:=h
  obtain ⟨t,rfl⟩:=rx
  obtain ⟨u,rfl⟩:=ry
  obtain ⟨o1,o2,o3⟩:=PyProof.Rows.mulOk_of (x:=a) (n:=k) 1000 1000 h1 h3 (by omega) (by decide) (by decide)
  refine P.mul_str o1 o2 o3 ?_
  have hz:=uE h1 h3
  unfold Txt.mul at hz q
  by_cases c1:k < 1
  · rw [if_pos c1] at hz q ⊢
    exact ⟨hz, .str _,H,I.tok _,⟨_,rfl⟩,q⟩
  · rw [if_neg c1] at hz q ⊢
    by_cases c2:(k == 1||a.length == 0)=true
    · rw [if_pos c2] at hz q ⊢
      exact ⟨.str _,H,I,⟨_,rfl⟩,q⟩
    · rw [if_neg c2] at hz q ⊢
      exact ⟨hz, .str _,H,I.tok _,⟨_,rfl⟩,q⟩
section
variable {X:Cx} {K:PySem.W.Frag} {a b:Expr} {m1 m2:Bool} {f g:b9} {pos:Pos}
theorem uF:mJ K xf ko:=fun d1 d2 d v1 v2 H Q e r1 r2=>by
  unfold ko at e
  split at e
  · split at e
    · rename_i hc
      cases e;cases r1;cases r2
      exact ⟨_,rfl,fun q=>⟨_,_,rfl,rfl,hc.1,hc.2.1,hc.2.2,q⟩⟩
    · cases e
  · cases e
theorem qN (ha:EX X a m1 f) (hb:EX X b m2 g):EX X (.BinOp a .Mult b pos) (m1||m2) (af iV m2 f g):=j_ wd (jd uF) ha hb
end
end PL
namespace PL
open PySem L2 Nh
theorem mU {X:Cx} {x:Str} {i:Int} {t:Tok} {pos:Pos} (hg:Gl X x) (hm:X.mg x=some (.int i t)) (hd:(x == ("__debug__":Str))=false:=by decide):EX X (.Name x pos) false (pC (.int i)):=by
  refine bw (vo (v:= .int i) hg hm ⟨t,rfl⟩ hd) fun σ H Q z=>?_
  obtain ⟨B,E,xs,Xs,res,E',⟨F,A,fr⟩,cl,e,q⟩:=z
  cases e
  exact q _ _ ⟨F,A,fr.push ⟨rfl,_,rfl, .int _⟩⟩
end PL
namespace PL
open PySem PySem.SeqAt
open AutoSeq1 (wpAny_loadPart')
open MeetsSeq MeetsSeq2 MeetsSeq3 SeqRoads2
def RcGtAt (A:Around) (s:Shared) (y x:Value) (b:Bool):Prop:=
  ∀(prog:Program) (w:World) (E:Value→Shared→Prop) (Q:Value→Shared→Prop),Q (.bool b) s→wpAny (model prog w) A (richCompare .Gt y x) Q E s
theorem pE (l b:Addr) (items items2:Array Value) (n n2:Nat) (dd dd2:Option Addr) (sl sl2:Array (Option Value)) (e r:Nat→Bool):
    Meets (Builtin.«tuple.__gt__» ⟨[.ref l, .ref b],[]⟩)
      (fun A R s=>s.heap.get? l=some {cls:= .type "tuple",dict:=dd,data:= .seq items n,slots:=sl}∧s.heap.get? b=some {cls:= .type "tuple",dict:=dd2,data:= .seq items2 n2,slots:=sl2}∧
        (∀j (h1:j < items.size) (h2:j < items2.size),EqAt A.in1 s items[j] items2[j] (e j))∧(∀j (h1:j < items.size) (h2:j < items2.size),e j=false→RcGtAt A.in1 s items[j] items2[j] (r j))∧
        R (.ok (.ret (.bool (jk e r (decide (items2.size < items.size)) (List.range (min items.size items2.size)))))) s):=
  .of_wp fun prog w A R s h=>by
    obtain ⟨hp,g,d,tk,os⟩:=s;obtain ⟨hl,hb,he,hr,h⟩:=h
    have f2:=AutoSeq1.sub_tuple_tuple
    have hZ:(items.toList.zip items2.toList).length=min items.size items2.size:=by simp
    wp_walk using wpAny_loadPart' hl,wpAny_loadPart' hb,wpAny_forIn_list _ (fun cz b s'=>b.1=none∧s'=⟨hp,g,d,tk,os⟩∧∃i,cz=(items.toList.zip items2.toList).drop i∧
      R (.ok (.ret (.bool (jk e r (decide (items2.size < items.size)) ((List.range (min items.size items2.size)).drop i))))) ⟨hp,g,d,tk,os⟩) _
    case turn=>
      rintro ⟨y,x⟩ cz b s' ⟨hb',rfl,i,hz,hR⟩
      have hlt:i < (items.toList.zip items2.toList).length:=by
        rcases Nat.lt_or_ge i (items.toList.zip items2.toList).length with h' | h'
        · exact h'
        · rw [List.drop_of_length_le h'] at hz;cases hz
      have hm:i < min items.size items2.size:=hZ▸hlt
      have h1:i < items.size:=Nat.lt_of_lt_of_le hm (Nat.min_le_left _ _)
      have h2:i < items2.size:=Nat.lt_of_lt_of_le hm (Nat.min_le_right _ _)
      rw [List.drop_eq_getElem_cons hlt] at hz
      injection hz with hyx hrest
      have hy:y=items[i]:=by have:=congrArg Prod.fst hyx;simpa using this
      have hx:x=items2[i]:=by have:=congrArg Prod.snd hyx;simpa using this
      subst hy hx
      have hd:(List.range (min items.size items2.size)).drop i=i::(List.range (min items.size items2.size)).drop (i+1):=by simp [List.drop_eq_getElem_cons,hm]
      rw [hd,jk] at hR
      refine wpAny_bind (he i h1 h2 prog w _ _ ?_)
      cases hy:e i with
      | true=>
        rw [hy,if_pos rfl] at hR
        wp_walk
        exact ⟨rfl,rfl,i+1,hrest,hR⟩
      | false=>
        rw [hy,if_neg (by decide)] at hR
        rw [show (!false)=true from rfl,if_pos rfl]
        refine wpAny_bind (wpAny_rule (wpAny_bind (hr i h1 h2 hy prog w _ _ ?_)))
        wp_walk
        exact ⟨_,rfl,hR⟩
    case fin=>
      rintro ⟨b1,b2⟩ s' ⟨hb',rfl,i,hz,hR⟩
      simp only at hb'
      subst hb'
      have hge:min items.size items2.size≤i:=by
        rcases Nat.lt_or_ge i (items.toList.zip items2.toList).length with h' | h'
        · rw [List.drop_eq_getElem_cons h'] at hz;cases hz
        · exact hZ▸h'
      rw [List.drop_of_length_le (by simpa using hge)] at hR
      wp_walk
      exact ⟨_,rfl,hR⟩
    case h=>
      exact ⟨rfl,rfl,0,rfl,by simpa using h⟩
section
variable {A:Around} {s:Shared}
theorem RcGtAt.tuples {l b:Addr} {items items2:Array Value} {e r:Nat→Bool} (hl:s.heap.IsTuple l items) (hb:s.heap.IsTuple b items2) (hu:A.units < cLine)
    (he:∀j (h1:j < items.size) (h2:j < items2.size),EqAt A.in1 s items[j] items2[j] (e j)) (hr:∀j (h1:j < items.size) (h2:j < items2.size),e j=false→RcGtAt A.in1 s items[j] items2[j] (r j)):RcGtAt A s (.ref l) (.ref b) (jk e r (decide (items2.size < items.size)) (List.range (min items.size items2.size))):=fun prog w E Q h=>by
  obtain ⟨⟨cls,dd,data,sl⟩,ho,hc,n,hd⟩:=id hl
  obtain ⟨⟨cls2,dd2,data2,sl2⟩,ho2,hc2,n2,mw⟩:=id hb
  simp only at hc hd hc2 mw
  subst hc hd hc2 mw
  exact richCompare_meets_room (op:= .Gt) ⟨_,ho,rfl⟩ ⟨_,ho2,rfl⟩ F.slot_tuple_gt F.entry_tuple_gt (F.args_tuple_gt_2 _ _) (pE l b items items2 n n2 dd dd2 sl sl2 e r)
    ⟨ho,ho2,he,hr,show Value.bool _≠Value.notImplemented∧Q (.bool _) s from ⟨(fun x=>nomatch x),h⟩⟩ hu
theorem RcGtAt.ints (i j:Int) (t u:Tok):RcGtAt A s (.int i t) (.int j u) (decide (j < i)):=fun prog w E Q h=>PyProof.Rows.gt_int h
end
end PL
namespace PL
open PySem PySem.SeqAt L2 Nh
abbrev Ab:=PyData→PyData→Option Bool
def Cf:Ab
  | .int i, .int j=>some (decide (j < i))
  | .str a, .str b=>some (decide (b.cps.toList < a.cps.toList))
  | _,_=>none
def yD (lt:Ab):List PyData→List PyData→Option Bool
  | [],_=>some false
  | _::_,[]=>some true
  | x::xs,y::ys=>if PyData.eqv x y then yD lt xs ys else (lt x y).bind fun b=>(yD lt xs ys).map fun _=>b
def CI (lt:Ab):Ab
  | .tuple xs, .tuple ys=>yD lt xs ys
  | d,e=>Cf d e
def BR:Ab:=CI Cf
end PL
namespace Nh
open PySem L2
theorem NailsOk.stp {r:List Pc} {p:Pc} (h:NailsOk r) (hp:p.1 < 128):NailsOk (NH.stp r p):=by
  cases r with
  | nil=>
    show NailsOk (if p.2=0 then [] else [p])
    split
    · exact h
    · intro q hq;rw [List.mem_singleton.mp hq];exact hp
  | cons x r=>
    rw [NH.iQ]
    intro q hq
    rcases List.mem_append.mp hq with h1 | h1
    · unfold NH.mw at h1
      split at h1
      · split at h1
        · cases h1
        · rw [List.mem_singleton.mp h1];exact hp
      · split at h1
        · rw [List.mem_singleton.mp h1];exact h x (List.mem_cons_self ..)
        · rcases List.mem_cons.mp h1 with h2 | h2
          · rw [h2];exact hp
          · rw [List.mem_singleton.mp h2];exact h x (List.mem_cons_self ..)
    · exact h q (List.mem_cons_of_mem _ h1)
theorem NailsOk.foldl:∀(c:List Pc) {r:List Pc},NailsOk r→NailsOk c→NailsOk (c.foldl NH.stp r)
  | [],_,h,_=>h
  | p::c,_,h,hc=>NailsOk.foldl c (h.stp (hc p (List.mem_cons_self ..))) fun q hq=>hc q (List.mem_cons_of_mem _ hq)
theorem NailsOk.take {c:List Pc} (h:NailsOk c) (i:Nat):NailsOk (c.take i):=fun p hp=>h p (List.mem_of_mem_take hp)
theorem NailsOk.drop {c:List Pc} (h:NailsOk c) (i:Nat):NailsOk (c.drop i):=fun p hp=>h p (List.mem_of_mem_drop hp)
theorem NailsOk.reverse {c:List Pc} (h:NailsOk c):NailsOk c.reverse:=fun p hp=>h p (List.mem_reverse.mp hp)
theorem NailsOk.append {c d:List Pc} (h:NailsOk c) (h':NailsOk d):NailsOk (c++d):=fun p hp=>(List.mem_append.mp hp).elim (h p) (h' p)
theorem NailsOk.contr {c:List Pc} (h:NailsOk c):NailsOk (NH.contr c):=fun p hp=>by
  obtain ⟨q,hq,e⟩:=List.mem_map.mp hp
  subst e
  exact h q (List.mem_reverse.mp hq)
end Nh
namespace Nh
open PySem L2 PL
theorem NailsOk.rep {c:List Pc} (h:NailsOk c) (k:Nat):NailsOk (List.replicate k c).flatten:=fun p hp=>by
  obtain ⟨l,hl,hpl⟩:=List.mem_flatten.mp hp
  rw [(List.mem_replicate.mp hl).2] at hpl
  exact h p hpl
theorem NailsOk.cutL {c:List Pc} (h:NailsOk c) (lo hi:Option Int):NailsOk (cutL c lo hi):=fun p hp=>h p (ot hp)
def l4 (i:Int):Nat:=[97,98,99,122].getD i.toNat 97
theorem qO {i j:Int} (h1: -(2 ^ 64) < j) (h2:j < 2 ^ 64):dP i j=true:=by
  simp only [dP,Bool.or_eq_true,decide_eq_true_eq]
  exact .inl (.inr ⟨h1,h2⟩)
theorem mV {i j:Int} (h1: -(2 ^ 64) < i) (h2:i < 2 ^ 64):dP i j=true:=by
  simp only [dP,Bool.or_eq_true,decide_eq_true_eq]
  exact .inl (.inl ⟨h1,h2⟩)
theorem uG {j:Int} (h1:0 < j) (h2:j < 2 ^ 400):ka j=true:=decide_eq_true ⟨h1,h2⟩
theorem bo (i j:Int):rP (.int i) (.int j)=some (decide (i=j)):=rfl
end Nh
namespace L2
open PySem PySem.Spec PyProof.Rows
def qP (K:PySem.W.Frag) (h:Heap):Prop:=∀b q,jS K b=some q→h.get? b=some (PySem.W.tabObj #[])∧(∃c,PySem.W.CodeHd h c b)∧K.lookup b=none
def cS (K:PySem.W.Frag) (a:Addr) (so:Option HO):Hp:=fun b=>match jS K b with
  | some q=>some (.tbl q)
  | none=>if b=a then so else none
theorem pF {K:PySem.W.Frag} {a b:Addr} {so:Option HO} {q:Str} (e:jS K b=some q):cS K a so b=some (.tbl q):=by unfold cS;rw [e]
theorem si {K:PySem.W.Frag} {a:Addr} {so:Option HO} (e:jS K a=none):cS K a so a=so:=by unfold cS;rw [e];exact if_pos rfl
theorem eO {K:PySem.W.Frag} {a b:Addr} {so:Option HO} {u:HO} (e:cS K a so b=some u):(∃q,jS K b=some q∧u= .tbl q)∨(b=a∧so=some u):=by
  unfold cS at e
  split at e
  · rename_i q h;cases e;exact .inl ⟨q,h,rfl⟩
  · by_cases hb:b=a
    · rw [if_pos hb] at e;exact .inr ⟨hb,e⟩
    · rw [if_neg hb] at e;cases e
section
variable {P:Program} {w:World} {K:PySem.W.Frag} {mg mb:Str→Option Value} {CX:sO} {k:Nat} {fa a:Addr} {fd:FuncData} {x:Str} {sp:Sp} {s₁:Shared} {vs:List Value} {ns:List Int}
theorem we (KX:K.In s₁.heap) (hns:s₁.heap.Ns mainGlobals mg) (hb:s₁.heap.Ns builtinsNs mb) (hbb:∀x:Str,x≠"__name__"→mb x=bootBuiltins x) (hlim:s₁.heap.NoLimit) (hg:s₁.gens=#[]) (hbm:∃bm ob,mg "__builtins__"=some (.ref bm)∧bm≠builtinsNs∧s₁.heap.get? bm=some ob∧ob.cls= .type "module"∧ob.dict=some builtinsNs∧ob.data= .plain) (hT:qP K s₁.heap)
    (ha:s₁.heap.get? a=some {cls:= .type "list",data:= .seq vs.toArray}) (hi:IntsAre vs ns) (hl:ns.length≤sizeLine) (hr:Room k callerA)
    (F:∀base:Heap,K.In base→base.Ns mainGlobals mg→FnOk P w K mg base CX k fa fd [x] sp) (hbind:∀(s:Shared) (u:Value),BindsTo s fd ⟨[u],[]⟩ [(x,u)])
    (hsp:∀H:Hp,SqL K H a (ns.map V.int)→sp [.ref a] H (fun v _=>v= .bl true) fun _ _ _=>False)
    (hCX:∀H e s',CX [] H s₁ (fun _ _ _=>False) e s'→False):
    codeAny (model P w) callerA (.call (.ref fa) ⟨[.ref a],[]⟩) (fun r s'=>r= .ok (.ret (.bool true))∧OldK s₁.heap s'.heap∧s'.os=s₁.os∧AllBare s'.gens) s₁:=by
  have rv:=gp hi
  have lenV:=hi.length
  have tabA:jS K a=none:=by
    cases q:jS K a with
    | none=>rfl
    | some z=>
      have e:=(hT a z q).1
      rw [ha] at e
      cases e
  have main:∀so:Option HO,(so=none∨(so=some (.frz {cls:= .type "list",data:= .seq vs.toArray} (.lst (ns.map V.int)))∧K.lookup a=none))→SqL K (cS K a so) a (ns.map V.int)→
      codeAny (model P w) callerA (.call (.ref fa) ⟨[.ref a],[]⟩) (fun r s'=>r= .ok (.ret (.bool true))∧OldK s₁.heap s'.heap∧s'.os=s₁.os∧AllBare s'.gens) s₁:=by
    intro so hso hS
    have hok:HOk P w (cS K a so) s₁.heap:=fun b u e=>by
      rcases eO e with ⟨q,e1,rfl⟩ | ⟨rfl,e1⟩
      · exact ObjOk.tbl0 (hT b q e1).1
      · rcases hso with z | ⟨z,_⟩
        · rw [z] at e1;cases e1
        · rw [z] at e1;cases e1
          exact ⟨ha,by rw [List.length_map];exact hl,vs,_,rv,ha⟩
    have free:∀{b:Addr} {o:Obj} {es:Array DictEntry} {ep:Nat},s₁.heap.get? b=some o→o.data= .dict es ep→cS K a so b=none:=fun {b o es ep} e d=>by
      cases q:cS K a so b with
      | none=>rfl
      | some u=>
        rcases eO q with ⟨z,e1,_⟩ | ⟨rfl,_⟩
        · rw [(hT b z e1).1] at e;cases e;cases d
        · rw [ha] at e;cases e;cases d
    have nsK:∀{b:Addr} {m:Str→Option Value},s₁.heap.Ns b m→(nP s₁.heap (cS K a so)).Ns b m:=fun {b m} ⟨o,es,ep,e,d,r⟩=>⟨o,es,ep,jR e (free e d),d,r⟩
    have kin:K.In (nP s₁.heap (cS K a so)):=fun b o e=>jR (KX b o e) (by
      cases q:cS K a so b with
      | none=>rfl
      | some u=>
        rcases eO q with ⟨z,e1,_⟩ | ⟨rfl,e1⟩
        · rw [(hT b z e1).2.2] at e;cases e
        · rcases hso with z | ⟨_,z⟩
          · rw [z] at e1;cases e1
          · rw [z] at e;cases e)
    have bmK:∃bm ob,mg "__builtins__"=some (.ref bm)∧bm≠builtinsNs∧(nP s₁.heap (cS K a so)).get? bm=some ob∧ob.cls= .type "module"∧ob.dict=some builtinsNs∧ob.data= .plain:=by
      obtain ⟨bm,ob,c1,c2,c3,c4,c5⟩:=hbm
      refine ⟨bm,ob,c1,c2,jR c3 ?_,c4,c5⟩
      cases q:cS K a so bm with
      | none=>rfl
      | some u=>
        rcases eO q with ⟨z,e1,_⟩ | ⟨rfl,_⟩
        · rw [(hT bm z e1).1] at c3;cases c3;cases c4
        · rw [ha] at c3
          cases c3
          injection c4 with c6
          exact absurd c6 (by decide)
    have e0:Env0 P w K mg (nP s₁.heap (cS K a so)) callerA [] s₁ (cS K a so):=
      ⟨rfl,⟨kin,nsK hns,⟨mb,nsK hb,hbb⟩,let ⟨mc,h1,h2⟩:=hlim;⟨mc,nsK h1,h2⟩,bmK⟩,fun b o e=>vk e,Nat.le_of_eq (rm _ _),trivial,fun b hb=>absurd (show b∈([]:List Addr) from hb) (by simp),hok, .of_eq hg,fun b q e=>pF e⟩
    refine codeAny_mono ((F _ kin (nsK hns)).run callerA [] s₁ _ ⟨[.ref a],[]⟩ [.ref a] [.ref a] _ _ hr e0 (hbind s₁ (.ref a)) (.cons rfl .nil) (hsp _ hS)) fun r s' h=>?_
    cases r with
    | error e=>exact (hCX _ e s' h).elim
    | ok fl=>
      cases fl with
      | next=>exact False.elim h
      | brk=>exact False.elim h
      | cont=>exact False.elim h
      | ret u=>
        obtain ⟨v,H',os,bare,un,hok',r',q⟩:=h
        have q':v= .bl true:=q
        subst q'
        obtain rfl:u=Value.bool true:=r'
        have nofs:∀b,b∉sN ([]:List Env):=fun b z=>absurd (show b∈([]:List Addr) from z) (by simp)
        have step:∀b o,s₁.heap.get? b=some o→asItWas s₁.heap s'.heap b o∧∃o',s'.heap.get? b=some o':=fun b o e=>by
          cases q:cS K a so b with
          | none=>exact ⟨.inl (un.keep b o e q (nofs b) (by simp)),_,un.keep b o e q (nofs b) (by simp)⟩
          | some u=>
            rcases eO q with ⟨z,e1,rfl⟩ | ⟨rfl,e1⟩
            · obtain ⟨t1,⟨c,t2⟩,_⟩:=hT b z e1
              obtain ⟨ps,p1,_⟩:=hok' b _ (un.tbls b z q)
              rw [t1] at e
              cases e
              exact ⟨.inr (.inl ⟨(t2.tab t1).isCodeTable,rfl,#[],ps,rfl,by simpa using p1⟩),_,p1⟩
            · rcases hso with z | ⟨z,_⟩
              · rw [z] at e1;cases e1
              · rw [z] at e1;cases e1
                have z2:=un.frzs b _ _ q
                obtain ⟨e2,_⟩:=hok' b _ z2
                rw [ha] at e;cases e
                exact ⟨.inl e2,_,e2⟩
        exact ⟨rfl,⟨fun b o e=>(step b o e).1,fun b o e=>(step b o e).2⟩,os,bare⟩
  cases hk:K.lookup a with
  | some o=>
    have e:=KX a o hk
    rw [ha] at e
    cases e
    exact main none (.inl rfl) (.inr ⟨_,vs.toArray,_,hk,rfl,rfl,rfl,by rw [List.size_toArray,lenV];exact hl,by simpa using rv⟩)
  | none=>exact main _ (.inr ⟨rfl,hk⟩) (.inl (.inr ⟨_,si tabA⟩))
end
theorem uH {l:PySem.W.OpenLaw} {n k:Nat} {q:Program} {loose:List Str} {XP:(Str→Option Value)→Heap→Prop} {YP:World→Heap→Prop} {d:DefRec} {K:Params→PySem.W.Frag} {CX:World→sO} {sp:World→Sp} {x:Str}
    (hn:l.most=some n) (hn2:n≤sizeLine) (hdf:d.params.defaults=[]) (hr:Room k callerA)
    (hY:∀(w:World) (h:Heap),YP w h→(K w.params).In h∧qP (K w.params) h)
    (F:∀(w:World) (mg:Str→Option Value) (fa:Addr) (h:Heap),(K w.params).In h→h.Ns mainGlobals mg→mg d.name=some (.ref fa)→
      ∃fd:FuncData,(∀(s:Shared) (u:Value),BindsTo s fd ⟨[u],[]⟩ [(x,u)])∧
        ∀base:Heap,(K w.params).In base→base.Ns mainGlobals mg→FnOk l.prog w (K w.params) mg base (CX w) k fa fd [x] (sp w))
    (hsp:∀(w:World) (H:Hp) (a:Addr) (ns:List Int),ns.length≤n→SqL (K w.params) H a (ns.map V.int)→sp w [.ref a] H (fun v _=>v= .bl true) fun _ _ _=>False)
    (hCX:∀(w:World) (H:Hp) (s:Shared) (e:Value) (s':Shared),CX w [] H s (fun _ _ _=>False) e s'→False):
    PySem.W.WalkO q loose XP YP l.row.toRowW d [] (fun f vs=>PySem.call f vs):=by
  refine Att.nY hn hdf fun w s₀ s₁ mg mb fa o pm cd doc a vs ns G Y ho hd hcd hmg hobj hints hlen hg=>?_
  obtain ⟨KX,KT⟩:=hY w _ Y
  obtain ⟨fd,hb,hF⟩:=F w mg fa _ KX G.T.g hmg
  exact we KX G.T.g G.T.b G.T.builtins G.T.nolimit hg G.T.bmain KT hobj hints (Nat.le_trans hlen hn2) hr hF hb (fun H hS=>hsp w H a ns hlen hS) fun H e s'=>hCX w H s₁ e s'
end L2
namespace PL
open PySem L2 Nh PyProof.Rows
def Ac (i j k:Nat) (ta:TA):TS:=fun D σ H=>ta σ H fun vs H1=>∃u v w,vs=[u,v,w]∧D.nx (((σ.set k (some w)).set j (some v)).set i (some u)) H1
theorem wf {X:Cx} {i j k:Nat} {x y z:Str} {es:List Expr} {ta:TA} {px py pz pt pos:Pos} {kt k2:Nat} {pt2:Pos} (hc:X.calm=true) (hN:X.N.Nodup) (hi:X.N[i]? =some x) (hj:X.N[j]? =some y) (hk:X.N[k]? =some z)
    (hx:X.env.scope.names.lookup x=some .local) (hy:X.env.scope.names.lookup y=some .local) (hz:X.env.scope.names.lookup z=some .local) (ha:PA X es ta)
    (hw:swappedStores [.Tuple [.Name x px, .Name y py, .Name z pz] kt pt] (.Tuple es k2 pt2) X.env=pure (some [x,y,z]))
    (hs:swapsWithSole [.Tuple [.Name x px, .Name y py, .Name z pz] kt pt] (.Tuple es k2 pt2) pos.line X.env=pure false):
    PS X (.Assign [.Tuple [.Name x px, .Name y py, .Name z pz] kt pt] (.Tuple es k2 pt2) pos) (Ac i j k ta):=by
  intro pins s σ H D I h
  rw [exec_Assign_arm]
  refine wpAny_bind (wpAny_standAt ?_)
  rw [hs]
  refine wpAny_bind (wpAny_pure ?_)
  rw [if_neg (by decide)]
  refine wpAny_bind (Tuple_ (cO (ha _ pins s σ H _ I h) fun us s1 ⟨vs,H1,I1,r1,u,v,w,e1,q1⟩=>?_))
  subst e1
  obtain ⟨u1,u2,u3,rfl,ru,rv,rw'⟩:∃u1 u2 u3,us=[u1,u2,u3]∧RelV u u1∧RelV v u2∧RelV w u3:=by
    cases r1 with
    | cons a r1=>
      cases r1 with
      | cons b r1=>
        cases r1 with
        | cons c r1=>cases r1;exact ⟨_,_,_,rfl,a,b,c⟩
  refine wpAny_newObj_type ?_ (by show 3≤sizeLine;decide)
  have I2:Inv X pins σ H1 {s1 with heap:=s1.heap.push {cls:= .type "tuple",data:= .seq [u1,u2,u3].toArray}}:=I1.kept (t':=s1.toks) fun b o e=>Heap.get?_push_of_some _ e
  rw [hw]
  refine wpAny_bind (wpAny_pure ?_)
  show wpAny (model X.prog X.w) X.A (do rule "assign.swapped-stores";let items ←unpackItems (.ref s1.heap.objs.size) 3 none;assignInOrder [fun v=>bindName X.env z v,fun v=>bindName X.env y v,fun v=>bindName X.env x v] items.reverse;pure Flow.next) _ _ _
  refine wpAny_bind (wpAny_rule (wpAny_bind (unpackItems_tuple (items:=#[u1,u2,u3]) (I.ok.hd hc) (IsTup.new s1.heap _) fun h' hx'=>?_)))
  have I3:=I2.kept (h':=h') (t':=s1.toks) fun b o e=>hx' b o (Nat.ne_of_lt (Heap.lt_size e)) e
  show wpAny _ _ (assignInOrder [fun v=>bindName X.env z v,fun v=>bindName X.env y v,fun v=>bindName X.env x v] [u3,u2,u1] >>= fun _=>pure Flow.next) _ _ _
  refine wpAny_bind (assignInOrder_cons (wpAny_bindName (gY I3 hN hk (.inl hz) rw' (fun s2 I4=>?_) (.inr hz))))
  refine assignInOrder_cons (wpAny_bindName (gY I4 hN hj (.inl hy) rv (fun s3 I5=>?_) (.inr hy)))
  refine assignInOrder_cons (wpAny_bindName (gY I5 hN hi (.inl hx) ru (fun s4 I6=>assignInOrder_nil (wpAny_pure ?_)) (.inr hx)))
  exact ⟨_,H1,I6,q1⟩
def qQ (i j k:Nat) (g:j7):bA:=fun E=>(g E).bind fun a=>match a.1 with
  | [s1,s2,s3]=>if !s1.isAl&& !s2.isAl&& !s3.isAl&&decide (i < a.2.length)&&decide (j < a.2.length)&&decide (k < a.2.length) then some (((a.2.set k s3).set j s2).set i s1, .nx) else none
  | _=>none
theorem wg {X:Cx} (i j k:Nat) {x y z:Str} {es:List Expr} {m:Bool} {g:j7} {px py pz pt pos:Pos} {kt k2:Nat} {pt2:Pos} (hc:X.calm=true) (hN:X.N.Nodup) (ha:AX X es m g) (hi:X.N[i]? =some x:=by rfl) (hj:X.N[j]? =some y:=by rfl) (hk:X.N[k]? =some z:=by rfl)
    (hx:X.env.scope.names.lookup x=some .local:=by rfl) (hy:X.env.scope.names.lookup y=some .local:=by rfl) (hz:X.env.scope.names.lookup z=some .local:=by rfl)
    (hw:swappedStores [.Tuple [.Name x px, .Name y py, .Name z pz] kt pt] (.Tuple es k2 pt2) X.env=pure (some [x,y,z]):=by rfl)
    (hs:swapsWithSole [.Tuple [.Name x px, .Name y py, .Name z pz] kt pt] (.Tuple es k2 pt2) pos.line X.env=pure false:=by rfl):
    SX X (.Assign [.Tuple [.Name x px, .Name y py, .Name z pz] kt pt] (.Tuple es k2 pt2) pos) (qQ i j k g):=gh (wf hc hN hi hj hk hx hy hz ha hw hs) fun D σ H q0=>by
  obtain ⟨B,E,xs,Xs,E',fl,fr,cl,e,q⟩:=q0
  obtain ⟨⟨rs,E1⟩,e1,e⟩:=Option.bind_eq_some_iff.mp e
  refine ⟨B,E,xs,Xs,rs,E1,fr,fun _=>Calm.nil cl,e1,fun vs H1 hl ⟨F,A,fr1⟩=>?_⟩
  simp only at e
  split at e
  · rename_i s1 s2 s3
    split at e
    · rename_i hh
      simp only [Bool.and_eq_true,decide_eq_true_eq,Bool.not_eq_true'] at hh
      obtain ⟨⟨⟨⟨⟨a1,a2⟩,a3⟩,b1⟩,b2⟩,b3⟩:=hh
      cases e
      match vs,hl with
      | [u,v,w],_=>
      subst cl
      have hxs:xs=[]:=by
        obtain ⟨_,_,f0⟩:=fr
        have:=f0.len
        simpa using this
      subst hxs
      simp only [List.reverse_cons,List.reverse_nil,List.nil_append,List.cons_append,List.append_nil] at fr1
      obtain ⟨A3,fr3⟩:=fr1.store (i:=k) a3 (fun s hs=>by
        simp only [List.mem_cons,List.not_mem_nil,or_false] at hs
        rcases hs with rfl | rfl
        · exact a2
        · exact a1) b3
      obtain ⟨A4,fr4⟩:=fr3.store (i:=j) a2 (fun s hs=>by
        simp only [List.mem_cons,List.not_mem_nil,or_false] at hs
        rw [hs]
        exact a1) (by rw [List.length_set];exact b2)
      obtain ⟨A5,fr5⟩:=fr4.store (i:=i) a1 (fun s hs=>nomatch hs) (by rw [List.length_set,List.length_set];exact b1)
      exact ⟨u,v,w,rfl,q _ _ ⟨F,A5,fr5⟩⟩
    · cases e
  · cases e
end PL
namespace PL
open PySem L2 Nh PyProof.Rows
theorem Ad (n:Nat):vL (n+1) 0=some 0:=by unfold vL;simp
theorem Ae {α:Type} (x:α) (l:List α):atI (x::l) 0=some x:=by
  unfold atI
  rw [List.length_cons,Ad]
  rfl
section
variable {K:PySem.W.Frag} {B F:Hp} {A:List Addr} {σ:iO} {H H':Hp} {E:List Sl} {xs:List V} {Xs:List Sl} {v:V} {r:Sl}
theorem FrF.mutI {i:Nat} {l:Addr} {zs:List Int} (h:FrF K B F A σ H E xs Xs) (e:E[i]? =some (.io l zs)) (c:∀s∈Xs,s.isBr=false):
    σ[i]? =some (some (.ref l))∧H l=some (.lst (zs.map V.int))∧∀zs':List Int,FrF K B F A σ (upd H l (.lst (zs'.map V.int))) (E.set i (.io l zs')) xs Xs:=by
  obtain ⟨o,A0,A1,A2,eA,eo,hp,put⟩:=h.sl.at (k:=Xs.length+i) (s:= .io l zs) (by rw [List.getElem?_append_right (by omega)];simpa using e)
  rw [List.getElem?_append_right (by rw [List.length_map,h.len];omega),List.length_map,h.len,Nat.add_sub_cancel_left] at eo
  obtain ⟨rfl,rfl,hl⟩:=hp
  refine ⟨eo,hl,fun zs'=>?_⟩
  have hlA:l∈A:=by rw [eA];simp
  have nl:∀b,b∈A0∨b∈A2→b≠l:=fun b hb z=>by
    subst z
    have nd:=h.nd
    rw [eA] at nd
    rcases hb with hb | hb
    · exact (List.nodup_append.mp nd).2.2 b hb b (by simp) rfl
    · exact (List.nodup_append.mp (List.nodup_append.mp nd).2.1).2.2 b (by simp) b hb rfl
  have lF:F l=none:=h.fr l hlA
  have z:=put (SlOk K F (upd H l (.lst (zs'.map V.int))) σ) (some (.ref l)) (.io l zs') [l] ⟨rfl,rfl,aJ⟩ fun o s C hs hC q=>q.stay (Same.refl _) (fun b hb=>ay (nl b (hC b hb))) fun z=>by
    rcases List.mem_append.mp hs with hs | hs
    · rw [c s hs] at z;cases z
    · have:=h.pl s hs
      cases s <;> simp [Sl.isAl,Sl.isBr] at this z
  have e3:(Xs++E).set (Xs.length+i) (.io l zs')=Xs++E.set i (.io l zs'):=by
    rw [List.set_append_right _ _ (by omega),Nat.add_sub_cancel_left]
  have e2:(List.map some xs++σ).set (Xs.length+i) (some (V.ref l))=List.map some xs++σ:=by
    rw [←h.len,List.set_append_right _ _ (by rw [List.length_map];omega),List.length_map,Nat.add_sub_cancel_left]
    congr 1
    exact List.ext_getElem? fun j=>by
      by_cases hj:i=j
      · subst hj
        rw [List.getElem?_set_self',eo];rfl
      · rw [List.getElem?_set_ne hj]
  rw [e2,e3,←eA] at z
  refine ⟨h.bf,fun b o q=>?_,?_,z,h.nd,h.fr,h.len,fun s hs=>?_⟩
  · rw [ay (fun z=>by rw [z,lF] at q;cases q)]
    exact h.fh _ _ q
  · rw [j5 hl];exact h.tf
  · rcases List.mem_or_eq_of_mem_set hs with hs | hs
    · exact h.pl s hs
    · subst hs;rfl
theorem FrF.letGo {i:Nat} {l:Addr} {zs:List Int} (h:FrF K B F A σ H E xs Xs) (e:E[i]? =some (.io l zs)):
    H l=some (.lst (zs.map V.int))∧∃A',FrF K (fun b=>if b=l then H l else B b) (fun b=>if b=l then H l else F b) A' σ H (E.set i .no) xs Xs:=by
  obtain ⟨o,A0,A1,A2,eA,eo,hp,put⟩:=h.sl.at (k:=Xs.length+i) (s:= .io l zs) (by rw [List.getElem?_append_right (by omega)];simpa using e)
  rw [List.getElem?_append_right (by rw [List.length_map,h.len];omega),List.length_map,h.len,Nat.add_sub_cancel_left] at eo
  obtain ⟨rfl,rfl,hl⟩:=hp
  refine ⟨hl,A0++A2,?_⟩
  have hlA:l∈A:=by rw [eA];simp
  have lF:F l=none:=h.fr l hlA
  have nd:=h.nd
  rw [eA] at nd
  have nl:∀b,b∈A0∨b∈A2→b≠l:=fun b hb z=>by
    subst z
    rcases hb with hb | hb
    · exact (List.nodup_append.mp nd).2.2 b hb b (by simp) rfl
    · exact (List.nodup_append.mp (List.nodup_append.mp nd).2.1).2.2 b (by simp) b hb rfl
  have sF:Same F (fun b=>if b=l then H l else F b):=fun b o q=>by
    show (if b=l then H l else F b)=_
    rw [if_neg (fun z=>by rw [z,lF] at q;cases q)]
    exact q
  have z:=put (SlOk K (fun b=>if b=l then H l else F b) H σ) (some (.ref l)) .no [] rfl fun o s C hs hC q=>q.stay sF (fun b hb=>rfl) fun _=>Same.refl _
  have e3:(Xs++E).set (Xs.length+i) .no=Xs++E.set i .no:=by
    rw [List.set_append_right _ _ (by omega),Nat.add_sub_cancel_left]
  have e2:(List.map some xs++σ).set (Xs.length+i) (some (V.ref l))=List.map some xs++σ:=by
    rw [←h.len,List.set_append_right _ _ (by rw [List.length_map];omega),List.length_map,Nat.add_sub_cancel_left]
    congr 1
    exact List.ext_getElem? fun j=>by
      by_cases hj:i=j
      · subst hj
        rw [List.getElem?_set_self',eo];rfl
      · rw [List.getElem?_set_ne hj]
  rw [e2,e3,List.nil_append] at z
  refine ⟨fun b o q=>?_,fun b o q=>?_,fun b o q=>?_,z,?_,fun a ha=>?_,h.len,fun s hs=>?_⟩
  · by_cases hb:b=l
    · have q:(if b=l then H l else B b)=some o:=q
      show (if b=l then H l else F b)=_
      rw [if_pos hb] at q ⊢
      exact q
    · have q:(if b=l then H l else B b)=some o:=q
      show (if b=l then H l else F b)=_
      rw [if_neg hb] at q ⊢
      exact h.bf _ _ q
  · have q:(if b=l then H l else F b)=some o:=q
    by_cases hb:b=l
    · rw [if_pos hb] at q;rw [hb];exact q
    · rw [if_neg hb] at q;exact h.fh _ _ q
  · show (if b=l then H l else F b)=_
    by_cases hb:b=l
    · rw [if_pos hb,←hb];exact gr H _ _ q
    · rw [if_neg hb];exact h.tf _ _ q
  · exact List.nodup_append.mpr ⟨(List.nodup_append.mp nd).1,(List.nodup_append.mp (List.nodup_append.mp nd).2.1).2.1,fun a ha b hb=>(List.nodup_append.mp nd).2.2 a ha b (List.mem_append_right _ hb)⟩
  · have:a≠l:=nl a (List.mem_append.mp ha)
    show (if a=l then H l else F a)=none
    rw [if_neg this]
    exact h.fr a (by rw [eA];rcases List.mem_append.mp ha with q | q <;> simp [q])
  · rcases List.mem_or_eq_of_mem_set hs with hs | hs
    · exact h.pl s hs
    · subst hs;rfl
theorem ResOk.anti {H1 H2:Hp} (a:∀b,H1 b=none→H2 b=none) (q:ResOk K H1 H' v r):ResOk K H2 H' v r:=by
  cases r with
  | no=>exact q
  | io l zs=>exact q
  | sh d=>exact q
  | ow ds=>obtain ⟨l,vs,h1,h2,h3⟩:=q;exact ⟨l,vs,h1,a _ h2,h3⟩
  | tx ps=>obtain ⟨t,vs,A,h1,h2,h3,h4,h5⟩:=q;exact ⟨t,vs,A,h1,h2,h3,fun x hx=>a _ (h4 x hx),h5⟩
  | od kvs=>obtain ⟨l,us,A,h1,h2,h3,h4⟩:=q;exact ⟨l,us,A,h1,h2,fun x hx=>a _ (h3 x hx),h4⟩
  | al i=>exact q
  | br d=>exact q
end
def gv (K:PySem.W.Frag) (c:List Int→List PyData→Option (Sl×List Int)):Sp:=fun vs H Q _=>∃l zs cz ds r zs',vs= .ref l::cz∧H l=some (.lst (zs.map V.int))∧RpA K H cz ds∧c zs ds=some (r,zs')∧
  ∀v H',SameBut l H H'→H' l=some (.lst (zs'.map V.int))→ResOk K H H' v r→Q v H'
def AO:List PyData→Option (List Int)
  | []=>some []
  | .int z::r=>(AO r).map (z:: ·)
  | _=>none
theorem uI {K:PySem.W.Frag} {H:Hp}:∀{ds:List PyData} {zs:List Int} {vs:List V},AO ds=some zs→RpA K H vs ds→vs=zs.map V.int
  | [],zs,vs,e,r=>by cases e;cases r;rfl
  | .int z::ds,zs,vs,e,r=>by
    obtain ⟨zs',e1,rfl⟩:=Option.map_eq_some_iff.mp e
    cases r with
    | cons r1 r2=>
      cases r1
      rw [uI e1 r2]
      rfl
theorem xg {K:PySem.W.Frag} {H:Hp}:∀zs:List Int,RpA K H (zs.map V.int) (zs.map PyData.int)
  | []=> .nil
  | z::zs=> .cons (.int z) (xg zs)
def aK (i:Nat) (c:List Int→List PyData→Option (Sl×List Int)) (g:j7):b9:=fun E=>match E[i]? with
  | some (.io l _)=>(g E).bind fun a=>match a.2[i]? with
    | some (.io l' zs)=>if l=l' then (az a.2 a.1).bind fun ds=>(c zs ds).map fun r=>(r.1,a.2.set i (.io l r.2)) else none
    | _=>none
  | some (.ow _)=>(g E).bind fun a=>match a.2[i]? with
    | some (.ow ds0)=>(AO ds0).bind fun zs=>(az a.2 a.1).bind fun ds=>(c zs ds).map fun r=>(r.1,a.2.set i (.ow (r.2.map PyData.int)))
    | _=>none
  | _=>none
theorem oF {H H':Hp} {l:Addr} {o:HO} (sb:SameBut l H H') (h:H' l=some o):Same (upd H l o) H':=fun b u q=>by
  by_cases hb:b=l
  · subst hb;rw [aJ] at q;cases q;exact h
  · rw [ay hb] at q;exact sb b u hb q
theorem oG {H:Hp} {l:Addr} {o o':HO} (h:H l=some o):∀b,H b=none→upd H l o' b=none:=fun b q=>by
  rw [ay (fun z=>by rw [z,h] at q;cases q)];exact q
theorem fV {X:Cx} (i:Nat) {k:Nat} {x y:Str} {ps:List Str} {c:List Int→List PyData→Option (Sl×List Int)} {p p2 pos:Pos} {es:List Expr} {m:Bool} {g:j7} (D:Own X.prog X.w X.K X.mg X.base k x ps (gv X.K c)) (hr:Room k X.A) (hg:Gl X x) (ha:AX X es m g)
    (hN:X.N[i]? =some y:=by rfl) (hv:ve X.env.scope y:=by first | exact Or.inl rfl | exact Or.inr (Or.inl rfl) | exact Or.inr (Or.inr rfl)) (hd:(y == ("__debug__":Str))=false:=by decide) (hcd:(y == ("__classdict__":Str))=false:=by decide)
    (hdb:(x == ("__debug__":Str))=false:=by decide) (he:starEach (.Name y p2::es) X.env=(false,eval (.Name y p2) X.env)::starEach es X.env:=by rfl) (hpl:(backTo pos (starEach es X.env)).any (·.1)=false:=by rfl):
    EX X (.Call (.Name x p) (.Name y p2::es) [] pos) true (aK i c g):=by
  refine bw (tT D hr hg (bZ (gZ hN hv hd hcd) ha he) hdb he hpl) fun σ H Q z=>?_
  obtain ⟨B,E,xs,Xs,res,E',⟨F,A,fr⟩,cl,e,q⟩:=z
  unfold aK at e
  split at e
  · rename_i l zs0 ei
    obtain ⟨⟨rs,E1⟩,e1,e⟩:=Option.bind_eq_some_iff.mp e
    simp only at e
    split at e
    · rename_i l' zs ei1
      split at e
      · rename_i hll
        subst hll
        obtain ⟨ds,e2,e⟩:=Option.bind_eq_some_iff.mp e
        obtain ⟨⟨r,zs'⟩,e3,e⟩:=Option.map_eq_some_iff.mp e
        cases e
        obtain ⟨eo,_,_⟩:=fr.mutI ei (cl rfl)
        refine ⟨_,eo,B,E,xs,Xs,rs,E1,⟨F,A,fr⟩,fun _=>cl rfl,e1,fun us H1 hl ⟨F1,A1,fr1⟩=>?_⟩
        obtain ⟨r1,A',fr2⟩:=fr1.looks hl e2
        obtain ⟨eo',hl',put⟩:=fr2.mutI ei1 (cl rfl)
        refine ⟨l,zs,us,ds,r,zs',by rw [List.append_nil],hl',r1,e3,fun v H' sb h1 h3=>?_⟩
        exact q _ _ ((put zs').told (oF sb h1) (h3.anti (oG hl')))
      · cases e
    · cases e
  · rename_i ds0 ei
    obtain ⟨⟨rs,E1⟩,e1,e⟩:=Option.bind_eq_some_iff.mp e
    simp only at e
    split at e
    · rename_i ds1 ei1
      obtain ⟨zs,ez,e⟩:=Option.bind_eq_some_iff.mp e
      obtain ⟨ds,e2,e⟩:=Option.bind_eq_some_iff.mp e
      obtain ⟨⟨r,zs'⟩,e3,e⟩:=Option.map_eq_some_iff.mp e
      cases e
      obtain ⟨o,A1,eo,l,vs,rfl,rfl,hl0,_⟩:=fr.var ei
      refine ⟨_,eo,B,E,xs,Xs,rs,E1,⟨F,A,fr⟩,fun _=>cl rfl,e1,fun us H1 hl ⟨F1,A1,fr1⟩=>?_⟩
      obtain ⟨r1,A',fr2⟩:=fr1.looks hl e2
      obtain ⟨l',vs',eo',hl',r',put⟩:=fr2.mut ei1 (cl rfl)
      rw [eo] at eo'
      cases eo'
      have ev:=uI ez r'
      subst ev
      refine ⟨l,zs,us,ds,r,zs',by rw [List.append_nil],hl',r1,e3,fun v H' sb h1 h3=>?_⟩
      exact q _ _ ((put _ _ (xg zs')).told (oF sb h1) (h3.anti (oG hl')))
    · cases e
  · cases e
def fP (i j:Nat):b9:=fun E=>match E[i]? with
  | some (.io _ zs)=>(zs[j]?).map fun z=>(.sh (.int z),E)
  | _=>none
theorem jl {X:Cx} (i j:Nat) {x:Str} {p p2 pos:Pos} {u:Nat} (hN:X.N[i]? =some x:=by rfl) (hv:ve X.env.scope x:=by first | exact Or.inl rfl | exact Or.inr (Or.inl rfl) | exact Or.inr (Or.inr rfl)) (hd:(x == ("__debug__":Str))=false:=by decide) (hcd:(x == ("__classdict__":Str))=false:=by decide):
    EX X (.Subscript (.Name x p) (.Constant (.int (j:Int)) u p2) pos) false (fP i j):=bw (qr ix_list (gZ hN hv hd hcd) g8 (fun _ _=>rfl)) fun σ H Q z=>by
  obtain ⟨B,E,xs,Xs,res,E',⟨F,A,fr⟩,cl,e,q⟩:=z
  unfold fP at e
  split at e
  · rename_i l zs ei
    obtain ⟨z,ez,e⟩:=Option.map_eq_some_iff.mp e
    cases e
    obtain ⟨o,A1,eo,rfl,rfl,hl⟩:=fr.var ei
    refine ⟨_,eo,l,zs.map V.int,(j:Int), .int z,rfl,rfl,SqL.of hl,?_,q _ _ ⟨F,A,fr.push ⟨rfl,_,rfl, .int z⟩⟩⟩
    rw [cp]
    rw [List.getElem?_map,ez]
    rfl
  · cases e
def gK (i j:Nat) (fe:b9):bA:=fun E=>(fe E).bind fun a=>match look a.2 a.1,a.2[i]? with
  | some (.int z),some (.io l zs)=>if j < zs.length then some (a.2.set i (.io l (zs.set j z)), .nx) else none
  | _,_=>none
theorem mW {X:Cx} (i j:Nat) {e:Expr} {x:Str} {m:Bool} {fe:b9} {p p2 p3 pos:Pos} {u:Nat} (he:EX X e m fe) (hN:X.N[i]? =some x:=by rfl) (hv:ve X.env.scope x:=by first | exact Or.inl rfl | exact Or.inr (Or.inl rfl) | exact Or.inr (Or.inr rfl)) (hd:(x == ("__debug__":Str))=false:=by decide) (hcd:(x == ("__classdict__":Str))=false:=by decide)
    (hs:swapsWithSole [.Subscript (.Name x p) (.Constant (.int (j:Int)) u p3) p2] e pos.line X.env=pure false:=by rfl) (hw:swappedStores [.Subscript (.Name x p) (.Constant (.int (j:Int)) u p3) p2] e X.env=pure none:=by rfl) (h1:(assignEach [.Subscript (.Name x p) (.Constant (.int (j:Int)) u p3) p2] X.env).map (·.2)=[assign (.Subscript (.Name x p) (.Constant (.int (j:Int)) u p3) p2) X.env]:=by rfl)
    (ha:∀v,assign (.Subscript (.Name x p) (.Constant (.int (j:Int)) u p3) p2) X.env v=(do
      let ov ←holding [v] (eval (.Name x p) X.env)
      let iv ←holding [v,ov] (eval (.Constant (.int (j:Int)) u p3) X.env)
      standAt p2
      holding [v,ov,iv] (setItem ov iv v)
      release [v,ov,iv] []):=by intro _;rfl):SX X (.Assign [.Subscript (.Name x p) (.Constant (.int (j:Int)) u p3) p2] e pos) (gK i j fe):=gh (o0 he (sW (gZ hN hv hd hcd) g8 nX ha) hs hw h1) fun D σ H z=>by
  obtain ⟨B,E,xs,Xs,E',fl,fr,cl,e,q⟩:=z
  obtain ⟨⟨s,E1⟩,e1,e⟩:=Option.bind_eq_some_iff.mp e
  refine ⟨B,E,xs,Xs,s,E1,fr,fun _=>Calm.nil cl,e1,fun v H1 ⟨F,A,fr1⟩=>?_⟩
  simp only at e
  split at e
  · rename_i z l zs lk ei
    split at e
    · rename_i hj
      cases e
      have r3:=(fr1.look0 lk).1
      cases r3
      obtain ⟨A4,fr4⟩:=fr1.pop
      obtain ⟨eo,hl,put⟩:=fr4.mutI ei (Calm.nil cl)
      refine ⟨_,eo,l,zs.map V.int,(j:Int),j,rfl,rfl,hl,by unfold vL;simp [hj],?_⟩
      have:=put (zs.set j z)
      rw [List.map_set] at this
      exact q _ _ ⟨_,_,this⟩
    · cases e
  · cases e
def kq (k n:Nat) (g:bA) (zs:List Int) (ds:List PyData):Option (Sl×List Int):=
  open Classical in if h:∃r zs',ds.length=k∧ba ds=true∧∀l,∃E' r0,g (.io l zs::ax n ds)=some (E', .rt r0)∧E'[0]? =some (.io l zs')∧bz r0=some r then some (h.choose,h.choose_spec.choose) else none
theorem fW {k n:Nat} {g:bA} {zs zs':List Int} {ds:List PyData} {r:Sl} (hl:ds.length=k) (hf:ba ds=true) (h:∀l,∃E' r0,g (.io l zs::ax n ds)=some (E', .rt r0)∧E'[0]? =some (.io l zs')∧bz r0=some r):kq k n g zs ds=some (r,zs'):=by
  have ex:∃r zs',ds.length=k∧ba ds=true∧∀l,∃E' r0,g (.io l zs::ax n ds)=some (E', .rt r0)∧E'[0]? =some (.io l zs')∧bz r0=some r:=⟨r,zs',hl,hf,h⟩
  unfold kq
  rw [dif_pos ex]
  obtain ⟨_,_,c3⟩:=ex.choose_spec.choose_spec
  obtain ⟨E1,r1,a1,a2,a3⟩:=c3 0
  obtain ⟨E2,r2,b1,b2,b3⟩:=h 0
  rw [a1] at b1
  cases b1
  rw [a2] at b2
  rw [a3] at b3
  have h1:=Option.some.inj b3
  have h2:=Option.some.inj b2
  injection h2 with _ h2
  rw [←h1,←h2]
theorem wj {K:PySem.W.Frag} {H:Hp} {N:List Str} {l:Addr} {zs:List Int} {vs:List V} {ds:List PyData} (hl:H l=some (.lst (zs.map V.int))) (r:RpA K H vs ds) (hf:ba ds=true) (hn:ds.length+1≤N.length):FrF K (fun b=>if b=l then none else H b) (fun b=>if b=l then none else H b) [l] (L2.cD N (.ref l::vs)) H (.io l zs::ax (N.length - 1) ds) [] []:=by
  have tf:Same (tups H) (fun b=>if b=l then none else H b):=fun b o q=>by
    show (if b=l then none else H b)=_
    have q2:=gr H _ _ q
    rw [if_neg (fun z=>by
      subst z
      unfold tups at q
      rw [hl] at q
      cases q)]
    exact q2
  have rc:RpA K (fun b=>if b=l then none else H b) vs ds:=(r.cold hf).same tf
  refine ⟨Same.refl _,fun b o q=>?_,tf,?_,(by simp),fun a ha=>?_,rfl,?_⟩
  · have q:(if b=l then none else H b)=some o:=q
    by_cases hb:b=l
    · rw [if_pos hb] at q;cases q
    · rw [if_neg hb] at q;exact q
  · have le:=r.len
    show SAll _ ([]++L2.cD N (.ref l::vs)) ([]++(.io l zs::ax (N.length - 1) ds)) ([l]++[])
    rw [List.nil_append,List.nil_append]
    unfold L2.cD ax
    rw [List.map_cons,List.cons_append,List.length_cons,le,show N.length - (ds.length+1)=N.length - 1 - ds.length by omega]
    generalize N.length - 1 - ds.length=k
    have base:∀τ:iO,SAll (SlOk K (fun b=>if b=l then none else H b) H τ) (List.replicate k none) (List.replicate k .no) []:=fun τ=>by
      induction k with
      | zero=>exact .nil
      | succ k ih=>exact .cons (A:=[]) rfl ih
    have key:∀(τ:iO) {us:List V} {es:List PyData},RpA K (fun b=>if b=l then none else H b) us es→SAll (SlOk K (fun b=>if b=l then none else H b) H τ) (us.map some++List.replicate k none) (es.map .sh++List.replicate k .no) []:=fun τ us es r=>by
      induction us generalizing es with
      | nil=>cases r;exact base τ
      | cons u us ih=>
        cases r with
        | cons r1 r2=>exact .cons (A:=[]) ⟨rfl,_,rfl,r1⟩ (ih _ r2)
    exact .cons ⟨rfl,rfl,hl⟩ (key _ rc)
  · rw [List.mem_singleton.mp ha]
    exact if_pos rfl
  · intro s hs
    rcases List.mem_cons.mp hs with hs | hs
    · rw [hs];rfl
    · unfold ax at hs
      rcases List.mem_append.mp hs with hs | hs
      · obtain ⟨d,_,rfl⟩:=List.mem_map.mp hs
        rfl
      · rw [(List.mem_replicate.mp hs).2]
        rfl
theorem qR {P:Program} {w:World} {K:PySem.W.Frag} {mg:Str→Option Value} {base:Heap} {x:Str} {st:Stmt} {N ps:List Str} {k a n:Nat} {g:bA} (D:Def K mg x st ps) (S:FnScope N ps (aj st)) (hpa:ps.length=a+1) (hNn:N.length=n+1) (hps:a≤n)
    (hbody:∀(f:Addr) (cdv:Value) (A:Around) (outer:List Env) (s:Shared) (H:Hp) (E:XK),Room k (A.deeper (PyProof.Rows.envOfC x (aj st) s.heap.objs.size f cdv))→
      sP (jZ ir P w K mg base N x (aj st) f cdv A outer s H E).nox (bL st) g):Own P w K mg base (k+1) x ps (gv K (kq a n g)):=by
  have key:∀{zs zs':List Int} {ds:List PyData} {r:Sl},kq a n g zs ds=some (r,zs')→ds.length=a∧ba ds=true∧∀l,∃E' r0,g (.io l zs::ax n ds)=some (E', .rt r0)∧E'[0]? =some (.io l zs')∧bz r0=some r:=fun {zs zs' ds r} e=>by
    unfold kq at e
    split at e
    · rename_i h
      cases e
      exact h.choose_spec.choose_spec
    · cases e
  refine D.own S (fun vs H Q E h=>?_) (fun f cdv A outer s H vs Q E hr h=>?_)
  · obtain ⟨l,zs,cz,ds,r,zs',rfl,hl,rd,e,_⟩:=h
    rw [List.length_cons,rd.len,(key e).1,hpa]
  obtain ⟨l,zs,cz,ds,r,zs',rfl,hl,rd,e,q⟩:=h
  obtain ⟨h1,h2,h3⟩:=key e
  obtain ⟨E',r0,e1,e2,e3⟩:=h3 l
  refine ⟨_,hbody f cdv A outer s H E hr,?_⟩
  have st0:=wj (N:=N) hl rd h2 (by omega)
  rw [hNn,Nat.add_sub_cancel] at st0
  refine ⟨_,_,[],[],E', .rt r0,⟨_,_,st0⟩,rfl,e1,?_⟩
  rintro σ' v H' ⟨F',A',fr'⟩
  obtain ⟨hl',A2,fr2⟩:=fr'.letGo e2
  obtain ⟨s1,s2⟩:=fr2.resultO e3
  refine q v H' (fun b o hb hq=>?_) hl' (s2.anti fun b hb=>?_)
  · refine s1 b o ?_
    show (if b=l then H' l else if b=l then none else H b)=some o
    rw [if_neg hb,if_neg hb]
    exact hq
  · have hb:(if b=l then H' l else if b=l then none else H b)=none:=hb
    by_cases z:b=l
    · rw [if_pos z,hl'] at hb;cases hb
    · rw [if_neg z,if_neg z] at hb;exact hb
theorem pG {P:Program} {w:World} {K:PySem.W.Frag} {mg:Str→Option Value} {base:Heap} {x:Str} {st:Stmt} {N ps:List Str} {k:Nat} (D:Def K mg x st ps) (S:FnScope N ps (aj st)):Own P w K mg base (k+1) x ps (gv K fun _ _=>none):=D.own S (fun vs H Q E h=>by
    obtain ⟨l,zs,cz,ds,r,zs',_,_,_,e,_⟩:=h
    cases e) (fun f cdv A outer s H vs Q E hr h=>by
    obtain ⟨l,zs,cz,ds,r,zs',_,_,_,e,_⟩:=h
    cases e)
end PL
namespace PL
open PySem L2 Nh PyProof.Rows
structure ClsOk (K:PySem.W.Frag) (mg:Str→Option Value) (cn:Str) (C:Addr):Prop where
  ns:PySem.W.nsIn K mainGlobals cn=some (some (.ref C))
  mg:mg cn=some (.ref C)
  cl:Cls K C
structure OwnM (P:Program) (w:World) (K:PySem.W.Frag) (mg:Str→Option Value) (base:Heap) (k:Nat) (C:Addr) (m:Str) (ps:List Str) (sp:Sp):Prop where
  ex:∃(f:Addr) (fd:FuncData),FnOk P w K mg base ir k f fd ps sp∧Binds K fd ps []∧Meth K C m f
def DispM (P:Program) (w:World) (K:PySem.W.Frag) (mg:Str→Option Value) (base:Heap) (k:Nat) (m:Str) (c:List PyData→Option Sl):Prop:=
  ∀(H:Hp) (v:V) (d:PyData) (r:Sl),c [d]=some r→Rp K H v d→∃(p C dx:Addr) (fs:List (Str×V)),v= .ref p∧H p=some (.ins C dx fs)∧fs.lookup m=none∧Cls K C∧∃c':List PyData→Option Sl,c' [d]=some r∧OwnM P w K mg base k C m ["self"] (cy K c')
theorem mX {K:PySem.W.Frag} {H:Hp} {v:V} {cn:Str} {kvs:List (PyData×PyData)} (r:Rp K H v (eL cn kvs)):∃(p C dx:Addr) (fs:List (Str×V)),v= .ref p∧PySem.W.nsIn K mainGlobals cn=some (some (.ref C))∧H p=some (.ins C dx fs)∧(∀m∈j3,fs.lookup m=none)∧RpN K H fs kvs:=by
  generalize e:eL cn kvs=d at r
  cases r with
  | obj c h n r=>cases e;exact ⟨_,_,_,_,rfl,c,h,n,r⟩
  | dct h1 h2=>
    cases h2 with
    | nil=>cases e
    | @cons k x us d kvs a b=>cases k <;> cases e
  | _=>cases e
def gw (f:Str):List (PyData×PyData)→Option PyData
  | []=>none
  | (.str g,d)::r=>if g=f then some d else gw f r
  | _::r=>gw f r
theorem RpN.look {K:PySem.W.Frag} {H:Hp} {f:Str} {d:PyData} {fs:List (Str×V)}:∀{kvs:List (PyData×PyData)},RpN K H fs kvs→gw f kvs=some d→∃v,fs.lookup f=some v∧Rp K H v d
  | _, .nil,e=>by cases e
  | _, .cons l h r,e=>by
    unfold gw at e
    split at e
    · rename_i z
      cases e;subst z
      exact ⟨_,l,h⟩
    · exact r.look e
def cZ (cs:List Str) (f:Str) (g:b9):b9:=fun E=>(g E).bind fun a=>(look a.2 a.1).bind fun d=>match d with
  | .dict ((.none, .tuple [.str cn])::kvs)=>if cs.contains cn then (gw f kvs).bind fun d'=>if !hot a.2 a.1||aP d' then some (.sh d',a.2) else none else none
  | _=>none
def c0 (c:List PyData→Option Sl) (g:b9):b9:=fun E=>(g E).bind fun a=>(look a.2 a.1).bind fun d=>(c [d]).map fun r=>(r,a.2)
def iW (cn:Str) (c:List PyData→Option (List (PyData×PyData))) (g:j7):b9:=fun E=>(g E).bind fun a=>(az a.2 a.1).bind fun ds=>(c ds).map fun kvs=>(.sh (eL cn kvs),a.2)
def kP (K:PySem.W.Frag) (C:Addr) (c:List PyData→Option (List (PyData×PyData))):Sp:=fun vs H Q _=>∃x dx vs' ds kvs,vs= .ref x::vs'∧H x=some (.ins C dx [])∧c ds=some kvs∧(∃H0,H0 x=none∧Same H0 H∧RpA K H0 vs' ds)∧
  ∀fs H',(∀b o,b≠x→H b=some o→H' b=some o)→H' x=some (.ins C dx fs)→(∀m∈j3,fs.lookup m=none)→RpN K (tups H') fs kvs→Q .non H'
structure MkOk (P:Program) (w:World) (K:PySem.W.Frag) (mg:Str→Option Value) (base:Heap) (k:Nat) (cn:Str) (ps:List Str) (c:List PyData→Option (List (PyData×PyData))):Prop where
  ex:∃(C f:Addr) (fd:FuncData),ClsOk K mg cn C∧Mk K C f∧FnOk P w K mg base ir k f fd ps (kP K C c)∧Binds K fd ps []
section
variable {X:Cx} {o e:Expr} {es:List Expr} {f m cn x:Str} {p pos apos:Pos} {m1:Bool} {g:b9} {ga:j7}
theorem c8 {cs:List Str} (hc:∀cn∈cs,∀C,PySem.W.nsIn X.K mainGlobals cn=some (some (.ref C))→Cls X.K C∧NoAttr X.K C f) (he:EX X o m1 g) (hb:attributeBase o f X.env (eval o X.env)=eval o X.env:=by rfl):EX X (.Attribute o f pos) m1 (cZ cs f g):=by
  refine bw (xY he hb) fun σ H Q z=>?_
  obtain ⟨B,E,xs,Xs,res,E',fr,cl,e,q⟩:=z
  obtain ⟨⟨s,E1⟩,e1,e⟩:=Option.bind_eq_some_iff.mp e
  obtain ⟨d,e2,e⟩:=Option.bind_eq_some_iff.mp e
  refine ⟨B,E,xs,Xs,s,E1,fr,cl,e1,fun v H1 ⟨F,A,fr1⟩=>?_⟩
  split at e
  rotate_left
  · cases e
  rename_i cn kvs
  split at e
  rotate_left
  · cases e
  rename_i hcn
  obtain ⟨d',e3,e⟩:=Option.bind_eq_some_iff.mp e
  split at e
  rotate_left
  · cases e
  rename_i hh
  cases e
  obtain ⟨r,rf⟩:=fr1.look0 e2
  obtain ⟨p,C,dx,fs,rfl,ns,hp,_,rn⟩:=mX r
  obtain ⟨c1,c2⟩:=hc cn (by simpa using hcn) C ns
  obtain ⟨v',l,rv⟩:=rn.look e3
  refine ⟨p,C,dx,fs,v',rfl,hp,c1,c2,l,q _ _ ?_⟩
  obtain ⟨A',fr2⟩:=fr1.pop
  have rF:Rp X.K F v' d':=by
    rcases Bool.or_eq_true_iff.mp hh with z | z
    · have rr:Rp X.K F (.ref p) (eL cn kvs):=rf (by simpa using z)
      obtain ⟨p2,C2,dx2,fs2,ep,ns2,hp2,_,rn2⟩:=mX rr
      cases ep
      have:=fr1.fh _ _ hp2
      rw [hp] at this
      cases this
      obtain ⟨v2,l2,rv2⟩:=rn2.look e3
      rw [l] at l2
      cases l2
      exact rv2
    · exact fr1.cold rv z
  exact ⟨F,A',fr2.push ⟨rfl,_,rfl,rF⟩⟩
theorem cW {k:Nat} {c:List PyData→Option Sl} {pl:Sem Bool} (D:DispM X.prog X.w X.K X.mg X.base k m c) (hr:Room k X.A) (he:EX X o m1 g)
    (ht:eval (.Call (.Attribute o m apos) [] [] pos) X.env=(do
      let ov ←eval o X.env
      standAt apos.atName
      let (f,first) ←holding [ov] (getMethod ov m pl)
      callWith pos f first (backTo pos (starEach [] X.env)) (backToKw pos (keywordEach [] X.env))):=by rfl):EX X (.Call (.Attribute o m apos) [] [] pos) m1 (c0 c g):=by
  intro pins s σ H Q I z
  obtain ⟨B,E,xs,Xs,res,E',fr,cl,e,q⟩:=z
  obtain ⟨⟨s1,E1⟩,e1,e⟩:=Option.bind_eq_some_iff.mp e
  obtain ⟨d,e2,e⟩:=Option.bind_eq_some_iff.mp e
  obtain ⟨r,e3,e⟩:=Option.map_eq_some_iff.mp e
  cases e
  refine PySem.W.methodCall_KW (pl:=pl) (cO (he pins s σ H (fun v H1=>Frm X.K B σ H1 E1 (v::xs) (s1::Xs)) I ⟨B,E,xs,Xs,s1,E1,fr,cl,e1,fun v H1 f=>f⟩) fun u t1 ⟨v,H1,I1,rv,F,A,fr1⟩=>?_) ht
  have rp:=(fr1.look0 e2).1
  obtain ⟨p,C,dx,fs,rfl,hp,l,c1,c',e3',f0,fd,Fk,b,mt⟩:=D H1 v d res e3 rp
  obtain rfl:u=Value.ref p:=rv
  obtain ⟨A',fr2⟩:=fr1.pop
  refine jX I1 hp c1 mt l ?_
  exact PySem.W.callWith_K0 (first:=[.ref p]) I1.kIn mt.kp (pi (us:=[.ref p]) (vs:=[.ref p]) Fk hr b .nil qv I1 (.cons rfl .nil) ⟨[d],res,e3', .cons rp .nil,fun v H' gg q'=>q v H' (fr2.told gg q')⟩)
theorem jP {k:Nat} {ps:List Str} {c:List PyData→Option (List (PyData×PyData))} (M:MkOk X.prog X.w X.K X.mg X.base k cn ps c) (hr:Room (k+1) X.A) (hg:Gl X cn) (ha:AX X (e::es) m1 ga) (hdb:(cn == ("__debug__":Str))=false:=by decide) (he:starEach (e::es) X.env=(false,eval e X.env)::starEach es X.env:=by rfl) (hpl:(backTo pos (starEach es X.env)).any (·.1)=false:=by rfl):
    EX X (.Call (.Name cn p) (e::es) [] pos) m1 (iW cn c ga):=by
  obtain ⟨C,f,fd,ck,mk,Fk,b⟩:=M.ex
  refine bw (vG mk Fk hr hg ck.mg b .nil qv ha hdb he hpl) fun σ H Q z=>?_
  obtain ⟨B,E,xs,Xs,res,E',fr,cl,e,q⟩:=z
  obtain ⟨⟨rs,E1⟩,e1,e⟩:=Option.bind_eq_some_iff.mp e
  obtain ⟨ds,e2,e⟩:=Option.bind_eq_some_iff.mp e
  obtain ⟨kvs,e3,e⟩:=Option.map_eq_some_iff.mp e
  cases e
  refine ⟨B,E,xs,Xs,rs,E1,fr,cl,e1,fun vs H1 hl ⟨F,A,fr1⟩=>fun x dx nx ndx ne=>?_⟩
  obtain ⟨r1,A',fr2⟩:=fr1.looks hl e2
  have g0:Same H1 (upd (upd H1 dx (.own x)) x (.ins C dx [])):=fun b o z=>by
    rw [ay (aT z nx),ay (aT z ndx)]
    exact z
  refine ⟨x,dx,vs++[],ds,kvs,rfl,aJ,e3,⟨H1,nx,g0,by rw [List.append_nil];exact r1⟩,fun fs H' k1 k2 k3 k4=>⟨rfl,?_⟩⟩
  have g1:Same H1 H':=fun b o z=>k1 b o (aT z nx) (g0 b o z)
  exact q _ _ (fr2.told g1 (show ResOk X.K H1 H' (.ref x) (.sh (eL cn kvs)) from .obj ck.ns (eW k2 rfl) k3 k4))
end
theorem vh {P:Program} {w:World} {K:PySem.W.Frag} {mg:Str→Option Value} {base:Heap} {x qn:Str} {st:Stmt} {N ps:List Str} {k a n:Nat} {g:bA} {f0:Addr} {fd:FuncData} (D:Fun K x qn st f0 fd) (S:FnScope N ps (aj st)) (hpa:ps.length=a) (hNn:N.length=n) (hps:a≤n)
    (hbody:∀(cdv:Value) (A:Around) (outer:List Env) (s:Shared) (H:Hp) (E:XK),Room k (A.deeper (PyProof.Rows.envOfC qn (aj st) s.heap.objs.size f0 cdv))→
      sP (jZ ir P w K mg base N qn (aj st) f0 cdv A outer s H E).nox (bL st) g):FnOk P w K mg base ir (k+1) f0 fd ps (cy K (cj a n g)):=by
  subst hpa hNn
  refine D.ok S (fun vs H Q E h=>?_) (fun cdv A outer s H vs Q E hr h=>?_)
  · obtain ⟨ds,r,e,rp,_⟩:=h
    unfold cj at e
    split at e
    · rename_i hl
      rw [rp.len];exact hl
    · cases e
  obtain ⟨ds,r,e,rp,q⟩:=h
  unfold cj at e
  split at e
  · rename_i hl
    refine ⟨_,hbody cdv A outer s H E hr,?_⟩
    obtain ⟨⟨E',fl⟩,e1,e⟩:=Option.bind_eq_some_iff.mp e
    refine ⟨H,ax N.length ds,[],[],E',fl,⟨H,[],mR rp (by omega)⟩,rfl,e1,?_⟩
    cases fl with
    | nx=>
      cases e
      rintro σ' H' ⟨F',A',fr'⟩
      exact q _ _ (fr'.bf.trans fr'.fh) .non
    | bk=>cases e
    | ct=>cases e
    | rt r'=>
      rintro σ' v H' ⟨F',A',fr'⟩
      obtain ⟨s1,s2⟩:=fr'.resultO e
      exact q v H' s1 s2
  · cases e
end PL
namespace PL
open PySem L2 Nh PyProof.Rows
theorem sj {K:PySem.W.Frag} {a l:Addr} {xs:List V} {g:TG} {tt:TT} {te:TE} {Q:VK} {σi:L2.St} {H1:Hp} (Pv:Nat→L2.St→Hp→Prop) (h0:Pv 0 σi (upd H1 l (.lst []))) (hl:∀i σ H,i≤xs.length→Pv i σ H→SqL K H a xs)
    (hs:∀i x σ H,xs[i]? =some x→Pv i σ H→g x σ H fun σ3 H3=>tt σ3 H3 fun b H4=>if b=true then te σ3 H4 fun y H5=>∃ys,H5 l=some (.lst ys)∧ys.length < sizeLine∧Pv (i+1) σ3 (upd H5 l (.lst (ys++[y]))) else Pv (i+1) σ3 H4)
    (hd:∀σ H,Pv xs.length σ H→Q (.ref l) H):∃W:Nat→Nat→L2.St→Hp→Prop,(∃m,W 0 m σi (upd H1 l (.lst [])))∧
  ∀i m σ' H',W i m σ' H'→((y3 K a).stop i H'∧Q (.ref l) H')∨((y3 K a).go i H'∧∃N:L2.St→Hp→Prop,(∀σ' H',N σ' H'→∃m',m' < m∧W (i+1) m' σ' H')∧∀x H2,(y3 K a).yld i H' x H2→g x σ' H2 fun σ3 H3=>tt σ3 H3 fun b H4=>
    if b=true then te σ3 H4 fun y H5=>∃ys,H5 l=some (.lst ys)∧ys.length < sizeLine∧N σ3 (upd H5 l (.lst (ys++[y]))) else N σ3 H4):=by
  refine ⟨fun i m σ H=>m=xs.length - i∧i≤xs.length∧Pv i σ H,⟨xs.length,by simp,Nat.zero_le _,h0⟩,?_⟩
  rintro i m σ H ⟨rfl,hi,p⟩
  have q:=hl i σ H hi p
  by_cases hlt:i < xs.length
  · refine .inr ⟨⟨xs,xs[i],q,by simp [hlt]⟩,Pv (i+1),fun σ' H' p'=>⟨xs.length - (i+1),by omega,rfl,hlt,p'⟩,fun x H' y=>?_⟩
    obtain ⟨e,y⟩:=y
    subst e
    exact hs i x σ _ (y xs q) p
  · have e:i=xs.length:=by omega
    subst e
    exact .inl ⟨⟨xs,q,Nat.le_refl _⟩,hd σ H p⟩
def iL (K:PySem.W.Frag) (c:List PyData→Option Sl) (ta:TE):TE:=fun σ H Q=>ta σ H fun v H1=>∃d r,c [d]=some r∧Rp K H1 v d∧∀v' H',Same H1 H'→ResOk K H1 H' v' r→Q v' H'
theorem iX {X:Cx} {o:Expr} {m:Str} {pos apos:Pos} {ta:TE} {k:Nat} {c:List PyData→Option Sl} {pl:Sem Bool} (D:DispM X.prog X.w X.K X.mg X.base k m c) (hr:Room k X.A) (he:PE X o ta)
    (ht:eval (.Call (.Attribute o m apos) [] [] pos) X.env=(do
      let ov ←eval o X.env
      standAt apos.atName
      let (f,first) ←holding [ov] (getMethod ov m pl)
      callWith pos f first (backTo pos (starEach [] X.env)) (backToKw pos (keywordEach [] X.env))):=by rfl):PE X (.Call (.Attribute o m apos) [] [] pos) (iL X.K c ta):=by
  intro pins s σ H Q I z
  refine PySem.W.methodCall_KW (pl:=pl) (cO (he pins s σ H _ I z) fun u t1 ⟨v,H1,I1,rv,d,r,e3,rp,q⟩=>?_) ht
  obtain ⟨p,C,dx,fs,rfl,hp,l,c1,c',e3',f0,fd,Fk,b,mt⟩:=D H1 v d r e3 rp
  obtain rfl:u=Value.ref p:=rv
  refine jX I1 hp c1 mt l ?_
  exact PySem.W.callWith_K0 (first:=[.ref p]) I1.kIn mt.kp (pi (us:=[.ref p]) (vs:=[.ref p]) Fk hr b .nil qv I1 (.cons rfl .nil) ⟨[d],r,e3', .cons rp .nil,q⟩)
def gL:List PyData→Option (List (PyData×PyData))
  | [.str n, .int t]=>some [(.str "nail", .str n),(.str "turns", .int t),(.str "size", .int 1)]
  | _=>none
def y_ (c:List PyData→Option Sl):List PyData→Option (List Int)
  | []=>some []
  | d::r=>match c [d] with
    | some (.sh (.int z))=>(y_ c r).map (z:: ·)
    | _=>none
def eY (c:List PyData→Option Sl):List PyData→Option (List (PyData×PyData))
  | [.list ds]=>(y_ c ds).bind fun zs=>if ba ds&&decide (ds.length≤1000000) then some [(.str "kept", .tuple ds),(.str "size", .int zs.sum)] else none
  | _=>none
def iw (t:List (Str×(List PyData→Option Sl))):List PyData→Option Sl
  | [.dict ((.none, .tuple [.str cn])::kvs)]=>(t.lookup cn).bind fun c=>c [eL cn kvs]
  | _=>none
theorem wk {P:Program} {w:World} {K:PySem.W.Frag} {mg:Str→Option Value} {base:Heap} {k:Nat} {m:Str} {t:List (Str×(List PyData→Option Sl))} (hm:m∈j3) (h:∀cn c,t.lookup cn=some c→∃C,ClsOk K mg cn C∧OwnM P w K mg base k C m ["self"] (cy K c)):DispM P w K mg base k m (iw t):=by
  intro H v d r e rp
  unfold iw at e
  split at e
  · rename_i ds cn kvs ed
    cases ed
    obtain ⟨c,e1,e2⟩:=Option.bind_eq_some_iff.mp e
    obtain ⟨C,ck,ow⟩:=h cn c e1
    obtain ⟨p,C',dx,fs,rfl,ns,hp,nm,_⟩:=mX rp
    rw [ck.ns] at ns
    cases ns
    exact ⟨p,C,dx,fs,rfl,hp,nm m hm,ck.cl,c,e2,ow⟩
  · cases e
theorem OwnM.mono {P:Program} {w:World} {K:PySem.W.Frag} {mg:Str→Option Value} {base:Heap} {j k:Nat} {C:Addr} {m:Str} {ps:List Str} {sp:Sp} (h:OwnM P w K mg base j C m ps sp) (l:j≤k):OwnM P w K mg base k C m ps sp:=by
  obtain ⟨f,fd,F,b,mt⟩:=h.ex
  exact ⟨f,fd,F.mono l,b,mt⟩
theorem DispM.mono {P:Program} {w:World} {K:PySem.W.Frag} {mg:Str→Option Value} {base:Heap} {j k:Nat} {m:Str} {c:List PyData→Option Sl} (h:DispM P w K mg base j m c) (l:j≤k):DispM P w K mg base k m c:=fun H v d r e rp=>by
  obtain ⟨p,C,dx,fs,e1,e2,e3,e4,c',e5,ow⟩:=h H v d r e rp
  exact ⟨p,C,dx,fs,e1,e2,e3,e4,c',e5,ow.mono l⟩
def wm (K:PySem.W.Frag):TS:=mf (jb K (dF 0) (dF 1) "nail") (mf (jb K (dF 0) (dF 2) "turns") (jb K (dF 0) (tC (.int 1)) "size"))
theorem wn {a b c:Str} {x y z:V} (h:∀m∈j3,m≠a∧m≠b∧m≠c):∀m∈j3,(b8 c z (b8 b y (b8 a x []))).lookup m=none:=fun m hm=>by
  obtain ⟨h1,h2,h3⟩:=h m hm
  rw [aD,if_neg h3,aD,if_neg h2,aD,if_neg h1]
  rfl
theorem dU (f:Str) (x:V) (fs:List (Str×V)):(b8 f x fs).length≤fs.length+1:=by have:=g9 f x fs;omega
theorem l8 {K:PySem.W.Frag} {C:Addr} {H:Hp} {vs:List V} {Q:VK} {E:XK} {D:Ends} {N:List Str} (cl:Cls K C) (n1:NoAttr K C "nail") (n2:NoAttr K C "turns") (n3:NoAttr K C "size") (h:kP K C gL vs H Q E) (hD:∀σ H',Q .non H'→D.nx σ H') (hN:N.length=3:=by rfl):vs.length=3∧wm K D (L2.cD N vs) H:=by
  obtain ⟨x,dx,vs',ds,kvs,rfl,hx,e,⟨H0,x0,s0,r0⟩,k⟩:=h
  unfold gL at e
  split at e
  rotate_left
  · cases e
  rename_i n t
  cases e
  obtain ⟨v1,v2,rfl,r1,r2⟩:=r0.two
  cases r1;cases r2
  refine ⟨rfl,?_⟩
  have hst:L2.cD N [.ref x, .str n, .int t]=[some (.ref x),some (.str n),some (.int t)]:=by unfold L2.cD;rw [hN];rfl
  rw [hst]
  refine ⟨_,rfl,_,rfl,x,C,dx,_,rfl,hx,cl,n1,by show 0 < 1000;decide,?_⟩
  refine ⟨_,rfl,_,rfl,x,C,dx,_,rfl,aJ,cl,n2,by have:=dU "nail" (.str n) [];simp only [List.length_nil] at this;omega,?_⟩
  refine ⟨_,rfl,x,C,dx,_,rfl,aJ,cl,n3,by have:=dU "nail" (.str n) [];have:=dU "turns" (.int t) (b8 "nail" (.str n) []);simp only [List.length_nil] at *;omega,?_⟩
  refine hD _ _ (k _ _ (fun b o hb hbo=>?_) aJ (wn (by decide+kernel)) ?_)
  · rw [ay hb,ay hb,ay hb];exact hbo
  · refine .cons (x:= .str n) ?_ (.str n) (.cons (x:= .int t) ?_ (.int t) (.cons (x:= .int 1) ?_ (.int 1) .nil))
    · rw [aD,if_neg (by decide+kernel),aD,if_neg (by decide+kernel),aD,if_pos rfl]
    · rw [aD,if_neg (by decide+kernel),aD,if_pos rfl]
    · rw [aD,if_pos rfl]
def yE (K:PySem.W.Frag):List V→Hp→VK→Prop:=fun xs H Q=>∃p ys,xs=[.ref p]∧(SqL K H p ys∨SqT K H p ys)∧∀l,H l=none→Q (.ref l) (upd H l (.lst ys))
def yF (K:PySem.W.Frag):List V→Hp→VK→Prop:=fun xs H Q=>∃p ys,xs=[.ref p]∧((SqL K H p ys∧∀l,H l=none→Q (.ref l) (upd H l (.tup ys)))∨(SqT K H p ys∧Q (.ref p) H))
def wo (K:PySem.W.Frag) (c:List PyData→Option Sl):TS:=mf (jb K (dF 0) (x8 (yE K) (nU (dF 1) tF)) "parts") (mf (jb K (dF 0) (x8 (yF K) (nU (dF 1) tF)) "kept")
  (jb K (dF 0) (x8 (yC K) (nU (qy [none] (wS K (dF 1)) (nR 0) tQ (iL K c (dF 0))) tF)) "size"))
theorem qS {c:List PyData→Option Sl}:∀{ds:List PyData} {zs:List Int},y_ c ds=some zs→zs.length=ds.length∧∀(i:Nat) (d:PyData),ds[i]? =some d→∃z,zs[i]? =some z∧c [d]=some (.sh (.int z))
  | [],zs,e=>by cases e;exact ⟨rfl,fun i d h=>by simp at h⟩
  | d::r,zs,e=>by
    unfold y_ at e
    split at e
    · rename_i z hc
      obtain ⟨zs',e1,rfl⟩:=Option.map_eq_some_iff.mp e
      obtain ⟨h1,h2⟩:=qS e1
      refine ⟨by simp [h1],fun i d' h=>?_⟩
      cases i with
      | zero=>simp at h;subst h;exact ⟨z,rfl,hc⟩
      | succ i=>simpa using h2 i d' (by simpa using h)
    · cases e
theorem l9 {K:PySem.W.Frag} {C:Addr} {c:List PyData→Option Sl} {H:Hp} {vs:List V} {Q:VK} {E:XK} {D:Ends} {N:List Str} (cl:Cls K C) (n1:NoAttr K C "parts") (n2:NoAttr K C "kept") (n3:NoAttr K C "size") (h:kP K C (eY c) vs H Q E) (hD:∀σ H',Q .non H'→D.nx σ H') (hN:N.length=2:=by rfl):vs.length=2∧wo K c D (L2.cD N vs) H:=by
  obtain ⟨x,dx,vs',ds,kvs,rfl,hx,e,⟨H0,x0,s0,r0⟩,k⟩:=h
  unfold eY at e
  split at e
  rotate_left
  · cases e
  rename_i ds
  obtain ⟨zs,ez,e⟩:=Option.bind_eq_some_iff.mp e
  split at e
  rotate_left
  · cases e
  rename_i hf
  cases e
  obtain ⟨hf,hlen⟩:=Bool.and_eq_true_iff.mp hf
  have hlen:ds.length≤1000000:=by simpa using hlen
  cases r0 with
  | @cons v _ _ _ r1 r2=>
  cases r2
  cases r1 with
  | @lst a ws _ hq hr=>
  obtain ⟨zl,zg⟩:=qS ez
  have wl:=hr.len
  refine ⟨rfl,?_⟩
  have hst:L2.cD N [.ref x, .ref a]=[some (.ref x),some (.ref a)]:=by unfold L2.cD;rw [hN];rfl
  rw [hst]
  refine ⟨_,rfl,a,ws,rfl, .inl (s0.seq hq),fun l hl=>?_⟩
  have xl:x≠l:=fun z=>by rw [z,hl] at hx;cases hx
  refine ⟨_,rfl,x,C,dx,_,rfl,by rw [ay xl];exact hx,cl,n1,by show 0 < 1000;decide,?_⟩
  have g2:Same H0 (upd (upd H l (.lst ws)) x (.ins C dx (b8 "parts" (.ref l) []))):=fun b o z=>by
    rw [ay (aT z x0),ay (aT (s0 _ _ z) hl)];exact s0 _ _ z
  refine ⟨_,rfl,a,ws,rfl, .inl ⟨g2.seq hq,fun t ht=>?_⟩⟩
  have xt:x≠t:=fun z=>by rw [←z,aJ] at ht;cases ht
  have tl:t≠l:=fun z=>by rw [z,ay xl.symm,aJ] at ht;cases ht
  have tH:H t=none:=by rw [ay xt.symm,ay tl] at ht;exact ht
  refine ⟨_,rfl,x,C,dx,_,rfl,by rw [ay xt];exact aJ,cl,n2,by have:=dU "parts" (.ref l) [];simp only [List.length_nil] at this;omega,?_⟩
  generalize hH4:upd (upd (upd (upd H l (.lst ws)) x (.ins C dx (b8 "parts" (.ref l) []))) t (.tup ws)) x (.ins C dx (b8 "kept" (.ref t) (b8 "parts" (.ref l) [])))=H4
  have x4:H4 x=some (.ins C dx (b8 "kept" (.ref t) (b8 "parts" (.ref l) []))):=by rw [←hH4,aJ]
  have t4:H4 t=some (.tup ws):=by rw [←hH4,ay xt.symm,aJ]
  have b4:∀b o,b≠x→H b=some o→H4 b=some o:=fun b o hb z=>by
    rw [←hH4,ay hb,ay (aT z tH),ay hb,ay (aT z hl)];exact z
  have g4:Same H0 H4:=fun b o z=>b4 b o (aT z x0) (s0 _ _ z)
  refine ⟨_,rfl,a,rfl,⟨ws,g4.seq hq⟩,fun lc hlc=>?_⟩
  refine sj (K:=K) (a:=a) (xs:=ws) (g:=nR 0) (tt:=tQ) (te:=iL K c (dF 0)) (σi:=[none]) (Q:=fun y H5=>yC K [y] H5 fun z H6=>dF 0 [some (.ref x),some (.ref a)] H6 fun u H7=>∃a' C' dx' fs',u= .ref a'∧H7 a'=some (.ins C' dx' fs')∧Cls K C'∧NoAttr K C' "size"∧fs'.length < 1000∧D.nx [some (.ref x),some (.ref a)] (upd H7 a' (.ins C' dx' (b8 "size" z fs')))) (fun i σ H'=>(∃y,σ=[y])∧Same H4 H'∧H' lc=some (.lst ((zs.take i).map V.int))) ⟨⟨_,rfl⟩,gq hlc _,by rw [aJ];rfl⟩ (fun i σ H' _ ⟨_,s4,_⟩=>(g4.trans s4).seq hq) (fun i y σ H' hy ⟨⟨y0,es⟩,s4,hl4⟩=>?_) fun σ H' ⟨⟨y0,es⟩,s4,hl4⟩=>?_
  · subst es
    refine rN ?_
    obtain ⟨d,ed,rd⟩:=hr.getV hy
    obtain ⟨z,ez',ec⟩:=zg i d ed
    refine ⟨y,rfl,d,_,ec,rd.same (g4.trans s4),fun v' H5 s5 rv=>?_⟩
    have rv:Rp K (tups H5) v' (.int z):=rv
    cases rv
    have hi:i < ws.length:=(List.getElem?_eq_some_iff.mp hy).1
    refine ⟨_,s5 _ _ hl4,qE (by rw [List.length_map,List.length_take];omega),⟨_,rfl⟩,fun b o e=>?_,?_⟩
    · rw [ay (aT e hlc)];exact s5 _ _ (s4 _ _ e)
    · rw [aJ,List.take_add_one,ez'];simp
  · subst es
    have tk:zs.take ws.length=zs:=List.take_of_length_le (by omega)
    rw [tk] at hl4
    refine ⟨lc,zs,rfl,SqL.of hl4,_,rfl,x,C,dx,_,rfl,s4 _ _ x4,cl,n3,by have:=dU "parts" (.ref l) [];have:=dU "kept" (.ref t) (b8 "parts" (.ref l) []);simp only [List.length_nil] at *;omega,?_⟩
    refine hD _ _ (k _ _ (fun b o hb hbo=>?_) aJ (wn (by decide+kernel)) ?_)
    · rw [ay hb];exact s4 _ _ (b4 b o hb hbo)
    · have t6:(upd H' x (.ins C dx (b8 "size" (.int zs.sum) (b8 "kept" (.ref t) (b8 "parts" (.ref l) []))))) t=some (.tup ws):=by rw [ay xt.symm];exact s4 _ _ t4
      have g6:Same H0 (upd H' x (.ins C dx (b8 "size" (.int zs.sum) (b8 "kept" (.ref t) (b8 "parts" (.ref l) []))))):=fun b o z=>by rw [ay (aT z x0)];exact s4 _ _ (g4 _ _ z)
      refine .cons (x:= .ref t) ?_ (.tup (.inl (.inl (eW t6 rfl))) ((hr.same g6).cold hf)) (.cons (x:= .int zs.sum) ?_ (.int _) .nil)
      · rw [aD,if_neg (by decide+kernel),aD,if_pos rfl]
      · rw [aD,if_pos rfl]
end PL
namespace PL
open PySem L2 Nh
open PySem.W (nsIn codeIn keepIn fnOf findIn isFn)
structure CF (K:PySem.W.Frag) (cn:Str) (C:Addr):Prop where
  ns:nsIn K mainGlobals cn=some (some (.ref C))
  pg:PySem.W.plainGet K C Str.empty=true
  hd:PySem.W.hasDictIn K C=true
  po:PySem.W.plainOver K C=true
  sa:findIn K (.ref C) "__setattr__"=some (some (.builtin "object.__setattr__"))
  mi:PySem.W.makesIn K C=true
  kc:keepIn K (.ref C)=true
theorem CF.ok {K:PySem.W.Frag} {h:Heap} {mg:Str→Option Value} {cn:Str} {C:Addr} (c:CF K cn C) (X:K.In h) (G:h.Ns mainGlobals mg):ClsOk K mg cn C:=⟨c.ns,PySem.W.mg_of X G c.ns,c.pg,c.hd,c.po,c.sa⟩
def HM (K:PySem.W.Frag) (C:Addr) (m qn:Str) (st:Stmt):Prop:=∃(f:Addr) (oc:Value) (od an:Option Addr) (sl:Array (Option Value)) (kV dc pm cd ct:Value),findIn K (.ref C) m=some (some (.ref f))∧isFn K (.ref f)=true∧K.lookup f=some ⟨oc,od, .func (fnOf m qn (cV st) (bL st) (aj st) .none kV dc pm an cd ct),sl⟩∧codeIn K cd qn=true∧keepIn K (.ref f)=true
theorem qT {K:PySem.W.Frag} {C:Addr} {m qn:Str} {st:Stmt} {f:Addr} {oc:Value} {od an:Option Addr} {sl:Array (Option Value)} {kV dc pm cd ct:Value} (a:findIn K (.ref C) m=some (some (.ref f))) (i:isFn K (.ref f)=true) (l:K.lookup f=some ⟨oc,od, .func (fnOf m qn (cV st) (bL st) (aj st) .none kV dc pm an cd ct),sl⟩) (c:codeIn K cd qn=true) (k:keepIn K (.ref f)=true):HM K C m qn st:=⟨f,oc,od,an,sl,kV,dc,pm,cd,ct,a,i,l,c,k⟩
section
variable {P:Program} {w:World} {K:PySem.W.Frag} {mg:Str→Option Value} {base:Heap} {k:Nat} {C:Addr} {cn m qn:Str} {st:Stmt} {ps:List Str} {sp:Sp}
theorem HM.own (h:HM K C m qn st) (F:∀f fd,Fun K m qn st f fd→FnOk P w K mg base ir k f fd ps sp) (b:∀(kV doc pm:Value) (an:Option Addr) (cdv ct:Value) (us:List Value),us.length=ps.length→bindArgs (fnOf m qn (cV st) (bL st) (aj st) .none kV doc pm an cdv ct) ⟨us,[]⟩=pure (ps.zip us)):OwnM P w K mg base k C m ps sp:=by
  obtain ⟨f,oc,od,an,sl,kV,dc,pm,cd,ct,a,i,l,c,kp⟩:=h
  have D:=j2 (st:=st) l c kp
  exact ⟨f,_,F _ _ D,D.binds b,a,i,kp⟩
theorem HM.mkOk {c:List PyData→Option (List (PyData×PyData))} (h:HM K C "__init__" qn st) (cf:CF K cn C) (ck:ClsOk K mg cn C) (F:∀f fd,Fun K "__init__" qn st f fd→FnOk P w K mg base ir k f fd ps (kP K C c)) (b:∀(kV doc pm:Value) (an:Option Addr) (cdv ct:Value) (us:List Value),us.length=ps.length→bindArgs (fnOf "__init__" qn (cV st) (bL st) (aj st) .none kV doc pm an cdv ct) ⟨us,[]⟩=pure (ps.zip us)):MkOk P w K mg base k cn ps c:=by
  obtain ⟨f,oc,od,an,sl,kV,dc,pm,cd,ct,a,i,l,c,kp⟩:=h
  have D:=j2 (st:=st) l c kp
  exact ⟨C,f,_,ck,⟨cf.mi,a,i,cf.kc⟩,F _ _ D,D.binds b⟩
end
theorem xh {P:Program} {w:World} {K:PySem.W.Frag} {mg:Str→Option Value} {base:Heap} {k:Nat} {m:Str}:DispM P w K mg base k m (fun _=>none):=fun _ _ _ _ e=>nomatch e
end PL
namespace PL
open PySem L2 Nh PyProof.Rows
def vi (c:List PyData→Option Sl) (d:PyData):Option Int:=match c [d] with
  | some (.sh (.int z))=>some z
  | _=>none
theorem pH {c:List PyData→Option Sl} {d:PyData} {z:Int} (h:vi c d=some z):c [d]=some (.sh (.int z)):=by
  unfold vi at h
  split at h
  · rename_i y e;cases h;exact e
  · cases h
def bd (k:Int):Int:=if k < 0 then -k else k
def eZ (c:List PyData→Option Sl):List PyData→Option (List (PyData×PyData))
  | [d, .int k]=>(vi c d).bind fun z=>if aP d&&dP z (bd k) then some [(.str "body",d),(.str "number", .int k),(.str "size", .int (z*bd k))] else none
  | _=>none
def gM (c:List PyData→Option Sl):List PyData→Option (List (PyData×PyData))
  | [d,e]=>(vi c d).bind fun z=>(vi c e).bind fun y=>if aP d&&aP e then some [(.str "one",d),(.str "other",e),(.str "size", .int (2*(z+y)))] else none
  | _=>none
def BS:List V→Hp→VK→Prop:=fun xs H Q=>∃i,xs=[.int i]∧Q (.int (if i < 0 then -i else i)) H
def wp (K:PySem.W.Frag) (c:List PyData→Option Sl):TS:=mf (jb K (dF 0) (dF 1) "body") (mf (jb K (dF 0) (dF 2) "number") (jb K (dF 0) (wT (qG K) (iL K c (dF 1)) (x8 BS (nU (dF 2) tF))) "size"))
def yG (K:PySem.W.Frag) (c:List PyData→Option Sl):TS:=mf (jb K (dF 0) (dF 1) "one") (mf (jb K (dF 0) (dF 2) "other") (jb K (dF 0) (wT (qG K) (tC (.int 2)) (wT (vy fun i j=> .int (i+j)) (iL K c (dF 1)) (iL K c (dF 2)))) "size"))
theorem mY (f:Str) (x:V):(b8 f x []).length < 1000:=by have:=dU f x [];simp only [List.length_nil] at this;omega
theorem ix (f g:Str) (x y:V):(b8 g y (b8 f x [])).length < 1000:=by have:=dU f x [];have:=dU g y (b8 f x []);simp only [List.length_nil] at *;omega
theorem l_ {K:PySem.W.Frag} {C:Addr} {c:List PyData→Option Sl} {H:Hp} {vs:List V} {Q:VK} {E:XK} {D:Ends} {N:List Str} (cl:Cls K C) (n1:NoAttr K C "body") (n2:NoAttr K C "number") (n3:NoAttr K C "size") (h:kP K C (eZ c) vs H Q E) (hD:∀σ H',Q .non H'→D.nx σ H') (hN:N.length=3:=by rfl):vs.length=3∧wp K c D (L2.cD N vs) H:=by
  obtain ⟨x,dx,vs',ds,kvs,rfl,hx,e,⟨H0,x0,s0,r0⟩,k⟩:=h
  unfold eZ at e
  split at e
  rotate_left
  · cases e
  rename_i d n
  obtain ⟨z,ez,e⟩:=Option.bind_eq_some_iff.mp e
  split at e
  rotate_left
  · cases e
  rename_i hf
  cases e
  obtain ⟨hf,hm⟩:=Bool.and_eq_true_iff.mp hf
  have ez:=pH ez
  obtain ⟨v1,v2,rfl,r1,r2⟩:=r0.two
  cases r2
  refine ⟨rfl,?_⟩
  have hst:L2.cD N [.ref x,v1, .int n]=[some (.ref x),some v1,some (.int n)]:=by unfold L2.cD;rw [hN];rfl
  rw [hst]
  have gg:∀fs,Same H0 (upd H x (.ins C dx fs)):=fun fs b o y=>by rw [ay (aT y x0)];exact s0 _ _ y
  refine ⟨_,rfl,_,rfl,x,C,dx,_,rfl,hx,cl,n1,by show 0 < 1000;decide,?_⟩
  refine ⟨_,rfl,_,rfl,x,C,dx,_,rfl,aJ,cl,n2,mY _ _,?_⟩
  rw [qh]
  refine ⟨v1,rfl,d,_,ez,r1.same (gg _),fun v' H' s' rv=>?_⟩
  have rv:Rp K (tups H') v' (.int z):=rv
  cases rv
  refine ⟨_,rfl,n,rfl, .inl ⟨z,bd n,rfl,rfl,hm,_,rfl,x,C,dx,_,rfl,s' _ _ aJ,cl,n3,ix _ _ _ _,?_⟩⟩
  have g6:Same H0 (upd H' x (.ins C dx (b8 "size" (.int (z*bd n)) (b8 "number" (.int n) (b8 "body" v1 []))))):=fun b o y=>by rw [ay (aT y x0)];exact s' _ _ (gg _ b o y)
  refine hD _ _ (k _ _ (fun b o hb hbo=>?_) aJ (wn (by decide+kernel)) ?_)
  · rw [ay hb];exact s' _ _ (by rw [ay hb];exact hbo)
  · refine .cons (x:=v1) ?_ ((r1.same g6).cold hf) (.cons (x:= .int n) ?_ (.int n) (.cons (x:= .int (z*bd n)) ?_ (.int _) .nil))
    · rw [aD,if_neg (by decide+kernel),aD,if_neg (by decide+kernel),aD,if_pos rfl]
    · rw [aD,if_neg (by decide+kernel),aD,if_pos rfl]
    · rw [aD,if_pos rfl]
theorem oH {K:PySem.W.Frag} {C:Addr} {c:List PyData→Option Sl} {H:Hp} {vs:List V} {Q:VK} {E:XK} {D:Ends} {N:List Str} (cl:Cls K C) (n1:NoAttr K C "one") (n2:NoAttr K C "other") (n3:NoAttr K C "size") (h:kP K C (gM c) vs H Q E) (hD:∀σ H',Q .non H'→D.nx σ H') (hN:N.length=3:=by rfl):vs.length=3∧yG K c D (L2.cD N vs) H:=by
  obtain ⟨x,dx,vs',ds,kvs,rfl,hx,e,⟨H0,x0,s0,r0⟩,k⟩:=h
  unfold gM at e
  split at e
  rotate_left
  · cases e
  rename_i d d2
  obtain ⟨z,ez,e⟩:=Option.bind_eq_some_iff.mp e
  obtain ⟨y,ey,e⟩:=Option.bind_eq_some_iff.mp e
  split at e
  rotate_left
  · cases e
  rename_i hf
  cases e
  obtain ⟨hf,hf2⟩:=Bool.and_eq_true_iff.mp hf
  have ez:=pH ez
  have ey:=pH ey
  obtain ⟨v1,v2,rfl,r1,r2⟩:=r0.two
  refine ⟨rfl,?_⟩
  have hst:L2.cD N [.ref x,v1,v2]=[some (.ref x),some v1,some v2]:=by unfold L2.cD;rw [hN];rfl
  rw [hst]
  have gg:∀fs,Same H0 (upd H x (.ins C dx fs)):=fun fs b o y=>by rw [ay (aT y x0)];exact s0 _ _ y
  refine ⟨_,rfl,_,rfl,x,C,dx,_,rfl,hx,cl,n1,by show 0 < 1000;decide,?_⟩
  refine ⟨_,rfl,_,rfl,x,C,dx,_,rfl,aJ,cl,n2,mY _ _,?_⟩
  rw [qh]
  refine ⟨v1,rfl,d,_,ez,r1.same (gg _),fun v' H' s' rv=>?_⟩
  have rv:Rp K (tups H') v' (.int z):=rv
  cases rv
  have g1:Same H0 H':=(gg _).trans s'
  refine ⟨v2,rfl,d2,_,ey,r2.same g1,fun v' H2 s2 rv=>?_⟩
  have rv:Rp K (tups H2) v' (.int y):=rv
  cases rv
  refine ⟨z,y,rfl,rfl, .inl ⟨2,z+y,rfl,rfl,(by show dP 2 (z+y)=true;unfold dP;rw [decide_eq_true (show (-(2 ^ 64):Int) < 2∧(2:Int) < 2 ^ 64 by decide)];rfl),_,rfl,x,C,dx,_,rfl,s2 _ _ (s' _ _ aJ),cl,n3,ix _ _ _ _,?_⟩⟩
  have g6:Same H0 (upd H2 x (.ins C dx (b8 "size" (.int (2*(z+y))) (b8 "other" v2 (b8 "one" v1 []))))):=fun b o q=>by rw [ay (aT q x0)];exact s2 _ _ (g1 b o q)
  refine hD _ _ (k _ _ (fun b o hb hbo=>?_) aJ (wn (by decide+kernel)) ?_)
  · rw [ay hb];exact s2 _ _ (s' _ _ (by rw [ay hb];exact hbo))
  · refine .cons (x:=v1) ?_ ((r1.same g6).cold hf) (.cons (x:=v2) ?_ ((r2.same g6).cold hf2) (.cons (x:= .int (2*(z+y))) ?_ (.int _) .nil))
    · rw [aD,if_neg (by decide+kernel),aD,if_neg (by decide+kernel),aD,if_pos rfl]
    · rw [aD,if_neg (by decide+kernel),aD,if_pos rfl]
    · rw [aD,if_pos rfl]
end PL
namespace PL
open PySem L2 Nh
theorem kr {α:Type} {cn:Str} {c:α}:∀{t:List (Str×α)},t.lookup cn=some c→(cn,c)∈t
  | [],h=>by cases h
  | (x,a)::t,h=>by
    rw [List.lookup_cons] at h
    split at h
    · rename_i z
      cases h
      rw [beq_iff_eq.mp z]
      exact List.mem_cons_self ..
    · exact List.mem_cons_of_mem _ (kr h)
inductive Disp (P:Program) (w:World) (K:PySem.W.Frag) (mg:Str→Option Value) (base:Heap) (k:Nat) (m:Str):List (Str×(List PyData→Option Sl))→Prop
  | nil:Disp P w K mg base k m []
  | cons {x:Str} {C:Addr} {a:List PyData→Option Sl} {t:List (Str×(List PyData→Option Sl))}:ClsOk K mg x C→OwnM P w K mg base k C m ["self"] (cy K a)→Disp P w K mg base k m t→Disp P w K mg base k m ((x,a)::t)
theorem Disp.at {P:Program} {w:World} {K:PySem.W.Frag} {mg:Str→Option Value} {base:Heap} {k:Nat} {m:Str} {cn:Str} {c:List PyData→Option Sl}:∀{t:List (Str×(List PyData→Option Sl))},Disp P w K mg base k m t→(cn,c)∈t→∃C,ClsOk K mg cn C∧OwnM P w K mg base k C m ["self"] (cy K c)
  | _, .nil,h=>nomatch h
  | _, .cons ck ow r,h=>by
    rcases List.mem_cons.mp h with e | e
    · cases e;exact ⟨_,ck,ow⟩
    · exact r.at e
theorem Disp.ok {P:Program} {w:World} {K:PySem.W.Frag} {mg:Str→Option Value} {base:Heap} {k:Nat} {m:Str} {t:List (Str×(List PyData→Option Sl))} (h:Disp P w K mg base k m t) (hm:m∈j3):DispM P w K mg base k m (iw t):=wk hm fun _ _ e=>h.at (kr e)
inductive Frees (K:PySem.W.Frag) (mg:Str→Option Value) (f:Str):List Str→Prop
  | nil:Frees K mg f []
  | cons {x:Str} {C:Addr} {t:List Str}:ClsOk K mg x C→NoAttr K C f→Frees K mg f t→Frees K mg f (x::t)
theorem Frees.ok {K:PySem.W.Frag} {mg:Str→Option Value} {f:Str}:∀{cs:List Str},Frees K mg f cs→∀cn∈cs,∀C,PySem.W.nsIn K mainGlobals cn=some (some (.ref C))→Cls K C∧NoAttr K C f
  | _, .nil,_,h,_,_=>nomatch h
  | _, .cons ck n r,cn,h,C,ns=>by
    rcases List.mem_cons.mp h with e | e
    · subst e
      rw [ck.ns] at ns
      cases ns
      exact ⟨ck.cl,n⟩
    · exact r.ok cn e C ns
end PL
namespace PL
open PySem L2 Nh PyProof.Rows
structure IsC (K:PySem.W.Frag) (C:Addr):Prop where
  hg:PySem.W.plainGet K C "__class__"=true
  hd:PySem.W.hasDictIn K C=true
  ha:PySem.W.findIn K (.ref C) "__class__"=some (some (.builtin "object.__class__"))
  hn:PySem.W.specialIn K (.builtin "object.__class__") "__get__"=some (some (.builtin "getset_descriptor.__get__"))
  ht:PySem.W.takesIn K (.builtin "object.__class__")=some true
  hm:PySem.W.mroIn K C (.type "object")=some true
theorem pI {X:Cx} {pins:List (Addr×Obj)} {s:Shared} {σ:L2.St} {H:Hp} {p C dx D:Addr} {fs:List (Str×V)} {b:Bool} {A:Around} {E:Value→Shared→Prop} {Q:Value→Shared→Prop} (I:Inv X pins σ H s) (e:H p=some (.ins C dx fs)) (z:IsC X.K C) (ek:PySem.W.kitOne X.K (.ref C) (.ref D)=some b) (h:∀tk,Q (.bool b) {s with toks:=tk}):
    wpAny (model X.prog X.w) A (call (.builtin "isinstance") [.ref p, .ref D]) Q E s:=by
  obtain ⟨mA,O,_⟩:=iP I.hok e
  obtain ⟨od,ia,_⟩:=O.look
  exact PySem.W.kia_one (PySem.W.kitx_own (ox:=PySem.W.instObj C dx) (od:=od) z.hg z.hd z.ha z.hn z.ht z.hm) I.kIn ia ek (fun z=>nomatch z) h
inductive IsRow (K:PySem.W.Frag) (D:Addr):List (Str×Bool)→Prop
  | nil:IsRow K D []
  | cons {x:Str} {C:Addr} {b:Bool} {t:List (Str×Bool)}:PySem.W.nsIn K mainGlobals x=some (some (.ref C))→IsC K C→PySem.W.kitOne K (.ref C) (.ref D)=some b→IsRow K D t→IsRow K D ((x,b)::t)
theorem IsRow.at {K:PySem.W.Frag} {D:Addr} {cn:Str} {b:Bool}:∀{t:List (Str×Bool)},IsRow K D t→(cn,b)∈t→∃C,PySem.W.nsIn K mainGlobals cn=some (some (.ref C))∧IsC K C∧PySem.W.kitOne K (.ref C) (.ref D)=some b
  | _, .nil,h=>nomatch h
  | _, .cons n c k r,h=>by
    rcases List.mem_cons.mp h with e | e
    · cases e;exact ⟨_,n,c,k⟩
    · exact r.at e
def pJ (t:List (Str×Bool)):PyData→Option PyData
  | .dict ((.none, .tuple [.str cn])::_)=>(t.lookup cn).map PyData.bool
  | _=>none
theorem uJ {X:Cx} {D:Addr} {t:List (Str×Bool)} (R:IsRow X.K D t):CallR X (.builtin "isinstance") (fun xs H Q=>∃x d r,xs=[x, .ref D]∧Rp X.K H x d∧pJ t d=some r∧∀b,r= .bool b→Q (.bl b) H):=by
  intro pins s σ H xs us Q I r h
  obtain ⟨x,d,r',rfl,rp,hd,q⟩:=h
  obtain ⟨u,w',rfl,ru,rw'⟩:=r.two
  cases (show w'=Value.ref D from rw')
  unfold pJ at hd
  split at hd
  · rename_i cn kvs
    obtain ⟨b,e1,e2⟩:=Option.map_eq_some_iff.mp hd
    obtain ⟨p,C,dx,fs,rfl,ns,hp,_,_⟩:=mX rp
    obtain ⟨C',ns',ic,ek⟩:=R.at (kr e1)
    rw [ns] at ns'
    cases ns'
    cases (show u=Value.ref p from ru)
    exact pI I hp ic ek fun tk=>⟨.bl b,H,I.tok _,rfl,q b e2.symm⟩
  · cases hd
theorem yH {X:Cx} {e:Expr} {m1:Bool} {f:b9} {p p2 pos:Pos} {x:Str} {D:Addr} {t:List (Str×Bool)} (R:IsRow X.K D t) (hg:Gl X "isinstance") (hm:X.mg "isinstance"=none) (ha:EX X e m1 f) (hgx:Gl X x) (hmx:X.mg x=some (.ref D)) (hdx:(x == ("__debug__":Str))=false:=by decide)
    (he:starEach [e, .Name x p2] X.env=(false,eval e X.env)::starEach [.Name x p2] X.env:=by rfl) (he2:starEach [.Name x p2] X.env=[(false,eval (.Name x p2) X.env)]:=by rfl) (hpl:(backTo pos (starEach [.Name x p2] X.env)).any (·.1)=false:=by rfl):
    EX X (.Call (.Name "isinstance" p) [e, .Name x p2] [] pos) m1 (gD (pJ t) f):=by
  have h2:PE X (.Name x p2) (tC (.ref D)):=fun pins s σ H Q I h=>jL I hgx hmx ⟨.ref D,H,I,rfl,h⟩ hdx
  refine bw (g_ (uJ R) hg hm PyProof.Rows.boot_isinstance (bZ ha (bZ h2 dO he2) he) (by decide) (by decide) he hpl) fun σ H Q z=>?_
  obtain ⟨B,E,xs,Xs,res,E',fr,cl,e,q⟩:=z
  obtain ⟨⟨s,E1⟩,e1,e⟩:=Option.bind_eq_some_iff.mp e
  obtain ⟨d1,e2,e⟩:=Option.bind_eq_some_iff.mp e
  obtain ⟨d2,e3,e⟩:=Option.map_eq_some_iff.mp e
  cases e
  refine ⟨B,E,xs,Xs,s,E1,fr,cl,e1,fun v1 H1 ⟨F,A,fr1⟩=>?_⟩
  obtain ⟨A',fr2⟩:=fr1.pop
  exact ⟨v1,d1,d2,rfl,(fr1.look0 e2).1,e3,fun b z=>q _ _ ⟨F,A',fr2.push ⟨rfl,_,rfl,z▸ .bl b⟩⟩⟩
end PL
namespace PL
open PySem PySem.Calls L2 Nh PyProof.Rows
def gx:List PyData→Option PyData
  | [.int n]=>if n.natAbs.log2 < 1920 then some (.str (Str.ofString (toString n))) else none
  | _=>none
def qU:List PyData→Option PyData
  | [.str x]=>if x.length≤640 then (PySem.intText? x).map PyData.int else none
  | _=>none
def oY (x:Str) (i:Int) (y:Str):Bool:=decide (x.cps.toList[i.toNat]? =y.cps.toList[0]?)
theorem sk {x y:Str} {i:Int} (hy:y.cps.toList.length=1) (hi:0≤i):(decide (fromIndex x.length i+y.length≤x.length)&&Builtin.Str.subAt x y (fromIndex x.length i))=oY x i y:=by
  have ei:fromIndex x.length i=i.toNat:=by
    unfold fromIndex
    rw [if_neg (by omega),Int.max_eq_right hi]
  obtain ⟨⟨ys⟩⟩:=y
  obtain ⟨⟨xs⟩⟩:=x
  have hy:ys.length=1:=hy
  obtain ⟨c,rfl⟩:∃c,ys=[c]:=List.length_eq_one_iff.mp hy
  rw [ei]
  have e1:(Builtin.Str.subAt ⟨⟨xs⟩⟩ ⟨⟨[c]⟩⟩ i.toNat)=(((xs.drop i.toNat).take 1) == [c]):=by
    show ((Array.mk xs).extract i.toNat (i.toNat+1) == #[c])=_
    have:(Array.mk xs).extract i.toNat (i.toNat+1)=((xs.drop i.toNat).take 1).toArray:=by
      apply Array.ext'
      simp [List.extract]
    rw [this]
    generalize (xs.drop i.toNat).take 1=l
    show (l.toArray == [c].toArray)=_
    simp
  rw [e1]
  show (decide (i.toNat+1≤xs.length)&&((xs.drop i.toNat).take 1 == [c]))=decide (xs[i.toNat]? =some c)
  by_cases h:i.toNat < xs.length
  · have:(xs.drop i.toNat).take 1=[xs[i.toNat]]:=by
      rw [List.drop_eq_getElem_cons h];rfl
    rw [this,List.getElem?_eq_getElem h,decide_eq_true (by omega:i.toNat+1≤xs.length),Bool.true_and]
    by_cases hc:xs[i.toNat]=c
    · rw [hc];simp
    · rw [decide_eq_false (by simpa using hc)]
      simpa using hc
  · rw [decide_eq_false (by omega:¬i.toNat+1≤xs.length),Bool.false_and,List.getElem?_eq_none (by omega)]
    rfl
section
variable {X:Cx} {e e2:Expr} {m1:Bool} {g:j7} {x:Str} {p pos apos cpos:Pos}
theorem sr:CallR X (.type "str") (fun xs H Q=>∃n,xs=[.int n]∧n.natAbs.log2 < 1920∧Q (.str (Str.ofString (toString n))) H):=by
  intro pins s σ H xs us Q I r h
  obtain ⟨n,rfl,hn,q⟩:=h
  obtain ⟨u,rfl,ru⟩:=r.one
  obtain ⟨t,rfl⟩:=ru
  exact PySem.P.str_of_int hn ⟨.str _,H,I.tok _,⟨_,rfl⟩,q⟩
theorem su:CallR X (.type "int") (fun xs H Q=>∃x n,xs=[.str x]∧x.length≤640∧PySem.intText? x=some n∧Q (.int n) H):=by
  intro pins s σ H xs us Q I r h
  obtain ⟨x,n,rfl,hl,hn,q⟩:=h
  obtain ⟨u,rfl,ru⟩:=r.one
  obtain ⟨t,rfl⟩:=ru
  exact PySem.W.KIN.call_text hn hl ⟨.int _,H,I.tok _,⟨_,rfl⟩,q⟩
theorem mZ (hg:Gl X "str") (hm:X.mg "str"=none) (ha:AX X [e] m1 g) (he:starEach [e] X.env=[(false,eval e X.env)]:=by rfl):EX X (.Call (.Name "str" p) [e] [] pos) m1 (bt gx g):=
  bw (gn sr hg hm PyProof.Rows.boot_str ha (by decide) (by decide) he rfl) fun _ _ _ z=>mM (fun ds d vs H Q e r=>by
    unfold gx at e
    split at e
    · split at e
      · rename_i hn
        cases e
        obtain ⟨v,rfl,r'⟩:=r.one
        cases r'
        exact ⟨_,rfl,fun q=>⟨_,rfl,hn,q⟩⟩
      · cases e
    · cases e) z
theorem wq (hg:Gl X "int") (hm:X.mg "int"=none) (ha:AX X [e] m1 g) (he:starEach [e] X.env=[(false,eval e X.env)]:=by rfl):EX X (.Call (.Name "int" p) [e] [] pos) m1 (bt qU g):=
  bw (gn su hg hm PyProof.Rows.boot_int ha (by decide) (by decide) he rfl) fun _ _ _ z=>mM (fun ds d vs H Q e r=>by
    unfold qU at e
    split at e
    · split at e
      · rename_i hn
        obtain ⟨n,e1,e2⟩:=Option.map_eq_some_iff.mp e
        cases e2
        obtain ⟨v,rfl,r'⟩:=r.one
        cases r'
        exact ⟨_,rfl,fun q=>⟨_,_,rfl,hn,e1,q⟩⟩
      · cases e
    · cases e) z
def wr:V→List V→Hp→VK→Prop:=fun v vs H Q=>∃x y i,v= .str x∧vs=[.str y, .int i]∧y.cps.toList.length=1∧0≤i∧Q (.bl (oY x i y)) H
theorem sv:MtR X "str.startswith" wr:=by
  intro pins s σ H x vs v us Q I rx rv h
  obtain ⟨z,y,i,rfl,rfl,hy,hi,q⟩:=h
  obtain ⟨t,rfl⟩:=rx
  obtain ⟨u,w,rfl,ru,rw'⟩:=rv.two
  obtain ⟨tu,rfl⟩:=ru
  obtain ⟨tw,rfl⟩:=rw'
  refine call_gives F.slot_str_startswith (typeIs_str _ _ _) F.entry_str_startswith (F.args_str_startswith_3 _ _ _) (gives_str_startswith_from z y i t tu tw) ?_
  rw [sk hy hi]
  exact ⟨.bl _,H,I,rfl,q⟩
def cH (i:Nat) (g:j7):b9:=fun E=>match E[i]? with
  | some (.sh (.str x))=>(g E).bind fun a=>(az a.2 a.1).bind fun ds=>match ds with
    | [.str y, .int n]=>if y.cps.toList.length=1∧0≤n then some (.sh (.bool (oY x n y)),a.2) else none
    | _=>none
  | _=>none
theorem ik (i:Nat) (ha:AX X [e,e2] m1 g) (hN:X.N[i]? =some x:=by rfl) (hv:ve X.env.scope x:=by first | exact Or.inl rfl | exact Or.inr (Or.inl rfl) | exact Or.inr (Or.inr rfl)) (hd:(x == ("__debug__":Str))=false:=by decide) (hcd:(x == ("__classdict__":Str))=false:=by decide)
    (hs:starEach [e,e2] X.env=(false,eval e X.env)::starEach [e2] X.env:=by rfl) (hpl:(backTo cpos (starEach [e2] X.env)).any (·.1)=false:=by rfl) (hbase:attributeBase (.Name x p) "startswith" X.env (eval (.Name x p) X.env)=eval (.Name x p) X.env:=by rfl)
    (hfew:((backTo cpos (starEach [e,e2] X.env)).all (fun x=> !x.1)&&(backToKw cpos (keywordEach [] X.env)).all (fun x=>x.1.isSome)
      &&decide (([e,e2]:List Expr).length+([]:List Keyword).length+(if ([]:List Keyword).isEmpty then 0 else 1) < 30))=true:=by rfl) (hline:(apos.endLine == cpos.line)=true:=by rfl):
    EX X (.Call (.Attribute (.Name x p) "startswith" apos) [e,e2] [] cpos) m1 (cH i g):=by
  refine bw (qu PySem.F.plainAttrs_str PySem.F.slot_str_startswith PySem.F.type_str_startswith sv (gZ hN hv hd hcd) ha hbase hfew hline hs hpl) fun σ H Q z=>?_
  obtain ⟨B,E,xs,Xs,res,E',⟨F,A,fr⟩,cl,e,q⟩:=z
  unfold cH at e
  split at e
  · rename_i z ei
    obtain ⟨⟨rs,E1⟩,e1,e⟩:=Option.bind_eq_some_iff.mp e
    obtain ⟨ds,e2,e⟩:=Option.bind_eq_some_iff.mp e
    simp only at e
    split at e
    · rename_i y n
      split at e
      · rename_i hc
        cases e
        obtain ⟨o,A1,eo,rfl,v0,rfl,rp⟩:=fr.var ei
        cases rp
        refine ⟨_,eo,rfl,B,E,xs,Xs,rs,E',⟨F,A,fr⟩,cl,e1,fun vs H1 hl ⟨F1,A1,fr1⟩=>?_⟩
        obtain ⟨r1,A',fr2⟩:=fr1.looks hl e2
        obtain ⟨v1,v2,rfl,ra,rb⟩:=r1.two
        cases ra;cases rb
        exact ⟨z,y,n,rfl,rfl,hc.1,hc.2,q _ _ ⟨F1,A',fr2.push ⟨rfl,_,rfl, .bl _⟩⟩⟩
      · cases e
    · cases e
  · cases e
end
end PL
namespace PL
open PySem PySem.Spec PyProof.Rows L2 Nh
def Ctx0 (e:Addr) (h:Heap):Prop:=∃o vs,h.get? e=some o∧o.data= .fields vs∧vs[2]? =some .none
def K2 (f:Obj→Obj):Prop:=∀o vs,o.data= .fields vs→∃ws,(f o).data= .fields ws∧ws[2]? =vs[2]?
def Tm {α:Type}:Sem α→Prop
  | .pure _=>True
  | .raise _=>True
  | .unsupported _=>True
  | .rule _ k=>Tm (k ())
  | .at _ k=>Tm (k ())
  | .load _ _ k=>∀o,Tm (k o)
  | .update _ _ f k=>K2 f∧Tm (k ())
  | .loadIfAlive _ k=>∀o,Tm (k o)
  | .point _ k=>Tm (k ())
  | .alloc _ k=>∀a,Tm (k a)
  | .fresh k=>∀t,Tm (k t)
  | .handled _ k=>∀x,Tm (k x)
  | .stack k=>∀x,Tm (k x)
  | _=>False
theorem Tm.bind {α β:Type} {k:α→Sem β} (hk:∀a,Tm (k a)):∀{t:Sem α},Tm t→Tm (t >>= k)
  | .pure a,_=>hk a
  | .raise _,_=>trivial
  | .unsupported _,_=>trivial
  | .rule _ f,h=>Tm.bind hk (t:=f ()) h
  | .at _ f,h=>Tm.bind hk (t:=f ()) h
  | .load _ _ f,h=>fun o=>Tm.bind hk (t:=f o) (h o)
  | .update _ _ g f,h=>⟨h.1,Tm.bind hk (t:=f ()) h.2⟩
  | .loadIfAlive _ f,h=>fun o=>Tm.bind hk (t:=f o) (h o)
  | .point _ f,h=>Tm.bind hk (t:=f ()) h
  | .alloc _ f,h=>fun a=>Tm.bind hk (t:=f a) (h a)
  | .fresh f,h=>fun a=>Tm.bind hk (t:=f a) (h a)
  | .handled _ f,h=>fun a=>Tm.bind hk (t:=f a) (h a)
  | .stack f,h=>fun a=>Tm.bind hk (t:=f a) (h a)
  | .finish _,h=>h.elim
  | .register _ _,h=>h.elim
  | .ask _,h=>h.elim
  | .choose _ _ _,h=>h.elim
  | .os _ _ _,h=>h.elim
  | .call _ _ _ _ _,h=>h.elim
  | .newGen _ _,h=>h.elim
  | .genState _ _,h=>h.elim
  | .resume _ _ _ _,h=>h.elim
  | .yield _ _ _ _,h=>h.elim
  | .fork _ _,h=>h.elim
  | .thread _,h=>h.elim
  | .await _ _ _ _ _,h=>h.elim
theorem Ctx0.upd {e a:Addr} {h:Heap} {f:Obj→Obj} (x:Ctx0 e h) (k:K2 f):Ctx0 e (h.update a f):=by
  obtain ⟨o,vs,ho,hd,h2⟩:=x
  by_cases q:a=e
  · subst q
    obtain ⟨ws,hw,e2⟩:=k o vs hd
    exact ⟨_,ws,Heap.get?_update_self f ho (Obj.isFreed_of_fields hw),hw,e2.trans h2⟩
  · exact ⟨o,vs,(Heap.get?_update_other _ _ q).trans ho,hd,h2⟩
def FlyC (base:Heap) (l:List Env) (e:Addr) (cls a0:Value) (h:Heap):Prop:=base.StaysIn h∧base.get? e=none∧h.FunFrames base l∧h.TracedW base e cls a0∧Ctx0 e h
def HeldC (base:Heap) (l:List Env) (e:Addr) (cls a0:Value) (L:Addr) (h:Heap):Prop:=base.StaysIn h∧base.get? e=none∧h.FunFrames base l∧h.TracedAtW base e cls a0 (rawInt L)∧Ctx0 e h
section
variable {M:Model} {A:Around} {E:Value→Shared→Prop} {s:Shared} {base:Heap} {env:Env} {outer l:List Env} {L e:Addr} {cls a0:Value} {Q:Unit→Shared→Prop} {h:Heap}
theorem FlyC.to (x:FlyC base l e cls a0 h):Heap.FlyingW base l e cls a0 h:=⟨x.1,x.2.1,x.2.2.1,x.2.2.2.1⟩
theorem FlyC.of (x:Heap.FlyingW base l e cls a0 h) (c:Ctx0 e h):FlyC base l e cls a0 h:=⟨x.1,x.2.1,x.2.2.1,x.2.2.2,c⟩
theorem HeldC.to (x:HeldC base l e cls a0 L h):Heap.HeldW base l e cls a0 L h:=⟨x.1,x.2.1,x.2.2.1,x.2.2.2.1⟩
theorem HeldC.of (x:Heap.HeldW base l e cls a0 L h) (c:Ctx0 e h):HeldC base l e cls a0 L h:=⟨x.1,x.2.1,x.2.2.1,x.2.2.2,c⟩
theorem FlyC.there (x:FlyC base l e cls a0 h):∃ob,h.get? e=some ob∧ob.cls=cls:=x.to.there
theorem FlyC.first (x:FlyC base l e cls a0 h):∃oe vs,h.get? e=some oe∧oe.cls=cls∧oe.data= .fields vs∧vs[0]? =some a0:=x.to.first
theorem HeldC.there (x:HeldC base l e cls a0 L h):∃ob,h.get? e=some ob∧ob.cls=cls:=x.to.there
end
end PL
namespace PL
open PySem PySem.Spec PyProof.Rows L2 Nh
structure UnB (fs:List Addr) (H H':Hp) (h B h':Heap):Prop where
  keep:∀b o,h.get? b=some o→H b=none→b∉fs→B.get? b=some o
  slot:∀b o,h.get? b=some o→H b=none→b∈fs→∃sl,h'.get? b=some {o with slots:=sl}
  free:∀b o,h.get? b=some o→H b=none→H' b=none
  there:∀b o,h.get? b=some o→b∉fs→∃o',B.get? b=some o'
  tups:∀b xs,H b=some (.tup xs)→H' b=some (.tup xs)
  frzs:∀b o u,H b=some (.frz o u)→H' b=some (.frz o u)
  tbls:∀b ps,H b=some (.tbl ps)→H' b=some (.tbl ps)
theorem UnB.un {fs:List Addr} {H H':Hp} {h B h':Heap} (u:UnB fs H H' h B h') (st:B.StaysIn h') (hf:∀b∈fs,H b=none):Un fs [] H H' h h':=
  ⟨fun b o e n hb _=>st b o (u.keep b o e n hb),fun b o e n hb _=>u.slot b o e n hb,fun b o e n _=>u.free b o e n,fun b o e _=>by
    by_cases hb:b∈fs
    · obtain ⟨sl,z⟩:=u.slot b o e (hf b hb) hb
      exact ⟨_,z⟩
    · obtain ⟨o',z⟩:=u.there b o e hb
      exact ⟨o',st b o' z⟩,u.tups,u.frzs,u.tbls⟩
abbrev C3:=List Sl→Option (Str×List Sl)
end PL
namespace PL
open PySem PySem.Spec PyProof.Rows L2 Nh
abbrev hX (X:Cx) (ea:Addr) (oe:Obj) (C:Addr):Cx:={X with A:=X.A.mark (some (.ref ea)),calm:=false,xe:=fun _ _=>False,H₀:=upd X.H₀ ea (.frz oe (.ext (wY ea C)))}
end PL
namespace PL
open PySem PySem.Spec PyProof.Rows L2 Nh
structure RoomH (k:Nat) (A:Around):Prop where
  dp:A.depth+3*k+5 < recursionLimit
  un:A.units+16*k+200 < cLine
theorem RoomH.mono {j k:Nat} {A:Around} (r:RoomH k A) (h:j≤k):RoomH j A:=⟨by have:=r.dp;omega,by have:=r.un;omega⟩
theorem RoomH.deeper {k:Nat} {A:Around} (r:RoomH (k+1) A) (env:Env):RoomH k (A.deeper env):=
  ⟨by have:=r.dp;show A.depth+1+3*k+5 < _;omega,by have:=r.un;show A.units+3+16*k+200 < _;omega⟩
theorem RoomH.depth {k:Nat} {A:Around} (r:RoomH k A):A.depth < recursionLimit:=by have:=r.dp;omega
theorem RoomH.units {k:Nat} {A:Around} (r:RoomH k A):A.units+64 < cLine:=by have:=r.un;omega
theorem Room.mark {k:Nat} {A:Around} (r:Room k A) (v:Option Value):RoomH k (A.mark v):=⟨r.dp,r.un⟩
end PL
namespace PL
open PySem L2 Nh
def uK:Expr→Bool
  | .Starred .. =>false
  | _=>true
theorem wt {e:Expr} {es:List Expr} {env:Env} (h:uK e=true):starEach (e::es) env=(false,eval e env)::starEach es env:=by
  cases e <;> first | rfl | cases h
inductive DL (X:Cx):List Expr→Bool→kI→Prop
  | nil:DL X [] false bP
  | cons {e:Expr} {es:List Expr} {m1 m2:Bool} {f:b9} {d:kI}:EX X e m1 f→uK e=true→DL X es m2 d→DL X (e::es) (m1||m2) (aR f d)
section
variable {X:Cx} {es:List Expr} {m:Bool} {d:kI} {pos:Pos}
theorem DL.dx (h:DL X es m d):DX X es m d:=by
  induction h with
  | nil=>exact yk
  | cons a n _ ih=>exact v6 a ih (wt n)
theorem fQ (h:DL X es m d):EX X (.List es pos) m (cR d):=yn h.dx
theorem iM {x1} (h:DL X es m d):EX X (.Tuple es x1 pos) m (gj d):=ym h.dx
end
def rZ:Expr→List Expr
  | .List es _=>es
  | .Tuple es _ _=>es
  | _=>[]
end PL
namespace NH
section
variable {α:Type} [DecidableEq α]
def Rot (a b:List (α×Int)):Prop:=∃u v,a=u++v∧b=v++u
theorem Rot.refl (a:List (α×Int)):Rot a a:=⟨[],a,rfl,by simp⟩
theorem Rot.symm {a b:List (α×Int)} (h:Rot a b):Rot b a:=let ⟨u,v,e,f⟩:=h;⟨v,u,f,e⟩
theorem Rot.trans {a b c:List (α×Int)} (h:Rot a b) (k:Rot b c):Rot a c:=by
  obtain ⟨u,v,rfl,e⟩:=h
  obtain ⟨x,y,e2,rfl⟩:=k
  rw [e] at e2
  rcases List.append_eq_append_iff.mp e2 with ⟨w,e3,e4⟩ | ⟨w,e3,e4⟩
  · subst e3 e4
    exact ⟨w,y++v,by simp,by simp⟩
  · subst e3 e4
    exact ⟨u++x,w,by simp,by simp⟩
theorem Rot.eq {a b:List (α×Int)} (h:a=b):Rot a b:=h▸Rot.refl a
theorem Rot.len {a b:List (α×Int)} (h:Rot a b):a.length=b.length:=by
  obtain ⟨u,v,rfl,rfl⟩:=h
  simp [Nat.add_comm]
end
end NH
namespace NH
variable {α:Type} [DecidableEq α]
end NH
namespace Nh
open PySem L2 PL
theorem yI {p q:Pc} (hp:p.1 < 128) (hq:q.1 < 128):rP (bn p) (bn q)=some (decide (p=q)):=by
  have s:∀{p:Pc},p.1 < 128→SeqAt.shaped (bn p)=true:=fun {p} h=>by
    have h1:=zQ h
    unfold SeqAt.shaped
    rw [h1]
    simp [bn,PyData.depth,PyData.depthAll]
  have e:rP (bn p) (bn q)=(if SeqAt.shaped (bn p)&&SeqAt.shaped (bn q) then some (PyData.eqv (bn p) (bn q)) else none):=rfl
  rw [e,s hp,s hq,yf]
  rfl
end Nh
namespace NH
def BT:Nat→Nat→Nat
  | _,0=>1
  | 0,_+1=>0
  | n+1,k+1=>BT n (k+1)+BT n k
def BU:Nat→Nat→Int
  | _,0=>1
  | 0,_+1=>0
  | m+1,k+1=>BU m (k+1) - BU (m+1) k
def ch (n:Int) (k:Nat):Int:=match n with
  | .ofNat n=>(BT n k:Int)
  | .negSucc m=>BU (m+1) k
def ff (n:Int):Nat→Int
  | 0=>1
  | k+1=>ff n k*(n - k)
section
variable {α:Type}
def conv (f g:List α→Int):List α→Int
  | []=>f []*g []
  | a::w=>f []*g (a::w)+conv (fun u=>f (a::u)) g w
def CJ:List α→Int
  | []=>1
  | _::_=>0
end
section
variable {α:Type} [DecidableEq α]
def Af (p:α×Int) (w:List α):Int:=if w.all (fun b=>decide (b=p.1)) then ch p.2 w.length else 0
def Cg (w:List α) (c:List (α×Int)):Int:=c.foldr (fun p f=>conv (Af p) f) CJ w
def vs (j:Nat) (m n:Int):Nat→Int
  | 0=>ch m j
  | k+1=>ch m j*ch n (k+1)+vs (j+1) m n k
end
end NH
namespace NH
variable {α:Type} [DecidableEq α]
end NH
namespace Nh
open PySem L2 PL
def CordOk (c:List Pc):Prop:=∀p∈c,p.1 < 128∧p.2.natAbs < 2 ^ 100
theorem CordOk.n {c:List Pc} (h:CordOk c):NailsOk c:=fun p hp=>(h p hp).1
theorem CordOk.append {c d:List Pc} (h:CordOk c) (h':CordOk d):CordOk (c++d):=fun p hp=>(List.mem_append.mp hp).elim (h p) (h' p)
theorem CordOk.contr {c:List Pc} (h:CordOk c):CordOk (NH.contr c):=fun p hp=>by
  obtain ⟨q,hq,e⟩:=List.mem_map.mp hp
  subst e
  have:=h q (List.mem_reverse.mp hq)
  exact ⟨this.1,by simpa using this.2⟩
theorem CordOk.cutL {c:List Pc} (h:CordOk c) (lo hi:Option Int):CordOk (cutL c lo hi):=fun p hp=>h p (ot hp)
end Nh
namespace NH
open PySem PySem.NumText PyProof.Rows PySem.W PySem.W.KIN
def dg (m:Nat):List Nat:=(Nat.toDigits 10 m).map Char.toNat
theorem gy {m:Nat} (h:m < 10):dg m=[(Nat.digitChar m).toNat]:=by unfold dg;rw [Nat.toDigits_of_lt_base h];rfl
theorem m6 {m:Nat} (h:¬m < 10):dg m=dg (m / 10)++dg (m % 10):=by
  have hm:m % 10 < 10:=Nat.mod_lt m (by decide)
  have t:Nat.toDigits 10 (m / 10)++Nat.toDigits 10 (m % 10)=Nat.toDigits 10 (10*(m / 10)+m % 10):=Nat.toDigits_append_toDigits (by decide) (by omega) hm
  rw [Nat.div_add_mod] at t
  unfold dg
  rw [←t,List.map_append]
theorem m7 (m:Nat):AllDigits (dg m):=fun c hc=>by
  obtain ⟨ch,hch,e⟩:=List.mem_map.mp hc
  rw [←e]
  exact digit_range (Nat.isDigit_of_mem_toDigits (by decide) (by decide) hch)
theorem oI (m:Nat):dg m≠[]:=by
  by_cases h:m < 10
  · rw [gy h];simp
  · rw [m6 h,gy (Nat.mod_lt m (by decide))];simp
theorem qV (m:Nat) (h0:m≠0):(dg m).head? ≠some 48:=by
  induction m using Nat.strongRecOn with
  | _ m ih=>
    by_cases h:m < 10
    · rw [gy h]
      have:∀d:Nat,d < 10→d≠0→some (Nat.digitChar d).toNat≠some 48:=by decide
      exact this m h h0
    · rw [m6 h]
      have e:=ih (m / 10) (by omega) (by omega)
      have n:=oI (m / 10)
      cases q:dg (m / 10) with
      | nil=>exact absurd q n
      | cons a r=>rw [q] at e;exact e
theorem m8 (k:Nat):∀m:Nat,m < 10 ^ (k+1)→(dg m).length≤k+1:=by
  induction k with
  | zero=>intro m h;rw [gy (by simpa using h)];simp
  | succ k ih=>
    intro m h
    by_cases hm:m < 10
    · rw [gy hm];simp
    · rw [m6 hm,gy (Nat.mod_lt m (by decide)),List.length_append]
      have:=ih (m / 10) (by rw [Nat.pow_succ] at h;omega)
      simp only [List.length_cons,List.length_nil]
      omega
theorem uL (m:Nat):digitsVal (dg m)=m:=val_back m
def jF (t:Int):List Nat:=(Str.ofString (toString t)).cps.toList
theorem pK (m:Nat):jF (m:Int)=dg m:=signs_num m
theorem pL (m:Nat):jF (Int.negSucc m)=45::dg (m+1):=by
  unfold jF
  rw [signs_ofString]
  show (("-"++Nat.repr (m+1)).toList).map Char.toNat=_
  rw [String.toList_append,List.map_append,Nat.toList_repr]
  rfl
theorem oJ {t:Int} (h0:t≠0) (h1:t.natAbs < 10 ^ 30):∃s D,jF t=s++D∧(s=[]∨s=[45])∧AllDigits D∧D≠[]∧D.head? ≠some 48∧D.length≤30∧PySem.intText? ⟨(jF t).toArray⟩=some t:=by
  cases t with
  | ofNat m=>
    have hm:m≠0:=fun z=>h0 (by rw [z];rfl)
    have hl:(dg m).length≤30:=m8 29 m h1
    refine ⟨[],dg m,pK m, .inl rfl,m7 m,oI m,qV m hm,hl,?_⟩
    have e:jF (Int.ofNat m)=dg m:=pK m
    rw [e]
    have z:=intText_digits (x:=⟨(dg m).toArray⟩) (by simpa using m7 m) (by simpa using oI m) (by show (dg m).toArray.size≤4300;simp;omega)
    rw [z]
    show some ((digitsVal (dg m).toArray.toList:Nat):Int)=_
    rw [show (dg m).toArray.toList=dg m by simp,uL]
    rfl
  | negSucc m=>
    have hl:(dg (m+1)).length≤30:=m8 29 (m+1) h1
    refine ⟨[45],dg (m+1),pL m, .inr rfl,m7 _,oI _,qV _ (by omega),hl,?_⟩
    rw [pL]
    have z:=intText_neg (x:=⟨(45::dg (m+1)).toArray⟩) (cs:=dg (m+1)) (by simp) (m7 _) (oI _) (by show (45::dg (m+1)).toArray.size≤4300;simp;omega)
    rw [z,uL]
    rfl
theorem pM {t:Int} (h1:t.natAbs < 10 ^ 30):(jF t).length≤31:=by
  cases t with
  | ofNat m=>rw [show jF (Int.ofNat m)=dg m from pK m];have:(dg m).length≤30:=m8 29 m h1;omega
  | negSucc m=>rw [pL];have:(dg (m+1)).length≤30:=m8 29 (m+1) h1;simp;omega
end NH
namespace Nh
open PySem L2 PL
def lp (p q:Pc):Bool:=if p.1=q.1 then decide (p.2 < q.2) else decide (p.1 < q.1)
def ll:List Pc→List Pc→Bool
  | [],[]=>false
  | [],_::_=>true
  | _::_,[]=>false
  | x::xs,y::ys=>if x=y then ll xs ys else lp x y
theorem uM {p q:Pc} (h:p≠q):lp p q=true∨lp q p=true:=by
  unfold lp
  by_cases e:p.1=q.1
  · rw [if_pos e,if_pos e.symm]
    simp only [decide_eq_true_eq]
    have:p.2≠q.2:=fun z=>h (by cases p;cases q;simp_all)
    omega
  · rw [if_neg e,if_neg (fun z=>e z.symm)]
    simp only [decide_eq_true_eq]
    omega
theorem oK:∀{a b:List Pc},a≠b→ll a b=true∨ll b a=true
  | [],[],h=>absurd rfl h
  | [],_::_,_=> .inl rfl
  | _::_,[],_=> .inr rfl
  | x::a,y::b,h=>by
    unfold ll
    by_cases e:x=y
    · subst e
      rw [if_pos rfl,if_pos rfl]
      exact oK fun z=>h (by rw [z])
    · rw [if_neg e,if_neg (fun z=>e z.symm)]
      exact uM e
def AQ (a:List Pc) (p:Nat):List Pc:=a.drop p++a.take p
def Least (a w:List Pc):Prop:=(∃p,p≤a.length∧w=AQ a p)∧∀p,p≤a.length→ll (AQ a p) w=false
theorem Least.one {a w w':List Pc} (h:Least a w) (h':Least a w'):w=w':=by
  obtain ⟨⟨p,hp,rfl⟩,k⟩:=h
  obtain ⟨⟨p',hp',rfl⟩,k'⟩:=h'
  by_cases e:AQ a p=AQ a p'
  · exact e
  · rcases oK e with z | z
    · rw [k' p hp] at z;cases z
    · rw [k p' hp'] at z;cases z
end Nh
namespace NH
variable {α:Type} [DecidableEq α]
end NH
namespace Nhk61
open PySem L2 Nh PL
def eC:ki:=(dI 2 (bj (aW 0) (bj (aW 1) dS)))
def dn:b9:=(gj (aR (ad 0) (aR (gD gi (ad 1)) bP)))
def gN:bA:=(aF (jw [none,none] (oo (ad 0)) eC iz dn))
def cq:List PyData→Option Sl:=cj 1 1 gN
def dq:bA:=(aF (kJ (bG (af gH false (ad 0) (pC (.int 1)))) (pC (.str "")) (bt gx (ae false (ad 0) ao))))
def bq:List PyData→Option Sl:=cj 1 1 dq
def fR:bA:=(aF (af eR false (kJ (bG (af (bR (aZ .lt)) false (ad 1) (pC (.int 0)))) (aA cq (ae false (ad 0) ao)) (ad 0)) (bt jD (ae false (ad 1) ao))))
def cE:List PyData→Option Sl:=cj 2 2 fR
def db:bA:=(aF (af aC false (af aC false (af aC false (ad 0) (ad 1)) (aA cq (ae false (ad 0) ao))) (aA cq (ae false (ad 1) ao))))
def bp:List PyData→Option Sl:=cj 2 2 db
def eF:bA:=(aF (cZ ["Piece","Parts","Times","Back"] "size" (ad 0)))
def bJ:List PyData→Option Sl:=cj 1 1 eF
def e8:bA:=(aF (cR (aR (gj (aR (cZ ["Piece"] "nail" (ad 0)) (aR (cZ ["Piece"] "turns" (ad 0)) bP))) bP)))
def dr:List PyData→Option Sl:=cj 1 1 e8
def e9:bA:=(aF (af aC false (cZ ["Piece"] "nail" (ad 0)) (aA bq (ae false (cZ ["Piece"] "turns" (ad 0)) ao))))
def dt:List PyData→Option Sl:=cj 1 1 e9
def eP (self:List PyData→Option Sl):bA:=(ar (aU (bG (af (bR (aZ .gt)) false (cZ ["Piece","Parts","Times","Back"] "size" (ad 0)) (pC (.int 4000))))
  jj
  aB)
  (aF (kJ (bG (af (bR (aZ .gt)) false (cZ ["Piece","Parts","Times","Back"] "size" (ad 0)) (pC (.int 0)))) (c0 self (ad 0)) (cR bP))))
def bH (self:List PyData→Option Sl):List PyData→Option Sl:=cj 1 1 (eP self)
def b_:ki:=(aW 2)
def ce (self:List PyData→Option Sl):bA:=(kh (jO 1 (c0 self (ad 2))))
def e_ (self:List PyData→Option Sl):bA:=(ar (aG 1 (cR bP))
  (ar (kN (uu (cZ ["Parts"] "kept" (ad 0))) b_
  (ce self))
  (aF (ad 1))))
def du (self:List PyData→Option Sl):List PyData→Option Sl:=cj 1 3 (e_ self)
def dC:ki:=(aW 0)
def cP (self:List PyData→Option Sl):b9:=(c0 self (ad 0))
def fb (self:List PyData→Option Sl):bA:=(aF (uA "" (jw [none] (uu (cZ ["Parts"] "kept" (ad 0))) dC iz (cP self))))
def dv (self:List PyData→Option Sl):List PyData→Option Sl:=cj 1 1 (fb self)
def fg (self:List PyData→Option Sl):bA:=(aF (aA cE (ae false (c0 self (cZ ["Times"] "body" (ad 0))) (ae false (cZ ["Times"] "number" (ad 0)) ao))))
def dw (self:List PyData→Option Sl):List PyData→Option Sl:=cj 1 1 (fg self)
def fi (self:List PyData→Option Sl):bA:=(aF (af aC false (af aC false (af aC false (pC (.str "(")) (c0 self (cZ ["Times"] "body" (ad 0)))) (pC (.str ")"))) (aA bq (ae false (cZ ["Times"] "number" (ad 0)) ao))))
def dy (self:List PyData→Option Sl):List PyData→Option Sl:=cj 1 1 (fi self)
def fX (self:List PyData→Option Sl):bA:=(aF (aA bp (ae false (c0 self (cZ ["Back"] "one" (ad 0))) (ae false (c0 self (cZ ["Back"] "other" (ad 0))) ao))))
def dW (self:List PyData→Option Sl):List PyData→Option Sl:=cj 1 1 (fX self)
def fY (self:List PyData→Option Sl):bA:=(aF (af aC false (af aC false (af aC false (af aC false (pC (.str "[")) (c0 self (cZ ["Back"] "one" (ad 0)))) (pC (.str ","))) (c0 self (cZ ["Back"] "other" (ad 0)))) (pC (.str "]"))))
def dX (self:List PyData→Option Sl):List PyData→Option Sl:=cj 1 1 (fY self)
def aI:List PyData→Option Sl:=iw [("Piece",bJ),("Parts",bJ),("Times",bJ),("Back",bJ)]
def cT:Nat→List PyData→Option Sl
  | 0=>fun _=>none
  | n+1=>iw [("Piece",dt),("Parts",dv (cT n)),("Times",dy (cT n)),("Back",dX (cT n))]
def pN (m:List PyData→Option Sl):List PyData→Option Sl:=iw [("Piece",bH m),("Parts",bH m),("Times",bH m),("Back",bH m)]
def cM:Nat→List PyData→Option Sl
  | 0=>fun _=>none
  | n+1=>iw [("Piece",dr),("Parts",du (pN (cM n))),("Times",dw (pN (cM n))),("Back",dW (pN (cM n)))]
def tab_is_Parts:List (Str×Bool):=[("Parts",true)]
def gz:List PyData→Option Sl:=cT 70
def fS:List PyData→Option Sl:=pN (cM 70)
def gA:bA:=(aF (oa (gD (hG .str) (ad 0)) (oa (af gH false (bt dR (ae false (ad 0) ao)) (pC (.int 1))) (bF (aZ .le) (aZ .le) false false (pC (.str "a")) (ad 0) (pC (.str "z"))))))
def bX:List PyData→Option Sl:=cj 1 1 gA
def aX:iR:=(dQ (bG (af (bR (aZ .lt)) false (ad 2) (bt dR (ae false (ad 0) ao)))) (bG (bF (aZ .le) (aZ .le) false false (pC (.str "0")) (af b6 false (ad 0) (ad 2)) (pC (.str "9")))))
def cC:bA:=(aG 2 (af aC false (ad 2) (pC (.int 1))))
def eG:bA:=(ar (aG 2 (ad 1))
  (ar (iK aX cC)
  (aF (ad 2))))
def bY:List PyData→Option Sl:=cj 2 3 eG
def bD:bA:=(ar (aU (cQ (cH 0 (ae false (pC (.str "0")) (ae false (ad 1) ao))))
  (aF (af aC false (ad 1) (pC (.int 1))))
  aB)
  (ar (aG 2 (kJ (cQ (cH 0 (ae false (pC (.str "-")) (ae false (ad 1) ao)))) (af aC false (ad 1) (pC (.int 1))) (ad 1)))
  (ar (aG 3 (aA bY (ae false (ad 0) (ae false (ad 2) ao))))
  (ar (aU (eT (cQ (cH 0 (ae false (pC (.str "0")) (ae false (ad 2) ao)))) (bM (bG (bF (aZ .le) (aZ .le) false false (pC (.int 1)) (af eM false (ad 3) (ad 2)) (pC (.int 30))))))
  (aF (ad 1))
  aB)
  (aF (ad 3))))))
def aN:List PyData→Option Sl:=cj 2 4 bD
def dz:bA:=(ar (aG 2 (aA aN (ae false (ad 0) (ae false (ad 1) ao))))
  (aF (bT (bS (aV (kJ (bG (af gH false (ad 2) (ad 1))) (pC (.int 1)) (bt qU (ae false (pA false (ad 0) (jv (ad 1)) (jv (ad 2))) ao))) (aV (ad 2) dm))))))
def aO:List PyData→Option Sl:=cj 2 3 dz
def iY:bA:=(ar (aU (bM (cQ (cH 1 (ae false (ad 0) (ae false (ad 2) ao)))))
  jj
  aB)
  (aF (af aC false (ad 2) (pC (.int 1)))))
def bO:List PyData→Option Sl:=cj 3 3 iY
def fj:bA:=(ar (aG 2 (aA aO (ae false (ad 0) (ae false (af aC false (ad 1) (pC (.int 1))) ao))))
  (aF (bT (bS (aV (iW "Piece" gL (ae false (af b6 false (ad 0) (ad 1)) (ae false (af b6 false (ad 2) (pC (.int 0))) ao))) (aV (af b6 false (ad 2) (pC (.int 1))) dm))))))
def bI:List PyData→Option Sl:=cj 2 3 fj
def iZ:bA:=(ar (aU (bG (af (bR (aZ .lt)) false (ad 1) (bt dR (ae false (ad 0) ao))))
  (aF (af b6 false (ad 0) (ad 1)))
  aB)
  (aF (pC (.int 0))))
def de:List PyData→Option Sl:=cj 2 2 iZ
def il:bA:=(ar (aG 2 (af aC false (af aC false (af je false (ad 0) (pC (.int 2305843009213693951))) (af eR false (pC (.int 131)) (ad 1))) (pC (.int 17))))
  (ar (aG 2 (af je false (af eR false (ad 2) (af aC false (pC (.int 2862933555777941757)) (af eR false (af eR false (pC (.int 2)) (ad 1)) (ad 1)))) (pC (.int 2305843009213693951))))
  (aF (af qF false (af je false (af eR false (af aC false (af qF false (ad 2) (pC (.int 8191))) (af eR false (ad 1) (ad 1))) (pC (.int 3935559000370003845))) (pC (.int 2305843009213693921))) (pC (.int 7))))))
def c9:List PyData→Option Sl:=cj 2 3 il
def df:List Int→List PyData→Option (Sl×List Int)
  | r::t,[.int m]=>if ka m then some (.sh (.int (r % m)),(r / m)::t) else none
  | _,_=>none
def cX:ki:=(dI 2 (bj (aW 0) (bj (aW 1) dS)))
def cr:b9:=(gj (aR (ad 0) (aR (gD gi (ad 1)) bP)))
def dY:bA:=(aF (jw [none,none] (oo (ad 0)) cX iz cr))
def aM:List PyData→Option Sl:=cj 1 1 dY
def c_:ki:=(dI 2 (bj (aW 2) (bj (aW 3) dS)))
def da:bA:=(ar (aU (eT (bM (cQ (gD (hG .tuple) (ad 2)))) (eT (bG (af mI false (bt dR (ae false (ad 2) ao)) (pC (.int 2)))) (bM (cQ (gD (hG .str) (af b6 false (ad 2) (pC (.int 0))))))))
  (aF (pC (.bool false)))
  aB)
  (aU (eT (bM (cQ (gD (hG .int) (af b6 false (ad 2) (pC (.int 1)))))) (eT (cQ (gD (hG .bool) (af b6 false (ad 2) (pC (.int 1))))) (bG (af mI false (ad 2) (ad 3)))))
  (aF (pC (.bool false)))
  aB))
def fZ:bA:=(ar (aU (eT (bM (cQ (gD (hG .list) (ad 0)))) (bG (af mI false (bt dR (ae false (ad 0) ao)) (bt dR (ae false (ad 1) ao)))))
  (aF (pC (.bool false)))
  aB)
  (ar (kN (ut (ad 0) (ad 1)) c_
  da)
  (aF (pC (.bool true)))))
def cu:List PyData→Option Sl:=cj 2 4 fZ
def cI:bA:=(ar (aU (bG (af gH false (fP 0 1) (pC (.int 0))))
  (aF (aK 0 df (ae false (ad 1) ao)))
  aB)
  (ar (gK 0 1 (af aC false (fP 0 1) (pC (.int 1))))
  (aF (af je false (aA c9 (ae false (fP 0 0) (ae false (fP 0 1) ao))) (ad 1)))))
def av:List Int→List PyData→Option (Sl×List Int):=kq 1 1 cI
def cJ:bA:=(ar (aG 1 (aK 0 av (ae false (pC (.int 11)) ao)))
  (ar (aU (bG (af (bR (aZ .lt)) false (ad 1) (pC (.int 9))))
  (aF (bT (bS (aV (bt gx (ae false (af eM false (ad 1) (pC (.int 3))) ao)) (aV (af eM false (ad 1) (pC (.int 3))) dm)))))
  aB)
  (aF (bT (bS (aV (pC (.str "")) (aV (pC (.int 1)) dm)))))))
def be:List Int→List PyData→Option (Sl×List Int):=kq 0 1 cJ
def bU:ki:=(aW 3)
def bV:bA:=(ar (aG 0 (af aC false (af aC false (pC (.str "(")) (ad 0)) (pC (.str ")-1"))))
  (ar (aG 2 (af aC false (af aC false (pC (.str "(")) (ad 2)) (pC (.str ")-1"))))
  (aG 1 (aA aM (ae false (ad 1) ao)))))
def gO:bA:=(ar (kN (jg (ae false (pC (.int 27)) ao)) bU
  bV)
  (aF (bT (bS (aV (ad 0) (aV (ad 1) (aV (ad 2) dm)))))))
def cF:List PyData→Option Sl:=cj 3 4 gO
def fk (self:List PyData→Option Sl):bA:=(ar (aG 3 (aA self (ae false (ad 0) (ae false (af aC false (ad 1) (pC (.int 1))) (ae false (af aC false (ad 2) (pC (.int 1))) ao)))))
  (ar (aG 4 (aA aO (ae false (ad 0) (ae false (aA bO (ae false (pC (.str ")")) (ae false (ad 0) (ae false (af b6 false (ad 3) (pC (.int 1))) ao)))) ao))))
  (aF (bT (bS (aV (iW "Times" (eZ aI) (ae false (af b6 false (ad 3) (pC (.int 0))) (ae false (af b6 false (ad 4) (pC (.int 0))) ao))) (aV (af b6 false (ad 4) (pC (.int 1))) dm)))))))
def cA (self:List PyData→Option Sl):List PyData→Option Sl:=cj 3 5 (fk self)
def f7 (self:List PyData→Option Sl):bA:=(ar (aG 3 (aA self (ae false (ad 0) (ae false (af aC false (ad 1) (pC (.int 1))) (ae false (af aC false (ad 2) (pC (.int 1))) ao)))))
  (ar (aG 4 (aA self (ae false (ad 0) (ae false (aA bO (ae false (pC (.str ",")) (ae false (ad 0) (ae false (af b6 false (ad 3) (pC (.int 1))) ao)))) (ae false (af aC false (ad 2) (pC (.int 1))) ao)))))
  (aF (bT (bS (aV (iW "Back" (gM aI) (ae false (af b6 false (ad 3) (pC (.int 0))) (ae false (af b6 false (ad 4) (pC (.int 0))) ao))) (aV (aA bO (ae false (pC (.str "]")) (ae false (ad 0) (ae false (af b6 false (ad 4) (pC (.int 1))) ao)))) dm)))))))
def cK (self:List PyData→Option Sl):List PyData→Option Sl:=cj 3 5 (f7 self)
def dJ (self:List PyData→Option Sl):bA:=(ar (aU (cQ (aA bX (ae false (af b6 false (ad 0) (ad 1)) ao)))
  (aF (aA bI (ae false (ad 0) (ae false (ad 1) ao))))
  aB)
  (ar (aU (bG (af gH false (af b6 false (ad 0) (ad 1)) (pC (.str "("))))
  (aF (aA (cA self) (ae false (ad 0) (ae false (ad 1) (ae false (ad 2) ao)))))
  aB)
  (ar (aU (bG (af gH false (af b6 false (ad 0) (ad 1)) (pC (.str "["))))
  (aF (aA (cK self) (ae false (ad 0) (ae false (ad 1) (ae false (ad 2) ao)))))
  aB)
  jj)))
def bE (self:List PyData→Option Sl):List PyData→Option Sl:=cj 3 3 (dJ self)
def bu (self:List PyData→Option Sl):iR:=(dQ (bG (af (bR (aZ .lt)) false (ad 4) (bt dR (ae false (ad 0) ao)))) (bG (af (AN true) false (af b6 false (ad 0) (ad 4)) (pC (.str "),]")))))
def cg (self:List PyData→Option Sl):bA:=(ar (aG 5 (aA (bE self) (ae false (ad 0) (ae false (ad 4) (ae false (ad 2) ao)))))
  (ar (kh (ij 3 (af b6 false (ad 5) (pC (.int 0)))))
  (aG 4 (af b6 false (ad 5) (pC (.int 1))))))
def dh (self:List PyData→Option Sl):bA:=(ar (aU (bG (af (bR (aZ .gt)) false (ad 2) (pC (.int 30))))
  jj
  aB)
  (ar (aG 3 (cR bP))
  (ar (aG 4 (ad 1))
  (ar (iK (bu self) (cg self))
  (aF (bT (bS (aV (iW "Parts" (eY aI) (ae false (ad 3) ao)) (aV (ad 4) dm)))))))))
def aH:Nat→List PyData→Option Sl
  | 0=>fun _=>none
  | n+1=>cj 3 6 (dh (aH n))
def eH:List PyData→Option Sl:=aH 33
def m9:bA:=(ar (aU (bM (cQ (gD (hG .str) (ad 0))))
  jj
  aB)
  (ar (aG 1 (aA eH (ae false (ad 0) (ae false (pC (.int 0)) (ae false (pC (.int 0)) ao)))))
  (ar (aU (bG (af (bR (aZ .lt)) false (af b6 false (ad 1) (pC (.int 1))) (bt dR (ae false (ad 0) ao))))
  jj
  aB)
  (aF (af b6 false (ad 1) (pC (.int 0)))))))
def fm:List PyData→Option Sl:=cj 1 2 m9
def gP:bA:=(ar (aG 3 (aA fm (ae false (ad 0) ao)))
  (ar (aU (eT (bM (cQ (gD (pJ tab_is_Parts) (ad 3)))) (eT (bG (af mI false (c0 aI (ad 3)) (bt dR (ae false (ad 1) ao)))) (cQ (gD (hG .bool) (c0 aI (ad 3))))))
  (aF (pC (.bool false)))
  aB)
  (ar (aG 4 (c0 fS (ad 3)))
  (ar (aU (eT (bM (cQ (aA cu (ae false (ad 4) (ae false (ad 1) ao))))) (bG (af mI false (c0 gz (ad 3)) (ad 2))))
  (aF (pC (.bool false)))
  aB)
  (ar (kh (ij 4 (gj (aR (pC (.str "a")) (aR (pC (.int 0)) bP)))))
  (aF (aA cu (ae false (c0 fS (ad 3)) (ae false (ad 1) ao)))))))))
def a8:List PyData→Option Sl:=cj 3 5 gP
def gQ (self:List Int→List PyData→Option (Sl×List Int)):bA:=(ar (aG 2 (aK 0 av (ae false (pC (.int 5)) ao)))
  (ar (gK 0 2 (af eM false (fP 0 2) (pC (.int 1))))
  (ar (aU (dQ (bG (af gH false (ad 2) (pC (.int 3)))) (bG (af (bR (aZ .gt)) false (ad 1) (pC (.int 0)))))
  (ar (aG 3 (aK 0 self (ae false (af eM false (ad 1) (pC (.int 1))) ao)))
  (ar (iI (aK 0 be ao) (dI 2 (bj (aW 4) (bj (aW 5) dS))))
  (ar (aG 6 (af eR false (af b6 false (ad 3) (pC (.int 1))) (bt jD (ae false (ad 5) ao))))
  (ar (aU (bG (af (bR (aZ .lt)) false (ad 5) (pC (.int 0))))
  (aG 6 (af eR false (aA aM (ae false (af b6 false (ad 3) (pC (.int 1))) ao)) (bt jD (ae false (ad 5) ao))))
  aB)
  (aF (bT (bS (aV (af aC false (af aC false (af aC false (pC (.str "(")) (af b6 false (ad 3) (pC (.int 0)))) (pC (.str ")"))) (ad 4)) (aV (ad 6) (aV (af aC false (af aC false (af aC false (pC (.str "(")) (af b6 false (ad 3) (pC (.int 2)))) (pC (.str ")"))) (af iV false (ad 4) (bt kO (ae false (af mI false (ad 5) (pC (.int 1))) ao)))) dm))))))))))
  aB)
  (ar (aU (dQ (bG (af gH false (ad 2) (pC (.int 4)))) (bG (af (bR (aZ .gt)) false (ad 1) (pC (.int 0)))))
  (ar (aG 7 (aK 0 self (ae false (af eM false (ad 1) (pC (.int 1))) ao)))
  (ar (aG 8 (aK 0 self (ae false (af eM false (ad 1) (pC (.int 1))) ao)))
  (ar (aG 6 (af aC false (af aC false (af aC false (af b6 false (ad 7) (pC (.int 1))) (af b6 false (ad 8) (pC (.int 1)))) (aA aM (ae false (af b6 false (ad 7) (pC (.int 1))) ao))) (aA aM (ae false (af b6 false (ad 8) (pC (.int 1))) ao))))
  (aF (bT (bS (aV (af aC false (af aC false (af aC false (af aC false (pC (.str "[")) (af b6 false (ad 7) (pC (.int 0)))) (pC (.str ","))) (af b6 false (ad 8) (pC (.int 0)))) (pC (.str "]"))) (aV (ad 6) (aV (af aC false (af aC false (af aC false (af aC false (pC (.str "[")) (af b6 false (ad 7) (pC (.int 2)))) (pC (.str ","))) (af b6 false (ad 8) (pC (.int 2)))) (pC (.str "]"))) dm)))))))))
  aB)
  (ar (aG 9 (af b6 true (pC (.str "abcdefghijklmnopqrstuvwxyz")) (aK 0 av (ae false (pC (.int 26)) ao))))
  (ar (iI (aK 0 be ao) (dI 2 (bj (aW 4) (bj (aW 5) dS))))
  (ar (aU (bG (af gH false (ad 5) (pC (.int 5))))
  (ar (aG 5 (af eR true (af aC true (af iS false (pC (.int 10)) (pC (.int 29))) (aK 0 av (ae false (af eR false (pC (.int 9)) (af iS false (pC (.int 10)) (pC (.int 29)))) ao))) (af b6 true (cR (aR (pC (.int 1)) (aR (gD gi (pC (.int 1))) bP))) (aK 0 av (ae false (pC (.int 2)) ao)))))
  (aG 4 (bt gx (ae false (ad 5) ao))))
  aB)
  (aF (bT (bS (aV (af aC false (ad 9) (ad 4)) (aV (cR (aR (gj (aR (ad 9) (aR (ad 5) bP))) bP)) (aV (af aC false (ad 9) (af iV false (ad 4) (bt kO (ae false (af mI false (ad 5) (pC (.int 1))) ao)))) dm)))))))))))))
def bK (self:List Int→List PyData→Option (Sl×List Int)):List Int→List PyData→Option (Sl×List Int):=kq 1 9 (gQ self)
def cL:ki:=(aW 5)
def cN (self:List Int→List PyData→Option (Sl×List Int)):bA:=(ar (aU (bG (af (bR (aZ .gt)) false (fP 0 2) (pC (.int 0))))
  (ar (aG 6 (aK 0 (bK self) (ae false (ad 1) ao)))
  (ar (aG 2 (af aC false (ad 2) (af b6 false (ad 6) (pC (.int 0)))))
  (ar (aG 3 (af aC false (ad 3) (af b6 false (ad 6) (pC (.int 1)))))
  (aG 4 (af aC false (ad 4) (af b6 false (ad 6) (pC (.int 2))))))))
  aB)
  (aU (bG (af (bR (aZ .gt)) false (bt dR (ae false (ad 3) ao)) (pC (.int 400))))
  (ar (aG 3 (pA false (ad 3) qI (jv (pC (.int 1)))))
  (gK 0 2 (gD gi (pC (.int 1)))))
  aB))
def fL (self:List Int→List PyData→Option (Sl×List Int)):bA:=(ar (aG 2 (pC (.str "")))
  (ar (aG 3 (cR bP))
  (ar (aG 4 (pC (.str "")))
  (ar (kN (jg (ae false (aK 0 av (ae false (pC (.int 6)) ao)) ao)) cL
  (cN self))
  (aF (bT (bS (aV (ad 2) (aV (ad 3) (aV (ad 4) dm))))))))))
def dL:Nat→List Int→List PyData→Option (Sl×List Int)
  | 0=>fun _ _=>none
  | n+1=>kq 1 6 (fL (dL n))
def dG:List Int→List PyData→Option (Sl×List Int):=dL 4
def ma:bA:=(ar (aG 1 (aA de (ae false (ad 0) (ae false (pC (.int 1)) ao))))
  (ar (aG 2 (cR (aR (ad 1) (aR (pC (.int 1)) (aR (pC (.int 30)) bP)))))
  (ar (aU (bM (bG (bF (aZ .lt) (aZ .lt) false false (gD gi (af iS false (pC (.int 10)) (pC (.int 18)))) (ad 1) (af iS false (pC (.int 10)) (pC (.int 18))))))
  (aG 2 (cR (aR (ad 1) (aR (pC (.int 0)) (aR (pC (.int 30)) bP)))))
  aB)
  (ar (iI (aK 2 dG (ae false (pC (.int 3)) ao)) (dI 3 (bj (aW 3) (bj (aW 4) (bj (aW 5) dS)))))
  (ar (aU (bG (af (bR (aZ .lt)) false (af b6 false (ad 2) (pC (.int 2))) (pC (.int 0))))
  (qQ 3 4 5 (ae false (pC (.str "z-3")) (ae false (cR (aR (gj (aR (pC (.str "z")) (aR (gD gi (pC (.int 3))) bP))) bP)) (ae false (pC (.str "z-3")) ao))))
  aB)
  (ar (aU (bG (af gH false (af je false (aA de (ae false (ad 0) (ae false (pC (.int 2)) ao))) (pC (.int 8))) (pC (.int 5))))
  (iI (aA cF (ae false (ad 3) (ae false (ad 4) (ae false (ad 5) ao)))) (dI 3 (bj (aW 3) (bj (aW 4) (bj (aW 5) dS)))))
  aB)
  (ar (aU (eT (bM (cQ (aA a8 (ae false (ad 3) (ae false (ad 4) (ae false (ad 5) ao)))))) (bM (cQ (aA a8 (ae false (ad 5) (ae false (ad 4) (ae false (ad 5) ao)))))))
  (aF (pC (.bool false)))
  aB)
  (aF (aA a8 (ae false (af aC false (af aC false (ad 3) (pC (.str "a1"))) (ad 3)) (ae false (af aC false (af aC false (ad 4) (cR (aR (gj (aR (pC (.str "a")) (aR (pC (.int 1)) bP))) bP))) (ad 4)) (ae false (af aC false (af aC false (ad 5) (pC (.str "a"))) (ad 5)) ao))))))))))))
def iN:List PyData→Option Sl:=cj 1 6 ma
end Nhk61
namespace Nhk61
open PySem L2 Nh PL
def gB (i:Nat):Stmt:=PySem.Challenge.pw_nailhang_k61_texts_read.main.body.getD i (.Pass ⟨0,0,0,0⟩)
section
variable {P:Program} {w:World} {K:PySem.W.Frag} {mg:Str→Option Value} {base:Heap}
abbrev gR:Stmt:=gB 7
theorem oM:FnScope ["cord"] ["cord"] (aj gR):=⟨rfl,rfl,rfl,by decide+kernel,rfl,by decide+kernel,by decide+kernel⟩
theorem oN (D:Def K mg "contrary" gR ["cord"]) (B:Bn mg):Own P w K mg base 1 "contrary" ["cord"] (cy K cq):=by
  delta cq
  refine gl (g:=gN) D oM rfl rfl (by decide) fun f cdv A outer s H E hr=>?_
  delta gN
  exact (ap (aL (kj (N:=["nail","turns"]) (js:=[none,none]) gG (by rfl) (uk (by rfl) (by exact B.reversed) (aa 0)) (fun _ _ _ _=>(by delta eC;exact (iH (by rfl) (bQ (bN 0 (show (["nail","turns"]:List Str).Nodup by decide+kernel)) (bQ (bN 1 (show (["nail","turns"]:List Str).Nodup by decide+kernel)) gI))))) (fun _ _ _ _=>(by delta dn;exact (iM (DL.cons (aa 0) rfl (DL.cons (jf (aa 1)) rfl DL.nil))))))))
abbrev eI:Stmt:=gB 11
theorem ku:FnScope ["number"] ["number"] (aj eI):=⟨rfl,rfl,rfl,by decide+kernel,rfl,by decide+kernel,by decide+kernel⟩
theorem kx (D:Def K mg "number_text" eI ["number"]) (B:Bn mg):Own P w K mg base 1 "number_text" ["number"] (cy K bq):=by
  delta bq
  refine gl (g:=dq) D ku rfl rfl (by decide) fun f cdv A outer s H E hr=>?_
  delta dq
  exact (ap (aL (og (iT hr.units (aa 0) ai) aS (mZ (by rfl) (by exact B.str) (ag (aa 0) au)))))
abbrev gS:Stmt:=gB 8
theorem oO:FnScope ["cord","times"] ["cord","times"] (aj gS):=⟨rfl,rfl,rfl,by decide+kernel,rfl,by decide+kernel,by decide+kernel⟩
theorem oP (D:Def K mg "repeated" gS ["cord","times"]) (B:Bn mg) (D_contrary:Own P w K mg base 1 "contrary" ["cord"] (cy K cq)):Own P w K mg base 2 "repeated" ["cord","times"] (cy K cE):=by
  delta cE
  refine gl (g:=fR) D oO rfl rfl (by decide) fun f cdv A outer s H E hr=>?_
  delta fR
  exact (ap (aL (fN (og (fO .lt (aa 1) ai) (a9 D_contrary (hr.mono (by decide)) (by rfl) (ag (aa 0) au)) (aa 0)) (pk (by rfl) (by exact B.abs) (ag (aa 1) au)))))
abbrev di:Stmt:=gB 9
theorem i0:FnScope ["one","other"] ["one","other"] (aj di):=⟨rfl,rfl,rfl,by decide+kernel,rfl,by decide+kernel,by decide+kernel⟩
theorem i3 (D:Def K mg "there_and_back" di ["one","other"]) (B:Bn mg) (D_contrary:Own P w K mg base 1 "contrary" ["cord"] (cy K cq)):Own P w K mg base 2 "there_and_back" ["one","other"] (cy K bp):=by
  delta bp
  refine gl (g:=db) D i0 rfl rfl (by decide) fun f cdv A outer s H E hr=>?_
  delta db
  exact (ap (aL (aE (aE (aE (aa 0) (aa 1)) (a9 D_contrary (hr.mono (by decide)) (by rfl) (ag (aa 0) au))) (a9 D_contrary (hr.mono (by decide)) (by rfl) (ag (aa 1) au)))))
abbrev bB:Stmt:=cU (gB 12) 1
theorem ky:FnScope ["self"] ["self"] (aj bB):=⟨rfl,rfl,rfl,by decide+kernel,rfl,by decide+kernel,by decide+kernel⟩
theorem dZ {f0:Addr} {fd:FuncData} (D:Fun K "pieces" "Term.pieces" bB f0 fd) (B:Bn mg) (HF_size:∀cn∈(["Piece","Parts","Times","Back"]:List Str),∀C,PySem.W.nsIn K mainGlobals cn=some (some (.ref C))→Cls K C∧NoAttr K C "size"):FnOk P w K mg base ir 1 f0 fd ["self"] (cy K (bJ)):=by
  delta bJ
  refine vh (g:=eF) D ky rfl rfl (by decide) fun cdv A outer s H E hr=>?_
  delta eF
  exact (ap (aL (c8 HF_size (aa 0))))
abbrev fo:Stmt:=cU (gB 13) 1
theorem kQ:FnScope ["self"] ["self"] (aj fo):=⟨rfl,rfl,rfl,by decide+kernel,rfl,by decide+kernel,by decide+kernel⟩
theorem kR {f0:Addr} {fd:FuncData} (D:Fun K "made" "Piece.made" fo f0 fd) (B:Bn mg) (HF_nail:∀cn∈(["Piece"]:List Str),∀C,PySem.W.nsIn K mainGlobals cn=some (some (.ref C))→Cls K C∧NoAttr K C "nail") (HF_turns:∀cn∈(["Piece"]:List Str),∀C,PySem.W.nsIn K mainGlobals cn=some (some (.ref C))→Cls K C∧NoAttr K C "turns"):FnOk P w K mg base ir 1 f0 fd ["self"] (cy K (dr)):=by
  delta dr
  refine vh (g:=e8) D kQ rfl rfl (by decide) fun cdv A outer s H E hr=>?_
  delta e8
  exact (ap (aL (fQ (DL.cons (iM (DL.cons (c8 HF_nail (aa 0)) rfl (DL.cons (c8 HF_turns (aa 0)) rfl DL.nil))) rfl DL.nil))))
abbrev fv:Stmt:=cU (gB 13) 2
theorem kS:FnScope ["self"] ["self"] (aj fv):=⟨rfl,rfl,rfl,by decide+kernel,rfl,by decide+kernel,by decide+kernel⟩
theorem kT {f0:Addr} {fd:FuncData} (D:Fun K "text" "Piece.text" fv f0 fd) (B:Bn mg) (HF_nail:∀cn∈(["Piece"]:List Str),∀C,PySem.W.nsIn K mainGlobals cn=some (some (.ref C))→Cls K C∧NoAttr K C "nail") (HF_turns:∀cn∈(["Piece"]:List Str),∀C,PySem.W.nsIn K mainGlobals cn=some (some (.ref C))→Cls K C∧NoAttr K C "turns") (D_number_text:Own P w K mg base 1 "number_text" ["number"] (cy K bq)):FnOk P w K mg base ir 2 f0 fd ["self"] (cy K (dt)):=by
  delta dt
  refine vh (g:=e9) D kS rfl rfl (by decide) fun cdv A outer s H E hr=>?_
  delta e9
  exact (ap (aL (aE (c8 HF_nail (aa 0)) (a9 D_number_text (hr.mono (by decide)) (by rfl) (ag (c8 HF_turns (aa 0)) au)))))
abbrev bW:Stmt:=cU (gB 12) 2
theorem m_:FnScope ["self"] ["self"] (aj bW):=⟨rfl,rfl,rfl,by decide+kernel,rfl,by decide+kernel,by decide+kernel⟩
theorem fw {f0:Addr} {fd:FuncData} (D:Fun K "cord" "Term.cord" bW f0 fd) (B:Bn mg) {k:Nat} {self:List PyData→Option Sl} (DS:DispM P w K mg base k "made" self) (HF_size:∀cn∈(["Piece","Parts","Times","Back"]:List Str),∀C,PySem.W.nsIn K mainGlobals cn=some (some (.ref C))→Cls K C∧NoAttr K C "size") {t_LONGEST:Tok} (G_LONGEST:mg "LONGEST"=some (.int 4000 t_LONGEST)):FnOk P w K mg base ir (k+1) f0 fd ["self"] (cy K (bH self)):=by
  delta bH
  refine vh (g:=eP self) D m_ rfl rfl (by decide) fun cdv A outer s H E hr=>?_
  delta eP
  exact (ah (cB (fO .gt (c8 HF_size (aa 0)) (mU (by rfl) (by exact G_LONGEST)))
  (ap gu)
  bb)
  (ap (aL (og (fO .gt (c8 HF_size (aa 0)) ai) (cW DS hr (aa 0)) (fQ DL.nil)))))
abbrev fz:Stmt:=cU (gB 14) 1
theorem sc_Parts_made:FnScope ["self","told","part"] ["self"] (aj fz):=⟨rfl,rfl,rfl,by decide+kernel,rfl,by decide+kernel,by decide+kernel⟩
theorem kU {f0:Addr} {fd:FuncData} (D:Fun K "made" "Parts.made" fz f0 fd) (B:Bn mg) {k:Nat} {self:List PyData→Option Sl} (DS:DispM P w K mg base k "cord" self) (HF_kept:∀cn∈(["Parts"]:List Str),∀C,PySem.W.nsIn K mainGlobals cn=some (some (.ref C))→Cls K C∧NoAttr K C "kept"):FnOk P w K mg base ir (k+1) f0 fd ["self"] (cy K (du self)):=by
  delta du
  refine vh (g:=e_ self) D sc_Parts_made rfl rfl (by decide) fun cdv A outer s H E hr=>?_
  delta e_
  exact (ah (aQ 1 sc_Parts_made.nd (fQ DL.nil))
  (ah (mQ PassesOwn.never (by rfl) (uy (c8 HF_kept (aa 0))) (by delta b_;exact (bN 2 sc_Parts_made.nd))
  (by delta ce;exact (ap (mN (sd 1 (cW DS hr (aa 2)))))))
  (ap (aL (aa 1)))))
abbrev fA:Stmt:=cU (gB 14) 2
theorem kW:FnScope ["self"] ["self"] (aj fA):=⟨rfl,rfl,rfl,by decide+kernel,rfl,by decide+kernel,by decide+kernel⟩
theorem kX {f0:Addr} {fd:FuncData} (D:Fun K "text" "Parts.text" fA f0 fd) (B:Bn mg) {k:Nat} {self:List PyData→Option Sl} (DS:DispM P w K mg base k "text" self) (HF_kept:∀cn∈(["Parts"]:List Str),∀C,PySem.W.nsIn K mainGlobals cn=some (some (.ref C))→Cls K C∧NoAttr K C "kept"):FnOk P w K mg base ir (k+1) f0 fd ["self"] (cy K (dv self)):=by
  delta dv
  refine vh (g:=fb self) D kW rfl rfl (by decide) fun cdv A outer s H E hr=>?_
  delta fb
  exact (ap (aL (wb (kj (N:=["part"]) (js:=[none]) gG (by rfl) (uy (c8 HF_kept (aa 0))) (fun _ _ _ _=>(by delta dC;exact (bN 0 (show (["part"]:List Str).Nodup by decide+kernel)))) (fun _ _ _ _=>(by delta cP;exact (cW DS hr (aa 0))))))))
abbrev fB:Stmt:=cU (gB 15) 1
theorem kY:FnScope ["self"] ["self"] (aj fB):=⟨rfl,rfl,rfl,by decide+kernel,rfl,by decide+kernel,by decide+kernel⟩
theorem kZ {f0:Addr} {fd:FuncData} (D:Fun K "made" "Times.made" fB f0 fd) (B:Bn mg) {k:Nat} {self:List PyData→Option Sl} (DS:DispM P w K mg base k "cord" self) (hk:2≤k) (HF_number:∀cn∈(["Times"]:List Str),∀C,PySem.W.nsIn K mainGlobals cn=some (some (.ref C))→Cls K C∧NoAttr K C "number") (HF_body:∀cn∈(["Times"]:List Str),∀C,PySem.W.nsIn K mainGlobals cn=some (some (.ref C))→Cls K C∧NoAttr K C "body") (D_repeated:Own P w K mg base 2 "repeated" ["cord","times"] (cy K cE)):FnOk P w K mg base ir (k+1) f0 fd ["self"] (cy K (dw self)):=by
  delta dw
  refine vh (g:=fg self) D kY rfl rfl (by decide) fun cdv A outer s H E hr=>?_
  delta fg
  exact (ap (aL (a9 D_repeated (hr.mono (by omega)) (by rfl) (ag (cW DS hr (c8 HF_body (aa 0))) (ag (c8 HF_number (aa 0)) au)))))
abbrev fD:Stmt:=cU (gB 15) 2
theorem k9:FnScope ["self"] ["self"] (aj fD):=⟨rfl,rfl,rfl,by decide+kernel,rfl,by decide+kernel,by decide+kernel⟩
theorem k_ {f0:Addr} {fd:FuncData} (D:Fun K "text" "Times.text" fD f0 fd) (B:Bn mg) {k:Nat} {self:List PyData→Option Sl} (DS:DispM P w K mg base k "text" self) (hk:1≤k) (HF_body:∀cn∈(["Times"]:List Str),∀C,PySem.W.nsIn K mainGlobals cn=some (some (.ref C))→Cls K C∧NoAttr K C "body") (HF_number:∀cn∈(["Times"]:List Str),∀C,PySem.W.nsIn K mainGlobals cn=some (some (.ref C))→Cls K C∧NoAttr K C "number") (D_number_text:Own P w K mg base 1 "number_text" ["number"] (cy K bq)):FnOk P w K mg base ir (k+1) f0 fd ["self"] (cy K (dy self)):=by
  delta dy
  refine vh (g:=fi self) D k9 rfl rfl (by decide) fun cdv A outer s H E hr=>?_
  delta fi
  exact (ap (aL (aE (aE (aE aS (cW DS hr (c8 HF_body (aa 0)))) aS) (a9 D_number_text (hr.mono (by omega)) (by rfl) (ag (c8 HF_number (aa 0)) au)))))
abbrev f8:Stmt:=cU (gB 16) 1
theorem ng:FnScope ["self"] ["self"] (aj f8):=⟨rfl,rfl,rfl,by decide+kernel,rfl,by decide+kernel,by decide+kernel⟩
theorem ni {f0:Addr} {fd:FuncData} (D:Fun K "made" "Back.made" f8 f0 fd) (B:Bn mg) {k:Nat} {self:List PyData→Option Sl} (DS:DispM P w K mg base k "cord" self) (hk:2≤k) (HF_other:∀cn∈(["Back"]:List Str),∀C,PySem.W.nsIn K mainGlobals cn=some (some (.ref C))→Cls K C∧NoAttr K C "other") (HF_one:∀cn∈(["Back"]:List Str),∀C,PySem.W.nsIn K mainGlobals cn=some (some (.ref C))→Cls K C∧NoAttr K C "one") (D_there_and_back:Own P w K mg base 2 "there_and_back" ["one","other"] (cy K bp)):FnOk P w K mg base ir (k+1) f0 fd ["self"] (cy K (dW self)):=by
  delta dW
  refine vh (g:=fX self) D ng rfl rfl (by decide) fun cdv A outer s H E hr=>?_
  delta fX
  exact (ap (aL (a9 D_there_and_back (hr.mono (by omega)) (by rfl) (ag (cW DS hr (c8 HF_one (aa 0))) (ag (cW DS hr (c8 HF_other (aa 0))) au)))))
abbrev f9:Stmt:=cU (gB 16) 2
theorem nj:FnScope ["self"] ["self"] (aj f9):=⟨rfl,rfl,rfl,by decide+kernel,rfl,by decide+kernel,by decide+kernel⟩
theorem nk {f0:Addr} {fd:FuncData} (D:Fun K "text" "Back.text" f9 f0 fd) (B:Bn mg) {k:Nat} {self:List PyData→Option Sl} (DS:DispM P w K mg base k "text" self) (HF_one:∀cn∈(["Back"]:List Str),∀C,PySem.W.nsIn K mainGlobals cn=some (some (.ref C))→Cls K C∧NoAttr K C "one") (HF_other:∀cn∈(["Back"]:List Str),∀C,PySem.W.nsIn K mainGlobals cn=some (some (.ref C))→Cls K C∧NoAttr K C "other"):FnOk P w K mg base ir (k+1) f0 fd ["self"] (cy K (dX self)):=by
  delta dX
  refine vh (g:=fY self) D nj rfl rfl (by decide) fun cdv A outer s H E hr=>?_
  delta fY
  exact (ap (aL (aE (aE (aE (aE aS (cW DS hr (c8 HF_one (aa 0)))) aS) (cW DS hr (c8 HF_other (aa 0)))) aS)))
abbrev fE:Stmt:=cU (gB 13) 0
theorem lf:FnScope ["self","nail","turns"] ["self","nail","turns"] (aj fE):=⟨rfl,rfl,rfl,by decide+kernel,rfl,by decide+kernel,by decide+kernel⟩
theorem lh {f0 C:Addr} {fd:FuncData} (D:Fun K "__init__" "Piece.__init__" fE f0 fd) (B:Bn mg) (cl:Cls K C) (n1:NoAttr K C "nail") (n2:NoAttr K C "turns") (n3:NoAttr K C "size"):FnOk P w K mg base ir 1 f0 fd ["self","nail","turns"] (kP K C gL):=by
  refine D.ok lf (fun vs H Q E h=>(l8 (D:={nx:=fun _ _=>True,rt:=fun _ _=>True}) (N:=["","",""]) cl n1 n2 n3 h fun _ _ _=>trivial).1) (fun cdv A outer s H vs Q E hr h=>?_)
  refine ⟨_,(cY (eQ (pv 0) (pv 1) rfl) (cY (eQ (pv 0) (pv 2) rfl) (ie (eQ (pv 0) g8 rfl)))),?_⟩
  exact (l8 cl n1 n2 n3 h fun _ _ z=>z).2
def nr (K:PySem.W.Frag):Prop:=∃C,CF K "Piece" C∧NoAttr K C "nail"∧NoAttr K C "turns"∧NoAttr K C "size"∧HM K C "pieces" "Term.pieces" bB∧HM K C "cord" "Term.cord" bW∧HM K C "made" "Piece.made" fo∧HM K C "text" "Piece.text" fv∧HM K C "__init__" "Piece.__init__" fE
abbrev fF:Stmt:=cU (gB 14) 0
theorem li:FnScope ["self","parts"] ["self","parts"] (aj fF):=⟨rfl,rfl,rfl,by decide+kernel,rfl,by decide+kernel,by decide+kernel⟩
theorem lj {f0 C:Addr} {fd:FuncData} {c:List PyData→Option Sl} (DP:DispM P w K mg base 1 "pieces" c) (D:Fun K "__init__" "Parts.__init__" fF f0 fd) (B:Bn mg) (cl:Cls K C) (n1:NoAttr K C "parts") (n2:NoAttr K C "kept") (n3:NoAttr K C "size"):FnOk P w K mg base ir 2 f0 fd ["self","parts"] (kP K C (eY c)):=by
  refine D.ok li (fun vs H Q E h=>(l9 (D:={nx:=fun _ _=>True,rt:=fun _ _=>True}) (N:=["",""]) cl n1 n2 n3 h fun _ _ _=>trivial).1) (fun cdv A outer s H vs Q E hr h=>?_)
  refine ⟨_,cY (eQ (pv 0) (gn mv (by rfl) B.list PyProof.Rows.boot_list (bZ (pv 1) dO)) rfl) (cY (eQ (pv 0) (gn kM (by rfl) B.tuple PyProof.Rows.boot_tuple (bZ (pv 1) dO)) rfl)
    (ie (eQ (pv 0) (g_ (sg rfl) (by rfl) B.sum PyProof.Rows.boot_sum (bZ (qz (N:=["part"]) (js:=[none]) gG rfl (qj (pv 1)) (fun _ _ _ _=>qi (i:=0) (show (["part"]:List Str).Nodup by decide+kernel) rfl (Or.inl rfl)) (fun _ _ _ _=>qx) (te:=iL K c (dF 0)) (fun C0 s0 H0 fp=>?el)) dO)) rfl))),?_⟩
  case el=>exact iX DP hr (pv 0)
  exact (l9 cl n1 n2 n3 h fun _ _ z=>z).2
def nt (K:PySem.W.Frag):Prop:=∃C,CF K "Parts" C∧NoAttr K C "parts"∧NoAttr K C "kept"∧NoAttr K C "size"∧HM K C "pieces" "Term.pieces" bB∧HM K C "cord" "Term.cord" bW∧HM K C "made" "Parts.made" fz∧HM K C "text" "Parts.text" fA∧HM K C "__init__" "Parts.__init__" fF
abbrev fG:Stmt:=cU (gB 15) 0
theorem lq:FnScope ["self","body","number"] ["self","body","number"] (aj fG):=⟨rfl,rfl,rfl,by decide+kernel,rfl,by decide+kernel,by decide+kernel⟩
theorem ls {f0 C:Addr} {fd:FuncData} {c:List PyData→Option Sl} (DP:DispM P w K mg base 1 "pieces" c) (D:Fun K "__init__" "Times.__init__" fG f0 fd) (B:Bn mg) (cl:Cls K C) (n1:NoAttr K C "body") (n2:NoAttr K C "number") (n3:NoAttr K C "size"):FnOk P w K mg base ir 2 f0 fd ["self","body","number"] (kP K C (eZ c)):=by
  refine D.ok lq (fun vs H Q E h=>(l_ (D:={nx:=fun _ _=>True,rt:=fun _ _=>True}) (N:=["","",""]) cl n1 n2 n3 h fun _ _ _=>trivial).1) (fun cdv A outer s H vs Q E hr h=>?_)
  refine ⟨_,(cY (eQ (pv 0) (pv 1) rfl) (cY (eQ (pv 0) (pv 2) rfl) (ie (eQ (pv 0) (lK mG (iX DP hr (pv 1)) (g_ nT (by rfl) B.abs PyProof.Rows.boot_abs (bZ (pv 2) dO))) rfl)))),?_⟩
  exact (l_ cl n1 n2 n3 h fun _ _ z=>z).2
def nu (K:PySem.W.Frag):Prop:=∃C,CF K "Times" C∧NoAttr K C "body"∧NoAttr K C "number"∧NoAttr K C "size"∧HM K C "pieces" "Term.pieces" bB∧HM K C "cord" "Term.cord" bW∧HM K C "made" "Times.made" fB∧HM K C "text" "Times.text" fD∧HM K C "__init__" "Times.__init__" fG
abbrev f_:Stmt:=cU (gB 16) 0
theorem nv:FnScope ["self","one","other"] ["self","one","other"] (aj f_):=⟨rfl,rfl,rfl,by decide+kernel,rfl,by decide+kernel,by decide+kernel⟩
theorem nw {f0 C:Addr} {fd:FuncData} {c:List PyData→Option Sl} (DP:DispM P w K mg base 1 "pieces" c) (D:Fun K "__init__" "Back.__init__" f_ f0 fd) (B:Bn mg) (cl:Cls K C) (n1:NoAttr K C "one") (n2:NoAttr K C "other") (n3:NoAttr K C "size"):FnOk P w K mg base ir 2 f0 fd ["self","one","other"] (kP K C (gM c)):=by
  refine D.ok nv (fun vs H Q E h=>(oH (D:={nx:=fun _ _=>True,rt:=fun _ _=>True}) (N:=["","",""]) cl n1 n2 n3 h fun _ _ _=>trivial).1) (fun cdv A outer s H vs Q E hr h=>?_)
  refine ⟨_,(cY (eQ (pv 0) (pv 1) rfl) (cY (eQ (pv 0) (pv 2) rfl) (ie (eQ (pv 0) (lK mG g8 (lK s_ (iX DP hr (pv 1)) (iX DP hr (pv 2)))) rfl)))),?_⟩
  exact (oH cl n1 n2 n3 h fun _ _ z=>z).2
def pO (K:PySem.W.Frag):Prop:=∃C,CF K "Back" C∧NoAttr K C "one"∧NoAttr K C "other"∧NoAttr K C "size"∧HM K C "pieces" "Term.pieces" bB∧HM K C "cord" "Term.cord" bW∧HM K C "made" "Back.made" f8∧HM K C "text" "Back.text" f9∧HM K C "__init__" "Back.__init__" f_
theorem wu {h:Heap} (X:K.In h) (G:h.Ns mainGlobals mg) (B:Bn mg) (hPiece:nr K) (hParts:nt K) (hTimes:nu K) (hBack:pO K) {t_LONGEST:Tok} (G_LONGEST:mg "LONGEST"=some (.int 4000 t_LONGEST)) (D_number_text:Own P w K mg base 1 "number_text" ["number"] (cy K bq)) (D_repeated:Own P w K mg base 2 "repeated" ["cord","times"] (cy K cE)) (D_there_and_back:Own P w K mg base 2 "there_and_back" ["one","other"] (cy K bp)):
    MkOk P w K mg base 1 "Piece" ["self","nail","turns"] gL∧MkOk P w K mg base 2 "Parts" ["self","parts"] (eY aI)∧MkOk P w K mg base 2 "Times" ["self","body","number"] (eZ aI)∧MkOk P w K mg base 2 "Back" ["self","one","other"] (gM aI)∧DispM P w K mg base 1 "pieces" aI∧DispM P w K mg base 72 "text" gz∧DispM P w K mg base 144 "cord" fS:=by
  obtain ⟨CPiece,fPiece,n1Piece,n2Piece,n3Piece,mpPiece,mcPiece,mmPiece,mtPiece,miPiece⟩:=hPiece
  have kPiece:=fPiece.ok X G
  obtain ⟨CParts,fParts,n1Parts,n2Parts,n3Parts,mpParts,mcParts,mmParts,mtParts,miParts⟩:=hParts
  have kParts:=fParts.ok X G
  obtain ⟨CTimes,fTimes,n1Times,n2Times,n3Times,mpTimes,mcTimes,mmTimes,mtTimes,miTimes⟩:=hTimes
  have kTimes:=fTimes.ok X G
  obtain ⟨CBack,fBack,n1Back,n2Back,n3Back,mpBack,mcBack,mmBack,mtBack,miBack⟩:=hBack
  have kBack:=fBack.ok X G
  have HF_Term_size:=Frees.ok (K:=K) (mg:=mg) (f:="size") (.cons kPiece n3Piece (.cons kParts n3Parts (.cons kTimes n3Times (.cons kBack n3Back Frees.nil))))
  have HF_Piece_nail:=Frees.ok (K:=K) (mg:=mg) (f:="nail") (.cons kPiece n1Piece .nil)
  have HF_Piece_turns:=Frees.ok (K:=K) (mg:=mg) (f:="turns") (.cons kPiece n2Piece .nil)
  have HF_Piece_size:=Frees.ok (K:=K) (mg:=mg) (f:="size") (.cons kPiece n3Piece .nil)
  have HF_Parts_parts:=Frees.ok (K:=K) (mg:=mg) (f:="parts") (.cons kParts n1Parts .nil)
  have HF_Parts_kept:=Frees.ok (K:=K) (mg:=mg) (f:="kept") (.cons kParts n2Parts .nil)
  have HF_Parts_size:=Frees.ok (K:=K) (mg:=mg) (f:="size") (.cons kParts n3Parts .nil)
  have HF_Times_body:=Frees.ok (K:=K) (mg:=mg) (f:="body") (.cons kTimes n1Times .nil)
  have HF_Times_number:=Frees.ok (K:=K) (mg:=mg) (f:="number") (.cons kTimes n2Times .nil)
  have HF_Times_size:=Frees.ok (K:=K) (mg:=mg) (f:="size") (.cons kTimes n3Times .nil)
  have HF_Back_one:=Frees.ok (K:=K) (mg:=mg) (f:="one") (.cons kBack n1Back .nil)
  have HF_Back_other:=Frees.ok (K:=K) (mg:=mg) (f:="other") (.cons kBack n2Back .nil)
  have HF_Back_size:=Frees.ok (K:=K) (mg:=mg) (f:="size") (.cons kBack n3Back .nil)
  have DP:DispM P w K mg base 1 "pieces" aI:=Disp.ok (.cons kPiece (mpPiece.own (fun f fd D=>dZ D B (HF_Term_size)) (fun _ _ _ _ _ _ us hl=>match us,hl with | [_],_=>rfl)) (.cons kParts (mpParts.own (fun f fd D=>dZ D B (HF_Term_size)) (fun _ _ _ _ _ _ us hl=>match us,hl with | [_],_=>rfl)) (.cons kTimes (mpTimes.own (fun f fd D=>dZ D B (HF_Term_size)) (fun _ _ _ _ _ _ us hl=>match us,hl with | [_],_=>rfl)) (.cons kBack (mpBack.own (fun f fd D=>dZ D B (HF_Term_size)) (fun _ _ _ _ _ _ us hl=>match us,hl with | [_],_=>rfl)) .nil)))) (by decide)
  have DT:∀n,DispM P w K mg base (2+n) "text" (cT n):=fun n=>by
    induction n with
    | zero=>exact xh
    | succ n ih=>exact Disp.ok (.cons kPiece ((mtPiece.own (fun f fd D=>kT D B (HF_Piece_nail) (HF_Piece_turns) D_number_text) (fun _ _ _ _ _ _ us hl=>match us,hl with | [_],_=>rfl)).mono (by omega)) (.cons kParts (mtParts.own (fun f fd D=>kX D B ih (HF_Parts_kept)) (fun _ _ _ _ _ _ us hl=>match us,hl with | [_],_=>rfl)) (.cons kTimes (mtTimes.own (fun f fd D=>k_ D B ih (show 1≤2+n by omega) (HF_Times_body) (HF_Times_number) D_number_text) (fun _ _ _ _ _ _ us hl=>match us,hl with | [_],_=>rfl)) (.cons kBack (mtBack.own (fun f fd D=>nk D B ih (HF_Back_one) (HF_Back_other)) (fun _ _ _ _ _ _ us hl=>match us,hl with | [_],_=>rfl)) .nil)))) (by decide)
  have co:∀{k:Nat} {c:List PyData→Option Sl},DispM P w K mg base k "made" c→DispM P w K mg base (k+1) "cord" (pN c):=fun d=>Disp.ok (.cons kPiece (mcPiece.own (fun f fd D=>fw D B d (HF_Term_size) G_LONGEST) (fun _ _ _ _ _ _ us hl=>match us,hl with | [_],_=>rfl)) (.cons kParts (mcParts.own (fun f fd D=>fw D B d (HF_Term_size) G_LONGEST) (fun _ _ _ _ _ _ us hl=>match us,hl with | [_],_=>rfl)) (.cons kTimes (mcTimes.own (fun f fd D=>fw D B d (HF_Term_size) G_LONGEST) (fun _ _ _ _ _ _ us hl=>match us,hl with | [_],_=>rfl)) (.cons kBack (mcBack.own (fun f fd D=>fw D B d (HF_Term_size) G_LONGEST) (fun _ _ _ _ _ _ us hl=>match us,hl with | [_],_=>rfl)) .nil)))) (by decide)
  have DM:∀n,DispM P w K mg base (3+2*n) "made" (cM n):=fun n=>by
    induction n with
    | zero=>exact xh
    | succ n ih=>exact Disp.ok (.cons kPiece ((mmPiece.own (fun f fd D=>kR D B (HF_Piece_nail) (HF_Piece_turns)) (fun _ _ _ _ _ _ us hl=>match us,hl with | [_],_=>rfl)).mono (by omega)) (.cons kParts ((mmParts.own (fun f fd D=>kU D B (co ih) (HF_Parts_kept)) (fun _ _ _ _ _ _ us hl=>match us,hl with | [_],_=>rfl)).mono (by omega)) (.cons kTimes ((mmTimes.own (fun f fd D=>kZ D B (co ih) (show 2≤3+2*n+1 by omega) (HF_Times_number) (HF_Times_body) D_repeated) (fun _ _ _ _ _ _ us hl=>match us,hl with | [_],_=>rfl)).mono (by omega)) (.cons kBack ((mmBack.own (fun f fd D=>ni D B (co ih) (show 2≤3+2*n+1 by omega) (HF_Back_other) (HF_Back_one) D_there_and_back) (fun _ _ _ _ _ _ us hl=>match us,hl with | [_],_=>rfl)).mono (by omega)) .nil)))) (by decide)
  exact ⟨miPiece.mkOk fPiece kPiece (fun f fd D=>lh D B kPiece.cl n1Piece n2Piece n3Piece) (fun _ _ _ _ _ _ us hl=>match us,hl with | [_,_,_],_=>rfl),miParts.mkOk fParts kParts (fun f fd D=>lj DP D B kParts.cl n1Parts n2Parts n3Parts) (fun _ _ _ _ _ _ us hl=>match us,hl with | [_,_],_=>rfl),miTimes.mkOk fTimes kTimes (fun f fd D=>ls DP D B kTimes.cl n1Times n2Times n3Times) (fun _ _ _ _ _ _ us hl=>match us,hl with | [_,_,_],_=>rfl),miBack.mkOk fBack kBack (fun f fd D=>nw DP D B kBack.cl n1Back n2Back n3Back) (fun _ _ _ _ _ _ us hl=>match us,hl with | [_,_,_],_=>rfl),DP,DT 70,co (DM 70)⟩
abbrev im:Stmt:=gB 6
theorem pP:FnScope ["thing"] ["thing"] (aj im):=⟨rfl,rfl,rfl,by decide+kernel,rfl,by decide+kernel,by decide+kernel⟩
theorem pQ (D:Def K mg "is_nail" im ["thing"]) (B:Bn mg):Own P w K mg base 1 "is_nail" ["thing"] (cy K bX):=by
  delta bX
  refine gl (g:=gA) D pP rfl rfl (by decide) fun f cdv A outer s H E hr=>?_
  delta gA
  exact (ap (aL (uc (hJ .str (by rfl) (by exact B.isinstance) (aa 0) (by rfl) (by exact B.str) PyProof.Rows.boot_str) (uc (zS hr.units (gk (by rfl) (by exact B.len) (ag (aa 0) au)) ai) (yi (zX .le .le aS (aa 0) aS))))))
abbrev eJ:Stmt:=gB 20
theorem sc_figures_end:FnScope ["text","place","end"] ["text","place"] (aj eJ):=⟨rfl,rfl,rfl,by decide+kernel,rfl,by decide+kernel,by decide+kernel⟩
theorem kz (D:Def K mg "figures_end" eJ ["text","place"]) (B:Bn mg):Own P w K mg base 1 "figures_end" ["text","place"] (cy K bY):=by
  delta bY
  refine gl (g:=eG) D sc_figures_end rfl rfl (by decide) fun f cdv A outer s H E hr=>?_
  delta eG
  exact (ah (aQ 2 sc_figures_end.nd (aa 1))
  (ah (oz PassesOwn.never (by delta aX;exact (ke (mK (fO .lt (aa 2) (gk (by rfl) (by exact B.len) (ag (aa 0) au))) (jM (uz .le .le aS (bv (aa 0) (aa 2)) aS)))))
  (by delta cC;exact (ap (aQ 2 sc_figures_end.nd (aE (aa 2) ai)))))
  (ap (aL (aa 2)))))
abbrev fH:Stmt:=gB 21
theorem sc_number_end:FnScope ["text","place","start","end"] ["text","place"] (aj fH):=⟨rfl,rfl,rfl,by decide+kernel,rfl,by decide+kernel,by decide+kernel⟩
theorem lv (D:Def K mg "number_end" fH ["text","place"]) (B:Bn mg) {t_MOST_FIGURES:Tok} (G_MOST_FIGURES:mg "MOST_FIGURES"=some (.int 30 t_MOST_FIGURES)) (D_figures_end:Own P w K mg base 1 "figures_end" ["text","place"] (cy K bY)):Own P w K mg base 2 "number_end" ["text","place"] (cy K aN):=by
  delta aN
  refine gl (g:=bD) D sc_number_end rfl rfl (by decide) fun f cdv A outer s H E hr=>?_
  delta bD
  exact (ah (cB (dl (ik 0 (ag aS (ag (aa 1) au))))
  (ap (aL (aE (aa 1) ai)))
  bb)
  (ah (aQ 2 sc_number_end.nd (og (dl (ik 0 (ag aS (ag (aa 1) au)))) (aE (aa 1) ai) (aa 1)))
  (ah (aQ 3 sc_number_end.nd (a9 D_figures_end (hr.mono (by decide)) (by rfl) (ag (aa 0) (ag (aa 2) au))))
  (ah (cB (ke (iy (dl (ik 0 (ag aS (ag (aa 2) au)))) (iG (eU (uz .le .le ai (iF (aa 3) (aa 2)) (mU (by rfl) (by exact G_MOST_FIGURES)))))))
  (ap (aL (aa 1)))
  bb)
  (ap (aL (aa 3)))))))
abbrev eK:Stmt:=gB 22
theorem sc_read_number:FnScope ["text","place","end"] ["text","place"] (aj eK):=⟨rfl,rfl,rfl,by decide+kernel,rfl,by decide+kernel,by decide+kernel⟩
theorem kA (D:Def K mg "read_number" eK ["text","place"]) (B:Bn mg) (D_number_end:Own P w K mg base 2 "number_end" ["text","place"] (cy K aN)):Own P w K mg base 3 "read_number" ["text","place"] (cy K aO):=by
  delta aO
  refine gl (g:=dz) D sc_read_number rfl rfl (by decide) fun f cdv A outer s H E hr=>?_
  delta dz
  exact (ah (aQ 2 sc_read_number.nd (a9 D_number_end (hr.mono (by decide)) (by rfl) (ag (aa 0) (ag (aa 1) au))))
  (ap (aL (dB (dA (a_ (og (iT hr.units (aa 2) (aa 1)) ai (wq (by rfl) (by exact B.int) (ag (uB (aa 0) (mL (aa 1)) (mL (aa 2))) au))) (a_ (aa 2) eV)))))))
abbrev i4:Stmt:=gB 23
theorem sx:FnScope ["sign","text","place"] ["sign","text","place"] (aj i4):=⟨rfl,rfl,rfl,by decide+kernel,rfl,by decide+kernel,by decide+kernel⟩
theorem sy (D:Def K mg "behind" i4 ["sign","text","place"]) (B:Bn mg):Own P w K mg base 1 "behind" ["sign","text","place"] (cy K bO):=by
  delta bO
  refine gl (g:=iY) D sx rfl rfl (by decide) fun f cdv A outer s H E hr=>?_
  delta iY
  exact (ah (cB (eU (dl (ik 1 (ag (aa 0) (ag (aa 2) au)))))
  (ap gu)
  bb)
  (ap (aL (aE (aa 2) ai))))
abbrev fI:Stmt:=gB 24
theorem sc_read_piece:FnScope ["text","place","number"] ["text","place"] (aj fI):=⟨rfl,rfl,rfl,by decide+kernel,rfl,by decide+kernel,by decide+kernel⟩
theorem lx (D:Def K mg "read_piece" fI ["text","place"]) (B:Bn mg) (D_read_number:Own P w K mg base 3 "read_number" ["text","place"] (cy K aO)) (D_mk_Piece:MkOk P w K mg base 1 "Piece" ["self","nail","turns"] gL):Own P w K mg base 4 "read_piece" ["text","place"] (cy K bI):=by
  delta bI
  refine gl (g:=fj) D sc_read_piece rfl rfl (by decide) fun f cdv A outer s H E hr=>?_
  delta fj
  exact (ah (aQ 2 sc_read_piece.nd (a9 D_read_number (hr.mono (by decide)) (by rfl) (ag (aa 0) (ag (aE (aa 1) ai) au))))
  (ap (aL (dB (dA (a_ (jP D_mk_Piece (hr.mono (by decide)) (by rfl) (ag (bv (aa 0) (aa 1)) (ag (bv (aa 2) ai) au))) (a_ (bv (aa 2) ai) eV)))))))
abbrev i5:Stmt:=gB 31
theorem sC:FnScope ["_law_script","_law_k"] ["_law_script","_law_k"] (aj i5):=⟨rfl,rfl,rfl,by decide+kernel,rfl,by decide+kernel,by decide+kernel⟩
theorem sD (D:Def K mg "_law_at" i5 ["_law_script","_law_k"]) (B:Bn mg):Own P w K mg base 1 "_law_at" ["_law_script","_law_k"] (cy K de):=by
  delta de
  refine gl (g:=iZ) D sC rfl rfl (by decide) fun f cdv A outer s H E hr=>?_
  delta iZ
  exact (ah (cB (fO .lt (aa 1) (gk (by rfl) (by exact B.len) (ag (aa 0) au)))
  (ap (aL (bv (aa 0) (aa 1))))
  bb)
  (ap (aL ai)))
abbrev ip:Stmt:=gB 32
theorem sc_law_mix:FnScope ["_law_cell","_law_k","_law_value"] ["_law_cell","_law_k"] (aj ip):=⟨rfl,rfl,rfl,by decide+kernel,rfl,by decide+kernel,by decide+kernel⟩
theorem pR (D:Def K mg "_law_mix" ip ["_law_cell","_law_k"]) (B:Bn mg):Own P w K mg base 1 "_law_mix" ["_law_cell","_law_k"] (cy K c9):=by
  delta c9
  refine gl (g:=il) D sc_law_mix rfl rfl (by decide) fun f cdv A outer s H E hr=>?_
  delta il
  exact (ah (aQ 2 sc_law_mix.nd (aE (aE (kd (aa 0) ai) (fN ai (aa 1))) ai))
  (ah (aQ 2 sc_law_mix.nd (kd (fN (aa 2) (aE ai (fN (fN ai (aa 1)) (aa 1)))) ai))
  (ap (aL (qH (kd (fN (aE (qH (aa 2) ai) (fN (aa 1) (aa 1))) ai) ai) ai)))))
abbrev gb:Stmt:=gB 33
theorem sc_law_digit:FnScope ["_law_rest","_law_m","_law_digit_here"] ["_law_rest","_law_m"] (aj gb):=⟨rfl,rfl,rfl,by decide+kernel,rfl,by decide+kernel,by decide+kernel⟩
theorem ny (D:Def K mg "_law_digit" gb ["_law_rest","_law_m"]) (B:Bn mg):Own P w K mg base 1 "_law_digit" ["_law_rest","_law_m"] (gv K df):=by
  refine D.own sc_law_digit (fun vs H Q E h=>?_) (fun f cdv A outer s H vs Q E hr h=>?_)
  · obtain ⟨l,zs,cz,ds,r,zs',rfl,_,rd,e,_⟩:=h
    unfold df at e
    split at e
    · rw [List.length_cons,rd.len];rfl
    · cases e
  obtain ⟨l,zs,cz,ds,r,zs',rfl,hl,rd,e,q⟩:=h
  unfold df at e
  split at e
  · split at e
    · rename_i z t m hm
      cases e
      obtain ⟨u,rfl,ru⟩:=rd.one
      cases ru
      have h1:=(of_decide_eq_true hm).1
      refine ⟨_,(cY (sX (i:=2) sc_law_digit.nd rfl (Or.inl rfl) (lK td (qr ix_list (pv 0) g8 (fun _ _=>rfl)) (pv 1))) (cY (o0 (lK n6 (qr ix_list (pv 0) g8 (fun _ _=>rfl)) (pv 1)) (sW (pv 0) g8 nX)) (ie (sT (pv 2))))),?_⟩
      refine ⟨_,rfl,l,(z::t).map V.int,_, .int z,rfl,rfl,SqL.of hl,Ae _ _,_,rfl,_,_,rfl,rfl,h1,?_⟩
      refine ⟨_,rfl,l,(z::t).map V.int,_, .int z,rfl,rfl,SqL.of hl,Ae _ _,_,rfl,_,_,rfl,rfl,hm,?_⟩
      refine ⟨_,rfl,l,(z::t).map V.int,_,0,rfl,rfl,hl,Ad _,?_⟩
      refine ⟨_,rfl,?_⟩
      exact q _ _ (SameBut.upd _) aJ (.int _)
    · cases e
  · cases e
abbrev d_:Stmt:=gB 37
theorem jG:FnScope ["_law_cord_here"] ["_law_cord_here"] (aj d_):=⟨rfl,rfl,rfl,by decide+kernel,rfl,by decide+kernel,by decide+kernel⟩
theorem jH (D:Def K mg "_law_contrary" d_ ["_law_cord_here"]) (B:Bn mg):Own P w K mg base 1 "_law_contrary" ["_law_cord_here"] (cy K aM):=by
  delta aM
  refine gl (g:=dY) D jG rfl rfl (by decide) fun f cdv A outer s H E hr=>?_
  delta dY
  exact (ap (aL (kj (N:=["_law_nail","_law_turns"]) (js:=[none,none]) gG (by rfl) (uk (by rfl) (by exact B.reversed) (aa 0)) (fun _ _ _ _=>(by delta cX;exact (iH (by rfl) (bQ (bN 0 (show (["_law_nail","_law_turns"]:List Str).Nodup by decide+kernel)) (bQ (bN 1 (show (["_law_nail","_law_turns"]:List Str).Nodup by decide+kernel)) gI))))) (fun _ _ _ _=>(by delta cr;exact (iM (DL.cons (aa 0) rfl (DL.cons (jf (aa 1)) rfl DL.nil))))))))
abbrev gc:Stmt:=gB 39
theorem sc_law_right:FnScope ["_law_found","_law_due","_law_one","_law_other"] ["_law_found","_law_due"] (aj gc):=⟨rfl,rfl,rfl,by decide+kernel,rfl,by decide+kernel,by decide+kernel⟩
theorem nC (D:Def K mg "_law_right" gc ["_law_found","_law_due"]) (B:Bn mg):Own P w K mg base 1 "_law_right" ["_law_found","_law_due"] (cy K cu):=by
  delta cu
  refine gl (g:=fZ) D sc_law_right rfl rfl (by decide) fun f cdv A outer s H E hr=>?_
  delta fZ
  exact (ah (cB (ke (iy (eU (dl (hJ .list (by rfl) (by exact B.isinstance) (aa 0) (by rfl) (by exact B.list) PyProof.Rows.boot_list))) (iG (n8 hr.units (gk (by rfl) (by exact B.len) (ag (aa 0) au)) (gk (by rfl) (by exact B.len) (ag (aa 1) au))))))
  (ap (aL j9))
  bb)
  (ah (mQ PassesOwn.never (by rfl) (yx (by rfl) (by exact B.zip) (aa 0) (aa 1)) (by delta c_;exact (iH (by rfl) (bQ (bN 2 sc_law_right.nd) (bQ (bN 3 sc_law_right.nd) gI))))
  (by delta da;exact (ah (cB (ke (iy (eU (dl (hJ .tuple (by rfl) (by exact B.isinstance) (aa 2) (by rfl) (by exact B.tuple) PyProof.Rows.boot_tuple))) (iy (n8 hr.units (gk (by rfl) (by exact B.len) (ag (aa 2) au)) ai) (iG (eU (dl (hJ .str (by rfl) (by exact B.isinstance) (bv (aa 2) ai) (by rfl) (by exact B.str) PyProof.Rows.boot_str)))))))
  (ap (aL j9))
  bb)
  (ap (cB (ke (iy (eU (dl (hJ .int (by rfl) (by exact B.isinstance) (bv (aa 2) ai) (by rfl) (by exact B.int) PyProof.Rows.boot_int))) (iy (dl (hJ .bool (by rfl) (by exact B.isinstance) (bv (aa 2) ai) (by rfl) (by exact B.bool) PyProof.Rows.boot_bool)) (iG (n8 hr.units (aa 2) (aa 3))))))
  (ap (aL j9))
  bb)))))
  (ap (aL j9))))
abbrev fJ:Stmt:=gB 41
theorem ly:FnScope ["_law_rest","_law_m"] ["_law_rest","_law_m"] (aj fJ):=⟨rfl,rfl,rfl,by decide+kernel,rfl,by decide+kernel,by decide+kernel⟩
theorem lz (D:Def K mg "_law_figure" fJ ["_law_rest","_law_m"]) (B:Bn mg) (D_law_digit:Own P w K mg base 1 "_law_digit" ["_law_rest","_law_m"] (gv K df)) (D_law_mix:Own P w K mg base 1 "_law_mix" ["_law_cell","_law_k"] (cy K c9)):Own P w K mg base 2 "_law_figure" ["_law_rest","_law_m"] (gv K av):=by
  delta av
  refine qR (g:=cI) D ly rfl rfl (by decide) fun f cdv A outer s H E hr=>?_
  delta cI
  exact (ah (cB (iT hr.units (jl 0 1) ai)
  (ap (aL (fV 0 D_law_digit (hr.mono (by decide)) (by rfl) (ag (aa 1) au))))
  bb)
  (ah (mW 0 1 (aE (jl 0 1) ai))
  (ap (aL (kd (a9 D_law_mix (hr.mono (by decide)) (by rfl) (ag (jl 0 0) (ag (jl 0 1) au))) (aa 1))))))
abbrev fK:Stmt:=gB 42
theorem sc_law_number:FnScope ["_law_rest","_law_value"] ["_law_rest"] (aj fK):=⟨rfl,rfl,rfl,by decide+kernel,rfl,by decide+kernel,by decide+kernel⟩
theorem lC (D:Def K mg "_law_number" fK ["_law_rest"]) (B:Bn mg) (D_law_figure:Own P w K mg base 2 "_law_figure" ["_law_rest","_law_m"] (gv K av)):Own P w K mg base 3 "_law_number" ["_law_rest"] (gv K be):=by
  delta be
  refine qR (g:=cJ) D sc_law_number rfl rfl (by decide) fun f cdv A outer s H E hr=>?_
  delta cJ
  exact (ah (aQ 1 sc_law_number.nd (fV 0 D_law_figure (hr.mono (by decide)) (by rfl) (ag ai au)))
  (ah (cB (fO .lt (aa 1) ai)
  (ap (aL (dB (dA (a_ (mZ (by rfl) (by exact B.str) (ag (iF (aa 1) ai) au)) (a_ (iF (aa 1) ai) eV))))))
  bb)
  (ap (aL (dB (dA (a_ aS (a_ ai eV))))))))
abbrev gT:Stmt:=gB 46
theorem sc_law_deep:FnScope ["_law_words","_law_cord_here","_law_shown","_law_k"] ["_law_words","_law_cord_here","_law_shown"] (aj gT):=⟨rfl,rfl,rfl,by decide+kernel,rfl,by decide+kernel,by decide+kernel⟩
theorem oQ (D:Def K mg "_law_deep" gT ["_law_words","_law_cord_here","_law_shown"]) (B:Bn mg) (D_law_contrary:Own P w K mg base 1 "_law_contrary" ["_law_cord_here"] (cy K aM)):Own P w K mg base 2 "_law_deep" ["_law_words","_law_cord_here","_law_shown"] (cy K cF):=by
  delta cF
  refine gl (g:=gO) D sc_law_deep rfl rfl (by decide) fun f cdv A outer s H E hr=>?_
  delta gO
  exact (ah (mQ PassesOwn.never (by rfl) (lV (by rfl) (by exact B.range) (ag ai au)) (by delta bU;exact (bN 3 sc_law_deep.nd))
  (by delta bV;exact (ah (aQ 0 sc_law_deep.nd (aE (aE aS (aa 0)) aS))
  (ah (aQ 2 sc_law_deep.nd (aE (aE aS (aa 2)) aS))
  (ap (aQ 1 sc_law_deep.nd (a9 D_law_contrary (hr.mono (by decide)) (by rfl) (ag (aa 1) au))))))))
  (ap (aL (dB (dA (a_ (aa 0) (a_ (aa 1) (a_ (aa 2) eV))))))))
abbrev dk:Stmt:=gB 25
theorem sc_read_times:FnScope ["text","place","depth","body","number"] ["text","place","depth"] (aj dk):=⟨rfl,rfl,rfl,by decide+kernel,rfl,by decide+kernel,by decide+kernel⟩
theorem lD {k:Nat} {self:List PyData→Option Sl} (DS:Own P w K mg base k "read_parts" ["text","start","depth"] (cy K self)) (hk:4≤k) (D:Def K mg "read_times" dk ["text","place","depth"]) (B:Bn mg) (D_behind:Own P w K mg base 1 "behind" ["sign","text","place"] (cy K bO)) (D_read_number:Own P w K mg base 3 "read_number" ["text","place"] (cy K aO)) (D_mk_Times:MkOk P w K mg base 2 "Times" ["self","body","number"] (eZ aI)):Own P w K mg base (k+1) "read_times" ["text","place","depth"] (cy K (cA self)):=by
  delta cA
  refine gl (k:=k+0) (g:=fk self) D sc_read_times rfl rfl (by decide) fun f cdv A outer s H E hr=>?_
  delta fk
  exact (ah (aQ 3 sc_read_times.nd (a9 DS (hr.mono (by omega)) (by rfl) (ag (aa 0) (ag (aE (aa 1) ai) (ag (aE (aa 2) ai) au)))))
  (ah (aQ 4 sc_read_times.nd (a9 D_read_number (hr.mono (by omega)) (by rfl) (ag (aa 0) (ag (a9 D_behind (hr.mono (by omega)) (by rfl) (ag aS (ag (aa 0) (ag (bv (aa 3) ai) au)))) au))))
  (ap (aL (dB (dA (a_ (jP D_mk_Times (hr.mono (by omega)) (by rfl) (ag (bv (aa 3) ai) (ag (bv (aa 4) ai) au))) (a_ (bv (aa 4) ai) eV))))))))
abbrev dM:Stmt:=gB 26
theorem sc_read_back:FnScope ["text","place","depth","one","other"] ["text","place","depth"] (aj dM):=⟨rfl,rfl,rfl,by decide+kernel,rfl,by decide+kernel,by decide+kernel⟩
theorem nD {k:Nat} {self:List PyData→Option Sl} (DS:Own P w K mg base k "read_parts" ["text","start","depth"] (cy K self)) (hk:4≤k) (D:Def K mg "read_back" dM ["text","place","depth"]) (B:Bn mg) (D_behind:Own P w K mg base 1 "behind" ["sign","text","place"] (cy K bO)) (D_mk_Back:MkOk P w K mg base 2 "Back" ["self","one","other"] (gM aI)):Own P w K mg base (k+1) "read_back" ["text","place","depth"] (cy K (cK self)):=by
  delta cK
  refine gl (k:=k+0) (g:=f7 self) D sc_read_back rfl rfl (by decide) fun f cdv A outer s H E hr=>?_
  delta f7
  exact (ah (aQ 3 sc_read_back.nd (a9 DS (hr.mono (by omega)) (by rfl) (ag (aa 0) (ag (aE (aa 1) ai) (ag (aE (aa 2) ai) au)))))
  (ah (aQ 4 sc_read_back.nd (a9 DS (hr.mono (by omega)) (by rfl) (ag (aa 0) (ag (a9 D_behind (hr.mono (by omega)) (by rfl) (ag aS (ag (aa 0) (ag (bv (aa 3) ai) au)))) (ag (aE (aa 2) ai) au)))))
  (ap (aL (dB (dA (a_ (jP D_mk_Back (hr.mono (by omega)) (by rfl) (ag (bv (aa 3) ai) (ag (bv (aa 4) ai) au))) (a_ (a9 D_behind (hr.mono (by omega)) (by rfl) (ag aS (ag (aa 0) (ag (bv (aa 4) ai) au)))) eV))))))))
abbrev dN:Stmt:=gB 27
theorem nE:FnScope ["text","place","depth"] ["text","place","depth"] (aj dN):=⟨rfl,rfl,rfl,by decide+kernel,rfl,by decide+kernel,by decide+kernel⟩
theorem nG {k:Nat} {self:List PyData→Option Sl} (DS:Own P w K mg base k "read_parts" ["text","start","depth"] (cy K self)) (hk:4≤k) (D:Def K mg "read_part" dN ["text","place","depth"]) (B:Bn mg) (D_is_nail:Own P w K mg base 1 "is_nail" ["thing"] (cy K bX)) (D_read_piece:Own P w K mg base 4 "read_piece" ["text","place"] (cy K bI)) (D_read_times:Own P w K mg base (k+1) "read_times" ["text","place","depth"] (cy K (cA self))) (D_read_back:Own P w K mg base (k+1) "read_back" ["text","place","depth"] (cy K (cK self))):Own P w K mg base (k+2) "read_part" ["text","place","depth"] (cy K (bE self)):=by
  delta bE
  refine gl (k:=k+1) (g:=dJ self) D nE rfl rfl (by decide) fun f cdv A outer s H E hr=>?_
  delta dJ
  exact (ah (cB (dl (a9 D_is_nail (hr.mono (by omega)) (by rfl) (ag (bv (aa 0) (aa 1)) au)))
  (ap (aL (a9 D_read_piece (hr.mono (by omega)) (by rfl) (ag (aa 0) (ag (aa 1) au)))))
  bb)
  (ah (cB (iT hr.units (bv (aa 0) (aa 1)) aS)
  (ap (aL (a9 D_read_times (hr.mono (by omega)) (by rfl) (ag (aa 0) (ag (aa 1) (ag (aa 2) au))))))
  bb)
  (ah (cB (iT hr.units (bv (aa 0) (aa 1)) aS)
  (ap (aL (a9 D_read_back (hr.mono (by omega)) (by rfl) (ag (aa 0) (ag (aa 1) (ag (aa 2) au))))))
  bb)
  (ap gu))))
abbrev eg:Stmt:=gB 28
theorem sc_read_parts:FnScope ["text","start","depth","parts","place","part"] ["text","start","depth"] (aj eg):=⟨rfl,rfl,rfl,by decide+kernel,rfl,by decide+kernel,by decide+kernel⟩
theorem hU (D:Def K mg "read_parts" eg ["text","start","depth"]) (B:Bn mg) (E_read_times:Def K mg "read_times" dk ["text","place","depth"]) (E_read_back:Def K mg "read_back" dM ["text","place","depth"]) (E_read_part:Def K mg "read_part" dN ["text","place","depth"]) {t_DEEPEST:Tok} (G_DEEPEST:mg "DEEPEST"=some (.int 30 t_DEEPEST)) (D_behind:Own P w K mg base 1 "behind" ["sign","text","place"] (cy K bO)) (D_read_number:Own P w K mg base 3 "read_number" ["text","place"] (cy K aO)) (D_mk_Times:MkOk P w K mg base 2 "Times" ["self","body","number"] (eZ aI)) (D_mk_Back:MkOk P w K mg base 2 "Back" ["self","one","other"] (gM aI)) (D_is_nail:Own P w K mg base 1 "is_nail" ["thing"] (cy K bX)) (D_read_piece:Own P w K mg base 4 "read_piece" ["text","place"] (cy K bI)) (D_mk_Parts:MkOk P w K mg base 2 "Parts" ["self","parts"] (eY aI)):∀n:Nat,Own P w K mg base (4+3*n+1) "read_parts" ["text","start","depth"] (cy K (aH n))
  | 0=>uD D sc_read_parts
  | n+1=>by
    have DS:=hU D B E_read_times E_read_back E_read_part G_DEEPEST D_behind D_read_number D_mk_Times D_mk_Back D_is_nail D_read_piece D_mk_Parts n
    have hk:4≤4+3*n+1:=by omega
    show Own P w K mg base (4+3*(n+1)+1) "read_parts" ["text","start","depth"] (cy K (cj 3 6 (dh (aH n))))
    rw [show 4+3*(n+1)+1=4+3*n+1+3 by omega]
    generalize aH n=self at DS ⊢
    generalize 4+3*n+1=k at DS hk ⊢
    have D_read_times:=lD DS hk E_read_times B D_behind D_read_number D_mk_Times
    have D_read_back:=nD DS hk E_read_back B D_behind D_mk_Back
    have D_read_part:=nG DS hk E_read_part B D_is_nail D_read_piece D_read_times D_read_back
    refine gl (k:=k+2) (g:=dh self) D sc_read_parts rfl rfl (by decide) fun f cdv A outer s H E hr=>?_
    delta dh
    exact (ah (cB (fO .gt (aa 2) (mU (by rfl) (by exact G_DEEPEST)))
  (ap gu)
  bb)
  (ah (aQ 3 sc_read_parts.nd (fQ DL.nil))
  (ah (aQ 4 sc_read_parts.nd (aa 1))
  (ah (oz PassesOwn.never (by delta bu;exact (ke (mK (fO .lt (aa 4) (gk (by rfl) (by exact B.len) (ag (aa 0) au))) (jM (yz (bv (aa 0) (aa 4)) aS)))))
  (by delta cg;exact (ah (aQ 5 sc_read_parts.nd (a9 D_read_part (hr.mono (by omega)) (by rfl) (ag (aa 0) (ag (aa 4) (ag (aa 2) au)))))
  (ah (mN (lU 3 (bv (aa 5) ai)))
  (ap (aQ 4 sc_read_parts.nd (bv (aa 5) ai)))))))
  (ap (aL (dB (dA (a_ (jP D_mk_Parts (hr.mono (by omega)) (by rfl) (ag (aa 3) au)) (a_ (aa 4) eV))))))))))
theorem lE (D:Def K mg "read_parts" eg ["text","start","depth"]) (B:Bn mg) (E_read_times:Def K mg "read_times" dk ["text","place","depth"]) (E_read_back:Def K mg "read_back" dM ["text","place","depth"]) (E_read_part:Def K mg "read_part" dN ["text","place","depth"]) {t_DEEPEST:Tok} (G_DEEPEST:mg "DEEPEST"=some (.int 30 t_DEEPEST)) (D_behind:Own P w K mg base 1 "behind" ["sign","text","place"] (cy K bO)) (D_read_number:Own P w K mg base 3 "read_number" ["text","place"] (cy K aO)) (D_mk_Times:MkOk P w K mg base 2 "Times" ["self","body","number"] (eZ aI)) (D_mk_Back:MkOk P w K mg base 2 "Back" ["self","one","other"] (gM aI)) (D_is_nail:Own P w K mg base 1 "is_nail" ["thing"] (cy K bX)) (D_read_piece:Own P w K mg base 4 "read_piece" ["text","place"] (cy K bI)) (D_mk_Parts:MkOk P w K mg base 2 "Parts" ["self","parts"] (eY aI)):Own P w K mg base 104 "read_parts" ["text","start","depth"] (cy K eH):=hU D B E_read_times E_read_back E_read_part G_DEEPEST D_behind D_read_number D_mk_Times D_mk_Back D_is_nail D_read_piece D_mk_Parts 33
abbrev nH:Stmt:=gB 29
theorem sc_read:FnScope ["text","found"] ["text"] (aj nH):=⟨rfl,rfl,rfl,by decide+kernel,rfl,by decide+kernel,by decide+kernel⟩
theorem wv (D:Def K mg "read" nH ["text"]) (B:Bn mg) (D_read_parts:Own P w K mg base 104 "read_parts" ["text","start","depth"] (cy K eH)):Own P w K mg base 105 "read" ["text"] (cy K fm):=by
  delta fm
  refine gl (g:=m9) D sc_read rfl rfl (by decide) fun f cdv A outer s H E hr=>?_
  delta m9
  exact (ah (cB (eU (dl (hJ .str (by rfl) (by exact B.isinstance) (aa 0) (by rfl) (by exact B.str) PyProof.Rows.boot_str)))
  (ap gu)
  bb)
  (ah (aQ 1 sc_read.nd (a9 D_read_parts (hr.mono (by decide)) (by rfl) (ag (aa 0) (ag ai (ag ai au)))))
  (ah (cB (fO .lt (bv (aa 1) ai) (gk (by rfl) (by exact B.len) (ag (aa 0) au)))
  (ap gu)
  bb)
  (ap (aL (bv (aa 1) ai))))))
abbrev gU:Stmt:=gB 45
theorem sc_law_told:FnScope ["_law_words","_law_cord_here","_law_shown","_law_term","_law_found"] ["_law_words","_law_cord_here","_law_shown"] (aj gU):=⟨rfl,rfl,rfl,by decide+kernel,rfl,by decide+kernel,by decide+kernel⟩
theorem oR (D:Def K mg "_law_told" gU ["_law_words","_law_cord_here","_law_shown"]) (B:Bn mg) (D_read:Own P w K mg base 105 "read" ["text"] (cy K fm)) {C_is_Parts:Addr} (D_is_Parts:mg "Parts"=some (.ref C_is_Parts)∧IsRow K C_is_Parts tab_is_Parts) (D_m_pieces:DispM P w K mg base 1 "pieces" aI) (D_m_cord:DispM P w K mg base 144 "cord" fS) (D_law_right:Own P w K mg base 1 "_law_right" ["_law_found","_law_due"] (cy K cu)) (D_m_text:DispM P w K mg base 72 "text" gz):Own P w K mg base 145 "_law_told" ["_law_words","_law_cord_here","_law_shown"] (cy K a8):=by
  delta a8
  refine gl (g:=gP) D sc_law_told rfl rfl (by decide) fun f cdv A outer s H E hr=>?_
  delta gP
  exact (ah (aQ 3 sc_law_told.nd (a9 D_read (hr.mono (by decide)) (by rfl) (ag (aa 0) au)))
  (ah (cB (ke (iy (eU (dl (yH D_is_Parts.2 (by rfl) (by exact B.isinstance) (aa 3) (by rfl) (by exact D_is_Parts.1)))) (iy (n8 hr.units (cW D_m_pieces (hr.mono (by decide)) (aa 3)) (gk (by rfl) (by exact B.len) (ag (aa 1) au))) (iG (dl (hJ .bool (by rfl) (by exact B.isinstance) (cW D_m_pieces (hr.mono (by decide)) (aa 3)) (by rfl) (by exact B.bool) PyProof.Rows.boot_bool))))))
  (ap (aL j9))
  bb)
  (ah (aQ 4 sc_law_told.nd (cW D_m_cord (hr.mono (by decide)) (aa 3)))
  (ah (cB (ke (iy (eU (dl (a9 D_law_right (hr.mono (by decide)) (by rfl) (ag (aa 4) (ag (aa 1) au))))) (iG (n8 hr.units (cW D_m_text (hr.mono (by decide)) (aa 3)) (aa 2)))))
  (ap (aL j9))
  bb)
  (ah (mN (lU 4 (iM (DL.cons aS rfl (DL.cons ai rfl DL.nil)))))
  (ap (aL (a9 D_law_right (hr.mono (by decide)) (by rfl) (ag (cW D_m_cord (hr.mono (by decide)) (aa 3)) (ag (aa 1) au))))))))))
abbrev eB:Stmt:=gB 43
theorem sc_law_part:FnScope ["_law_rest","_law_deep_here","_law_kind","_law_inner","_law_word","_law_number_here","_law_cord_here","_law_one","_law_other","_law_nail"] ["_law_rest","_law_deep_here"] (aj eB):=⟨rfl,rfl,rfl,by decide+kernel,rfl,by decide+kernel,by decide+kernel⟩
theorem oS {k:Nat} {self:List Int→List PyData→Option (Sl×List Int)} (DS:Own P w K mg base k "_law_row" ["_law_rest","_law_deep_here"] (gv K self)) (hk:3≤k) (D:Def K mg "_law_part" eB ["_law_rest","_law_deep_here"]) (B:Bn mg) (D_law_figure:Own P w K mg base 2 "_law_figure" ["_law_rest","_law_m"] (gv K av)) (D_law_number:Own P w K mg base 3 "_law_number" ["_law_rest"] (gv K be)) (D_law_contrary:Own P w K mg base 1 "_law_contrary" ["_law_cord_here"] (cy K aM)):Own P w K mg base (k+1) "_law_part" ["_law_rest","_law_deep_here"] (gv K (bK self)):=by
  delta bK
  refine qR (k:=k+0) (g:=gQ self) D sc_law_part rfl rfl (by decide) fun f cdv A outer s H E hr=>?_
  delta gQ
  exact (ah (aQ 2 sc_law_part.nd (fV 0 D_law_figure (hr.mono (by omega)) (by rfl) (ag ai au)))
  (ah (mW 0 2 (iF (jl 0 2) ai))
  (ah (cB (ke (mK (iT hr.units (aa 2) ai) (jM (fO .gt (aa 1) ai))))
  (ah (aQ 3 sc_law_part.nd (fV 0 DS (hr.mono (by omega)) (by rfl) (ag (iF (aa 1) ai) au)))
  (ah (mO (fV 0 D_law_number (hr.mono (by omega)) (by rfl) au) (iH (by rfl) (bQ (bN 4 sc_law_part.nd) (bQ (bN 5 sc_law_part.nd) gI))))
  (ah (aQ 6 sc_law_part.nd (fN (bv (aa 3) ai) (pk (by rfl) (by exact B.abs) (ag (aa 5) au))))
  (ah (cB (fO .lt (aa 5) ai)
  (ap (aQ 6 sc_law_part.nd (fN (a9 D_law_contrary (hr.mono (by omega)) (by rfl) (ag (bv (aa 3) ai) au)) (pk (by rfl) (by exact B.abs) (ag (aa 5) au)))))
  bb)
  (ap (aL (dB (dA (a_ (aE (aE (aE aS (bv (aa 3) ai)) aS) (aa 4)) (a_ (aa 6) (a_ (aE (aE (aE aS (bv (aa 3) ai)) aS) (qN (aa 4) (qM (by rfl) (by exact B.int) (ag (xb hr.units (aa 5) ai) au)))) eV)))))))))))
  bb)
  (ah (cB (ke (mK (iT hr.units (aa 2) ai) (jM (fO .gt (aa 1) ai))))
  (ah (aQ 7 sc_law_part.nd (fV 0 DS (hr.mono (by omega)) (by rfl) (ag (iF (aa 1) ai) au)))
  (ah (aQ 8 sc_law_part.nd (fV 0 DS (hr.mono (by omega)) (by rfl) (ag (iF (aa 1) ai) au)))
  (ah (aQ 6 sc_law_part.nd (aE (aE (aE (bv (aa 7) ai) (bv (aa 8) ai)) (a9 D_law_contrary (hr.mono (by omega)) (by rfl) (ag (bv (aa 7) ai) au))) (a9 D_law_contrary (hr.mono (by omega)) (by rfl) (ag (bv (aa 8) ai) au))))
  (ap (aL (dB (dA (a_ (aE (aE (aE (aE aS (bv (aa 7) ai)) aS) (bv (aa 8) ai)) aS) (a_ (aa 6) (a_ (aE (aE (aE (aE aS (bv (aa 7) ai)) aS) (bv (aa 8) ai)) aS) eV))))))))))
  bb)
  (ah (aQ 9 sc_law_part.nd (bv aS (fV 0 D_law_figure (hr.mono (by omega)) (by rfl) (ag ai au))))
  (ah (mO (fV 0 D_law_number (hr.mono (by omega)) (by rfl) au) (iH (by rfl) (bQ (bN 4 sc_law_part.nd) (bQ (bN 5 sc_law_part.nd) gI))))
  (ah (cB (iT hr.units (aa 5) ai)
  (ah (aQ 5 sc_law_part.nd (fN (aE (mH ai ai) (fV 0 D_law_figure (hr.mono (by omega)) (by rfl) (ag (fN ai (mH ai ai)) au))) (bv (fQ (DL.cons ai rfl (DL.cons (jf ai) rfl DL.nil))) (fV 0 D_law_figure (hr.mono (by omega)) (by rfl) (ag ai au)))))
  (ap (aQ 4 sc_law_part.nd (mZ (by rfl) (by exact B.str) (ag (aa 5) au)))))
  bb)
  (ap (aL (dB (dA (a_ (aE (aa 9) (aa 4)) (a_ (fQ (DL.cons (iM (DL.cons (aa 9) rfl (DL.cons (aa 5) rfl DL.nil))) rfl DL.nil)) (a_ (aE (aa 9) (qN (aa 4) (qM (by rfl) (by exact B.int) (ag (xb hr.units (aa 5) ai) au)))) eV))))))))))))))
abbrev gC:Stmt:=gB 44
theorem sc_law_row:FnScope ["_law_rest","_law_deep_here","_law_words","_law_cord_here","_law_shown","_law_k","_law_part_here"] ["_law_rest","_law_deep_here"] (aj gC):=⟨rfl,rfl,rfl,by decide+kernel,rfl,by decide+kernel,by decide+kernel⟩
theorem jy (D:Def K mg "_law_row" gC ["_law_rest","_law_deep_here"]) (B:Bn mg) (E_law_part:Def K mg "_law_part" eB ["_law_rest","_law_deep_here"]) (D_law_figure:Own P w K mg base 2 "_law_figure" ["_law_rest","_law_m"] (gv K av)) (D_law_number:Own P w K mg base 3 "_law_number" ["_law_rest"] (gv K be)) (D_law_contrary:Own P w K mg base 1 "_law_contrary" ["_law_cord_here"] (cy K aM)):∀n:Nat,Own P w K mg base (3+2*n+1) "_law_row" ["_law_rest","_law_deep_here"] (gv K (dL n))
  | 0=>pG D sc_law_row
  | n+1=>by
    have DS:=jy D B E_law_part D_law_figure D_law_number D_law_contrary n
    have hk:3≤3+2*n+1:=by omega
    show Own P w K mg base (3+2*(n+1)+1) "_law_row" ["_law_rest","_law_deep_here"] (gv K (kq 1 6 (fL (dL n))))
    rw [show 3+2*(n+1)+1=3+2*n+1+2 by omega]
    generalize dL n=self at DS ⊢
    generalize 3+2*n+1=k at DS hk ⊢
    have D_law_part:=oS DS hk E_law_part B D_law_figure D_law_number D_law_contrary
    refine qR (k:=k+1) (g:=fL self) D sc_law_row rfl rfl (by decide) fun f cdv A outer s H E hr=>?_
    delta fL
    exact (ah (aQ 2 sc_law_row.nd aS)
  (ah (aQ 3 sc_law_row.nd (fQ DL.nil))
  (ah (aQ 4 sc_law_row.nd aS)
  (ah (mQ PassesOwn.never (by rfl) (lV (by rfl) (by exact B.range) (ag (fV 0 D_law_figure (hr.mono (by omega)) (by rfl) (ag ai au)) au)) (by delta cL;exact (bN 5 sc_law_row.nd))
  (by delta cN;exact (ah (cB (fO .gt (jl 0 2) ai)
  (ah (aQ 6 sc_law_row.nd (fV 0 D_law_part (hr.mono (by omega)) (by rfl) (ag (aa 1) au)))
  (ah (aQ 2 sc_law_row.nd (aE (aa 2) (bv (aa 6) ai)))
  (ah (aQ 3 sc_law_row.nd (aE (aa 3) (bv (aa 6) ai)))
  (ap (aQ 4 sc_law_row.nd (aE (aa 4) (bv (aa 6) ai)))))))
  bb)
  (ap (cB (fO .gt (gk (by rfl) (by exact B.len) (ag (aa 3) au)) ai)
  (ah (aQ 3 sc_law_row.nd (uB (aa 3) v7 (mL ai)))
  (ap (mW 0 2 (jf ai))))
  bb)))))
  (ap (aL (dB (dA (a_ (aa 2) (a_ (aa 3) (a_ (aa 4) eV)))))))))))
theorem pS (D:Def K mg "_law_row" gC ["_law_rest","_law_deep_here"]) (B:Bn mg) (E_law_part:Def K mg "_law_part" eB ["_law_rest","_law_deep_here"]) (D_law_figure:Own P w K mg base 2 "_law_figure" ["_law_rest","_law_m"] (gv K av)) (D_law_number:Own P w K mg base 3 "_law_number" ["_law_rest"] (gv K be)) (D_law_contrary:Own P w K mg base 1 "_law_contrary" ["_law_cord_here"] (cy K aM)):Own P w K mg base 12 "_law_row" ["_law_rest","_law_deep_here"] (gv K dG):=jy D B E_law_part D_law_figure D_law_number D_law_contrary 4
abbrev kB:Stmt:=gB 47
theorem sc_law:FnScope ["_law_script","_law_cell","_law_rest","_law_words","_law_cord_here","_law_shown"] ["_law_script"] (aj kB):=⟨rfl,rfl,rfl,by decide+kernel,rfl,by decide+kernel,by decide+kernel⟩
theorem yJ {f0:Addr} {fd:FuncData} (D:Fun K "law" "law" kB f0 fd) (B:Bn mg) (D_law_at:Own P w K mg base 1 "_law_at" ["_law_script","_law_k"] (cy K de)) (D_law_row:Own P w K mg base 12 "_law_row" ["_law_rest","_law_deep_here"] (gv K dG)) (D_law_deep:Own P w K mg base 2 "_law_deep" ["_law_words","_law_cord_here","_law_shown"] (cy K cF)) (D_law_told:Own P w K mg base 145 "_law_told" ["_law_words","_law_cord_here","_law_shown"] (cy K a8)):FnOk P w K mg base ir 146 f0 fd ["_law_script"] (cy K iN):=by
  delta iN
  refine CD (g:=ma) D sc_law rfl rfl (by decide) fun cdv A outer s H E hr=>?_
  delta ma
  exact (ah (aQ 1 sc_law.nd (a9 D_law_at (hr.mono (by decide)) (by rfl) (ag (aa 0) (ag ai au))))
  (ah (aQ 2 sc_law.nd (fQ (DL.cons (aa 1) rfl (DL.cons ai rfl (DL.cons ai rfl DL.nil)))))
  (ah (cB (eU (uz .lt .lt (jf (mH ai ai)) (aa 1) (mH ai ai)))
  (ap (aQ 2 sc_law.nd (fQ (DL.cons (aa 1) rfl (DL.cons ai rfl (DL.cons ai rfl DL.nil))))))
  bb)
  (ah (mO (fV 2 D_law_row (hr.mono (by decide)) (by rfl) (ag ai au)) (iH (by rfl) (bQ (bN 3 sc_law.nd) (bQ (bN 4 sc_law.nd) (bQ (bN 5 sc_law.nd) gI)))))
  (ah (cB (fO .lt (bv (aa 2) ai) ai)
  (ap (wg 3 4 5 rfl sc_law.nd (ag aS (ag (fQ (DL.cons (iM (DL.cons aS rfl (DL.cons (jf ai) rfl DL.nil))) rfl DL.nil)) (ag aS au)))))
  bb)
  (ah (cB (iT hr.units (kd (a9 D_law_at (hr.mono (by decide)) (by rfl) (ag (aa 0) (ag ai au))) ai) ai)
  (ap (mO (a9 D_law_deep (hr.mono (by decide)) (by rfl) (ag (aa 3) (ag (aa 4) (ag (aa 5) au)))) (iH (by rfl) (bQ (bN 3 sc_law.nd) (bQ (bN 4 sc_law.nd) (bQ (bN 5 sc_law.nd) gI))))))
  bb)
  (ah (cB (ke (iy (eU (dl (a9 D_law_told (hr.mono (by decide)) (by rfl) (ag (aa 3) (ag (aa 4) (ag (aa 5) au)))))) (iG (eU (dl (a9 D_law_told (hr.mono (by decide)) (by rfl) (ag (aa 5) (ag (aa 4) (ag (aa 5) au)))))))))
  (ap (aL j9))
  bb)
  (ap (aL (a9 D_law_told (hr.mono (by decide)) (by rfl) (ag (aE (aE (aa 3) aS) (aa 3)) (ag (aE (aE (aa 4) (fQ (DL.cons (iM (DL.cons aS rfl (DL.cons ai rfl DL.nil))) rfl DL.nil))) (aa 4)) (ag (aE (aE (aa 5) aS) (aa 5)) au)))))))))))))
end
end Nhk61
namespace Nhk61
open PySem L2 Nh PL
theorem bc (w:List Nat):(⟨w.toArray⟩:Str).length=w.length:=by show w.toArray.size=_;simp
theorem jm (ns:List Int) (k:Nat):de [.list (ns.map .int), .int k]=some (.sh (.int (ns.getD k 0))):=by
  simp only [de,cj,List.length_cons,List.length_nil,Nat.zero_add,Nat.reduceAdd,b7,iZ,ar,aU,bG,af,ad,ax,List.map_cons,List.map_nil,Nat.sub_self,List.replicate,List.cons_append,List.nil_append,List.getElem?_cons_succ,List.getElem?_cons_zero,Sl.isBr,Bool.false_and,Bool.false_eq_true,bt,ae,ao,Option.map_some,if_false,dR,bR,look,Sl.val,aZ,Cm.i,Cm.s,Option.bind_some,az,aF,b6,hot,bx,aB,pC,bz,a7,if_true]
  by_cases h:k < ns.length
  · simp [h,cp,aP,bz,a7]
  · simp [h,List.getElem?_eq_none (Nat.le_of_not_lt h),aP,bz,a7]
theorem yK (cell k:Int) (a:∀i:Int,dP i k=true) (b:∀i j:Int,dP (i % 2305843009213693951 / 8191+k*k) j=true) (c:∀j:Int,dP (cell % 2305843009213693951+131*k+17) j=true):∃z:Int,c9 [.int cell, .int k]=some (.sh (.int z)):=by
  have d1:ka 8191=true∧ka 7=true:=by decide
  simp only [c9,cj,List.length_cons,List.length_nil,Nat.zero_add,Nat.reduceAdd,b7,il,ar,aG,af,ad,ax,List.map_cons,List.map_nil,Nat.reduceSub,List.replicate,List.cons_append,List.nil_append,List.getElem?_cons_zero,Sl.isBr,Bool.false_and,Bool.false_eq_true,pC,je,bR,look,Sl.val,iE,Option.bind_some,if_false,Int.reduceLT,decide_true,if_true,Option.map_some,eR,hot,bx,Bool.not_false,Bool.true_or,Bool.and_true,aC,List.getElem?_cons_succ,a,PL.settle,frz,frzAll,Nat.reduceLT,List.set_cons_succ,List.set_cons_zero,aF,qF,c,d1.1,b,d1.2,bz,a7,aP]
  exact ⟨_,rfl⟩
theorem pT (cell:Int) (k:Nat) (h:k≤100000):∃z:Int,c9 [.int cell, .int k]=some (.sh (.int z)):=by
  refine yK cell k (fun i=>qO (by omega) (by omega)) (fun i j=>?_) fun j=>?_
  · have h1:=Int.emod_nonneg i (show (2305843009213693951:Int)≠0 by omega)
    have h2:=Int.emod_lt_of_pos i (show (0:Int) < 2305843009213693951 by omega)
    have kk:(k:Int)*k≤100000*100000:=Int.mul_le_mul (by omega) (by omega) (by omega) (by omega)
    have kn:0≤(k:Int)*k:=Int.mul_nonneg (by omega) (by omega)
    generalize i % 2305843009213693951=z at h1 h2
    exact mV (by omega) (by omega)
  · have h1:=Int.emod_nonneg cell (show (2305843009213693951:Int)≠0 by omega)
    have h2:=Int.emod_lt_of_pos cell (show (0:Int) < 2305843009213693951 by omega)
    generalize cell % 2305843009213693951=z at h1 h2
    exact mV (by omega) (by omega)
theorem gX:∀(d:List Pc) (x0 x1:Sl),gW cX iz cr (d.map bn) [x0,x1]=some ((d.map fun p=>((p.1,-p.2):Pc)).map bn)
  | [],x0,x1=>rfl
  | p::d,x0,x1=>by
    have e:(cX (bn p) [x0,x1])=some [.sh (.str ⟨#[p.1]⟩), .sh (.int p.2)]:=rfl
    have e2:cr [.sh (.str ⟨#[p.1]⟩), .sh (.int p.2)]=some (.sh (bn (p.1,-p.2)),[.sh (.str ⟨#[p.1]⟩), .sh (.int p.2)]):=by
      simp only [cr,gj,aR,ad,List.getElem?_cons_zero,frz,gD,look,Sl.val,gi,bP,Option.map_some,Option.bind_some,List.getElem?_cons_succ,List.length_cons,List.length_nil,Nat.zero_add,Nat.reduceAdd,Nat.reduceLeDiff,if_true,bn]
    rw [List.map_cons,gW,e,Option.bind_some]
    simp only [iz,frz,Option.bind_some,e2,gX d,Option.map_some,if_true,List.map_cons]
theorem dD (c:List Pc) (h:c.length≤1000000):aM [.list (c.map bn)]=some (.ow ((NH.contr c).map bn)):=by
  have hl:(NH.contr c).length=c.length:=NH.bi c
  have e:(c.reverse.map fun p=>((p.1,-p.2):Pc))=NH.contr c:=rfl
  have k:=gX c.reverse .no .no
  rw [e,List.map_reverse] at k
  simp only [aM,cj,List.length_cons,List.length_nil,Nat.zero_add,b7,dY,aF,jw,oo,ad,ax,List.map_cons,List.map_nil,Nat.sub_self,List.replicate,List.cons_append,List.nil_append,List.getElem?_cons_zero,frz,Option.bind_some,iJ,oq,k,bC,List.length_map,hl,h,decide_true,Bool.and_true,if_true,bz,a7]
theorem jz:∀(d:List Pc) (x0 x1:Sl),gW eC iz dn (d.map bn) [x0,x1]=some ((d.map fun p=>((p.1,-p.2):Pc)).map bn)
  | [],x0,x1=>rfl
  | p::d,x0,x1=>by
    have e:(eC (bn p) [x0,x1])=some [.sh (.str ⟨#[p.1]⟩), .sh (.int p.2)]:=rfl
    have e2:dn [.sh (.str ⟨#[p.1]⟩), .sh (.int p.2)]=some (.sh (bn (p.1,-p.2)),[.sh (.str ⟨#[p.1]⟩), .sh (.int p.2)]):=by
      simp only [dn,gj,aR,ad,List.getElem?_cons_zero,frz,gD,look,Sl.val,gi,bP,Option.map_some,Option.bind_some,List.getElem?_cons_succ,List.length_cons,List.length_nil,Nat.zero_add,Nat.reduceAdd,Nat.reduceLeDiff,if_true,bn]
    rw [List.map_cons,gW,e,Option.bind_some]
    simp only [iz,frz,Option.bind_some,e2,jz d,Option.map_some,if_true,List.map_cons]
theorem hV (c:List Pc) (h:c.length≤1000000):cq [.list (c.map bn)]=some (.ow ((NH.contr c).map bn)):=by
  have hl:(NH.contr c).length=c.length:=NH.bi c
  have e:(c.reverse.map fun p=>((p.1,-p.2):Pc))=NH.contr c:=rfl
  have k:=jz c.reverse .no .no
  rw [e,List.map_reverse] at k
  simp only [cq,cj,List.length_cons,List.length_nil,Nat.zero_add,b7,gN,aF,jw,oo,ad,ax,List.map_cons,List.map_nil,Nat.sub_self,List.replicate,List.cons_append,List.nil_append,List.getElem?_cons_zero,frz,Option.bind_some,iJ,oq,k,bC,List.length_map,hl,h,decide_true,Bool.and_true,if_true,bz,a7]
theorem i6 (x0 x1:Sl):∀(W:List Pc) (a b:Sl),NailsOk W→∃a' b',eN c_ da (iU (W.map bn) (W.map bn)) [x0,x1,a,b]=some ([x0,x1,a',b'], .nx)
  | [],a,b,_=>⟨a,b,rfl⟩
  | p::W,a,b,h=>by
    have q:=yI (h p (List.mem_cons_self ..)) (h p (List.mem_cons_self ..))
    rw [decide_eq_true rfl] at q
    have q2:rP (.tuple [.str ⟨#[p.1]⟩, .int p.2]) (.tuple [.str ⟨#[p.1]⟩, .int p.2])=some true:=q
    have e:(c_ (.tuple [bn p,bn p]) [x0,x1,a,b]).bind da=some ([x0,x1, .sh (bn p), .sh (bn p)], .nx):=by
      simp only [c_,dI,bn,List.length_cons,List.length_nil,Nat.zero_add,Nat.reduceAdd,bj,aW,Nat.reduceLT,List.set_cons_succ,List.set_cons_zero,if_true,Option.bind_some,dS,List.isEmpty_nil,da,mI,ar,aU,eT,bM,cQ,gD,ad,List.getElem?_cons_succ,List.getElem?_cons_zero,look,Sl.val,hG,Ty.is,vg,Option.map_some,eX,Bool.not_true,bG,af,bt,ae,Sl.isBr,Bool.false_and,Bool.false_eq_true,ao,if_false,dR,pC,bR,b6,hot,bx,az,Int.cast_ofNat_Int,bo,decide_true,iA,aF,aB,iB,q2]
    obtain ⟨a',b',ih⟩:=i6 x0 x1 W (.sh (bn p)) (.sh (bn p)) fun r hr=>h r (List.mem_cons_of_mem _ hr)
    refine ⟨a',b',?_⟩
    rw [List.map_cons,iU,eN,e]
    exact ih
theorem nI (W:List Pc) (h:NailsOk W) (hl:W.length≤100000):cu [.list (W.map bn), .list (W.map bn)]=some (.sh (.bool true)):=by
  obtain ⟨a,b,e⟩:=i6 (.sh (.list (W.map bn))) (.sh (.list (W.map bn))) W .no .no h
  have lb:W.length≤1000000:=by omega
  simp only [cu,cj,List.length_cons,List.length_nil,Nat.zero_add,Nat.reduceAdd,b7,fZ,ar,aU,eT,bM,cQ,gD,ad,ax,List.map_cons,List.map_nil,Nat.reduceSub,List.replicate,List.cons_append,List.nil_append,List.getElem?_cons_zero,look,Sl.val,hG,Ty.is,vg,Option.bind_some,Option.map_some,eX,Bool.not_true,bG,af,bt,ae,Sl.isBr,Bool.false_and,Bool.false_eq_true,ao,if_false,dR,mI,bR,az,List.length_map,List.getElem?_cons_succ,bo,decide_true,aF,pC,aB,kN,ut,frz,e,bz,a7,aP,if_true]
theorem oT:(Str.ofString "0").cps.toList=[48]:=by decide+kernel
theorem uN:(Str.ofString "9").cps.toList=[57]:=by decide+kernel
theorem xi:(Str.ofString "-").cps.toList=[45]:=by decide+kernel
theorem kC (a b:Nat):decide ([a] < [b])=decide (a < b):=by
  by_cases h:a < b
  · rw [decide_eq_true h,decide_eq_true (List.cons_lt_cons_iff.mpr (.inl h))]
  · rw [decide_eq_false h]
    refine decide_eq_false fun z=>?_
    rcases List.cons_lt_cons_iff.mp z with z | z
    · omega
    · exact absurd z.2 (by simp)
def Dg (c:Nat):Prop:=48≤c∧c≤57
def xj (R:List Nat):Prop:=∀c,R.head? =some c→c≠45∧¬Dg c
theorem uO (T:List Nat) (x1:Sl) (n:Nat) (N c:Nat) (hN:T.length=N) (hT:N≤1000000) (hn:n < N) (hc:T[n]? =some c) (d:Dg c):aX [.sh (.str ⟨T.toArray⟩),x1, .sh (.int n)]=some (true,[.sh (.str ⟨T.toArray⟩),x1, .sh (.int n)]):=by
  have h1:decide (c < 48)=false:=decide_eq_false (by have:=d.1;omega)
  have h2:decide (57 < c)=false:=decide_eq_false (by have:=d.2;omega)
  have e1:((n:Int) < (N:Int))=True:=eq_true (by omega)
  simp only [aX,dQ,bG,af,ad,List.getElem?_cons_succ,List.getElem?_cons_zero,Sl.isBr,Bool.false_and,Bool.false_eq_true,bt,ae,ao,Option.map_some,if_false,dR,bR,look,Sl.val,aZ,Cm.i,Cm.s,Option.bind_some,az,bc,hN,hT,if_true,e1,decide_true,bF,pC,Bool.or_false,b6,hot,bx,cp,hc,uN,kC,h2,Bool.not_false,oT,h1]
theorem uP (T:List Nat) (x1:Sl) (n:Nat) (N c:Nat) (hN:T.length=N) (hT:N≤1000000) (hn:n < N) (hc:T[n]? =some c) (d:¬Dg c):aX [.sh (.str ⟨T.toArray⟩),x1, .sh (.int n)]=some (false,[.sh (.str ⟨T.toArray⟩),x1, .sh (.int n)]):=by
  have e1:((n:Int) < (N:Int))=True:=eq_true (by omega)
  by_cases h:c < 48
  · have h1:decide (c < 48)=true:=decide_eq_true h
    simp only [aX,dQ,bG,af,ad,List.getElem?_cons_succ,List.getElem?_cons_zero,Sl.isBr,Bool.false_and,Bool.false_eq_true,bt,ae,ao,Option.map_some,if_false,dR,bR,look,Sl.val,aZ,Cm.i,Cm.s,Option.bind_some,az,bc,hN,hT,if_true,e1,decide_true,bF,pC,Bool.or_false,b6,hot,bx,cp,hc,uN,kC,oT,h1,Bool.not_true]
  · have h1:decide (c < 48)=false:=decide_eq_false h
    have h2:decide (57 < c)=true:=decide_eq_true (by unfold Dg at d;omega)
    simp only [aX,dQ,bG,af,ad,List.getElem?_cons_succ,List.getElem?_cons_zero,Sl.isBr,Bool.false_and,Bool.false_eq_true,bt,ae,ao,Option.map_some,if_false,dR,bR,look,Sl.val,aZ,Cm.i,Cm.s,Option.bind_some,az,bc,hN,hT,if_true,e1,decide_true,bF,pC,Bool.or_false,b6,hot,bx,cp,hc,uN,kC,h2,Bool.not_true,oT,h1,Bool.not_false]
theorem uQ (T:List Nat) (x1:Sl) (n:Nat) (N:Nat) (hN:T.length=N) (hT:N≤1000000) (hn:¬n < N):aX [.sh (.str ⟨T.toArray⟩),x1, .sh (.int n)]=some (false,[.sh (.str ⟨T.toArray⟩),x1, .sh (.int n)]):=by
  have e1:((n:Int) < (N:Int))=False:=eq_false (by omega)
  simp only [aX,dQ,bG,af,ad,List.getElem?_cons_succ,List.getElem?_cons_zero,Sl.isBr,Bool.false_and,Bool.false_eq_true,bt,ae,ao,Option.map_some,if_false,dR,bR,look,Sl.val,aZ,Cm.i,Cm.s,Option.bind_some,az,bc,hN,hT,if_true,e1,decide_false,bF,pC,Bool.or_false,b6,hot,bx]
theorem uR (x0 x1:Sl) (n:Nat):cC [x0,x1, .sh (.int n)]=some ([x0,x1, .sh (.int ((n+1:Nat):Int))], .nx):=by
  simp only [cC,aG,af,ad,List.getElem?_cons_succ,List.getElem?_cons_zero,Sl.isBr,Bool.false_and,Bool.false_eq_true,pC,aC,look,Sl.val,hot,bx,Option.bind_some,Bool.not_false,Bool.true_or,Bool.and_true,if_false,PL.settle,frz,frzAll,List.length_cons,List.length_nil,Nat.zero_add,Nat.reduceAdd,Nat.reduceLT,List.set_cons_succ,List.set_cons_zero,if_true]
  rfl
theorem dE {T D:List Nat} {n c:Nat} (h:T.drop n=c::D):T[n]? =some c∧n < T.length∧T.drop (n+1)=D:=by
  have hn:n < T.length:=by
    rcases Nat.lt_or_ge n T.length with z | z
    · exact z
    · rw [List.drop_of_length_le z] at h;cases h
  rw [List.drop_eq_getElem_cons hn] at h
  injection h with h1 h2
  exact ⟨by rw [List.getElem?_eq_getElem hn,h1],hn,h2⟩
theorem uS (T:List Nat) (x1:Sl) (hT:T.length≤1000000):∀(D R:List Nat) (n:Nat),n≤T.length→T.drop n=D++R→(∀c∈D,Dg c)→xj R→b5 aX cC (D.length+1) [.sh (.str ⟨T.toArray⟩),x1, .sh (.int n)]=some ([.sh (.str ⟨T.toArray⟩),x1, .sh (.int ((n+D.length:Nat):Int))], .nx)
  | [],R,n,hn,h,hd,hs=>by
    have e:aX [.sh (.str ⟨T.toArray⟩),x1, .sh (.int n)]=some (false,[.sh (.str ⟨T.toArray⟩),x1, .sh (.int n)]):=by
      cases R with
      | nil=>
        refine uQ T x1 n _ rfl hT fun z=>?_
        have:=congrArg List.length h
        simp at this
        omega
      | cons c R=>
        obtain ⟨a1,a2,a3⟩:=dE (by simpa using h)
        exact uP T x1 n _ c rfl hT a2 a1 (hs c rfl).2
    rw [b5,e]
    rfl
  | d::D,R,n,hn,h,hd,hs=>by
    obtain ⟨a1,a2,a3⟩:=dE (D:=D++R) (by simpa using h)
    have e:=uO T x1 n _ d rfl hT a2 a1 (hd d (List.mem_cons_self ..))
    rw [b5,e,Option.bind_some]
    simp only [if_true,uR,Option.bind_some]
    have:=uS T x1 hT D R (n+1) a2 a3 (fun c hc=>hd c (List.mem_cons_of_mem _ hc)) hs
    rw [show n+(d::D).length=n+1+D.length by simp;omega]
    exact this
theorem fT (T D R:List Nat) (n:Nat) (hT:T.length≤1000000) (hn:n≤T.length) (h:T.drop n=D++R) (hd:∀c∈D,Dg c) (hs:xj R):bY [.str ⟨T.toArray⟩, .int n]=some (.sh (.int ((n+D.length:Nat):Int))):=by
  have w:=lZ (uS T (.sh (.int n)) hT D R n hn h hd hs)
  simp only [bY,cj,List.length_cons,List.length_nil,Nat.zero_add,Nat.reduceAdd,b7,eG,ar,aG,ad,ax,List.map_cons,List.map_nil,Nat.reduceSub,List.replicate,List.cons_append,List.nil_append,List.getElem?_cons_succ,List.getElem?_cons_zero,PL.settle,frz,frzAll,Option.bind_some,Nat.reduceLT,List.set_cons_succ,List.set_cons_zero,if_true,aF,w,bz,a7,aP]
theorem ww (T:List Nat) (n:Nat):oY ⟨T.toArray⟩ (n:Int) (Str.ofString "0")=decide (T[n]? =some 48):=by
  unfold oY;rw [oT];simp
theorem Ag (T:List Nat) (n:Nat):oY ⟨T.toArray⟩ (n:Int) (Str.ofString "-")=decide (T[n]? =some 45):=by
  unfold oY;rw [xi];simp
theorem jA:((Str.ofString "0").cps.toList.length=1)=True:=eq_true (by rw [oT];rfl)
theorem kD:((Str.ofString "-").cps.toList.length=1)=True:=eq_true (by rw [xi];rfl)
def fU (t:Int):List Nat:=if t=1 then [] else NH.jF t
theorem gm (T:List Nat) (n a b:Nat) (res:Int) (h0:(T[n]? =some 48)=False) (ha:(if T[n]? =some 45 then n+1 else n)=a) (fe:bY [.str ⟨T.toArray⟩, .int a]=some (.sh (.int b)))
    (hr:(if T[a]? =some 48∨¬(1≤(b:Int) - a∧(b:Int) - a≤30) then (n:Int) else b)=res):aN [.str ⟨T.toArray⟩, .int n]=some (.sh (.int res)):=by
  have z:(0≤(n:Int))=True:=eq_true (by omega)
  have za:(0≤(a:Int))=True:=eq_true (by omega)
  have a0:oY ⟨T.toArray⟩ (n:Int) (Str.ofString "0")=false:=(ww T n).trans (decide_eq_false (of_eq_false h0))
  by_cases hm:T[n]? =some 45
  · have am:oY ⟨T.toArray⟩ (n:Int) (Str.ofString "-")=true:=(Ag T n).trans (decide_eq_true hm)
    rw [if_pos hm] at ha
    have ea:(n:Int)+1=(a:Int):=by omega
    by_cases q:T[a]? =some 48
    · have aq:oY ⟨T.toArray⟩ (a:Int) (Str.ofString "0")=true:=(ww T a).trans (decide_eq_true q)
      rw [if_pos (.inl q)] at hr
      rw [←hr]
      simp only [aN,cj,List.length_cons,List.length_nil,Nat.zero_add,Nat.reduceAdd,b7,bD,ar,aU,cQ,cH,ax,List.map_cons,List.map_nil,Nat.reduceSub,List.replicate,List.cons_append,List.nil_append,List.getElem?_cons_zero,ae,pC,Sl.isBr,Bool.false_and,Bool.false_eq_true,ad,ao,Option.map_some,if_false,Option.bind_some,List.getElem?_cons_succ,az,look,Sl.val,jA,z,and_self,a0,if_true,eX,aF,af,aC,hot,bx,Bool.not_false,Bool.true_or,Bool.and_true,aB,ea,aG,kJ,PL.settle,frz,frzAll,aA,eT,bM,bG,bF,Bool.or_false,eM,bR,iE,aZ,Cm.i,Cm.s,kD,am,Nat.reduceLT,List.set_cons_succ,List.set_cons_zero,fe,za,aq,bz,a7,aP]
    · have aq:oY ⟨T.toArray⟩ (a:Int) (Str.ofString "0")=false:=(ww T a).trans (decide_eq_false q)
      by_cases l1:1≤(b:Int) - a
      · by_cases l2:(b:Int) - a≤30
        · rw [if_neg (by simp [q,l1,l2])] at hr
          rw [←hr]
          simp only [aN,cj,List.length_cons,List.length_nil,Nat.zero_add,Nat.reduceAdd,b7,bD,ar,aU,cQ,cH,ax,List.map_cons,List.map_nil,Nat.reduceSub,List.replicate,List.cons_append,List.nil_append,List.getElem?_cons_zero,ae,pC,Sl.isBr,Bool.false_and,Bool.false_eq_true,ad,ao,Option.map_some,if_false,Option.bind_some,List.getElem?_cons_succ,az,look,Sl.val,jA,z,and_self,a0,if_true,eX,aF,af,aC,hot,bx,Bool.not_false,Bool.true_or,Bool.and_true,aB,ea,aG,kJ,PL.settle,frz,frzAll,aA,eT,bM,bG,bF,Bool.or_false,eM,bR,iE,aZ,Cm.i,Cm.s,kD,am,Nat.reduceLT,List.set_cons_succ,List.set_cons_zero,fe,za,aq,l2,decide_true,l1,Bool.not_true,bz,a7,aP]
        · rw [if_pos (by simp [q,l1,l2])] at hr
          rw [←hr]
          simp only [aN,cj,List.length_cons,List.length_nil,Nat.zero_add,Nat.reduceAdd,b7,bD,ar,aU,cQ,cH,ax,List.map_cons,List.map_nil,Nat.reduceSub,List.replicate,List.cons_append,List.nil_append,List.getElem?_cons_zero,ae,pC,Sl.isBr,Bool.false_and,Bool.false_eq_true,ad,ao,Option.map_some,if_false,Option.bind_some,List.getElem?_cons_succ,az,look,Sl.val,jA,z,and_self,a0,if_true,eX,aF,af,aC,hot,bx,Bool.not_false,Bool.true_or,Bool.and_true,aB,ea,aG,kJ,PL.settle,frz,frzAll,aA,eT,bM,bG,bF,Bool.or_false,eM,bR,iE,aZ,Cm.i,Cm.s,kD,am,Nat.reduceLT,List.set_cons_succ,List.set_cons_zero,fe,za,aq,l2,decide_false,l1,decide_true,bz,a7,aP]
      · rw [if_pos (by simp [q,l1])] at hr
        rw [←hr]
        simp only [aN,cj,List.length_cons,List.length_nil,Nat.zero_add,Nat.reduceAdd,b7,bD,ar,aU,cQ,cH,ax,List.map_cons,List.map_nil,Nat.reduceSub,List.replicate,List.cons_append,List.nil_append,List.getElem?_cons_zero,ae,pC,Sl.isBr,Bool.false_and,Bool.false_eq_true,ad,ao,Option.map_some,if_false,Option.bind_some,List.getElem?_cons_succ,az,look,Sl.val,jA,z,and_self,a0,if_true,eX,aF,af,aC,hot,bx,Bool.not_false,Bool.true_or,Bool.and_true,aB,ea,aG,kJ,PL.settle,frz,frzAll,aA,eT,bM,bG,bF,Bool.or_false,eM,bR,iE,aZ,Cm.i,Cm.s,kD,am,Nat.reduceLT,List.set_cons_succ,List.set_cons_zero,fe,za,aq,l1,decide_false,bz,a7,aP]
  · have am:oY ⟨T.toArray⟩ (n:Int) (Str.ofString "-")=false:=(Ag T n).trans (decide_eq_false hm)
    rw [if_neg hm] at ha
    subst ha
    by_cases l1:1≤(b:Int) - n
    · by_cases l2:(b:Int) - n≤30
      · rw [if_neg (by simp [h0,l1,l2])] at hr
        rw [←hr]
        simp only [aN,cj,List.length_cons,List.length_nil,Nat.zero_add,Nat.reduceAdd,b7,bD,ar,aU,cQ,cH,ax,List.map_cons,List.map_nil,Nat.reduceSub,List.replicate,List.cons_append,List.nil_append,List.getElem?_cons_zero,ae,pC,Sl.isBr,Bool.false_and,Bool.false_eq_true,ad,ao,Option.map_some,if_false,Option.bind_some,List.getElem?_cons_succ,az,look,Sl.val,jA,z,and_self,a0,if_true,eX,aF,af,aC,hot,bx,Bool.not_false,Bool.true_or,Bool.and_true,aB,aG,kJ,PL.settle,frz,frzAll,aA,eT,bM,bG,bF,Bool.or_false,eM,bR,iE,aZ,Cm.i,Cm.s,kD,am,Nat.reduceLT,List.set_cons_succ,List.set_cons_zero,fe,l2,decide_true,l1,Bool.not_true,bz,a7,aP]
      · rw [if_pos (by simp [l1,l2])] at hr
        rw [←hr]
        simp only [aN,cj,List.length_cons,List.length_nil,Nat.zero_add,Nat.reduceAdd,b7,bD,ar,aU,cQ,cH,ax,List.map_cons,List.map_nil,Nat.reduceSub,List.replicate,List.cons_append,List.nil_append,List.getElem?_cons_zero,ae,pC,Sl.isBr,Bool.false_and,Bool.false_eq_true,ad,ao,Option.map_some,if_false,Option.bind_some,List.getElem?_cons_succ,az,look,Sl.val,jA,z,and_self,a0,if_true,eX,aF,af,aC,hot,bx,Bool.not_false,Bool.true_or,Bool.and_true,aB,aG,kJ,PL.settle,frz,frzAll,aA,eT,bM,bG,bF,Bool.or_false,eM,bR,iE,aZ,Cm.i,Cm.s,kD,am,Nat.reduceLT,List.set_cons_succ,List.set_cons_zero,fe,l2,decide_false,l1,decide_true,bz,a7,aP]
    · rw [if_pos (by simp [l1])] at hr
      rw [←hr]
      simp only [aN,cj,List.length_cons,List.length_nil,Nat.zero_add,Nat.reduceAdd,b7,bD,ar,aU,cQ,cH,ax,List.map_cons,List.map_nil,Nat.reduceSub,List.replicate,List.cons_append,List.nil_append,List.getElem?_cons_zero,ae,pC,Sl.isBr,Bool.false_and,Bool.false_eq_true,ad,ao,Option.map_some,if_false,Option.bind_some,List.getElem?_cons_succ,az,look,Sl.val,jA,z,and_self,a0,if_true,eX,aF,af,aC,hot,bx,Bool.not_false,Bool.true_or,Bool.and_true,aB,aG,kJ,PL.settle,frz,frzAll,aA,eT,bM,bG,bF,Bool.or_false,eM,bR,iE,aZ,Cm.i,Cm.s,kD,am,Nat.reduceLT,List.set_cons_succ,List.set_cons_zero,fe,l1,decide_false,bz,a7,aP]
theorem kE (T:List Nat) (n:Nat) (h0:T[n]? =some 48):aN [.str ⟨T.toArray⟩, .int n]=some (.sh (.int ((n+1:Nat):Int))):=by
  have z:(0≤(n:Int))=True:=eq_true (by omega)
  have a0:oY ⟨T.toArray⟩ (n:Int) (Str.ofString "0")=true:=(ww T n).trans (decide_eq_true h0)
  simp only [aN,cj,List.length_cons,List.length_nil,Nat.zero_add,Nat.reduceAdd,b7,bD,ar,aU,cQ,cH,ax,List.map_cons,List.map_nil,Nat.reduceSub,List.replicate,List.cons_append,List.nil_append,List.getElem?_cons_zero,ae,pC,Sl.isBr,Bool.false_and,Bool.false_eq_true,ad,ao,Option.map_some,if_false,Option.bind_some,List.getElem?_cons_succ,az,look,Sl.val,jA,z,and_self,a0,if_true,eX,aF,af,aC,hot,bx,Bool.not_false,Bool.true_or,Bool.and_true,aB,aG,kJ,PL.settle,frz,frzAll,aA,eT,bM,bG,bF,Bool.or_false,eM,bR,iE,aZ,Cm.i,Cm.s,bz,a7,aP]
  rfl
theorem Ah:NH.jF 0=[48]:=by decide+kernel
theorem nJ {T R:List Nat} {n:Nat} (h:T.drop n=R):T[n]? =R.head? :=by
  rw [←h,List.head?_drop]
def i7 (w:List Nat) (t:Int):Prop:=(w=[]∧t=1)∨w=NH.jF t
theorem Ai (t:Int):i7 (fU t) t:=by
  unfold fU
  split
  · rename_i h;exact .inl ⟨rfl,h⟩
  · exact .inr rfl
theorem lG (T R w:List Nat) (n:Nat) (t:Int) (hT:T.length≤1000000) (hn:n≤T.length) (hw:i7 w t) (h:T.drop n=w++R) (tb:t.natAbs < 10 ^ 30) (hs:xj R):aN [.str ⟨T.toArray⟩, .int n]=some (.sh (.int ((n+w.length:Nat):Int))):=by
  rcases hw with ⟨rfl,h1⟩ | rfl
  · have hh:=nJ h
    have nh:∀c,(c=45∨c=48)→(T[n]? =some c)=False:=fun c hc=>eq_false fun z=>by
      rw [hh] at z
      have:=hs c z
      unfold Dg at this
      omega
    have fe:=fT T [] R n hT hn h (fun _ z=>nomatch z) hs
    refine gm T n n n _ (nh 48 (.inr rfl)) (if_neg (by rw [nh 45 (.inl rfl)];exact id)) fe ?_
    rw [if_pos (.inr (by omega))]
    simp
  by_cases t0:t=0
  · subst t0
    rw [Ah] at h ⊢
    obtain ⟨a1,a2,a3⟩:=dE (D:=R) (by simpa using h)
    exact kE T n a1
  · obtain ⟨s,D,e,hs1,hD,hne,hh,hl,_⟩:=NH.oJ t0 tb
    rw [e] at h ⊢
    have hdg:∀c∈D,Dg c:=hD
    have l1:1≤D.length:=by cases D with | nil=>exact absurd rfl hne | cons=>simp
    obtain ⟨d0,D',eD⟩:∃d0 D',D=d0::D':=by cases D with | nil=>exact absurd rfl hne | cons a b=>exact ⟨a,b,rfl⟩
    have d0g:Dg d0:=hdg d0 (by rw [eD];simp)
    have d0n:d0≠48:=fun z=>hh (by rw [eD,z];rfl)
    rcases hs1 with rfl | rfl
    · have h':T.drop n=D++R:=by simpa using h
      have hh2:=nJ h'
      rw [eD] at hh2
      have hh3:T[n]? =some d0:=by simpa using hh2
      have fe:=fT T D R n hT hn h' hdg hs
      have n48:(T[n]? =some 48)=False:=eq_false fun z=>d0n (Option.some.inj (hh3.symm.trans z))
      have n45:¬T[n]? =some 45:=fun z=>by
        have:=Option.some.inj (hh3.symm.trans z)
        have:=d0g.1
        omega
      refine gm T n n (n+D.length) _ n48 (if_neg n45) fe ?_
      rw [if_neg (by rw [n48];simp;omega)]
      simp
    · obtain ⟨a1,a2,a3⟩:=dE (D:=D++R) (by simpa using h)
      have hh2:=nJ a3
      rw [eD] at hh2
      have hh3:T[n+1]? =some d0:=by simpa using hh2
      have fe:=fT T D R (n+1) hT a2 a3 hdg hs
      refine gm T n (n+1) (n+1+D.length) _ (eq_false fun z=>by rw [a1] at z;cases z) (if_pos a1) fe ?_
      rw [if_neg (by rw [hh3];simp;omega)]
      simp
      omega
def xk (n:Nat):Prop:=97≤n∧n≤122
theorem xm:(Str.ofString "a").cps.toList=[97]:=by decide+kernel
theorem xn:(Str.ofString "z").cps.toList=[122]:=by decide+kernel
theorem pU (n:Nat) (h:xk n):bX [.str ⟨#[n]⟩]=some (.sh (.bool true)):=by
  have l:(⟨#[n]⟩:Str).length=1:=rfl
  have a:decide (n < 97)=false:=decide_eq_false (by have:=h.1;omega)
  have z:decide (122 < n)=false:=decide_eq_false (by have:=h.2;omega)
  simp only [bX,cj,List.length_cons,List.length_nil,Nat.zero_add,b7,gA,aF,oa,gD,ad,ax,List.map_cons,List.map_nil,Nat.sub_self,List.replicate,List.cons_append,List.nil_append,List.getElem?_cons_zero,look,Sl.val,hG,Ty.is,vg,Option.bind_some,Option.map_some,af,bt,ae,Sl.isBr,Bool.false_and,Bool.false_eq_true,ao,if_false,dR,pC,gH,bR,bF,Bool.or_false,aZ,Cm.i,Cm.s,az,l,Nat.reduceLeDiff,Int.cast_ofNat_Int,if_true,bo,decide_true,xn,kC,z,Bool.not_false,xm,a,bz,a7,aP]
theorem kF (n:Nat) (h:n < 97):bX [.str ⟨#[n]⟩]=some (.sh (.bool false)):=by
  have l:(⟨#[n]⟩:Str).length=1:=rfl
  have a:decide (n < 97)=true:=decide_eq_true h
  simp only [bX,cj,List.length_cons,List.length_nil,Nat.zero_add,b7,gA,aF,oa,gD,ad,ax,List.map_cons,List.map_nil,Nat.sub_self,List.replicate,List.cons_append,List.nil_append,List.getElem?_cons_zero,look,Sl.val,hG,Ty.is,vg,Option.bind_some,Option.map_some,af,bt,ae,Sl.isBr,Bool.false_and,Bool.false_eq_true,ao,if_false,dR,pC,gH,bR,bF,Bool.or_false,aZ,Cm.i,Cm.s,az,l,Nat.reduceLeDiff,Int.cast_ofNat_Int,if_true,bo,decide_true,xn,kC,xm,a,Bool.not_true,bz,a7,aP]
theorem jn (T:List Nat) (n:Nat) (e:aN [.str ⟨T.toArray⟩, .int n]=some (.sh (.int n))):aO [.str ⟨T.toArray⟩, .int n]=some (.sh (.tuple [.int 1, .int n])):=by
  simp only [aO,cj,List.length_cons,List.length_nil,Nat.zero_add,Nat.reduceAdd,b7,dz,ar,aG,aA,ae,ad,ax,List.map_cons,List.map_nil,Nat.reduceSub,List.replicate,List.cons_append,List.nil_append,List.getElem?_cons_zero,Sl.isBr,Bool.false_and,Bool.false_eq_true,ao,Option.map_some,if_false,Option.bind_some,List.getElem?_cons_succ,az,look,Sl.val,e,PL.settle,frz,frzAll,Nat.reduceLT,List.set_cons_succ,List.set_cons_zero,if_true,aF,bT,bS,aV,kJ,bG,af,gH,bR,pC,bt,pA,jv,hot,bx,takeP,dm,bo,decide_true,Nat.reduceLeDiff,List.all_cons,iu,List.all_nil,Bool.and_true,Pt.val,bz,a7,aP,ba]
theorem jp (T:List Nat) (n m:Nat) (t:Int) (x:Str) (hT:(T.length≤1000000)=True) (hne:((m:Int)=(n:Int))=False) (hx:Txt.slice ⟨T.toArray⟩ (some (n:Int)) (some (m:Int))=x) (xl:(x.length≤640)=True) (xt:PySem.intText? x=some t) (e:aN [.str ⟨T.toArray⟩, .int n]=some (.sh (.int m))):aO [.str ⟨T.toArray⟩, .int n]=some (.sh (.tuple [.int t, .int m])):=by
  simp only [aO,cj,List.length_cons,List.length_nil,Nat.zero_add,Nat.reduceAdd,b7,dz,ar,aG,aA,ae,ad,ax,List.map_cons,List.map_nil,Nat.reduceSub,List.replicate,List.cons_append,List.nil_append,List.getElem?_cons_zero,Sl.isBr,Bool.false_and,Bool.false_eq_true,ao,Option.map_some,if_false,Option.bind_some,List.getElem?_cons_succ,az,look,Sl.val,e,PL.settle,frz,frzAll,Nat.reduceLT,List.set_cons_succ,List.set_cons_zero,if_true,aF,bT,bS,aV,kJ,bG,af,gH,bR,pC,bt,pA,jv,hot,bx,qU,takeP,dm,bo,hne,decide_false,bc,hT,hx,xl,xt,Nat.reduceLeDiff,List.all_cons,iu,List.all_nil,Bool.and_true,Pt.val,bz,a7,aP,ba]
def nK (p:Pc):PyData:=eL "Piece" [(.str "nail", .str ⟨#[p.1]⟩),(.str "turns", .int p.2),(.str "size", .int 1)]
theorem lH (T:List Nat) (n m c:Nat) (t:Int) (hT:(T.length≤1000000)=True) (hc:T[n]? =some c) (e:aO [.str ⟨T.toArray⟩, .int ((n:Int)+1)]=some (.sh (.tuple [.int t, .int m]))):bI [.str ⟨T.toArray⟩, .int n]=some (.sh (.tuple [nK (c,t), .int m])):=by
  simp only [bI,cj,List.length_cons,List.length_nil,Nat.zero_add,Nat.reduceAdd,b7,fj,ar,aG,aA,ae,ad,ax,List.map_cons,List.map_nil,Nat.reduceSub,List.replicate,List.cons_append,List.nil_append,List.getElem?_cons_zero,Sl.isBr,Bool.false_and,Bool.false_eq_true,af,pC,aC,look,Sl.val,hot,bx,Option.bind_some,Bool.not_false,Bool.true_or,Bool.and_true,if_false,ao,Option.map_some,List.getElem?_cons_succ,az,e,PL.settle,frz,frzAll,Nat.reduceLT,List.set_cons_succ,List.set_cons_zero,if_true,aF,bT,bS,aV,iW,b6,gL,takeP,dm,bc,hT,cp,hc,iA,iB,Nat.reduceLeDiff,List.all_cons,iu,List.all_nil,Pt.val,bz,a7,aP,ba]
  rfl
theorem sE (w:List Nat) (i j:Nat) (h1:i≤j) (h2:j≤w.length):Txt.slice (⟨w.toArray⟩:Str) (some (i:Int)) (some (j:Int))=⟨((w.drop i).take (j - i)).toArray⟩:=by
  have e:(⟨w.toArray⟩:Str).cps.toList=w:=by simp
  show PySem.StrLaws.sliceText _ _ _=_
  rw [PySem.StrLaws.sliceText_plain ⟨by omega,by omega,by rw [e];omega⟩,e]
  rw [show ((j:Int) - (i:Int)).toNat=j - i by omega,Int.toNat_natCast]
theorem hW (T R w:List Nat) (n:Nat) (t:Int) (hT:T.length≤1000000) (hn:n≤T.length) (hw:i7 w t) (h:T.drop n=w++R) (tb:t.natAbs < 10 ^ 30) (hs:xj R):aO [.str ⟨T.toArray⟩, .int n]=some (.sh (.tuple [.int t, .int ((n+w.length:Nat):Int)])):=by
  have e:=lG T R w n t hT hn hw h tb hs
  rcases hw with ⟨rfl,h1⟩ | rfl
  · subst h1
    exact jn T n (by simpa using e)
  · obtain ⟨l1,hv⟩:1≤(NH.jF t).length∧PySem.intText? ⟨(NH.jF t).toArray⟩=some t:=by
      by_cases t0:t=0
      · subst t0
        rw [Ah]
        exact ⟨by decide,by decide+kernel⟩
      · obtain ⟨s,D,e2,hs1,hD,hne,hh,hl,hv⟩:=NH.oJ t0 tb
        refine ⟨?_,hv⟩
        rw [e2,List.length_append]
        cases D with
        | nil=>exact absurd rfl hne
        | cons a b=>simp;omega
    have l2:=NH.pM tb
    have lt:n+(NH.jF t).length≤T.length:=by
      have:=congrArg List.length h
      simp only [List.length_drop,List.length_append] at this
      omega
    refine jp T n _ t ⟨(NH.jF t).toArray⟩ (eq_true hT) (eq_false (by omega)) ?_ (eq_true (by rw [bc];omega)) hv e
    rw [sE T n _ (by omega) lt,h,Nat.add_sub_cancel_left,List.take_left]
def Ch (p:Pc):List Nat:=p.1::fU p.2
theorem sG (self:List PyData→Option Sl) (T:List Nat) (n c:Nat) (r:PyData) (hT:(T.length≤1000000)=True) (hc:T[n]? =some c) (hn:bX [.str ⟨#[c]⟩]=some (.sh (.bool true))) (e:bI [.str ⟨T.toArray⟩, .int n]=some (.sh r)) (hf:aP r=true) (z:PyData):bE self [.str ⟨T.toArray⟩, .int n,z]=some (.sh r):=by
  simp only [bE,cj,List.length_cons,List.length_nil,Nat.zero_add,Nat.reduceAdd,b7,dJ,ar,aU,cQ,aA,ae,af,ad,ax,List.map_cons,List.map_nil,Nat.sub_self,List.replicate,List.cons_append,List.nil_append,List.getElem?_cons_zero,Sl.isBr,Bool.false_and,Bool.false_eq_true,b6,look,Sl.val,hot,bx,if_false,Option.bind_some,List.getElem?_cons_succ,bc,hT,if_true,cp,hc,Option.map_some,ao,az,hn,eX,aF,aB,e,bG,pC,gH,bR,bz,a7,hf]
theorem xo:(Str.ofString "(")=⟨#[40]⟩:=by decide+kernel
theorem Aj:(Str.ofString "[")=⟨#[91]⟩:=by decide+kernel
theorem yL:rP (.str ⟨#[40]⟩) (.str (Str.ofString "("))=some true:=by rw [xo];show some (decide _)=_;rw [decide_eq_true rfl]
theorem yM:rP (.str ⟨#[91]⟩) (.str (Str.ofString "["))=some true:=by rw [Aj];show some (decide _)=_;rw [decide_eq_true rfl]
theorem wx:rP (.str ⟨#[91]⟩) (.str (Str.ofString "("))=some false:=by rw [xo];show some (decide _)=_;rw [decide_eq_false (by decide)]
theorem sH (self:List PyData→Option Sl) (T:List Nat) (n:Nat) (r:PyData) (hT:(T.length≤1000000)=True) (hc:T[n]? =some 40) (z:PyData) (e:cA self [.str ⟨T.toArray⟩, .int n,z]=some (.sh r)) (hf:aP r=true):bE self [.str ⟨T.toArray⟩, .int n,z]=some (.sh r):=by
  have hn:=kF 40 (by decide)
  have q:=yL
  simp only [bE,cj,List.length_cons,List.length_nil,Nat.zero_add,Nat.reduceAdd,b7,dJ,ar,aU,cQ,aA,ae,af,ad,ax,List.map_cons,List.map_nil,Nat.sub_self,List.replicate,List.cons_append,List.nil_append,List.getElem?_cons_zero,Sl.isBr,Bool.false_and,Bool.false_eq_true,b6,look,Sl.val,hot,bx,if_false,Option.bind_some,List.getElem?_cons_succ,bc,hT,if_true,cp,hc,Option.map_some,ao,az,hn,eX,aF,aB,bG,pC,gH,bR,q,e,bz,a7,hf]
theorem sI (self:List PyData→Option Sl) (T:List Nat) (n:Nat) (r:PyData) (hT:(T.length≤1000000)=True) (hc:T[n]? =some 91) (z:PyData) (e:cK self [.str ⟨T.toArray⟩, .int n,z]=some (.sh r)) (hf:aP r=true):bE self [.str ⟨T.toArray⟩, .int n,z]=some (.sh r):=by
  have hn:=kF 91 (by decide)
  have q:=yM
  have q4:=wx
  simp only [bE,cj,List.length_cons,List.length_nil,Nat.zero_add,Nat.reduceAdd,b7,dJ,ar,aU,cQ,aA,ae,af,ad,ax,List.map_cons,List.map_nil,Nat.sub_self,List.replicate,List.cons_append,List.nil_append,List.getElem?_cons_zero,Sl.isBr,Bool.false_and,Bool.false_eq_true,b6,look,Sl.val,hot,bx,if_false,Option.bind_some,List.getElem?_cons_succ,bc,hT,if_true,cp,hc,Option.map_some,ao,az,hn,eX,aF,aB,bG,pC,gH,bR,q4,q,e,bz,a7,hf]
theorem dH {cs:List Str} {f cn:Str} {kvs:List (PyData×PyData)} {d:PyData} {E:List Sl} {i:Nat} (e:E[i]? =some (.sh (eL cn kvs))) (hc:cs.contains cn=true) (l:gw f kvs=some d):cZ cs f (ad i) E=some (.sh d,E):=by
  simp only [cZ,ad,e,Option.bind_some,look,Sl.val,hc,if_true,l,hot,bx,Bool.not_false,Bool.true_or]
theorem oZ {f:Str} {d:PyData} {r:List (PyData×PyData)}:gw f ((.str f,d)::r)=some d:=by unfold gw;rw [if_pos rfl]
theorem wy {f g:Str} {d:PyData} {r:List (PyData×PyData)} (h:g≠f):gw f ((.str g,d)::r)=gw f r:=by
  conv=>lhs;unfold gw
  rw [if_neg h]
theorem BV {f a b:Str} {x y d:PyData} {r:List (PyData×PyData)} (h1:a≠f) (h2:b≠f):gw f ((.str a,x)::(.str b,y)::(.str f,d)::r)=some d:=(wy h1).trans ((wy h2).trans oZ)
section
variable {a b c e:List PyData→Option Sl} {kvs:List (PyData×PyData)}
theorem pV:iw [("Piece",a),("Parts",b),("Times",c),("Back",e)] [eL "Piece" kvs]=a [eL "Piece" kvs]:=by
  unfold iw eL
  simp only [List.lookup_cons,beq_self_eq_true,Option.bind_some]
theorem pW:iw [("Piece",a),("Parts",b),("Times",c),("Back",e)] [eL "Parts" kvs]=b [eL "Parts" kvs]:=by
  have z:(Str.ofString "Parts" == Str.ofString "Piece")=false:=by decide+kernel
  unfold iw eL
  simp only [List.lookup_cons,z,beq_self_eq_true,Option.bind_some]
theorem pX:iw [("Piece",a),("Parts",b),("Times",c),("Back",e)] [eL "Times" kvs]=c [eL "Times" kvs]:=by
  have z:(Str.ofString "Times" == Str.ofString "Piece")=false:=by decide+kernel
  have y:(Str.ofString "Times" == Str.ofString "Parts")=false:=by decide+kernel
  unfold iw eL
  simp only [List.lookup_cons,z,y,beq_self_eq_true,Option.bind_some]
theorem pY:iw [("Piece",a),("Parts",b),("Times",c),("Back",e)] [eL "Back" kvs]=e [eL "Back" kvs]:=by
  have z:(Str.ofString "Back" == Str.ofString "Piece")=false:=by decide+kernel
  have y:(Str.ofString "Back" == Str.ofString "Parts")=false:=by decide+kernel
  have x:(Str.ofString "Back" == Str.ofString "Times")=false:=by decide+kernel
  unfold iw eL
  simp only [List.lookup_cons,z,y,x,beq_self_eq_true,Option.bind_some]
end
def Cn (cn:Str):Prop:=cn="Piece"∨cn="Parts"∨cn="Times"∨cn="Back"
theorem pZ {a:List PyData→Option Sl} {cn:Str} {kvs:List (PyData×PyData)} (h:Cn cn):iw [("Piece",a),("Parts",a),("Times",a),("Back",a)] [eL cn kvs]=a [eL cn kvs]:=by
  rcases h with rfl | rfl | rfl | rfl
  · exact pV
  · exact pW
  · exact pX
  · exact pY
theorem c4 {cn:Str} (h:Cn cn):(["Piece","Parts","Times","Back"]:List Str).contains cn=true:=by
  rcases h with rfl | rfl | rfl | rfl <;> decide+kernel
theorem c1 (s:Str):([s]:List Str).contains s=true:=by simp
structure Tk (d:PyData) (z:Int):Prop where
  ex:∃cn kvs,d=eL cn kvs∧Cn cn∧gw "size" kvs=some (.int z)
  fl:aP d=true
theorem Tk.fld {d:PyData} {z:Int} (h:Tk d z) {E:List Sl} {i:Nat} (e:E[i]? =some (.sh d)):cZ ["Piece","Parts","Times","Back"] "size" (ad i) E=some (.sh (.int z),E):=by
  obtain ⟨⟨cn,kvs,rfl,hc,l⟩,_⟩:=h
  exact dH e (c4 hc) l
theorem Tk.sz {d:PyData} {z:Int} (h:Tk d z):aI [d]=some (.sh (.int z)):=by
  have f:=h.fld (E:=[.sh d]) (i:=0) rfl
  have e:aI [d]=bJ [d]:=by
    obtain ⟨⟨cn,kvs,rfl,hc,l⟩,_⟩:=h
    exact pZ hc
  rw [e]
  simp only [bJ,cj,List.length_cons,List.length_nil,Nat.zero_add,b7,eF,aF,ax,List.map_cons,List.map_nil,Nat.sub_self,List.replicate,List.cons_append,List.nil_append,f,Option.bind_some,bz,a7,aP,if_true]
def yN (ds:List PyData) (z:Int):PyData:=eL "Parts" [(.str "kept", .tuple ds),(.str "size", .int z)]
def xp (d:PyData) (k z:Int):PyData:=eL "Times" [(.str "body",d),(.str "number", .int k),(.str "size", .int z)]
def zb (d e:PyData) (z:Int):PyData:=eL "Back" [(.str "one",d),(.str "other",e),(.str "size", .int z)]
theorem xq (p:Pc):Tk (nK p) 1:=⟨⟨_,_,rfl, .inl rfl,BV (by decide+kernel) (by decide+kernel)⟩,rfl⟩
theorem xr {ds:List PyData} (z:Int) (h:ba ds=true):Tk (yN ds z) z:=⟨⟨_,_,rfl, .inr (.inl rfl),(wy (by decide+kernel)).trans oZ⟩,by simp [yN,aP,lR,j4,nZ,rO,h]⟩
theorem qW {d:PyData} (k z:Int) (h:aP d=true):Tk (xp d k z) z:=⟨⟨_,_,rfl, .inr (.inr (.inl rfl)),BV (by decide+kernel) (by decide+kernel)⟩,by simp [xp,aP,lR,j4,nZ,rO,h]⟩
theorem qX {d e:PyData} (z:Int) (h:aP d=true) (h':aP e=true):Tk (zb d e z) z:=⟨⟨_,_,rfl, .inr (.inr (.inr rfl)),BV (by decide+kernel) (by decide+kernel)⟩,by simp [zb,aP,lR,j4,nZ,rO,h,h']⟩
theorem p8 {d:PyData} {z:Int} (h:Tk d z):vi aI d=some z:=by unfold vi;rw [h.sz]
structure It where
  A:List Nat
  d:PyData
  z:Int
  c:List Pc
def Fin (R:List Nat):Prop:=∀c,R.head? =some c→c=41∨c=44∨c=93
theorem Fin.stp {R:List Nat} (h:Fin R):xj R:=fun c hc=>by
  unfold Dg
  rcases h c hc with rfl | rfl | rfl <;> decide
def Bg (A:List Nat):Prop:=∃c,A.head? =some c∧(xk c∨c=40∨c=91)
theorem Bg.stp {A R:List Nat} (h:Bg A):xj (A++R):=fun c hc=>by
  obtain ⟨c',e,k⟩:=h
  cases A with
  | nil=>cases e
  | cons a A=>
    cases e
    have:c=c':=by simpa using hc.symm
    subst this
    unfold Dg
    unfold xk at k
    omega
structure Itm (n:Nat) (dep:Int) (x:It):Prop where
  bg:Bg x.A
  tk:Tk x.d x.z
  rd:∀(T:List Nat) (i:Nat) (R:List Nat),T.length≤1000000→T.drop i=x.A++R→xj R→bE (aH n) [.str ⟨T.toArray⟩, .int i, .int dep]=some (.sh (.tuple [x.d, .int ((i+x.A.length:Nat):Int)]))
structure Prt (n:Nat) (dep:Int) (x:It):Prop where
  tk:Tk x.d x.z
  rd:∀(T:List Nat) (i:Nat) (R:List Nat),T.length≤1000000→i≤T.length→T.drop i=x.A++R→Fin R→aH n [.str ⟨T.toArray⟩, .int i, .int dep]=some (.sh (.tuple [x.d, .int ((i+x.A.length:Nat):Int)]))
def AR (p:Pc):It:=⟨Ch p,nK p,1,[p]⟩
def BW (p:Pc) (w:List Nat):It:=⟨p.1::w,nK p,1,[p]⟩
theorem zc {d:PyData} {k:Int} (h:aP d=true):aP (.tuple [d, .int k])=true:=by simp [aP,ba,h]
theorem xu (n:Nat) (dep:Int) {p:Pc} {w:List Nat} (hw:i7 w p.2) (h:xk p.1) (hb:p.2.natAbs < 10 ^ 30):Itm n dep (BW p w):=by
  refine ⟨⟨p.1,rfl, .inl h⟩,xq p,fun T i R hT hd hs=>?_⟩
  have h':T.drop i=p.1::(w++R):=hd
  obtain ⟨a1,a2,a3⟩:=dE h'
  have e:=hW T R w (i+1) p.2 hT a2 hw a3 hb hs
  have e2:=lH T i _ p.1 p.2 (eq_true hT) a1 (by rw [show ((i:Int)+1)=((i+1:Nat):Int) by omega];exact e)
  have e3:=sG (aH n) T i p.1 _ (eq_true hT) a1 (pU _ h) e2 rfl (.int dep)
  rw [show i+(BW p w).A.length=i+1+w.length by simp [BW];omega]
  exact e3
theorem Ak (s:Str) (c:Nat) (h:s.cps.toList=[c]) (T:List Nat) (n:Nat):oY ⟨T.toArray⟩ (n:Int) s=decide (T[n]? =some c):=by
  unfold oY;rw [h];simp
theorem jq (s:Str) (c:Nat) (T:List Nat) (n:Nat) (h:s.cps.toList=[c]) (hc:T[n]? =some c):bO [.str s, .str ⟨T.toArray⟩, .int n]=some (.sh (.int ((n:Int)+1))):=by
  have z:(0≤(n:Int))=True:=eq_true (by omega)
  have a0:oY ⟨T.toArray⟩ (n:Int) s=true:=(Ak s c h T n).trans (decide_eq_true hc)
  have o:(s.cps.toList.length=1)=True:=eq_true (by rw [h];rfl)
  simp only [bO,cj,List.length_cons,List.length_nil,Nat.zero_add,Nat.reduceAdd,b7,iY,ar,aU,bM,cQ,cH,ax,List.map_cons,List.map_nil,Nat.sub_self,List.replicate,List.cons_append,List.nil_append,List.getElem?_cons_succ,List.getElem?_cons_zero,ae,ad,Sl.isBr,Bool.false_and,Bool.false_eq_true,ao,Option.map_some,if_false,Option.bind_some,az,look,Sl.val,o,z,and_self,a0,if_true,eX,Bool.not_true,aB,aF,af,pC,aC,hot,bx,Bool.not_false,Bool.true_or,Bool.and_true,bz,a7,aP]
theorem lI (self:List PyData→Option Sl) (T:Str) (I dep J k m z:Int) (d:PyData) (hf:aP d=true) (hz:vi aI d=some z) (hm:dP z (bd k)=true) (e1:self [.str T, .int (I+1), .int (dep+1)]=some (.sh (.tuple [d, .int J]))) (e2:bO [.str ")", .str T, .int J]=some (.sh (.int (J+1)))) (e3:aO [.str T, .int (J+1)]=some (.sh (.tuple [.int k, .int m]))):cA self [.str T, .int I, .int dep]=some (.sh (.tuple [xp d k (z*bd k), .int m])):=by
  have ff:=(qW k (z*bd k) hf).fl
  unfold xp at ff ⊢
  have ft:aP (.tuple [d, .int J])=true:=zc hf
  simp only [cA,cj,List.length_cons,List.length_nil,Nat.zero_add,Nat.reduceAdd,b7,fk,ar,aG,aA,ae,ad,ax,List.map_cons,List.map_nil,Nat.reduceSub,List.replicate,List.cons_append,List.nil_append,List.getElem?_cons_zero,Sl.isBr,Bool.false_and,Bool.false_eq_true,af,pC,aC,look,Sl.val,hot,bx,Option.bind_some,Bool.not_false,Bool.true_or,Bool.and_true,if_false,ao,Option.map_some,List.getElem?_cons_succ,az,e1,PL.settle,frz,frzAll,Nat.reduceLT,List.set_cons_succ,List.set_cons_zero,if_true,b6,aF,bT,bS,aV,iW,eZ,takeP,dm,iB,e2,e3,iA,hz,hf,Bool.true_and,hm,Nat.reduceLeDiff,List.all_cons,iu,List.all_nil,Pt.val,bz,a7,aP,ba]
  exact if_pos ff
theorem nM (self:List PyData→Option Sl) (T:Str) (I dep J M z y:Int) (d e:PyData) (hf:aP d=true) (hg:aP e=true) (hz:vi aI d=some z) (hy:vi aI e=some y) (e1:self [.str T, .int (I+1), .int (dep+1)]=some (.sh (.tuple [d, .int J]))) (e2:bO [.str ",", .str T, .int J]=some (.sh (.int (J+1)))) (e3:self [.str T, .int (J+1), .int (dep+1)]=some (.sh (.tuple [e, .int M]))) (e4:bO [.str "]", .str T, .int M]=some (.sh (.int (M+1)))):cK self [.str T, .int I, .int dep]=some (.sh (.tuple [zb d e (2*(z+y)), .int (M+1)])):=by
  have ff:=(qX (2*(z+y)) hf hg).fl
  unfold zb at ff ⊢
  have ft:aP (.tuple [d, .int J])=true:=zc hf
  have fu:aP (.tuple [e, .int M])=true:=zc hg
  simp only [cK,cj,List.length_cons,List.length_nil,Nat.zero_add,Nat.reduceAdd,b7,f7,ar,aG,aA,ae,ad,ax,List.map_cons,List.map_nil,Nat.reduceSub,List.replicate,List.cons_append,List.nil_append,List.getElem?_cons_zero,Sl.isBr,Bool.false_and,Bool.false_eq_true,af,pC,aC,look,Sl.val,hot,bx,Option.bind_some,Bool.not_false,Bool.true_or,Bool.and_true,if_false,ao,Option.map_some,List.getElem?_cons_succ,az,e1,PL.settle,frz,frzAll,Nat.reduceLT,List.set_cons_succ,List.set_cons_zero,if_true,b6,aF,bT,bS,aV,iW,gM,takeP,dm,iB,e2,e3,iA,hz,hy,hf,hg,e4,Nat.reduceLeDiff,List.all_cons,iu,List.all_nil,Pt.val,bz,a7,aP,ba]
  exact if_pos ff
theorem yO:(Str.ofString ")").cps.toList=[41]:=by decide+kernel
theorem yP:(Str.ofString ",").cps.toList=[44]:=by decide+kernel
theorem yQ:(Str.ofString "]").cps.toList=[93]:=by decide+kernel
theorem uT {c:Nat} {R:List Nat} (h:c=41∨c=44∨c=93):Fin (c::R):=fun x hx=>by cases hx;exact h
def oU (x:It) (k:Int) (c:List Pc):It:=⟨40::(x.A++41::fU k),xp x.d k (x.z*bd k),x.z*bd k,c⟩
def zd (x:It) (k:Int) (w:List Nat) (c:List Pc):It:=⟨40::(x.A++41::w),xp x.d k (x.z*bd k),x.z*bd k,c⟩
theorem xv {n:Nat} {dep:Int} {x:It} {k:Int} {w:List Nat} (c:List Pc) (hw:i7 w k) (P:Prt n (dep+1) x) (hb:k.natAbs < 10 ^ 30) (hm:dP x.z (bd k)=true):Itm n dep (zd x k w c):=by
  refine ⟨⟨40,rfl, .inr (.inl rfl)⟩,qW k _ P.tk.fl,fun T i R hT hd hs=>?_⟩
  have h':T.drop i=40::(x.A++41::(w++R)):=by rw [hd];simp [zd]
  obtain ⟨a1,a2,a3⟩:=dE h'
  have r1:=P.rd T (i+1) (41::(w++R)) hT a2 a3 (uT (.inl rfl))
  have a4:T.drop (i+1+x.A.length)=41::(w++R):=by rw [←List.drop_drop,a3,List.drop_left]
  obtain ⟨b1,b2,b3⟩:=dE a4
  have e2:=jq ")" 41 T _ yO b1
  have e3:=hW T R w _ k hT b2 hw b3 hb hs
  have g1:((i:Int)+1)=((i+1:Nat):Int):=by omega
  have g2:(((i+1+x.A.length:Nat):Int)+1)=((i+1+x.A.length+1:Nat):Int):=by omega
  have e:=lI (aH n) ⟨T.toArray⟩ i dep _ k _ x.z x.d P.tk.fl (p8 P.tk) hm (by rw [g1];exact r1) e2 (by rw [g2];exact e3)
  have ff:=(qW k (x.z*bd k) P.tk.fl).fl
  have:=sH (aH n) T i _ (eq_true hT) a1 _ e (zc ff)
  rw [show i+(zd x k w c).A.length=i+1+x.A.length+1+w.length by simp [zd];omega]
  exact this
def jI (x y:It):It:=⟨91::(x.A++44::(y.A++[93])),zb x.d y.d (2*(x.z+y.z)),2*(x.z+y.z),x.c++y.c++NH.contr x.c++NH.contr y.c⟩
theorem xw {n:Nat} {dep:Int} {x y:It} (P:Prt n (dep+1) x) (Q:Prt n (dep+1) y):Itm n dep (jI x y):=by
  refine ⟨⟨91,rfl, .inr (.inr rfl)⟩,qX _ P.tk.fl Q.tk.fl,fun T i R hT hd hs=>?_⟩
  have h':T.drop i=91::(x.A++44::(y.A++93::R)):=by rw [hd];simp [jI]
  obtain ⟨a1,a2,a3⟩:=dE h'
  have r1:=P.rd T (i+1) (44::(y.A++93::R)) hT a2 a3 (uT (.inr (.inl rfl)))
  have a4:T.drop (i+1+x.A.length)=44::(y.A++93::R):=by rw [←List.drop_drop,a3,List.drop_left]
  obtain ⟨b1,b2,b3⟩:=dE a4
  have e2:=jq "," 44 T _ yP b1
  have r2:=Q.rd T (i+1+x.A.length+1) (93::R) hT b2 b3 (uT (.inr (.inr rfl)))
  have a5:T.drop (i+1+x.A.length+1+y.A.length)=93::R:=by rw [←List.drop_drop,b3,List.drop_left]
  obtain ⟨c1,c2,c3⟩:=dE a5
  have e4:=jq "]" 93 T _ yQ c1
  have g1:((i:Int)+1)=((i+1:Nat):Int):=by omega
  have g2:(((i+1+x.A.length:Nat):Int)+1)=((i+1+x.A.length+1:Nat):Int):=by omega
  have e:=nM (aH n) ⟨T.toArray⟩ i dep _ _ x.z y.z x.d y.d P.tk.fl Q.tk.fl (p8 P.tk) (p8 Q.tk) (by rw [g1];exact r1) e2 (by rw [g2];exact r2) e4
  have ff:=(qX (2*(x.z+y.z)) P.tk.fl Q.tk.fl).fl
  have:=sI (aH n) T i _ (eq_true hT) a1 _ e (zc ff)
  rw [show ((i+(jI x y).A.length:Nat):Int)=((i+1+x.A.length+1+y.A.length:Nat):Int)+1 by simp [jI];omega]
  exact this
theorem Al {c:Nat} (b:Bool) (h:decide (c∈[41,44,93])=b):(Builtin.Str.occurrences (Str.ofString "),]") ⟨#[c]⟩ 0 (Str.ofString "),]").length 1).isEmpty= !b:=by
  have h1:=PySem.StrLaws.found_one (Str.ofString "),]") c
  have e:(Str.ofString "),]").cps.toList=[41,44,93]:=by decide+kernel
  rw [e,h] at h1
  cases b <;> simpa using h1
section
variable (self:List PyData→Option Sl)
theorem qY (T:List Nat) (x1 x2 x3 x5:Sl) (n N c:Nat) (b:Bool) (hN:T.length=N) (hT:(N≤1000000)=True) (hn:n < N) (hc:T[n]? =some c) (h:decide (c∈[41,44,93])=b):bu self [.sh (.str ⟨T.toArray⟩),x1,x2,x3, .sh (.int n),x5]=some (!b,[.sh (.str ⟨T.toArray⟩),x1,x2,x3, .sh (.int n),x5]):=by
  have e1:((n:Int) < (N:Int))=True:=eq_true (by omega)
  have e2:=Al b h
  cases b <;> simp only [Bool.not_true,Bool.not_false] at e2 <;> simp only [bu,dQ,bG,af,ad,List.getElem?_cons_succ,List.getElem?_cons_zero,Sl.isBr,Bool.false_and,Bool.false_eq_true,bt,ae,ao,Option.map_some,if_false,dR,bR,look,Sl.val,aZ,Cm.i,Cm.s,Option.bind_some,az,bc,hN,hT,if_true,e1,decide_true,b6,hot,bx,pC,AN,zY,cp,hc,e2,Bool.not_true,Bool.not_false]
theorem wz (T:List Nat) (x1 x2 x3 x5:Sl) (n N:Nat) (hN:T.length=N) (hT:(N≤1000000)=True) (hn:¬n < N):bu self [.sh (.str ⟨T.toArray⟩),x1,x2,x3, .sh (.int n),x5]=some (false,[.sh (.str ⟨T.toArray⟩),x1,x2,x3, .sh (.int n),x5]):=by
  have e1:((n:Int) < (N:Int))=False:=eq_false (by omega)
  simp only [bu,dQ,bG,af,ad,List.getElem?_cons_succ,List.getElem?_cons_zero,Sl.isBr,Bool.false_and,Bool.false_eq_true,bt,ae,ao,Option.map_some,if_false,dR,bR,look,Sl.val,aZ,Cm.i,Cm.s,Option.bind_some,az,bc,hN,hT,if_true,e1,decide_false,b6,hot,bx,pC,AN,zY]
theorem wA (T:List Nat) (x1:Sl) (z o:PyData) (ds:List PyData) (n m:Int) (x5:Sl) (e:bE self [.str ⟨T.toArray⟩, .int n,z]=some (.sh (.tuple [o, .int m]))) (hl:(ds.length < 1000000)=True):cg self [.sh (.str ⟨T.toArray⟩),x1, .sh z, .ow ds, .sh (.int n),x5]=some ([.sh (.str ⟨T.toArray⟩),x1, .sh z, .ow (ds++[o]), .sh (.int m), .sh (.tuple [o, .int m])], .nx):=by
  simp only [cg,ar,aG,aA,ae,ad,List.getElem?_cons_zero,Sl.isBr,Bool.false_and,Bool.false_eq_true,ao,Option.map_some,if_false,Option.bind_some,List.getElem?_cons_succ,az,look,Sl.val,e,PL.settle,frz,frzAll,List.length_cons,List.length_nil,Nat.zero_add,Nat.reduceAdd,Nat.reduceLT,List.set_cons_succ,List.set_cons_zero,if_true,kh,ij,af,pC,b6,hot,bx,iA,hl,iB]
end
theorem wB {r:List It} {R:List Nat} (h:∀x∈r,Bg x.A) (hR:Fin R):xj (r.flatMap It.A++R):=by
  cases r with
  | nil=>exact hR.stp
  | cons x r=>rw [List.flatMap_cons,List.append_assoc];exact (h x (List.mem_cons_self ..)).stp
theorem xx (k:Nat) (dep:Int) (T:List Nat) (x1:Sl) (hT:T.length≤1000000) (R:List Nat) (hR:Fin R):∀(r acc:List It) (n:Nat) (x5:Sl),n≤T.length→T.drop n=r.flatMap It.A++R→(∀q∈r,Itm k dep q)→acc.length+r.length≤900000→∃x5',b5 (bu (aH k)) (cg (aH k)) (r.length+1) [.sh (.str ⟨T.toArray⟩),x1, .sh (.int dep), .ow (acc.map It.d), .sh (.int n),x5]=some ([.sh (.str ⟨T.toArray⟩),x1, .sh (.int dep), .ow ((acc++r).map It.d), .sh (.int ((n+(r.flatMap It.A).length:Nat):Int)),x5'], .nx)
  | [],acc,n,x5,hn,h,hr,hl=>by
    refine ⟨x5,?_⟩
    have e:bu (aH k) [.sh (.str ⟨T.toArray⟩),x1, .sh (.int dep), .ow (acc.map It.d), .sh (.int n),x5]=some (false,[.sh (.str ⟨T.toArray⟩),x1, .sh (.int dep), .ow (acc.map It.d), .sh (.int n),x5]):=by
      cases R with
      | nil=>
        refine wz _ T x1 _ _ x5 n _ rfl (eq_true hT) fun z=>?_
        have:=congrArg List.length h
        simp at this
        omega
      | cons c R=>
        obtain ⟨a1,a2,a3⟩:=dE (by simpa using h)
        exact qY _ T x1 _ _ x5 n _ c true rfl (eq_true hT) a2 a1 (decide_eq_true (by have:=hR c rfl;simp;omega))
    rw [b5,e,List.append_nil]
    rfl
  | x::r,acc,n,x5,hn,h,hr,hl=>by
    have hx:=hr x (List.mem_cons_self ..)
    have h2:T.drop n=x.A++(r.flatMap It.A++R):=by rw [h,List.flatMap_cons,List.append_assoc]
    have e:=hx.rd T n _ hT h2 (wB (fun q hq=>(hr q (List.mem_cons_of_mem _ hq)).bg) hR)
    obtain ⟨c,hc,hk⟩:=hx.bg
    obtain ⟨A',hA⟩:∃A',x.A=c::A':=by
      cases hq:x.A with
      | nil=>rw [hq] at hc;cases hc
      | cons a A=>rw [hq] at hc;cases hc;exact ⟨A,rfl⟩
    obtain ⟨a1,a2,a3⟩:=dE (D:=A'++(r.flatMap It.A++R)) (by rw [h2,hA];rfl)
    have hcc:=qY (aH k) T x1 (.sh (.int dep)) (.ow (acc.map It.d)) x5 n _ c false rfl (eq_true hT) a2 a1 (decide_eq_false (by unfold xk at hk;simp;omega))
    have hg:=wA (aH k) T x1 (.int dep) x.d (acc.map It.d) n _ x5 e (eq_true (by rw [List.length_map];simp at hl;omega))
    have n2:n+x.A.length≤T.length:=by
      have:=congrArg List.length h2
      simp at this
      omega
    have a4:T.drop (n+x.A.length)=r.flatMap It.A++R:=by rw [←List.drop_drop,h2,List.drop_left]
    obtain ⟨x5',ih⟩:=xx k dep T x1 hT R hR r (acc++[x]) (n+x.A.length) (.sh (.tuple [x.d, .int ((n+x.A.length:Nat):Int)])) n2 a4 (fun q hq=>hr q (List.mem_cons_of_mem _ hq)) (by simp at hl ⊢;omega)
    refine ⟨x5',?_⟩
    rw [List.length_cons,b5,hcc,Option.bind_some]
    simp only [if_true,Bool.not_false,hg,Option.bind_some]
    rw [show acc++x::r=acc++[x]++r by simp,List.flatMap_cons,List.length_append,←Nat.add_assoc,←ih,List.map_append]
    rfl
theorem uU:∀r:List It,(∀x∈r,Tk x.d x.z)→y_ aI (r.map It.d)=some (r.map It.z)
  | [],_=>rfl
  | x::r,h=>by
    have ih:=uU r fun q hq=>h q (List.mem_cons_of_mem _ hq)
    rw [List.map_cons,y_,(h x (List.mem_cons_self ..)).sz]
    simp only [ih,Option.map_some,List.map_cons]
theorem nN:∀r:List It,(∀x∈r,Tk x.d x.z)→ba (r.map It.d)=true
  | [],_=>rfl
  | x::r,h=>by rw [List.map_cons,ba,(h x (List.mem_cons_self ..)).fl,nN r fun q hq=>h q (List.mem_cons_of_mem _ hq)];rfl
def jJ (r:List It):It:=⟨r.flatMap It.A,yN (r.map It.d) (r.map It.z).sum,(r.map It.z).sum,r.flatMap It.c⟩
theorem lJ (self:List PyData→Option Sl) (T:Str) (I dep J z:Int) (ds:List PyData) (x5:Sl) (hd:dep≤30) (hf:aP (yN ds z)=true) (hz:eY aI [.list ds]=some [(.str "kept", .tuple ds),(.str "size", .int z)]) (w:iK (bu self) (cg self) [.sh (.str T), .sh (.int I), .sh (.int dep), .ow [], .sh (.int I), .no]=some ([.sh (.str T), .sh (.int I), .sh (.int dep), .ow ds, .sh (.int J),x5], .nx)):cj 3 6 (dh self) [.str T, .int I, .int dep]=some (.sh (.tuple [yN ds z, .int J])):=by
  have l:(30 < dep)=False:=eq_false (by omega)
  unfold yN at hf ⊢
  simp only [cj,List.length_cons,List.length_nil,Nat.zero_add,Nat.reduceAdd,b7,dh,ar,aU,bG,af,ad,ax,List.map_cons,List.map_nil,Nat.reduceSub,List.replicate,List.cons_append,List.nil_append,List.getElem?_cons_succ,List.getElem?_cons_zero,Sl.isBr,Bool.false_and,Bool.false_eq_true,pC,bR,look,Sl.val,aZ,Cm.i,Cm.s,Option.bind_some,if_false,l,decide_false,Option.map_some,aB,aG,cR,bP,Nat.reduceLeDiff,if_true,PL.settle,frz,frzAll,aF,bT,bS,aV,iW,ae,ao,takeP,dm,Nat.reduceLT,List.set_cons_succ,List.set_cons_zero,w,az,hz,List.all_cons,iu,List.all_nil,Bool.and_true,Pt.val,bz,a7,aP,ba]
  exact if_pos hf
theorem xy {n:Nat} {dep:Int} {r:List It} (hd:dep≤30) (h:∀x∈r,Itm n dep x) (hl:r.length≤900000):Prt (n+1) dep (jJ r):=by
  have ht:∀x∈r,Tk x.d x.z:=fun x hx=>(h x hx).tk
  have hf:=nN r ht
  have tk:=xr (r.map It.z).sum hf
  refine ⟨tk,fun T i R hT hi mw hR=>?_⟩
  obtain ⟨x5,e⟩:=xx n dep T (.sh (.int i)) hT R hR r [] i .no hi mw h (by simpa using hl)
  have w:=lZ e
  rw [List.nil_append] at w
  refine lJ (aH n) ⟨T.toArray⟩ i dep _ (r.map It.z).sum (r.map It.d) x5 hd tk.fl ?_ w
  have hl2:decide ((r.map It.d).length≤1000000)=true:=decide_eq_true (by rw [List.length_map];omega)
  unfold eY
  simp only [uU r ht,Option.bind_some,hf,hl2,Bool.and_self,if_true]
theorem qZ {x:It} (P:Prt 33 0 x) (hl:x.A.length≤1000000):fm [.str ⟨x.A.toArray⟩]=some (.sh x.d):=by
  have e:=P.rd x.A 0 [] hl (by omega) (by simp) fun c hc=>nomatch hc
  rw [Nat.zero_add] at e
  have e':eH [.str ⟨x.A.toArray⟩, .int 0, .int 0]=_:=e
  have f:=P.tk.fl
  have t:(x.A.length≤1000000)=True:=eq_true hl
  have ft:aP (.tuple [x.d, .int (x.A.length:Int)])=true:=zc f
  simp only [fm,cj,List.length_cons,List.length_nil,Nat.zero_add,b7,m9,ar,aU,bM,cQ,gD,ad,ax,List.map_cons,List.map_nil,Nat.reduceSub,List.replicate,List.cons_append,List.nil_append,List.getElem?_cons_zero,look,Sl.val,hG,Ty.is,vg,Option.bind_some,Option.map_some,eX,Bool.not_true,aB,Bool.false_eq_true,if_false,aG,aA,ae,Sl.isBr,Bool.false_and,pC,ao,PL.settle,frz,frzAll,bG,af,b6,hot,bx,bt,dR,bR,aZ,Cm.i,Cm.s,aF,az,e',Nat.reduceAdd,Nat.reduceLT,List.set_cons_succ,List.set_cons_zero,if_true,List.getElem?_cons_succ,iB,bc,t,Int.lt_irrefl,decide_false,iA,bz,a7,f]
theorem wC {self:List PyData→Option Sl} {d:PyData} {z:Int} {ds:List PyData} (h:Tk d z) (h1:0 < z) (h2:z≤4000) (e:self [d]=some (.ow ds)) (hf:ba ds=true):pN self [d]=some (.ow ds):=by
  have f:=h.fld (E:=[.sh d]) (i:=0) rfl
  have e0:pN self [d]=bH self [d]:=by
    obtain ⟨⟨cn,kvs,rfl,hc,l⟩,_⟩:=h
    exact pZ hc
  have l1:(4000 < z)=False:=eq_false (by omega)
  have l2:(0 < z)=True:=eq_true h1
  rw [e0]
  simp only [bH,cj,List.length_cons,List.length_nil,Nat.zero_add,b7,eP,ar,aU,bG,af,ax,List.map_cons,List.map_nil,Nat.sub_self,List.replicate,List.cons_append,List.nil_append,f,Sl.isBr,Bool.false_and,Bool.false_eq_true,pC,bR,look,Sl.val,aZ,Cm.i,Cm.s,Option.bind_some,if_false,l1,decide_false,Option.map_some,aB,aF,kJ,c0,ad,cR,bP,Nat.reduceLeDiff,if_true,l2,decide_true,List.getElem?_cons_zero,e,bz,a7,hf]
theorem wD {self:List PyData→Option Sl} {d:PyData} (h:Tk d 0):pN self [d]=some (.ow []):=by
  have f:=h.fld (E:=[.sh d]) (i:=0) rfl
  have e0:pN self [d]=bH self [d]:=by
    obtain ⟨⟨cn,kvs,rfl,hc,l⟩,_⟩:=h
    exact pZ hc
  rw [e0]
  simp only [bH,cj,List.length_cons,List.length_nil,Nat.zero_add,b7,eP,ar,aU,bG,af,ax,List.map_cons,List.map_nil,Nat.sub_self,List.replicate,List.cons_append,List.nil_append,f,Sl.isBr,Bool.false_and,Bool.false_eq_true,pC,bR,look,Sl.val,aZ,Cm.i,Cm.s,Option.bind_some,if_false,Int.reduceLT,decide_false,Option.map_some,aB,aF,kJ,cR,bP,Nat.reduceLeDiff,if_true,bz,a7,ba]
structure Co (n:Nat) (x:It):Prop where
  tk:Tk x.d x.z
  nn:0≤x.z
  co:x.z≤4000→pN (cM n) [x.d]=some (.ow (x.c.map bn))∧(x.c.length:Int)=x.z
theorem Co.mk' {n:Nat} {x:It} (tk:Tk x.d x.z) (nn:0≤x.z) (hl:x.z≤4000→(x.c.length:Int)=x.z) (h:0 < x.z→x.z≤4000→cM n [x.d]=some (.ow (x.c.map bn))):Co n x:=by
  refine ⟨tk,nn,fun h4=>⟨?_,hl h4⟩⟩
  by_cases z:x.z=0
  · have hc:x.c=[]:=List.eq_nil_of_length_eq_zero (by have:=hl h4;omega)
    rw [hc]
    rw [z] at tk
    exact wD tk
  · exact wC tk (by omega) h4 (h (by omega) h4) (bC _)
theorem uV (n:Nat) (p:Pc):Co (n+1) (AR p):=by
  refine .mk' (xq p) (show (0:Int)≤1 by decide) (fun _=>rfl) fun _ _=>?_
  have e2:cM (n+1) [nK p]=dr [nK p]:=pV
  have f1:cZ ["Piece"] "nail" (ad 0) [.sh (nK p)]=some (.sh (.str ⟨#[p.1]⟩),[.sh (nK p)]):=dH rfl (c1 _) oZ
  have f2:cZ ["Piece"] "turns" (ad 0) [.sh (nK p)]=some (.sh (.int p.2),[.sh (nK p)]):=dH rfl (c1 _) ((wy (by decide+kernel)).trans oZ)
  show cM (n+1) [nK p]=_
  rw [e2]
  simp only [dr,cj,List.length_cons,List.length_nil,Nat.zero_add,b7,e8,aF,cR,aR,gj,ax,List.map_cons,List.map_nil,Nat.sub_self,List.replicate,List.cons_append,List.nil_append,f1,frz,bP,Option.map_some,Option.bind_some,f2,Nat.reduceAdd,Nat.reduceLeDiff,if_true,bz,a7,ba,aP,Bool.and_true,AR,bn]
theorem q9 (self:List PyData→Option Sl) (x0:Sl):∀(r:List It) (acc:List Pc) (a:Sl),(∀x∈r,self [x.d]=some (.ow (x.c.map bn)))→acc.length+(r.flatMap It.c).length≤900000→∃a',eN b_ (ce self) (r.map It.d) [x0, .ow (acc.map bn),a]=some ([x0, .ow ((acc++r.flatMap It.c).map bn),a'], .nx)
  | [],acc,a,_,_=>⟨a,by rw [List.flatMap_nil,List.append_nil];rfl⟩
  | x::r,acc,a,h,hl=>by
    have hs:=h x (List.mem_cons_self ..)
    have h1:((acc.map bn).length+(x.c.map bn).length≤1000000)=True:=eq_true (by rw [List.length_map,List.length_map];simp at hl;omega)
    have ff:=bC x.c
    have st:(b_ x.d [x0, .ow (acc.map bn),a]).bind (ce self)=some ([x0, .ow ((acc++x.c).map bn), .sh x.d], .nx):=by
      rw [List.map_append]
      generalize x.c.map bn=q at hs h1 ff
      simp only [b_,aW,List.length_cons,List.length_nil,Nat.zero_add,Nat.reduceAdd,Nat.reduceLT,List.set_cons_succ,List.set_cons_zero,if_true,ce,Option.bind_some,kh,jO,List.getElem?_cons_succ,List.getElem?_cons_zero,c0,ad,look,Sl.val,hs,Option.map_some,h1]
    obtain ⟨a',e⟩:=q9 self x0 r (acc++x.c) (.sh x.d) (fun q hq=>h q (List.mem_cons_of_mem _ hq)) (by simp at hl ⊢;omega)
    refine ⟨a',?_⟩
    rw [List.map_cons,eN,st]
    rw [List.flatMap_cons,←List.append_assoc]
    exact e
theorem uW:∀r:List It,(∀x∈r,(x.c.length:Int)=x.z)→((r.flatMap It.c).length:Int)=(r.map It.z).sum
  | [],_=>rfl
  | x::r,h=>by
    have ih:=uW r fun q hq=>h q (List.mem_cons_of_mem _ hq)
    have:=h x (List.mem_cons_self ..)
    rw [List.flatMap_cons,List.length_append,List.map_cons,List.sum_cons,←ih,←this]
    omega
theorem p9:∀r:List It,(∀x∈r,0≤x.z)→0≤(r.map It.z).sum
  | [],_=>Int.le_refl _
  | x::r,h=>by
    have ih:=p9 r fun q hq=>h q (List.mem_cons_of_mem _ hq)
    have:=h x (List.mem_cons_self ..)
    rw [List.map_cons,List.sum_cons]
    omega
theorem uX:∀r:List It,(∀x∈r,0≤x.z)→∀x∈r,x.z≤(r.map It.z).sum
  | [],_,_,hx=>nomatch hx
  | y::r,h,x,hx=>by
    have s:=p9 r fun q hq=>h q (List.mem_cons_of_mem _ hq)
    rw [List.map_cons,List.sum_cons]
    rcases List.mem_cons.mp hx with e | e
    · rw [e];omega
    · have:=uX r (fun q hq=>h q (List.mem_cons_of_mem _ hq)) x e
      have:=h y (List.mem_cons_self ..)
      omega
theorem Am {n:Nat} {r:List It} (h:∀x∈r,Co n x):Co (n+1) (jJ r):=by
  have nn:∀x∈r,0≤x.z:=fun x hx=>(h x hx).nn
  have hf:=nN r fun x hx=>(h x hx).tk
  have sm:(jJ r).z≤4000→∀x∈r,x.z≤4000:=fun z x hx=>Int.le_trans (uX r nn x hx) z
  have hl:(jJ r).z≤4000→((jJ r).c.length:Int)=(jJ r).z:=fun z=>uW r fun x hx=>((h x hx).co (sm z x hx)).2
  refine .mk' (xr _ hf) (p9 r nn) hl fun z0 z4=>?_
  have e2:cM (n+1) [(jJ r).d]=du (pN (cM n)) [(jJ r).d]:=pW
  rw [e2]
  have l4:=hl z4
  obtain ⟨a',l⟩:=q9 (pN (cM n)) (.sh (jJ r).d) r [] .no (fun x hx=>((h x hx).co (sm z4 x hx)).1) (by
    have:(r.flatMap It.c).length=(jJ r).c.length:=rfl
    simp only [List.length_nil]
    omega)
  rw [List.nil_append] at l
  have k:cZ ["Parts"] "kept" (ad 0) [.sh (jJ r).d, .ow [], .no]=some (.sh (.tuple (r.map It.d)),[.sh (jJ r).d, .ow [], .no]):=dH rfl (c1 _) oZ
  have l':eN b_ (ce (pN (cM n))) (r.map It.d) [.sh (jJ r).d, .ow [], .no]=_:=l
  have fy:ba ((jJ r).c.map bn)=true:=bC _
  have cc:(jJ r).c=r.flatMap It.c:=rfl
  rw [cc] at fy ⊢
  generalize r.map It.d=q at k l'
  generalize (r.flatMap It.c).map bn=y at l' fy ⊢
  simp only [du,cj,List.length_cons,List.length_nil,Nat.zero_add,b7,e_,ar,aG,cR,bP,ax,List.map_cons,List.map_nil,Nat.reduceSub,List.replicate,List.cons_append,List.nil_append,Option.bind_some,Nat.reduceLeDiff,if_true,PL.settle,frz,frzAll,Nat.reduceAdd,Nat.reduceLT,List.set_cons_succ,List.set_cons_zero,kN,uu,aF,ad,k,l',List.getElem?_cons_succ,List.getElem?_cons_zero,Option.map_some,bz,a7,fy]
def rp (c:List Pc) (k:Int):List Pc:=if k < 0 then (List.replicate (-k).toNat (NH.contr c)).flatten else (List.replicate k.toNat c).flatten
theorem q_ {α:Type} (k:Nat) (l:List α):(List.replicate k l).flatten.length=k*l.length:=by simp
theorem p_ (c:List Pc) (k:Int):((rp c k).length:Int)=c.length*bd k:=by
  unfold rp bd
  split
  · rename_i h
    rw [q_,NH.bi,Int.natCast_mul,Int.toNat_of_nonneg (by omega),Int.mul_comm]
  · rename_i h
    rw [q_,Int.natCast_mul,Int.toNat_of_nonneg (by omega),Int.mul_comm]
theorem oV (c:List Pc) (k:Int) (h1:0 < c.length) (h:(c.length:Int)*bd k≤4000) (h2:0 < (c.length:Int)*bd k):cE [.list (c.map bn), .int k]=some (.ow ((rp c k).map bn)):=by
  have ak:0≤bd k:=by unfold bd;split <;> omega
  have kb:bd k≤4000:=by
    have:1*bd k≤(c.length:Int)*bd k:=Int.mul_le_mul_of_nonneg_right (by omega) ak
    omega
  have cb:(c.length:Int)≤4000:=by
    have a1:1≤bd k:=by
      rcases Int.lt_or_le (bd k) 1 with z | z
      · have:bd k=0:=by omega
        rw [this] at h2
        simp at h2
      · exact z
    have:(c.length:Int)*1≤(c.length:Int)*bd k:=Int.mul_le_mul_of_nonneg_left a1 (by omega)
    omega
  have lm:(c.length*(bd k).toNat≤1000000)=True:=eq_true (by
    have:((c.length*(bd k).toNat:Nat):Int)=(c.length:Int)*bd k:=by rw [Int.natCast_mul,Int.toNat_of_nonneg ak]
    omega)
  have k1:(-1000000≤bd k)=True:=eq_true (by omega)
  have k2:(bd k≤1000000)=True:=eq_true (by omega)
  by_cases hk:k < 0
  · have ea:bd k= -k:=if_pos hk
    have er:rp c k=(List.replicate (-k).toNat (NH.contr c)).flatten:=if_pos hk
    have ec:=hV c (by omega)
    have lc:(NH.contr c).length=c.length:=NH.bi c
    rw [ea] at lm k1 k2
    rw [er]
    simp only [cE,cj,List.length_cons,List.length_nil,Nat.zero_add,Nat.reduceAdd,b7,fR,aF,af,kJ,bG,ad,ax,List.map_cons,List.map_nil,Nat.sub_self,List.replicate,List.cons_append,List.nil_append,List.getElem?_cons_succ,List.getElem?_cons_zero,Sl.isBr,Bool.false_and,Bool.false_eq_true,pC,bR,look,Sl.val,aZ,Cm.i,Cm.s,Option.bind_some,if_false,hk,decide_true,Option.map_some,aA,ae,ao,az,ec,if_true,bt,jD,eR,hot,bx,Bool.not_false,Bool.true_or,Bool.and_true,List.length_map,lc,lm,k1,k2,and_self,jN,bz,a7,bC]
  · have ea:bd k=k:=if_neg hk
    have er:rp c k=(List.replicate k.toNat c).flatten:=if_neg hk
    rw [ea] at lm k1 k2
    rw [er]
    simp only [cE,cj,List.length_cons,List.length_nil,Nat.zero_add,Nat.reduceAdd,b7,fR,aF,af,kJ,bG,ad,ax,List.map_cons,List.map_nil,Nat.sub_self,List.replicate,List.cons_append,List.nil_append,List.getElem?_cons_succ,List.getElem?_cons_zero,Sl.isBr,Bool.false_and,Bool.false_eq_true,pC,bR,look,Sl.val,aZ,Cm.i,Cm.s,Option.bind_some,if_false,hk,decide_false,Option.map_some,aA,ae,ao,az,bt,jD,eR,hot,bx,Bool.not_false,Bool.true_or,Bool.and_true,List.length_map,lm,k1,k2,and_self,decide_true,jN,if_true,bz,a7,bC]
theorem An {n:Nat} {x:It} {k:Int} {c:List Pc} (h:Co n x) (hc:x.z*bd k≤4000→c=rp x.c k):Co (n+1) (oU x k c):=by
  have ak:0≤bd k:=by unfold bd;split <;> omega
  have z4:x.z*bd k≤4000→0 < x.z*bd k→x.z≤4000:=fun a b=>by
    have a1:1≤bd k:=by
      rcases Int.lt_or_le (bd k) 1 with z | z
      · have:bd k=0:=by omega
        rw [this] at b
        simp at b
      · exact z
    have:x.z*1≤x.z*bd k:=Int.mul_le_mul_of_nonneg_left a1 h.nn
    omega
  have lr:x.z*bd k≤4000→((rp x.c k).length:Int)=x.z*bd k:=fun a=>by
    rw [p_]
    by_cases b:0 < x.z*bd k
    · rw [(h.co (z4 a b)).2]
    · have b0:x.z*bd k=0:=by have:=Int.mul_nonneg h.nn ak;omega
      rcases Int.mul_eq_zero.mp b0 with q | q
      · have:=(h.co (by omega)).2
        rw [this]
      · rw [q];simp
  refine .mk' (qW k _ h.tk.fl) (Int.mul_nonneg h.nn ak) (fun a=>by
    show (c.length:Int)=x.z*bd k
    rw [hc a];exact lr a) fun z0 z4'=>?_
  have a0:0 < x.z*bd k:=z0
  have a4:x.z*bd k≤4000:=z4'
  obtain ⟨e1,e2⟩:=h.co (z4 a4 a0)
  have p1:0 < x.c.length:=by
    rcases Nat.eq_zero_or_pos x.c.length with q | q
    · rw [q] at e2
      rw [←e2] at a0
      simp at a0
    · exact q
  have er:=oV x.c k p1 (by rw [e2];exact a4) (by rw [e2];exact a0)
  have e3:cM (n+1) [(oU x k c).d]=dw (pN (cM n)) [(oU x k c).d]:=pX
  rw [e3]
  have f1:cZ ["Times"] "body" (ad 0) [.sh (oU x k c).d]=some (.sh x.d,[.sh (oU x k c).d]):=dH rfl (c1 _) oZ
  have f2:cZ ["Times"] "number" (ad 0) [.sh (oU x k c).d]=some (.sh (.int k),[.sh (oU x k c).d]):=dH rfl (c1 _) ((wy (by decide+kernel)).trans oZ)
  have cc:(oU x k c).c=rp x.c k:=hc a4
  have fy:=bC (rp x.c k)
  rw [cc]
  generalize (rp x.c k).map bn=y at er fy ⊢
  simp only [dw,cj,List.length_cons,List.length_nil,Nat.zero_add,b7,fg,aF,aA,ae,c0,ax,List.map_cons,List.map_nil,Nat.sub_self,List.replicate,List.cons_append,List.nil_append,f1,look,Sl.val,Option.bind_some,e1,Option.map_some,Sl.isBr,Bool.false_and,Bool.false_eq_true,ao,if_false,f2,az,er,bz,a7,fy,if_true]
theorem yR (a b:List Pc) (h:a.length+b.length≤10000):bp [.list (a.map bn), .list (b.map bn)]=some (.ow ((a++b++NH.contr a++NH.contr b).map bn)):=by
  have e1:=hV a (by omega)
  have e2:=hV b (by omega)
  have la:(NH.contr a).length=a.length:=NH.bi a
  have lb:(NH.contr b).length=b.length:=NH.bi b
  have l1:(a.length+b.length≤1000000)=True:=eq_true (by omega)
  have l2:((a++b).length+(NH.contr a).length≤1000000)=True:=eq_true (by rw [List.length_append];omega)
  have l3:((a++b++NH.contr a).length+(NH.contr b).length≤1000000)=True:=eq_true (by rw [List.length_append,List.length_append];omega)
  simp only [bp,cj,List.length_cons,List.length_nil,Nat.zero_add,Nat.reduceAdd,b7,db,aF,af,ad,ax,List.map_cons,List.map_nil,Nat.sub_self,List.replicate,List.cons_append,List.nil_append,List.getElem?_cons_zero,Sl.isBr,Bool.false_and,Bool.false_eq_true,aC,look,Sl.val,hot,bx,if_false,Option.bind_some,List.getElem?_cons_succ,Bool.not_false,Bool.true_or,Bool.and_true,List.length_map,l1,decide_true,←List.map_append,if_true,aA,ae,ao,Option.map_some,az,e1,l2,e2,l3,bz,a7,bC]
theorem Ao {n:Nat} {x y:It} (h:Co n x) (k:Co n y):Co (n+1) (jI x y):=by
  have hx:=h.nn
  have hy:=k.nn
  have nn:(jI x y).z=2*(x.z+y.z):=rfl
  refine .mk' (qX _ h.tk.fl k.tk.fl) (by omega) (fun a=>?_) fun z0 z4=>?_
  · have e1:=(h.co (by omega)).2
    have e2:=(k.co (by omega)).2
    show ((x.c++y.c++NH.contr x.c++NH.contr y.c).length:Int)=_
    simp only [List.length_append,NH.bi]
    omega
  · obtain ⟨e1,q1⟩:=h.co (by omega)
    obtain ⟨e2,q2⟩:=k.co (by omega)
    have er:=yR x.c y.c (by omega)
    have e3:cM (n+1) [(jI x y).d]=dW (pN (cM n)) [(jI x y).d]:=pY
    rw [e3]
    have f1:cZ ["Back"] "one" (ad 0) [.sh (jI x y).d]=some (.sh x.d,[.sh (jI x y).d]):=dH rfl (c1 _) oZ
    have f2:cZ ["Back"] "other" (ad 0) [.sh (jI x y).d]=some (.sh y.d,[.sh (jI x y).d]):=dH rfl (c1 _) ((wy (by decide+kernel)).trans oZ)
    have fy:=bC (jI x y).c
    have er':bp [.list (x.c.map bn), .list (y.c.map bn)]=some (.ow ((jI x y).c.map bn)):=er
    generalize (jI x y).c.map bn=w at er' fy ⊢
    simp only [dW,cj,List.length_cons,List.length_nil,Nat.zero_add,b7,fX,aF,aA,ae,c0,ax,List.map_cons,List.map_nil,Nat.sub_self,List.replicate,List.cons_append,List.nil_append,f1,look,Sl.val,Option.bind_some,e1,Option.map_some,Sl.isBr,Bool.false_and,Bool.false_eq_true,ao,if_false,f2,e2,az,er',bz,a7,fy,if_true]
theorem uY (t:Int):Str.ofString (toString t)=⟨(NH.jF t).toArray⟩:=by
  unfold NH.jF
  generalize Str.ofString (toString t)=x
  cases x
  simp
theorem gf (u v:List Nat):(⟨u.toArray⟩:Str)++(⟨v.toArray⟩:Str)=⟨(u++v).toArray⟩:=by
  show (⟨u.toArray++v.toArray⟩:Str)=_
  simp
theorem qa {t:Int} (h:t.natAbs < 10 ^ 30):t.natAbs.log2 < 1920:=by
  by_cases z:t.natAbs=0
  · rw [z];decide
  · exact (Nat.log2_lt z).mpr (Nat.lt_of_lt_of_le h (by decide+kernel))
theorem iq {t:Int} (h:t.natAbs < 10 ^ 30):(fU t).length≤31:=by
  unfold fU
  split
  · simp
  · exact NH.pM h
theorem yS (w:List Nat):Txt.mul ⟨w.toArray⟩ 0=⟨([]:List Nat).toArray⟩:=rfl
theorem wE (w:List Nat):Txt.mul ⟨w.toArray⟩ 1=⟨w.toArray⟩:=by
  unfold Txt.mul
  rw [if_neg (by decide)]
  exact if_pos (by simp)
def rh (w:List Nat):Str:=⟨w.toArray⟩
theorem h9 (t:Int) (h:t.natAbs < 10 ^ 30):bq [.int t]=some (.sh (.str ⟨(fU t).toArray⟩)):=by
  have l:(t.natAbs.log2 < 1920)=True:=eq_true (qa h)
  by_cases h1:t=1
  · have e:fU t=[]:=by unfold fU;rw [if_pos h1]
    rw [e]
    simp only [bq,cj,h1,List.length_cons,List.length_nil,Nat.zero_add,b7,dq,aF,kJ,bG,af,ad,ax,List.map_cons,List.map_nil,Nat.sub_self,List.replicate,List.cons_append,List.nil_append,List.getElem?_cons_zero,Sl.isBr,Bool.false_and,Bool.false_eq_true,pC,gH,bR,look,Sl.val,Option.bind_some,if_false,bo,decide_true,Option.map_some,bt,ae,ao,az,if_true,bz,a7,aP]
    rfl
  · have e:fU t=NH.jF t:=by unfold fU;rw [if_neg h1]
    rw [e,←uY]
    simp only [bq,cj,List.length_cons,List.length_nil,Nat.zero_add,b7,dq,aF,kJ,bG,af,ad,ax,List.map_cons,List.map_nil,Nat.sub_self,List.replicate,List.cons_append,List.nil_append,List.getElem?_cons_zero,Sl.isBr,Bool.false_and,Bool.false_eq_true,pC,gH,bR,look,Sl.val,Option.bind_some,if_false,bo,h1,decide_false,Option.map_some,bt,ae,ao,gx,az,l,if_true,bz,a7,aP]
theorem wF:∀F:List (List Nat),Txt.join "" (F.map rh)=⟨F.flatten.toArray⟩:=by
  intro F
  show Builtin.Str.glued "" _=_
  rw [StrLaws.glued_eq_join]
  induction F with
  | nil=>rfl
  | cons a F ih=>
    cases F with
    | nil=>simp [Str.join,rh]
    | cons b F=>
      have e:Str.join "" ((a::b::F).map rh)=(rh a)++""++Str.join "" ((b::F).map rh):=rfl
      rw [e,ih]
      show (⟨(a.toArray++(Str.ofString "").cps)++(b::F).flatten.toArray⟩:Str)=_
      rw [show (Str.ofString "").cps=#[] by decide+kernel]
      simp
theorem uZ:∀F:List (List Nat),((F.map rh).map (·.length)).sum+(F.map rh).length*(Str.ofString "").length=F.flatten.length:=by
  intro F
  have:(Str.ofString "").length=0:=rfl
  rw [this,Nat.mul_zero,Nat.add_zero]
  induction F with
  | nil=>rfl
  | cons a F ih=>
    simp only [List.map_cons,List.sum_cons,ih,List.flatten_cons,List.length_append]
    rw [show (rh a).length=a.length from bc a]
structure Tx (n:Nat) (x:It):Prop where
  tx:cT n [x.d]=some (.sh (.str ⟨x.A.toArray⟩))
  ln:x.A.length≤400000
theorem Ap (n:Nat) {p:Pc} (h:p.2.natAbs < 10 ^ 30):Tx (n+1) (AR p):=by
  have l:=iq h
  refine ⟨?_,by show (p.1::fU p.2).length≤_;rw [List.length_cons];omega⟩
  have e2:cT (n+1) [nK p]=dt [nK p]:=pV
  have f1:cZ ["Piece"] "nail" (ad 0) [.sh (nK p)]=some (.sh (.str ⟨#[p.1]⟩),[.sh (nK p)]):=dH rfl (c1 _) oZ
  have f2:cZ ["Piece"] "turns" (ad 0) [.sh (nK p)]=some (.sh (.int p.2),[.sh (nK p)]):=dH rfl (c1 _) ((wy (by decide+kernel)).trans oZ)
  have e:=h9 p.2 h
  have hl:((⟨#[p.1]⟩:Str).length+(⟨(fU p.2).toArray⟩:Str).length≤1000000)=True:=eq_true (by show 1+(fU p.2).toArray.size≤1000000;rw [List.size_toArray];omega)
  have a:(⟨#[p.1]⟩:Str)++(⟨(fU p.2).toArray⟩:Str)=⟨(Ch p).toArray⟩:=gf [p.1] _
  show cT (n+1) [nK p]=_
  rw [e2]
  simp only [dt,cj,List.length_cons,List.length_nil,Nat.zero_add,b7,e9,aF,af,ax,List.map_cons,List.map_nil,Nat.sub_self,List.replicate,List.cons_append,List.nil_append,f1,Sl.isBr,Bool.false_and,Bool.false_eq_true,aA,ae,ao,Option.map_some,if_false,aC,look,Sl.val,hot,bx,Option.bind_some,f2,az,e,Bool.not_false,Bool.true_or,Bool.and_true,hl,a,if_true,bz,a7,aP,AR]
theorem rj (self:List PyData→Option Sl) (x0:Sl):∀r:List It,(∀x∈r,self [x.d]=some (.sh (.str ⟨x.A.toArray⟩)))→gW dC iz (cP self) (r.map It.d) [x0]=some (((r.map It.A).map rh).map PyData.str)
  | [],_=>rfl
  | x::r,h=>by
    have e:dC x.d [x0]=some [.sh x.d]:=rfl
    have e2:cP self [.sh x.d]=some (.sh (.str ⟨x.A.toArray⟩),[.sh x.d]):=by
      simp only [cP,c0,ad,List.getElem?_cons_zero,look,Sl.val,Option.bind_some,h x (List.mem_cons_self ..),Option.map_some]
    have ih:=rj self (.sh x.d) r fun q hq=>h q (List.mem_cons_of_mem _ hq)
    rw [List.map_cons,gW,e,Option.bind_some]
    simp only [iz,frz,Option.bind_some,e2,ih,Option.map_some,if_true,List.map_cons]
    rfl
theorem Aq (r:List It) (h:(r.flatMap It.A).length≤1000000):qL (Str.ofString "") (.list (((r.map It.A).map rh).map PyData.str))=some (.str ⟨(r.flatMap It.A).toArray⟩):=by
  have e1:=pw ((r.map It.A).map rh)
  have e2:=uZ (r.map It.A)
  have e3:=wF (r.map It.A)
  have e4:(r.map It.A).flatten=r.flatMap It.A:=by rw [List.flatMap_def]
  rw [e4] at e2 e3
  unfold qL
  simp only [e1,Option.bind_some]
  rw [e2,if_pos h,e3]
theorem Ar {n:Nat} {r:List It} (h:∀x∈r,Tx n x) (hl:r.length≤1000) (hA:(r.flatMap It.A).length≤400000):Tx (n+1) (jJ r):=by
  refine ⟨?_,hA⟩
  have e:cT (n+1) [(jJ r).d]=dv (cT n) [(jJ r).d]:=pW
  rw [e]
  have k:cZ ["Parts"] "kept" (ad 0) [.sh (jJ r).d]=some (.sh (.tuple (r.map It.d)),[.sh (jJ r).d]):=dH rfl (c1 _) oZ
  have c:=rj (cT n) .no r fun x hx=>(h x hx).tx
  have j:=Aq r (by omega)
  have ll:decide ((((r.map It.A).map rh).map PyData.str).length≤1000000)=true:=decide_eq_true (by simp only [List.length_map];omega)
  have fq:ba (((r.map It.A).map rh).map PyData.str)=true:=rX _
  have ee:(jJ r).A=r.flatMap It.A:=rfl
  rw [ee]
  generalize (r.flatMap It.A).toArray=u at j ⊢
  generalize ((r.map It.A).map rh).map PyData.str=q at c j ll fq
  generalize r.map It.d=ds at k c
  simp only [dv,cj,List.length_cons,List.length_nil,Nat.zero_add,b7,fb,aF,uA,gD,jw,uu,ax,List.map_cons,List.map_nil,Nat.sub_self,List.replicate,List.cons_append,List.nil_append,k,frz,Option.bind_some,iJ,oq,c,fq,ll,Bool.and_true,if_true,look,Sl.val,j,Option.map_some,bz,a7,aP]
theorem As {n:Nat} {x:It} {k:Int} (c:List Pc) (h:Tx n x) (hb:k.natAbs < 10 ^ 30) (hA:x.A.length≤300000):Tx (n+1) (oU x k c):=by
  have nl:=iq hb
  refine ⟨?_,by show (40::(x.A++41::fU k)).length≤_;simp only [List.length_cons,List.length_append];omega⟩
  have e3:cT (n+1) [(oU x k c).d]=dy (cT n) [(oU x k c).d]:=pX
  rw [e3]
  have f1:cZ ["Times"] "body" (ad 0) [.sh (oU x k c).d]=some (.sh x.d,[.sh (oU x k c).d]):=dH rfl (c1 _) oZ
  have f2:cZ ["Times"] "number" (ad 0) [.sh (oU x k c).d]=some (.sh (.int k),[.sh (oU x k c).d]):=dH rfl (c1 _) ((wy (by decide+kernel)).trans oZ)
  have en:=h9 k hb
  have et:=h.tx
  obtain ⟨L1,s1,h1⟩:∃L:List Nat,Str.ofString "("=⟨L.toArray⟩∧L=[40]:=⟨[40],by decide+kernel,rfl⟩
  obtain ⟨L2,s2,h2⟩:∃L:List Nat,Str.ofString ")"=⟨L.toArray⟩∧L=[41]:=⟨[41],by decide+kernel,rfl⟩
  have k1:(L1.length+x.A.length≤1000000)=True:=eq_true (by rw [h1];simp;omega)
  have k2:((L1++x.A).length+L2.length≤1000000)=True:=eq_true (by rw [h1,h2];simp;omega)
  have k3:((L1++x.A++L2).length+(fU k).length≤1000000)=True:=eq_true (by rw [h1,h2];simp;omega)
  have fin:(oU x k c).A=L1++x.A++L2++fU k:=by rw [h1,h2];show 40::(x.A++41::fU k)=_;simp
  rw [fin]
  simp only [dy,cj,List.length_cons,List.length_nil,Nat.zero_add,b7,fi,aF,af,pC,s1,ax,List.map_cons,List.map_nil,Nat.sub_self,List.replicate,List.cons_append,List.nil_append,Sl.isBr,Bool.false_and,Bool.false_eq_true,c0,look,Sl.val,aC,hot,bx,if_false,Option.bind_some,f1,et,Option.map_some,Bool.not_false,Bool.true_or,Bool.and_true,bc,k1,gf,if_true,s2,k2,aA,ae,ao,f2,az,en,k3,bz,a7,aP]
theorem At {n:Nat} {x y:It} (h:Tx n x) (h':Tx n y) (hA:x.A.length+y.A.length≤300000):Tx (n+1) (jI x y):=by
  refine ⟨?_,by show (91::(x.A++44::(y.A++[93]))).length≤_;simp only [List.length_cons,List.length_append,List.length_nil];omega⟩
  have e3:cT (n+1) [(jI x y).d]=dX (cT n) [(jI x y).d]:=pY
  rw [e3]
  have f1:cZ ["Back"] "one" (ad 0) [.sh (jI x y).d]=some (.sh x.d,[.sh (jI x y).d]):=dH rfl (c1 _) oZ
  have f2:cZ ["Back"] "other" (ad 0) [.sh (jI x y).d]=some (.sh y.d,[.sh (jI x y).d]):=dH rfl (c1 _) ((wy (by decide+kernel)).trans oZ)
  have e1:=h.tx
  have e2:=h'.tx
  obtain ⟨L1,s1,h1⟩:∃L:List Nat,Str.ofString "["=⟨L.toArray⟩∧L=[91]:=⟨[91],by decide+kernel,rfl⟩
  obtain ⟨L2,s2,h2⟩:∃L:List Nat,Str.ofString ","=⟨L.toArray⟩∧L=[44]:=⟨[44],by decide+kernel,rfl⟩
  obtain ⟨L3,s3,h3⟩:∃L:List Nat,Str.ofString "]"=⟨L.toArray⟩∧L=[93]:=⟨[93],by decide+kernel,rfl⟩
  have k1:(L1.length+x.A.length≤1000000)=True:=eq_true (by rw [h1];simp;omega)
  have k2:((L1++x.A).length+L2.length≤1000000)=True:=eq_true (by rw [h1,h2];simp;omega)
  have k3:((L1++x.A++L2).length+y.A.length≤1000000)=True:=eq_true (by rw [h1,h2];simp;omega)
  have k4:((L1++x.A++L2++y.A).length+L3.length≤1000000)=True:=eq_true (by rw [h1,h2,h3];simp;omega)
  have fin:(jI x y).A=L1++x.A++L2++y.A++L3:=by rw [h1,h2,h3];show 91::(x.A++44::(y.A++[93]))=_;simp
  rw [fin]
  simp only [dX,cj,List.length_cons,List.length_nil,Nat.zero_add,b7,fY,aF,af,pC,s1,ax,List.map_cons,List.map_nil,Nat.sub_self,List.replicate,List.cons_append,List.nil_append,Sl.isBr,Bool.false_and,Bool.false_eq_true,c0,look,Sl.val,aC,hot,bx,if_false,Option.bind_some,f1,e1,Option.map_some,Bool.not_false,Bool.true_or,Bool.and_true,bc,k1,gf,if_true,s2,k2,f2,e2,k3,s3,k4,bz,a7,aP]
def yT (c:List Pc):Prop:=∀p∈c,xk p.1
theorem kG {c:List Pc} (h:yT c):yT (NH.contr c):=fun p hp=>by
  obtain ⟨q,hq,rfl⟩:=List.mem_map.mp (show p∈c.reverse.map (fun p=>((p.1,-p.2):Pc)) from hp)
  exact h q (List.mem_reverse.mp hq)
theorem Au {c:List Pc} (k:Int) (h:yT c):yT (rp c k):=by
  unfold rp
  split
  · intro p hp
    obtain ⟨l,hl,hpl⟩:=List.mem_flatten.mp hp
    rw [(List.mem_replicate.mp hl).2] at hpl
    exact kG h p hpl
  · intro p hp
    obtain ⟨l,hl,hpl⟩:=List.mem_flatten.mp hp
    rw [(List.mem_replicate.mp hl).2] at hpl
    exact h p hpl
theorem u0 {c:List Pc} (h:yT c):NailsOk c:=fun p hp=>by have:=h p hp;unfold xk at this;omega
structure J where
  A:List Nat
  S:List Nat
  d:PyData
  c:List Pc
def J.x (j:J):It:=⟨j.A,j.d,j.c.length,j.c⟩
def J.y (j:J):It:=⟨j.S,j.d,j.c.length,j.c⟩
structure ItJ (h:Nat) (j:J):Prop where
  rx:∀(n:Nat) (dep:Int),dep+h≤30→Itm (n+h) dep j.x
  ry:∀(n:Nat) (dep:Int),dep+h≤30→Itm (n+h) dep j.y
  co:∀n:Nat,Co (n+2*h+1) j.x
  tx:∀n:Nat,Tx (n+2*h+1) j.y
  lt:yT j.c
structure TrJ (h:Nat) (j:J):Prop where
  rx:∀(n:Nat) (dep:Int),dep+h≤31→Prt (n+h) dep j.x
  ry:∀(n:Nat) (dep:Int),dep+h≤31→Prt (n+h) dep j.y
  co:∀n:Nat,Co (n+2*h) j.x
  tx:∀n:Nat,Tx (n+2*h) j.y
  lt:yT j.c
def u4 (p:Pc) (w:List Nat):J:=⟨p.1::w,p.1::fU p.2,nK p,[p]⟩
theorem u5 (m:Nat) {p:Pc} {w:List Nat} (hw:i7 w p.2) (h:xk p.1) (hb:p.2.natAbs < 10 ^ 30):ItJ m (u4 p w):=
  ⟨fun n dep _=>xu _ dep hw h hb,fun n dep _=>xu _ dep (Ai p.2) h hb,fun n=>⟨(uV (n+2*m) p).tk,(uV (n+2*m) p).nn,(uV (n+2*m) p).co⟩,fun n=>Ap (n+2*m) hb,fun q hq=>by rw [List.mem_singleton.mp hq];exact h⟩
def vj (j:J) (k:Int) (w:List Nat):J:=⟨40::(j.A++41::w),40::(j.S++41::fU k),xp j.d k (j.c.length*bd k),rp j.c k⟩
theorem xz {h:Nat} {j:J} {k:Int} {w:List Nat} (t:TrJ h j) (hw:i7 w k) (hb:k.natAbs < 10 ^ 30) (lc:j.c.length≤4000) (hS:j.S.length≤300000):ItJ h (vj j k w):=by
  have hm:dP (j.c.length:Int) (bd k)=true:=mV (by omega) (by omega)
  have ez:((rp j.c k).length:Int)=j.c.length*bd k:=p_ j.c k
  have ex:(vj j k w).x=zd j.x k w (rp j.c k):=by
    show (⟨_,_,((rp j.c k).length:Int),_⟩:It)=_
    rw [ez];rfl
  have ey:(vj j k w).y=zd j.y k (fU k) (rp j.c k):=by
    show (⟨_,_,((rp j.c k).length:Int),_⟩:It)=_
    rw [ez];rfl
  have ey2:(vj j k w).y=oU j.y k (rp j.c k):=ey
  have ex2:Co 0 (vj j k w).x→True:=fun _=>trivial
  refine ⟨fun n dep hd=>by rw [ex];exact xv _ hw (t.rx n (dep+1) (by omega)) hb hm,fun n dep hd=>by rw [ey];exact xv _ (Ai k) (t.ry n (dep+1) (by omega)) hb hm,fun n=>?_,fun n=>by rw [ey2];exact As _ (t.tx n) hb hS,Au k t.lt⟩
  have c:=An (k:=k) (c:=rp j.c k) (t.co n) fun _=>rfl
  have c':Co (n+2*h+1) ⟨40::(j.A++41::fU k),xp j.d k (j.c.length*bd k),j.c.length*bd k,rp j.c k⟩:=c
  rw [ex]
  exact ⟨c'.tk,c'.nn,c'.co⟩
def AS (a b:J):J:=⟨91::(a.A++44::(b.A++[93])),91::(a.S++44::(b.S++[93])),zb a.d b.d (2*((a.c.length:Int)+b.c.length)),a.c++b.c++NH.contr a.c++NH.contr b.c⟩
theorem Av {h:Nat} {a b:J} (s:TrJ h a) (t:TrJ h b) (hS:a.S.length+b.S.length≤300000):ItJ h (AS a b):=by
  have ez:((a.c++b.c++NH.contr a.c++NH.contr b.c).length:Int)=2*((a.c.length:Int)+b.c.length):=by
    simp only [List.length_append,NH.bi]
    omega
  have ex:(AS a b).x=jI a.x b.x:=by
    show (⟨_,_,((a.c++b.c++NH.contr a.c++NH.contr b.c).length:Int),_⟩:It)=_
    rw [ez];rfl
  have ey:(AS a b).y=jI a.y b.y:=by
    show (⟨_,_,((a.c++b.c++NH.contr a.c++NH.contr b.c).length:Int),_⟩:It)=_
    rw [ez];rfl
  refine ⟨fun n dep hd=>by rw [ex];exact xw (s.rx n (dep+1) (by omega)) (t.rx n (dep+1) (by omega)),fun n dep hd=>by rw [ey];exact xw (s.ry n (dep+1) (by omega)) (t.ry n (dep+1) (by omega)),fun n=>by rw [ex];exact Ao (s.co n) (t.co n),fun n=>by rw [ey];exact At (s.tx n) (t.tx n) hS,fun p hp=>?_⟩
  have hp:p∈a.c++b.c++NH.contr a.c++NH.contr b.c:=hp
  simp only [List.mem_append] at hp
  rcases hp with ((hp | hp) | hp) | hp
  · exact s.lt p hp
  · exact t.lt p hp
  · exact kG s.lt p hp
  · exact kG t.lt p hp
def kH (r:List J):J:=⟨r.flatMap J.A,r.flatMap J.S,yN (r.map J.d) ((r.flatMap J.c).length:Int),r.flatMap J.c⟩
theorem xA (r:List J) (f:J→It) (hf:∀j,(f j).z=(j.c.length:Int)):((r.map f).map It.z).sum=((r.flatMap J.c).length:Int):=by
  induction r with
  | nil=>rfl
  | cons j r ih=>
    rw [List.map_cons,List.map_cons,List.sum_cons,ih,hf,List.flatMap_cons,List.length_append]
    omega
theorem oW {h:Nat} {r:List J} (t:∀j∈r,ItJ h j) (hl:r.length≤1000) (hS:(r.flatMap J.S).length≤400000):TrJ (h+1) (kH r):=by
  have ex:(kH r).x=jJ (r.map J.x):=by
    unfold jJ
    rw [xA r J.x fun _=>rfl,List.flatMap_map,List.flatMap_map,List.map_map]
    rfl
  have ey:(kH r).y=jJ (r.map J.y):=by
    unfold jJ
    rw [xA r J.y fun _=>rfl,List.flatMap_map,List.flatMap_map,List.map_map]
    rfl
  have mx:∀{P:It→Prop},(∀j∈r,P j.x)→∀x∈r.map J.x,P x:=fun h x hx=>by
    obtain ⟨j,hj,rfl⟩:=List.mem_map.mp hx
    exact h j hj
  have my:∀{P:It→Prop},(∀j∈r,P j.y)→∀x∈r.map J.y,P x:=fun h x hx=>by
    obtain ⟨j,hj,rfl⟩:=List.mem_map.mp hx
    exact h j hj
  refine ⟨fun n dep hd=>?_,fun n dep hd=>?_,fun n=>?_,fun n=>?_,fun p hp=>?_⟩
  · rw [ex];exact xy (n:=n+h) (by omega) (mx fun j hj=>(t j hj).rx n dep (by omega)) (by rw [List.length_map];omega)
  · rw [ey];exact xy (n:=n+h) (by omega) (my fun j hj=>(t j hj).ry n dep (by omega)) (by rw [List.length_map];omega)
  · rw [ex];exact Am (n:=n+2*h+1) (mx fun j hj=>(t j hj).co n)
  · rw [ey];exact Ar (n:=n+2*h+1) (my fun j hj=>(t j hj).tx n) (by rw [List.length_map];exact hl) (by rw [List.flatMap_map];exact hS)
  · obtain ⟨j,hj,hpj⟩:=List.mem_flatMap.mp hp
    exact (t j hj).lt p hpj
theorem rk (W S:Str) (d:PyData) (c:List Pc) (M:Int) (t:Tk d M) (isP:pJ tab_is_Parts d=some (.bool true)) (lc:c.length≤4000) (hl:(c.length:Int)=M) (er0:fm [.str W]=some (.sh d)) (e1:fS [d]=some (.ow (c.map bn))) (e2:gz [d]=some (.sh (.str S))) (er:cu [.list (c.map bn), .list (c.map bn)]=some (.sh (.bool true))):a8 [.str W, .list (c.map bn), .str S]=some (.sh (.bool true)):=by
  have s:=t.sz
  have q:rP (.int M) (.int M)=some true:=by rw [bo,decide_eq_true rfl]
  have q2:rP (.str S) (.str S)=some true:=by show some (decide (S=S))=_;rw [decide_eq_true rfl]
  have l1:(c.length≤1000000)=True:=eq_true (by omega)
  have l2:(c.length < 1000000)=True:=eq_true (by omega)
  simp only [a8,cj,List.length_cons,List.length_nil,Nat.zero_add,Nat.reduceAdd,b7,gP,ar,aG,aA,ae,ad,ax,List.map_cons,List.map_nil,Nat.reduceSub,List.replicate,List.cons_append,List.nil_append,List.getElem?_cons_zero,Sl.isBr,Bool.false_and,Bool.false_eq_true,ao,Option.map_some,if_false,Option.bind_some,az,look,Sl.val,er0,PL.settle,frz,frzAll,Nat.reduceLT,List.set_cons_succ,List.set_cons_zero,if_true,aU,eT,bM,cQ,gD,bG,af,c0,bt,dR,mI,bR,hG,Ty.is,vg,aF,pC,aB,kh,ij,gj,aR,bP,Nat.reduceLeDiff,List.getElem?_cons_succ,isP,eX,Bool.not_true,s,List.length_map,hl,q,e1,er,e2,q2,l2,bz,a7,aP]
theorem u6 {h:Nat} {r:List J} (t:∀j∈r,ItJ h j) (hh:h≤30) (hl:r.length≤1000) (hA:(r.flatMap J.A).length≤400000) (hS:(r.flatMap J.S).length≤400000) (hc:(r.flatMap J.c).length≤4000):
    a8 [.str ⟨(r.flatMap J.A).toArray⟩, .list ((r.flatMap J.c).map bn), .str ⟨(r.flatMap J.S).toArray⟩]=some (.sh (.bool true))∧a8 [.str ⟨(r.flatMap J.S).toArray⟩, .list ((r.flatMap J.c).map bn), .str ⟨(r.flatMap J.S).toArray⟩]=some (.sh (.bool true)):=by
  have T:=oW t hl hS
  have P:Prt 33 0 (kH r).x:=by have:=T.rx (33 - (h+1)) 0 (by omega);rwa [show 33 - (h+1)+(h+1)=33 by omega] at this
  have P':Prt 33 0 (kH r).y:=by have:=T.ry (33 - (h+1)) 0 (by omega);rwa [show 33 - (h+1)+(h+1)=33 by omega] at this
  have C:Co 70 (kH r).x:=by have:=T.co (70 - 2*(h+1));rwa [show 70 - 2*(h+1)+2*(h+1)=70 by omega] at this
  have X:Tx 70 (kH r).y:=by have:=T.tx (70 - 2*(h+1));rwa [show 70 - 2*(h+1)+2*(h+1)=70 by omega] at this
  have hc':(kH r).x.z≤4000:=by show ((r.flatMap J.c).length:Int)≤4000;omega
  obtain ⟨e1,e2⟩:=C.co hc'
  have er:=nI (r.flatMap J.c) (u0 T.lt) (by omega)
  have e1':fS [(kH r).d]=some (.ow ((r.flatMap J.c).map bn)):=by unfold fS;exact e1
  have x1':gz [(kH r).d]=some (.sh (.str ⟨(r.flatMap J.S).toArray⟩)):=by unfold gz;exact X.tx
  have q1:=qZ P (show (r.flatMap J.A).length≤1000000 by omega)
  have q2:=qZ P' (show (r.flatMap J.S).length≤1000000 by omega)
  have q1':fm [.str ⟨(r.flatMap J.A).toArray⟩]=some (.sh (kH r).d):=q1
  have q2':fm [.str ⟨(r.flatMap J.S).toArray⟩]=some (.sh (kH r).d):=q2
  have tk:Tk (kH r).d ((r.flatMap J.c).length:Int):=P.tk
  have isP:pJ tab_is_Parts (kH r).d=some (.bool true):=by
    have e:pJ tab_is_Parts (kH r).d=(tab_is_Parts.lookup ("Parts":Str)).map PyData.bool:=rfl
    rw [e,show tab_is_Parts.lookup ("Parts":Str)=some true by decide+kernel]
    rfl
  generalize (kH r).d=dd at *
  exact ⟨rk _ _ dd _ _ tk isP hc rfl q1' e1' x1' er,rk _ _ dd _ _ tk isP hc rfl q2' e1' x1' er⟩
theorem wG (cell b k v c':Int) (hk:ka k=true) (hv:cell % k=v) (hc:cell / k=c') (l:Addr):∃E' r0,cI (.io l [cell,0,b]::ax 1 [.int k])=some (E', .rt r0)∧E'[0]? =some (.io l [c',0,b])∧bz r0=some (.sh (.int v)):=by
  refine ⟨[.io l [c',0,b], .sh (.int k)], .sh (.int v),?_,rfl,rfl⟩
  simp only [cI,ar,aU,bG,af,fP,ax,List.map_cons,List.map_nil,List.length_cons,List.length_nil,Nat.zero_add,Nat.sub_self,List.replicate,List.cons_append,List.nil_append,List.getElem?_cons_zero,List.getElem?_cons_succ,Option.map_some,Sl.isBr,Bool.false_and,Bool.false_eq_true,pC,gH,bR,look,Sl.val,Option.bind_some,if_false,bo,decide_true,aF,aK,ae,ad,ao,df,aB,az,List.set_cons_zero,hk,hv,hc,if_true,aA,je,iE]
theorem wH (cell m b k v z:Int) (m0:(m=0)=False) (hk:(0 < k)=True) (e:c9 [.int cell, .int (m+1)]=some (.sh (.int z))) (hv:z % k=v) (l:Addr):∃E' r0,cI (.io l [cell,m,b]::ax 1 [.int k])=some (E', .rt r0)∧E'[0]? =some (.io l [cell,m+1,b])∧bz r0=some (.sh (.int v)):=by
  refine ⟨[.io l [cell,m+1,b], .sh (.int k)], .sh (.int v),?_,rfl,rfl⟩
  simp only [cI,ar,aU,bG,af,fP,ax,List.map_cons,List.map_nil,List.length_cons,List.length_nil,Nat.zero_add,Nat.sub_self,List.replicate,List.cons_append,List.nil_append,List.getElem?_cons_zero,List.getElem?_cons_succ,Option.map_some,Sl.isBr,Bool.false_and,Bool.false_eq_true,pC,gH,bR,look,Sl.val,Option.bind_some,if_false,bo,m0,decide_false,aF,aB,gK,aC,hot,bx,Bool.not_false,Bool.true_or,Bool.and_true,aA,ae,ao,ad,je,iE,Nat.reduceAdd,Nat.reduceLT,List.set_cons_succ,List.set_cons_zero,if_true,az,e,hk,decide_true,hv]
theorem jr (cell m b k:Int) (k0:0 < k) (k1:k < 2 ^ 400) (m0:0≤m) (m1:m≤99990):∃c' m' v,av [cell,m,b] [.int k]=some (.sh (.int v),[c',m',b])∧0≤v∧v < k∧0≤m'∧m'≤m+1:=by
  by_cases h:m=0
  · subst h
    refine ⟨cell / k,0,cell % k,fW rfl rfl (wG cell b k _ _ (uG k0 k1) rfl rfl),Int.emod_nonneg _ (by omega),Int.emod_lt_of_pos _ k0,by decide,by decide⟩
  · obtain ⟨z,ez⟩:=pT cell (m+1).toNat (by omega)
    rw [show (((m+1).toNat:Nat):Int)=m+1 by omega] at ez
    exact ⟨cell,m+1,z % k,fW rfl rfl (wH cell m b k _ z (eq_false h) (eq_true k0) ez rfl),Int.emod_nonneg _ (by omega),Int.emod_lt_of_pos _ k0,by omega,by omega⟩
theorem wI (zs zs':List Int) (v:Int) (W:Str) (e:av zs [.int 11]=some (.sh (.int v),zs')) (h:(v < 9)=True) (ew:gx [.int (v - 3)]=some (.str W)) (l:Addr):∃E' r0,cJ (.io l zs::ax 1 [])=some (E', .rt r0)∧E'[0]? =some (.io l zs')∧bz r0=some (.sh (.tuple [.str W, .int (v - 3)])):=by
  refine ⟨[.io l zs', .sh (.int v)], .sh (.tuple [.str W, .int (v - 3)]),?_,rfl,rfl⟩
  simp only [cJ,ar,aG,aK,ax,List.map_nil,List.length_nil,Nat.reduceSub,List.replicate,List.nil_append,List.getElem?_cons_zero,ae,pC,Sl.isBr,Bool.false_and,Bool.false_eq_true,ao,Option.map_some,if_false,Option.bind_some,az,look,Sl.val,List.set_cons_zero,e,if_true,PL.settle,frz,frzAll,List.length_cons,Nat.zero_add,Nat.reduceAdd,Nat.reduceLT,List.set_cons_succ,aU,bG,af,ad,bR,aZ,Cm.i,Cm.s,aF,bT,bS,aV,bt,eM,iE,takeP,dm,aB,Nat.reduceLeDiff,List.all_cons,iu,List.all_nil,Bool.and_true,List.map_cons,Pt.val,List.getElem?_cons_succ,h,decide_true,ew]
theorem wJ (zs zs':List Int) (v:Int) (e:av zs [.int 11]=some (.sh (.int v),zs')) (h:(v < 9)=False) (l:Addr):∃E' r0,cJ (.io l zs::ax 1 [])=some (E', .rt r0)∧E'[0]? =some (.io l zs')∧bz r0=some (.sh (.tuple [.str "", .int 1])):=by
  refine ⟨[.io l zs', .sh (.int v)], .sh (.tuple [.str "", .int 1]),?_,rfl,rfl⟩
  simp only [cJ,ar,aG,aK,ax,List.map_nil,List.length_nil,Nat.reduceSub,List.replicate,List.nil_append,List.getElem?_cons_zero,ae,pC,Sl.isBr,Bool.false_and,Bool.false_eq_true,ao,Option.map_some,if_false,Option.bind_some,az,look,Sl.val,List.set_cons_zero,e,if_true,PL.settle,frz,frzAll,List.length_cons,Nat.zero_add,Nat.reduceAdd,Nat.reduceLT,List.set_cons_succ,aU,bG,af,ad,bR,aZ,Cm.i,Cm.s,aF,bT,bS,aV,bt,eM,iE,takeP,dm,aB,Nat.reduceLeDiff,List.all_cons,iu,List.all_nil,Bool.and_true,List.map_cons,Pt.val,List.getElem?_cons_succ,h,decide_false]
theorem u7 (cell m b:Int) (m0:0≤m) (m1:m≤99990):∃c' m' k w,be [cell,m,b] []=some (.sh (.tuple [.str ⟨w.toArray⟩, .int k]),[c',m',b])∧i7 w k∧ -5≤k∧k≤5∧0≤m'∧m'≤m+1:=by
  obtain ⟨c',m',v,e,v0,v1,a,b'⟩:=jr cell m b 11 (by decide) (by decide) m0 m1
  by_cases h:v < 9
  · have lg:(v - 3).natAbs.log2 < 1920:=qa (by omega)
    have ew:gx [.int (v - 3)]=some (.str ⟨(NH.jF (v - 3)).toArray⟩):=by
      have:gx [.int (v - 3)]=some (.str (Str.ofString (toString (v - 3)))):=if_pos lg
      rw [this,uY]
    exact ⟨c',m',v - 3,NH.jF (v - 3),fW rfl rfl (wI _ _ v _ e (eq_true h) ew), .inr rfl,by omega,by omega,a,b'⟩
  · have e0:Str.ofString ""=⟨([]:List Nat).toArray⟩:=by decide+kernel
    have:=fW (k:=0) (n:=1) rfl rfl (wJ _ _ v e (eq_false h))
    rw [e0] at this
    exact ⟨c',m',1,[],this, .inl ⟨rfl,rfl⟩,by decide,by decide,a,b'⟩
theorem aY {f g:bA} {E E1:List Sl} (h:f E=some (E1, .nx)):ar f g E=g E1:=by
  unfold ar
  rw [h]
  rfl
theorem qc {c:iR} {a b:bA} {E E1:List Sl} {r:Option (List Sl×Fl)} (h:c E=some (true,E1)) (k:a E1=r):aU c a b E=r:=by
  unfold aU
  rw [h,←k]
  rfl
def AT (self:List Int→List PyData→Option (Sl×List Int)):bA:=(aG 3 (aK 0 self (ae false (af eM false (ad 1) (pC (.int 1))) ao)))
def AU (self:List Int→List PyData→Option (Sl×List Int)):bA:=(iI (aK 0 be ao) (dI 2 (bj (aW 4) (bj (aW 5) dS))))
def AV (self:List Int→List PyData→Option (Sl×List Int)):bA:=(aG 6 (af eR false (af b6 false (ad 3) (pC (.int 1))) (bt jD (ae false (ad 5) ao))))
def ze (self:List Int→List PyData→Option (Sl×List Int)):bA:=(aU (bG (af (bR (aZ .lt)) false (ad 5) (pC (.int 0))))
  (aG 6 (af eR false (aA aM (ae false (af b6 false (ad 3) (pC (.int 1))) ao)) (bt jD (ae false (ad 5) ao))))
  aB)
def Aw (self:List Int→List PyData→Option (Sl×List Int)):bA:=(aF (bT (bS (aV (af aC false (af aC false (af aC false (pC (.str "(")) (af b6 false (ad 3) (pC (.int 0)))) (pC (.str ")"))) (ad 4)) (aV (ad 6) (aV (af aC false (af aC false (af aC false (pC (.str "(")) (af b6 false (ad 3) (pC (.int 2)))) (pC (.str ")"))) (af iV false (ad 4) (bt kO (ae false (af mI false (ad 5) (pC (.int 1))) ao)))) dm))))))
def AW (self:List Int→List PyData→Option (Sl×List Int)):bA:=(aG 7 (aK 0 self (ae false (af eM false (ad 1) (pC (.int 1))) ao)))
def AY (self:List Int→List PyData→Option (Sl×List Int)):bA:=(aG 8 (aK 0 self (ae false (af eM false (ad 1) (pC (.int 1))) ao)))
def AZ (self:List Int→List PyData→Option (Sl×List Int)):bA:=(aG 6 (af aC false (af aC false (af aC false (af b6 false (ad 7) (pC (.int 1))) (af b6 false (ad 8) (pC (.int 1)))) (aA aM (ae false (af b6 false (ad 7) (pC (.int 1))) ao))) (aA aM (ae false (af b6 false (ad 8) (pC (.int 1))) ao))))
def A8 (self:List Int→List PyData→Option (Sl×List Int)):bA:=(aF (bT (bS (aV (af aC false (af aC false (af aC false (af aC false (pC (.str "[")) (af b6 false (ad 7) (pC (.int 0)))) (pC (.str ","))) (af b6 false (ad 8) (pC (.int 0)))) (pC (.str "]"))) (aV (ad 6) (aV (af aC false (af aC false (af aC false (af aC false (pC (.str "[")) (af b6 false (ad 7) (pC (.int 2)))) (pC (.str ","))) (af b6 false (ad 8) (pC (.int 2)))) (pC (.str "]"))) dm))))))
def BX (self:List Int→List PyData→Option (Sl×List Int)):bA:=(aG 2 (aK 0 av (ae false (pC (.int 5)) ao)))
def BY (self:List Int→List PyData→Option (Sl×List Int)):bA:=(gK 0 2 (af eM false (fP 0 2) (pC (.int 1))))
def zf (self:List Int→List PyData→Option (Sl×List Int)):bA:=(aU (dQ (bG (af gH false (ad 2) (pC (.int 3)))) (bG (af (bR (aZ .gt)) false (ad 1) (pC (.int 0))))) (ar (AT self) (ar (AU self) (ar (AV self) (ar (ze self) (Aw self))))) aB)
def zh (self:List Int→List PyData→Option (Sl×List Int)):bA:=(aU (dQ (bG (af gH false (ad 2) (pC (.int 4)))) (bG (af (bR (aZ .gt)) false (ad 1) (pC (.int 0))))) (ar (AW self) (ar (AY self) (ar (AZ self) (A8 self)))) aB)
def BZ (self:List Int→List PyData→Option (Sl×List Int)):bA:=(aG 9 (af b6 true (pC (.str "abcdefghijklmnopqrstuvwxyz")) (aK 0 av (ae false (pC (.int 26)) ao))))
def A9 (self:List Int→List PyData→Option (Sl×List Int)):bA:=(iI (aK 0 be ao) (dI 2 (bj (aW 4) (bj (aW 5) dS))))
def zi (self:List Int→List PyData→Option (Sl×List Int)):bA:=(aU (bG (af gH false (ad 5) (pC (.int 5))))
  (ar (aG 5 (af eR true (af aC true (af iS false (pC (.int 10)) (pC (.int 29))) (aK 0 av (ae false (af eR false (pC (.int 9)) (af iS false (pC (.int 10)) (pC (.int 29)))) ao))) (af b6 true (cR (aR (pC (.int 1)) (aR (gD gi (pC (.int 1))) bP))) (aK 0 av (ae false (pC (.int 2)) ao)))))
  (aG 4 (bt gx (ae false (ad 5) ao))))
  aB)
def A_ (self:List Int→List PyData→Option (Sl×List Int)):bA:=(aF (bT (bS (aV (af aC false (ad 9) (ad 4)) (aV (cR (aR (gj (aR (ad 9) (aR (ad 5) bP))) bP)) (aV (af aC false (ad 9) (af iV false (ad 4) (bt kO (ae false (af mI false (ad 5) (pC (.int 1))) ao)))) dm))))))
theorem jt (self:List Int→List PyData→Option (Sl×List Int)):gQ self=(ar (BX self) (ar (BY self) (ar (zf self) (ar (zh self) (ar (BZ self) (ar (A9 self) (ar (zi self) (A_ self)))))))):=rfl
def Ba (self:List Int→List PyData→Option (Sl×List Int)):bA:=(aG 6 (aK 0 (bK self) (ae false (ad 1) ao)))
def Bb (self:List Int→List PyData→Option (Sl×List Int)):bA:=(aG 2 (af aC false (ad 2) (af b6 false (ad 6) (pC (.int 0)))))
def Bc (self:List Int→List PyData→Option (Sl×List Int)):bA:=(aG 3 (af aC false (ad 3) (af b6 false (ad 6) (pC (.int 1)))))
def Bd (self:List Int→List PyData→Option (Sl×List Int)):bA:=(aG 4 (af aC false (ad 4) (af b6 false (ad 6) (pC (.int 2)))))
def Ci (self:List Int→List PyData→Option (Sl×List Int)):bA:=(aG 3 (pA false (ad 3) qI (jv (pC (.int 1)))))
def BR (self:List Int→List PyData→Option (Sl×List Int)):bA:=(gK 0 2 (gD gi (pC (.int 1))))
def Ax (self:List Int→List PyData→Option (Sl×List Int)):bA:=(aU (bG (af (bR (aZ .gt)) false (fP 0 2) (pC (.int 0)))) (ar (Ba self) (ar (Bb self) (ar (Bc self) (Bd self)))) aB)
def Ay (self:List Int→List PyData→Option (Sl×List Int)):bA:=(aU (bG (af (bR (aZ .gt)) false (bt dR (ae false (ad 3) ao)) (pC (.int 400)))) (ar (Ci self) (BR self)) aB)
theorem ib (self:List Int→List PyData→Option (Sl×List Int)):cN self=(ar (Ax self) (Ay self)):=rfl
def Be (self:List Int→List PyData→Option (Sl×List Int)):bA:=(aG 2 (pC (.str "")))
def Bf (self:List Int→List PyData→Option (Sl×List Int)):bA:=(aG 3 (cR bP))
def Bh (self:List Int→List PyData→Option (Sl×List Int)):bA:=(aG 4 (pC (.str "")))
def Bi (self:List Int→List PyData→Option (Sl×List Int)):bA:=(kN (jg (ae false (aK 0 av (ae false (pC (.int 6)) ao)) ao)) cL
  (cN self))
def Bj (self:List Int→List PyData→Option (Sl×List Int)):bA:=(aF (bT (bS (aV (ad 2) (aV (ad 3) (aV (ad 4) dm))))))
theorem u8 (self:List Int→List PyData→Option (Sl×List Int)):fL self=(ar (Be self) (ar (Bf self) (ar (Bh self) (ar (Bi self) (Bj self))))):=rfl
section
variable (self:List Int→List PyData→Option (Sl×List Int)) (l:Addr)
theorem p0 (zs zs':List Int) (x1:Sl) (v:Int) (e:av zs [.int 5]=some (.sh (.int v),zs')):BX self [.io l zs,x1, .no, .no, .no, .no, .no, .no, .no, .no]=some ([.io l zs',x1, .sh (.int v), .no, .no, .no, .no, .no, .no, .no], .nx):=by
  simp only [BX,aG,aK,List.getElem?_cons_zero,ae,pC,Sl.isBr,Bool.false_and,Bool.false_eq_true,ao,Option.map_some,if_false,Option.bind_some,az,look,Sl.val,List.set_cons_zero,e,if_true,PL.settle,frz,frzAll,List.length_cons,List.length_nil,Nat.zero_add,Nat.reduceAdd,Nat.reduceLT,List.set_cons_succ]
theorem p1 (c m b:Int) (x1 x2:Sl):BY self [.io l [c,m,b],x1,x2, .no, .no, .no, .no, .no, .no, .no]=some ([.io l [c,m,b - 1],x1,x2, .no, .no, .no, .no, .no, .no, .no], .nx):=by
  simp only [BY,gK,af,fP,List.getElem?_cons_zero,List.getElem?_cons_succ,Option.map_some,Sl.isBr,Bool.false_and,Bool.false_eq_true,pC,eM,bR,look,Sl.val,iE,if_true,Option.bind_some,if_false,List.length_cons,List.length_nil,Nat.zero_add,Nat.reduceAdd,Nat.reduceLT,List.set_cons_succ,List.set_cons_zero]
theorem Cj (zs:List Int) (v D:Int) (h:¬(v=3∧0 < D)):zf self [.io l zs, .sh (.int D), .sh (.int v), .no, .no, .no, .no, .no, .no, .no]=some ([.io l zs, .sh (.int D), .sh (.int v), .no, .no, .no, .no, .no, .no, .no], .nx):=by
  by_cases h3:v=3
  · have hd:(0 < D)=False:=eq_false fun z=>h ⟨h3,z⟩
    simp only [zf,aU,dQ,bG,af,ad,h3,List.getElem?_cons_succ,List.getElem?_cons_zero,Sl.isBr,Bool.false_and,Bool.false_eq_true,pC,gH,bR,look,Sl.val,Option.bind_some,if_false,bo,decide_true,Option.map_some,aZ,Cm.i,Cm.s,hd,decide_false,if_true,ar,aB]
  · simp only [zf,aU,dQ,bG,af,ad,List.getElem?_cons_succ,List.getElem?_cons_zero,Sl.isBr,Bool.false_and,Bool.false_eq_true,pC,gH,bR,look,Sl.val,Option.bind_some,if_false,bo,h3,decide_false,Option.map_some,aZ,Cm.i,Cm.s,ar,aB]
theorem CK (zs:List Int) (v D:Int) (h:¬(v=4∧0 < D)):zh self [.io l zs, .sh (.int D), .sh (.int v), .no, .no, .no, .no, .no, .no, .no]=some ([.io l zs, .sh (.int D), .sh (.int v), .no, .no, .no, .no, .no, .no, .no], .nx):=by
  by_cases h3:v=4
  · have hd:(0 < D)=False:=eq_false fun z=>h ⟨h3,z⟩
    simp only [zh,aU,dQ,bG,af,ad,h3,List.getElem?_cons_succ,List.getElem?_cons_zero,Sl.isBr,Bool.false_and,Bool.false_eq_true,pC,gH,bR,look,Sl.val,Option.bind_some,if_false,bo,decide_true,Option.map_some,aZ,Cm.i,Cm.s,hd,decide_false,if_true,ar,aB]
  · simp only [zh,aU,dQ,bG,af,ad,List.getElem?_cons_succ,List.getElem?_cons_zero,Sl.isBr,Bool.false_and,Bool.false_eq_true,pC,gH,bR,look,Sl.val,Option.bind_some,if_false,bo,h3,decide_false,Option.map_some,aZ,Cm.i,Cm.s,ar,aB]
theorem q0 (zs zs':List Int) (x2:Sl) (D:Int) (ps:List Pt) (e:self zs [.int (D - 1)]=some (.tx ps,zs')):AT self [.io l zs, .sh (.int D),x2, .no, .no, .no, .no, .no, .no, .no]=some ([.io l zs', .sh (.int D),x2, .tx ps, .no, .no, .no, .no, .no, .no], .nx):=by
  simp only [AT,aG,aK,List.getElem?_cons_zero,ae,af,ad,List.getElem?_cons_succ,Sl.isBr,Bool.false_and,Bool.false_eq_true,pC,eM,bR,look,Sl.val,iE,if_true,Option.bind_some,if_false,Option.map_some,ao,az,List.set_cons_zero,e,PL.settle,frz,frzAll,List.length_cons,List.length_nil,Nat.zero_add,Nat.reduceAdd,Nat.reduceLT,List.set_cons_succ]
theorem q1 (zs zs':List Int) (x1 x2 x3:Sl) (w:Str) (k:Int) (e:be zs []=some (.sh (.tuple [.str w, .int k]),zs')):AU self [.io l zs,x1,x2,x3, .no, .no, .no, .no, .no, .no]=some ([.io l zs',x1,x2,x3, .sh (.str w), .sh (.int k), .no, .no, .no, .no], .nx):=by
  simp only [AU,iI,aK,List.getElem?_cons_zero,ao,Option.bind_some,az,List.set_cons_zero,e,Option.map_some,if_true,frz,dI,bj,aW,List.length_cons,List.length_nil,Nat.zero_add,Nat.reduceAdd,Nat.reduceLT,List.set_cons_succ,dS,List.isEmpty_nil]
end
theorem Az {w:List Nat} {k:Int} (hw:i7 w k):(k=1→Txt.mul ⟨w.toArray⟩ 0=⟨(fU k).toArray⟩)∧(k≠1→Txt.mul ⟨w.toArray⟩ 1=⟨(fU k).toArray⟩):=by
  refine ⟨fun h=>?_,fun h=>?_⟩
  · rw [yS,show fU k=[] from if_pos h]
  · rcases hw with ⟨_,h'⟩ | h'
    · exact absurd h' h
    · rw [wE,h',show fU k=NH.jF k from if_neg h]
theorem i8 {w:List Nat} {k:Int} (hw:i7 w k) (hb:k.natAbs < 10 ^ 30):w.length≤31:=by
  rcases hw with ⟨h,_⟩ | h
  · rw [h];simp
  · rw [h];exact NH.pM hb
section
variable (self:List Int→List PyData→Option (Sl×List Int)) (l:Addr)
theorem q2 (zs:List Int) (x1 x2 x4:Sl) (A S:Str) (c:List Pc) (k a:Int) (ha:bd k=a) (lm:(c.length*a.toNat≤1000000)=True) (k1:(-1000000≤a)=True) (k2:(a≤1000000)=True):AV self [.io l zs,x1,x2, .tx [.fl (.str A), .ol (c.map bn), .fl (.str S)],x4, .sh (.int k), .no, .no, .no, .no]=some ([.io l zs,x1,x2, .tx [.fl (.str A), .ol (c.map bn), .fl (.str S)],x4, .sh (.int k), .ow ((List.replicate a.toNat c).flatten.map bn), .no, .no, .no], .nx):=by
  have ab:(if k < 0 then -k else k)=a:=ha
  simp only [AV,aG,af,ad,List.getElem?_cons_succ,List.getElem?_cons_zero,Sl.isBr,Bool.false_and,Bool.false_eq_true,pC,b6,look,Sl.val,hot,bx,Option.bind_some,if_false,List.map_cons,Pt.val,List.map_nil,Option.any_some,Bool.true_and,iB,Option.map_some,aP,Bool.not_false,if_true,bt,ae,ao,jD,eR,az,ab,Bool.not_true,Bool.false_or,List.length_map,lm,k1,k2,and_self,decide_true,bC,Bool.and_true,jN,PL.settle,frz,frzAll,List.length_cons,List.length_nil,Nat.zero_add,Nat.reduceAdd,Nat.reduceLT,List.set_cons_succ,List.set_cons_zero]
theorem CL (zs:List Int) (x1 x2 x3 x4 x6:Sl) (k:Int) (h:¬k < 0):ze self [.io l zs,x1,x2,x3,x4, .sh (.int k),x6, .no, .no, .no]=some ([.io l zs,x1,x2,x3,x4, .sh (.int k),x6, .no, .no, .no], .nx):=by
  simp only [ze,aU,bG,af,ad,List.getElem?_cons_succ,List.getElem?_cons_zero,Sl.isBr,Bool.false_and,Bool.false_eq_true,pC,bR,look,Sl.val,aZ,Cm.i,Cm.s,Option.bind_some,if_false,h,decide_false,Option.map_some,aG,aA,ae,b6,hot,bx,ao,bt,jD,eR,Int.reduceNeg,PL.settle,frz,frzAll,aB]
theorem CM (zs:List Int) (x1 x2 x4 x6:Sl) (A S:Str) (c:List Pc) (k a:Int) (h:k < 0) (lc:c.length≤1000000) (ha:bd k=a) (lm:((NH.contr c).length*a.toNat≤1000000)=True) (k1:(-1000000≤a)=True) (k2:(a≤1000000)=True):ze self [.io l zs,x1,x2, .tx [.fl (.str A), .ol (c.map bn), .fl (.str S)],x4, .sh (.int k),x6, .no, .no, .no]=some ([.io l zs,x1,x2, .tx [.fl (.str A), .ol (c.map bn), .fl (.str S)],x4, .sh (.int k), .ow ((List.replicate a.toNat (NH.contr c)).flatten.map bn), .no, .no, .no], .nx):=by
  have ab:(-k)=a:=by rw [←ha];exact (if_pos h).symm
  have ec:=dD c lc
  simp only [ze,aU,bG,af,ad,List.getElem?_cons_succ,List.getElem?_cons_zero,Sl.isBr,Bool.false_and,Bool.false_eq_true,pC,bR,look,Sl.val,aZ,Cm.i,Cm.s,Option.bind_some,if_false,h,decide_true,Option.map_some,aG,aA,ae,b6,hot,bx,ao,bt,jD,eR,PL.settle,frz,frzAll,aB,List.map_cons,Pt.val,List.map_nil,Option.any_some,Bool.true_and,iB,aP,Bool.not_false,if_true,az,ec,ab,Bool.true_or,Bool.and_true,List.length_map,lm,k1,k2,and_self,jN,List.length_cons,List.length_nil,Nat.zero_add,Nat.reduceAdd,Nat.reduceLT,List.set_cons_succ,List.set_cons_zero]
theorem q4 (zs:List Int) (x1 x2:Sl) (A S w:List Nat) (cw c':List PyData) (k:Int) (lA:A.length≤300000) (lS:S.length≤300000) (hw:i7 w k) (hb:k.natAbs < 10 ^ 30) (fc:ba c'=true):∃E',Aw self [.io l zs,x1,x2, .tx [.fl (.str ⟨A.toArray⟩), .ol cw, .fl (.str ⟨S.toArray⟩)], .sh (.str ⟨w.toArray⟩), .sh (.int k), .ow c', .no, .no, .no]=some (E', .rt (.tx [.fl (.str ⟨(40::(A++41::w)).toArray⟩), .ol c', .fl (.str ⟨(40::(S++41::fU k)).toArray⟩)]))∧E'[0]? =some (.io l zs):=by
  obtain ⟨L1,s1,h1⟩:∃L:List Nat,Str.ofString "("=⟨L.toArray⟩∧L=[40]:=⟨[40],by decide+kernel,rfl⟩
  obtain ⟨L2,s2,h2⟩:∃L:List Nat,Str.ofString ")"=⟨L.toArray⟩∧L=[41]:=⟨[41],by decide+kernel,rfl⟩
  have nl:=iq hb
  have wl:=i8 hw hb
  have k1:(L1.length+A.length≤1000000)=True:=eq_true (by rw [h1];simp;omega)
  have k2:((L1++A).length+L2.length≤1000000)=True:=eq_true (by rw [h1,h2];simp;omega)
  have k3:((L1++A++L2).length+w.length≤1000000)=True:=eq_true (by rw [h1,h2];simp;omega)
  have k4:(L1.length+S.length≤1000000)=True:=eq_true (by rw [h1];simp;omega)
  have k5:((L1++S).length+L2.length≤1000000)=True:=eq_true (by rw [h1,h2];simp;omega)
  have k6:((L1++S++L2).length+(fU k).length≤1000000)=True:=eq_true (by rw [h1,h2];simp;omega)
  have f1:40::(A++41::w)=L1++A++L2++w:=by rw [h1,h2];simp
  have f2:40::(S++41::fU k)=L1++S++L2++fU k:=by rw [h1,h2];simp
  have ml:(w.length≤1000)=True:=eq_true (by omega)
  obtain ⟨m1,m2⟩:=Az hw
  refine ⟨[.io l zs,x1,x2, .tx [.fl (.str ⟨A.toArray⟩), .ol cw, .fl (.str ⟨S.toArray⟩)], .sh (.str ⟨w.toArray⟩), .sh (.int k), .no, .no, .no, .no],?_,rfl⟩
  rw [f1,f2]
  by_cases hk:k=1
  · have hd:decide (k=1)=true:=decide_eq_true hk
    have m0:=m1 hk
    simp only [Aw,aF,bT,bS,aV,af,pC,s1,Sl.isBr,Bool.false_and,Bool.false_eq_true,ad,b6,look,Sl.val,hot,bx,Option.bind_some,if_false,aC,List.getElem?_cons_succ,List.getElem?_cons_zero,List.map_cons,Pt.val,List.map_nil,Option.any_some,Bool.true_and,iA,Option.map_some,aP,Bool.not_true,Bool.not_false,Bool.true_or,Bool.and_true,bc,k1,gf,if_true,s2,k2,k3,takeP,bt,ae,mI,bR,ao,kO,iV,ko,Int.reduceNeg,dm,List.set_cons_succ,List.set_cons_zero,qK,k4,k5,bo,hd,az,ml,Int.reduceLE,and_self,m0,k6,List.length_cons,List.length_nil,Nat.zero_add,Nat.reduceAdd,Nat.reduceLeDiff,List.all_cons,iu,List.all_nil,Bool.and_false]
  · have hd:decide (k=1)=false:=decide_eq_false hk
    have m0:=m2 hk
    simp only [Aw,aF,bT,bS,aV,af,pC,s1,Sl.isBr,Bool.false_and,Bool.false_eq_true,ad,b6,look,Sl.val,hot,bx,Option.bind_some,if_false,aC,List.getElem?_cons_succ,List.getElem?_cons_zero,List.map_cons,Pt.val,List.map_nil,Option.any_some,Bool.true_and,iA,Option.map_some,aP,Bool.not_true,Bool.not_false,Bool.true_or,Bool.and_true,bc,k1,gf,if_true,s2,k2,k3,takeP,bt,ae,mI,bR,ao,kO,iV,ko,Int.reduceNeg,dm,List.set_cons_succ,List.set_cons_zero,qK,k4,k5,bo,hd,az,ml,Int.reduceLE,and_self,m0,k6,List.length_cons,List.length_nil,Nat.zero_add,Nat.reduceAdd,Nat.reduceLeDiff,List.all_cons,iu,List.all_nil,Bool.and_false]
theorem r0 (zs zs':List Int) (x2:Sl) (D:Int) (ps:List Pt) (e:self zs [.int (D - 1)]=some (.tx ps,zs')):AW self [.io l zs, .sh (.int D),x2, .no, .no, .no, .no, .no, .no, .no]=some ([.io l zs', .sh (.int D),x2, .no, .no, .no, .no, .tx ps, .no, .no], .nx):=by
  simp only [AW,aG,aK,List.getElem?_cons_zero,ae,af,ad,List.getElem?_cons_succ,Sl.isBr,Bool.false_and,Bool.false_eq_true,pC,eM,bR,look,Sl.val,iE,if_true,Option.bind_some,if_false,Option.map_some,ao,az,List.set_cons_zero,e,PL.settle,frz,frzAll,List.length_cons,List.length_nil,Nat.zero_add,Nat.reduceAdd,Nat.reduceLT,List.set_cons_succ]
theorem r1 (zs zs':List Int) (x2:Sl) (D:Int) (p7 ps:List Pt) (e:self zs [.int (D - 1)]=some (.tx ps,zs')):AY self [.io l zs, .sh (.int D),x2, .no, .no, .no, .no, .tx p7, .no, .no]=some ([.io l zs', .sh (.int D),x2, .no, .no, .no, .no, .tx p7, .tx ps, .no], .nx):=by
  simp only [AY,aG,aK,List.getElem?_cons_zero,ae,af,ad,List.getElem?_cons_succ,Sl.isBr,Bool.false_and,Bool.false_eq_true,pC,eM,bR,look,Sl.val,iE,if_true,Option.bind_some,if_false,Option.map_some,ao,az,List.set_cons_zero,e,PL.settle,frz,frzAll,List.length_cons,List.length_nil,Nat.zero_add,Nat.reduceAdd,Nat.reduceLT,List.set_cons_succ]
theorem r2 (zs:List Int) (x1 x2:Sl) (A S B T:Str) (c e:List Pc) (lc:c.length≤1000) (le:e.length≤1000):AZ self [.io l zs,x1,x2, .no, .no, .no, .no, .tx [.fl (.str A), .ol (c.map bn), .fl (.str S)], .tx [.fl (.str B), .ol (e.map bn), .fl (.str T)], .no]=some ([.io l zs,x1,x2, .no, .no, .no, .ow ((c++e++NH.contr c++NH.contr e).map bn), .tx [.fl (.str A), .ol (c.map bn), .fl (.str S)], .tx [.fl (.str B), .ol (e.map bn), .fl (.str T)], .no], .nx):=by
  have c1:=dD c (by omega)
  have c2:=dD e (by omega)
  have la:(NH.contr c).length=c.length:=NH.bi c
  have lb:(NH.contr e).length=e.length:=NH.bi e
  have l1:(c.length+e.length≤1000000)=True:=eq_true (by omega)
  have l2:((c++e).length+(NH.contr c).length≤1000000)=True:=eq_true (by rw [List.length_append];omega)
  have l3:((c++e++NH.contr c).length+(NH.contr e).length≤1000000)=True:=eq_true (by rw [List.length_append,List.length_append];omega)
  simp only [AZ,aG,af,ad,List.getElem?_cons_succ,List.getElem?_cons_zero,Sl.isBr,Bool.false_and,Bool.false_eq_true,pC,b6,look,Sl.val,hot,bx,Option.bind_some,if_false,List.map_cons,Pt.val,List.map_nil,Option.any_some,Bool.true_and,iB,Option.map_some,aP,Bool.not_false,if_true,aC,Bool.not_true,Bool.false_or,List.length_map,l1,decide_true,bC,Bool.and_true,←List.map_append,aA,ae,ao,az,c1,Bool.true_or,l2,c2,l3,PL.settle,frz,frzAll,List.length_cons,List.length_nil,Nat.zero_add,Nat.reduceAdd,Nat.reduceLT,List.set_cons_succ,List.set_cons_zero]
theorem r3 (zs:List Int) (x1 x2:Sl) (A S B T:List Nat) (ca cb c':List PyData) (lA:A.length+B.length≤300000) (lS:S.length+T.length≤300000) (fc:ba c'=true):∃E',A8 self [.io l zs,x1,x2, .no, .no, .no, .ow c', .tx [.fl (.str ⟨A.toArray⟩), .ol ca, .fl (.str ⟨S.toArray⟩)], .tx [.fl (.str ⟨B.toArray⟩), .ol cb, .fl (.str ⟨T.toArray⟩)], .no]=some (E', .rt (.tx [.fl (.str ⟨(91::(A++44::(B++[93]))).toArray⟩), .ol c', .fl (.str ⟨(91::(S++44::(T++[93]))).toArray⟩)]))∧E'[0]? =some (.io l zs):=by
  obtain ⟨L1,s1,h1⟩:∃L:List Nat,Str.ofString "["=⟨L.toArray⟩∧L=[91]:=⟨[91],by decide+kernel,rfl⟩
  obtain ⟨L2,s2,h2⟩:∃L:List Nat,Str.ofString ","=⟨L.toArray⟩∧L=[44]:=⟨[44],by decide+kernel,rfl⟩
  obtain ⟨L3,s3,h3⟩:∃L:List Nat,Str.ofString "]"=⟨L.toArray⟩∧L=[93]:=⟨[93],by decide+kernel,rfl⟩
  have k1:(L1.length+A.length≤1000000)=True:=eq_true (by rw [h1];simp;omega)
  have k2:((L1++A).length+L2.length≤1000000)=True:=eq_true (by rw [h1,h2];simp;omega)
  have k3:((L1++A++L2).length+B.length≤1000000)=True:=eq_true (by rw [h1,h2];simp;omega)
  have k4:((L1++A++L2++B).length+L3.length≤1000000)=True:=eq_true (by rw [h1,h2,h3];simp;omega)
  have k5:(L1.length+S.length≤1000000)=True:=eq_true (by rw [h1];simp;omega)
  have k6:((L1++S).length+L2.length≤1000000)=True:=eq_true (by rw [h1,h2];simp;omega)
  have k7:((L1++S++L2).length+T.length≤1000000)=True:=eq_true (by rw [h1,h2];simp;omega)
  have k8:((L1++S++L2++T).length+L3.length≤1000000)=True:=eq_true (by rw [h1,h2,h3];simp;omega)
  have f1:91::(A++44::(B++[93]))=L1++A++L2++B++L3:=by rw [h1,h2,h3];simp
  have f2:91::(S++44::(T++[93]))=L1++S++L2++T++L3:=by rw [h1,h2,h3];simp
  refine ⟨[.io l zs,x1,x2, .no, .no, .no, .no, .tx [.fl (.str ⟨A.toArray⟩), .ol ca, .fl (.str ⟨S.toArray⟩)], .tx [.fl (.str ⟨B.toArray⟩), .ol cb, .fl (.str ⟨T.toArray⟩)], .no],?_,rfl⟩
  rw [f1,f2]
  simp only [A8,aF,bT,bS,aV,af,pC,s1,Sl.isBr,Bool.false_and,Bool.false_eq_true,ad,b6,look,Sl.val,hot,bx,Option.bind_some,if_false,aC,List.getElem?_cons_succ,List.getElem?_cons_zero,List.map_cons,Pt.val,List.map_nil,Option.any_some,Bool.true_and,iA,Option.map_some,aP,Bool.not_true,Bool.not_false,Bool.true_or,Bool.and_true,bc,k1,gf,if_true,s2,k2,k3,s3,k4,takeP,dm,List.set_cons_succ,List.set_cons_zero,qK,k5,k6,k7,k8,List.length_cons,List.length_nil,Nat.zero_add,Nat.reduceAdd,Nat.reduceLeDiff,List.all_cons,iu,List.all_nil,Bool.and_false]
theorem p4 (zs zs':List Int) (x1 x2:Sl) (v:Int) (y:Nat) (w:List Nat) (ew:Str.ofString "abcdefghijklmnopqrstuvwxyz"=⟨w.toArray⟩) (lw:(w.length≤1000000)=True) (e:av zs [.int 26]=some (.sh (.int v),zs')) (ey:atI w v=some y):BZ self [.io l zs,x1,x2, .no, .no, .no, .no, .no, .no, .no]=some ([.io l zs',x1,x2, .no, .no, .no, .no, .no, .no, .sh (.str ⟨#[y]⟩)], .nx):=by
  simp only [BZ,aG,af,pC,ew,Sl.isBr,Bool.true_and,aK,ae,Bool.false_and,Bool.false_eq_true,ao,Option.map_some,if_false,Option.bind_some,az,look,Sl.val,b6,hot,bx,List.getElem?_cons_zero,List.set_cons_zero,e,if_true,bc,lw,ey,PL.settle,frz,frzAll,List.length_cons,List.length_nil,Nat.zero_add,Nat.reduceAdd,Nat.reduceLT,List.set_cons_succ]
theorem p5 (zs zs':List Int) (x1 x2 x9:Sl) (w:Str) (k:Int) (e:be zs []=some (.sh (.tuple [.str w, .int k]),zs')):A9 self [.io l zs,x1,x2, .no, .no, .no, .no, .no, .no,x9]=some ([.io l zs',x1,x2, .no, .sh (.str w), .sh (.int k), .no, .no, .no,x9], .nx):=by
  simp only [A9,iI,aK,List.getElem?_cons_zero,ao,Option.bind_some,az,List.set_cons_zero,e,Option.map_some,if_true,frz,dI,bj,aW,List.length_cons,List.length_nil,Nat.zero_add,Nat.reduceAdd,Nat.reduceLT,List.set_cons_succ,dS,List.isEmpty_nil]
theorem CN (zs:List Int) (x1 x2 x4 x9:Sl) (k:Int) (h:¬k=5):zi self [.io l zs,x1,x2, .no,x4, .sh (.int k), .no, .no, .no,x9]=some ([.io l zs,x1,x2, .no,x4, .sh (.int k), .no, .no, .no,x9], .nx):=by
  simp only [zi,aU,bG,af,ad,List.getElem?_cons_succ,List.getElem?_cons_zero,Sl.isBr,Bool.false_and,Bool.false_eq_true,pC,gH,bR,look,Sl.val,Option.bind_some,if_false,bo,h,decide_false,Option.map_some,ar,aG,iS,iE,Int.reducePow,Int.reduceNeg,Int.reduceLE,Int.reduceLT,and_self,decide_true,Int.reduceToNat,if_true,Bool.true_and,aC,hot,bx,Bool.not_false,Bool.true_or,Bool.and_true,cR,aR,frz,gD,gi,bP,List.length_cons,List.length_nil,Nat.zero_add,Nat.reduceAdd,Nat.reduceLeDiff,b6,eR,PL.settle,frzAll,bt,ae,ao,aB]
theorem CO (zs zs1 zs2:List Int) (x1 x2 x4 x9:Sl) (f1 f2 s:Int) (W:Str) (e1:av zs [.int 900000000000000000000000000000]=some (.sh (.int f1),zs1)) (e2:av zs1 [.int 2]=some (.sh (.int f2),zs2)) (es:atI [PyData.int 1, .int (-1)] f2=some (.int s)) (hm:dP (100000000000000000000000000000+f1) s=true) (ew:gx [.int ((100000000000000000000000000000+f1)*s)]=some (.str W)):zi self [.io l zs,x1,x2, .no,x4, .sh (.int 5), .no, .no, .no,x9]=some ([.io l zs2,x1,x2, .no, .sh (.str W), .sh (.int ((100000000000000000000000000000+f1)*s)), .no, .no, .no,x9], .nx):=by
  have o9:dP 9 100000000000000000000000000000=true:=by decide
  simp only [zi,aU,bG,af,ad,List.getElem?_cons_succ,List.getElem?_cons_zero,Sl.isBr,Bool.false_and,Bool.false_eq_true,pC,gH,bR,look,Sl.val,Option.bind_some,if_false,bo,decide_true,Option.map_some,ar,aG,iS,iE,Int.reducePow,Int.reduceNeg,Int.reduceLE,Int.reduceLT,and_self,Int.reduceToNat,if_true,Bool.true_and,aK,ae,eR,hot,bx,Bool.not_false,Bool.true_or,Bool.and_true,o9,Int.reduceMul,ao,az,aC,cR,aR,frz,gD,gi,bP,List.length_cons,List.length_nil,Nat.zero_add,Nat.reduceAdd,Nat.reduceLeDiff,b6,PL.settle,frzAll,bt,aB,List.set_cons_zero,e1,e2,es,hm,Nat.reduceLT,List.set_cons_succ,ew]
theorem p7 (zs:List Int) (x1 x2:Sl) (y:Nat) (w:List Nat) (k:Int) (hw:i7 w k) (hb:k.natAbs < 10 ^ 30):∃E',A_ self [.io l zs,x1,x2, .no, .sh (.str ⟨w.toArray⟩), .sh (.int k), .no, .no, .no, .sh (.str ⟨#[y]⟩)]=some (E', .rt (.tx [.fl (.str ⟨(y::w).toArray⟩), .ol [bn (y,k)], .fl (.str ⟨(y::fU k).toArray⟩)]))∧E'[0]? =some (.io l zs):=by
  obtain ⟨L1,s1,h1⟩:∃L:List Nat,(⟨#[y]⟩:Str)=⟨L.toArray⟩∧L=[y]:=⟨[y],rfl,rfl⟩
  have nl:=iq hb
  have wl:=i8 hw hb
  have k1:(L1.length+w.length≤1000000)=True:=eq_true (by rw [h1];simp;omega)
  have k2:(L1.length+(fU k).length≤1000000)=True:=eq_true (by rw [h1];simp;omega)
  have f1:y::w=L1++w:=by rw [h1];simp
  have f2:y::fU k=L1++fU k:=by rw [h1];simp
  have ml:(w.length≤1000)=True:=eq_true (by omega)
  obtain ⟨m1,m2⟩:=Az hw
  refine ⟨[.io l zs,x1,x2, .no, .sh (.str ⟨w.toArray⟩), .sh (.int k), .no, .no, .no, .sh (.str ⟨#[y]⟩)],?_,rfl⟩
  rw [f1,f2]
  unfold bn
  rw [s1]
  by_cases hk:k=1
  · have hd:decide (k=1)=true:=decide_eq_true hk
    have m0:=m1 hk
    simp only [A_,aF,bT,bS,aV,af,ad,List.getElem?_cons_succ,List.getElem?_cons_zero,Sl.isBr,Bool.false_and,Bool.false_eq_true,aC,look,Sl.val,hot,bx,if_false,Option.bind_some,Bool.not_false,Bool.true_or,Bool.and_true,bc,k1,gf,if_true,takeP,cR,aR,gj,frz,bP,Option.map_some,bt,ae,pC,mI,bR,ao,kO,iV,ko,Int.reduceNeg,dm,List.length_cons,List.length_nil,Nat.zero_add,Nat.reduceAdd,Nat.reduceLeDiff,bo,hd,Bool.not_true,az,ml,Int.reduceLE,and_self,m0,k2,List.all_cons,iu,List.all_nil,Bool.and_false,List.map_cons,Pt.val,List.map_nil]
  · have hd:decide (k=1)=false:=decide_eq_false hk
    have m0:=m2 hk
    simp only [A_,aF,bT,bS,aV,af,ad,List.getElem?_cons_succ,List.getElem?_cons_zero,Sl.isBr,Bool.false_and,Bool.false_eq_true,aC,look,Sl.val,hot,bx,if_false,Option.bind_some,Bool.not_false,Bool.true_or,Bool.and_true,bc,k1,gf,if_true,takeP,cR,aR,gj,frz,bP,Option.map_some,bt,ae,pC,mI,bR,ao,kO,iV,ko,Int.reduceNeg,dm,List.length_cons,List.length_nil,Nat.zero_add,Nat.reduceAdd,Nat.reduceLeDiff,bo,hd,az,ml,Int.reduceLE,and_self,m0,k2,List.all_cons,iu,List.all_nil,Bool.and_false,List.map_cons,Pt.val,List.map_nil]
end
def Pb:Nat→Nat
  | 0=>7
  | D+1=>7+2*(1+5*Pb D)
def Rb (D:Nat):Nat:=1+5*Pb D
def Qb:Nat→Nat
  | 0=>35
  | D+1=>2*(5*Qb D)+35
def Lb (D:Nat):Nat:=5*Qb D
abbrev sJ (A S:List Nat) (c:List Pc):Sl:= .tx [.fl (.str ⟨A.toArray⟩), .ol (c.map bn), .fl (.str ⟨S.toArray⟩)]
theorem nO (A S:List Nat) (c:List Pc):bz (sJ A S c)=some (sJ A S c):=by
  have:=bC c
  unfold bz
  rw [if_pos]
  simp [a7,this,aP]
def jQ (self:List Int→List PyData→Option (Sl×List Int)) (D:Nat):Prop:=∀cell m b:Int,0≤m→m+Rb D≤99990→∃(r:List J) (A S:List Nat) (c:List Pc) (c' m' b':Int),self [cell,m,b] [.int (D:Int)]=some (sJ A S c,[c',m',b'])∧A.length≤Lb D∧S.length≤Lb D∧c.length≤400∧0≤m'∧m'≤m+Rb D∧b'≤b∧(0≤b'→A=r.flatMap J.A∧S=r.flatMap J.S∧c=r.flatMap J.c∧r.length≤5∧∀j∈r,ItJ D j)
def i9 (f:List Int→List PyData→Option (Sl×List Int)) (D:Nat):Prop:=∀cell m b:Int,0≤m→m+Pb D≤99990→∃(j:J) (A S:List Nat) (c:List Pc) (c' m' b':Int),f [cell,m,b] [.int (D:Int)]=some (sJ A S c,[c',m',b'])∧A.length≤Qb D∧S.length≤Qb D∧c.length≤2000∧0≤m'∧m'≤m+Pb D∧b'≤b - 1∧(0≤b'→A=j.A∧S=j.S∧c=j.c∧ItJ D j)
theorem AA:∀D:Nat,35≤Qb D
  | 0=>by decide
  | D+1=>by show 35≤2*(5*Qb D)+35;omega
theorem AB:∀D:Nat,7≤Pb D
  | 0=>by decide
  | D+1=>by show 7≤7+2*(1+5*Pb D);omega
theorem xB {D:Nat} (h:D≤2):Lb D≤20000:=by
  rcases (show D=0∨D=1∨D=2 by omega) with rfl | rfl | rfl <;> decide
theorem qd (D:Int):ax 9 [.int D]=[.sh (.int D), .no, .no, .no, .no, .no, .no, .no, .no]:=rfl
section
variable (self:List Int→List PyData→Option (Sl×List Int)) (D:Nat)
theorem wK (c m b v:Int) (m0:0≤m) (m1:m+6≤99990) (h3:¬(v=3∧0 < (D:Int))) (h4:¬(v=4∧0 < (D:Int))) (cell m':Int) (ef:av [cell,m',b] [.int 5]=some (.sh (.int v),[c,m,b])):
    ∃(j:J) (A S:List Nat) (e:List Pc) (c' mm b':Int),bK self [cell,m',b] [.int (D:Int)]=some (sJ A S e,[c',mm,b'])∧A.length≤35∧S.length≤35∧e.length≤2000∧0≤mm∧mm≤m+6∧b'≤b - 1∧(A=j.A∧S=j.S∧e=j.c∧ItJ D j):=by
  obtain ⟨w,ew,w1,w3⟩:∃w:List Nat,Str.ofString "abcdefghijklmnopqrstuvwxyz"=⟨w.toArray⟩∧w.length=26∧∀a∈w,97≤a∧a≤122:=⟨(Str.ofString "abcdefghijklmnopqrstuvwxyz").cps.toList,by decide+kernel,by decide+kernel,by decide+kernel⟩
  obtain ⟨c1,n1,v1,e1,a1,a2,a3,a4⟩:=jr c m (b - 1) 26 (by decide) (by decide) m0 (by omega)
  obtain ⟨y,hym,ey⟩:∃y,y∈w∧atI w v1=some y:=by
    obtain ⟨i,rfl⟩:∃i:Nat,v1=i:=⟨v1.toNat,by omega⟩
    exact ⟨w[i]'(by omega),List.getElem_mem _,by rw [cp,List.getElem?_eq_getElem]⟩
  have hy:=w3 y hym
  obtain ⟨c2,n2,k,u,e2,hu,b1,b2,b3,b4⟩:=u7 c1 n1 (b - 1) a3 (by omega)
  have fin:∀(k:Int) (u:List Nat) (c3 n3:Int),i7 u k→k.natAbs < 10 ^ 30→n3≤m+6→0≤n3→(∀l,∃E:Sl×Sl,zi self [.io l [c2,n2,b - 1], .sh (.int D), .sh (.int v), .no,E.1,E.2, .no, .no, .no, .sh (.str ⟨#[y]⟩)]=some ([.io l [c3,n3,b - 1], .sh (.int D), .sh (.int v), .no, .sh (.str ⟨u.toArray⟩), .sh (.int k), .no, .no, .no, .sh (.str ⟨#[y]⟩)], .nx)∧A9 self [.io l [c1,n1,b - 1], .sh (.int D), .sh (.int v), .no, .no, .no, .no, .no, .no, .sh (.str ⟨#[y]⟩)]=some ([.io l [c2,n2,b - 1], .sh (.int D), .sh (.int v), .no,E.1,E.2, .no, .no, .no, .sh (.str ⟨#[y]⟩)], .nx))→
      ∃(j:J) (A S:List Nat) (e:List Pc) (c' mm b':Int),bK self [cell,m',b] [.int (D:Int)]=some (sJ A S e,[c',mm,b'])∧A.length≤35∧S.length≤35∧e.length≤2000∧0≤mm∧mm≤m+6∧b'≤b - 1∧(A=j.A∧S=j.S∧e=j.c∧ItJ D j):=fun k u c3 n3 hu kb h1 h2 hg=>by
    have ul:=i8 hu kb
    have nl:=iq kb
    refine ⟨u4 (y,k) u,y::u,y::fU k,[(y,k)],c3,n3,b - 1,fW rfl rfl fun l=>?_,by simp;omega,by simp;omega,by simp,h2,h1,by omega,rfl,rfl,rfl,u5 D hu hy kb⟩
    obtain ⟨E,g6,g5⟩:=hg l
    obtain ⟨E',g7,z0⟩:=p7 self l [c3,n3,b - 1] (.sh (.int D)) (.sh (.int v)) y u k hu kb
    refine ⟨E',_,?_,z0,nO (y::u) (y::fU k) [(y,k)]⟩
    rw [qd,jt,aY (p0 self l _ _ _ v ef),aY (p1 self l _ _ _ _ _),aY (Cj self l _ v D h3),aY (CK self l _ v D h4),aY (p4 self l _ _ _ _ v1 y w ew (eq_true (by omega)) e1 ey),aY g5,aY g6]
    exact g7
  by_cases k5:k=5
  · subst k5
    obtain ⟨c3,n3,f1,e3,d1,d2,d3,d4⟩:=jr c2 n2 (b - 1) 900000000000000000000000000000 (by decide) (by decide) b3 (by omega)
    obtain ⟨c4,n4,f2,e4,g1,g2,g3,g4⟩:=jr c3 n3 (b - 1) 2 (by decide) (by decide) d3 (by omega)
    obtain ⟨s,hs,es⟩:∃s:Int,(s=1∨s= -1)∧atI [PyData.int 1, .int (-1)] f2=some (.int s):=by
      rcases (show f2=0∨f2=1 by omega) with h | h
      · exact ⟨1, .inl rfl,by rw [h];rfl⟩
      · exact ⟨-1, .inr rfl,by rw [h];rfl⟩
    have kb:((100000000000000000000000000000+f1)*s).natAbs < 10 ^ 30:=by rcases hs with rfl | rfl <;> omega
    have lg:((100000000000000000000000000000+f1)*s).natAbs.log2 < 1920:=qa kb
    have ew2:gx [.int ((100000000000000000000000000000+f1)*s)]=some (.str ⟨(NH.jF ((100000000000000000000000000000+f1)*s)).toArray⟩):=by
      have:gx [.int ((100000000000000000000000000000+f1)*s)]=some (.str (Str.ofString (toString ((100000000000000000000000000000+f1)*s)))):=if_pos lg
      rw [this,uY]
    exact fin _ _ c4 n4 (.inr rfl) kb (by omega) g3 fun l=>⟨(_,_),CO self l _ _ _ _ _ _ _ f1 f2 s _ e3 e4 es (qO (by rcases hs with rfl | rfl <;> decide) (by rcases hs with rfl | rfl <;> decide)) ew2,p5 self l _ _ _ _ _ _ 5 e2⟩
  · exact fin k u c2 n2 hu (by omega) (by omega) b3 fun l=>⟨(_,_),CN self l _ _ _ _ _ k k5,p5 self l _ _ _ _ _ _ k e2⟩
end
theorem u9 {f g:bA} {E E1:List Sl} {r:Sl} (h:f E=some (E1, .rt r)):ar f g E=some (E1, .rt r):=by
  unfold ar
  rw [h]
  rfl
section
variable (self:List Int→List PyData→Option (Sl×List Int)) (l:Addr)
theorem CP (zs:List Int) (v D:Int) (hv:v=3) (hD:0 < D) (R:Option (List Sl×Fl)) (k:(ar (AT self) (ar (AU self) (ar (AV self) (ar (ze self) (Aw self))))) [.io l zs, .sh (.int D), .sh (.int v), .no, .no, .no, .no, .no, .no, .no]=R):zf self [.io l zs, .sh (.int D), .sh (.int v), .no, .no, .no, .no, .no, .no, .no]=R:=by
  unfold zf
  refine qc ?_ k
  simp only [dQ,bG,af,ad,hv,List.getElem?_cons_succ,List.getElem?_cons_zero,Sl.isBr,Bool.false_and,Bool.false_eq_true,pC,gH,bR,look,Sl.val,Option.bind_some,if_false,bo,decide_true,Option.map_some,aZ,Cm.i,Cm.s,hD,if_true]
theorem CQ (zs:List Int) (v D:Int) (hv:v=4) (hD:0 < D) (R:Option (List Sl×Fl)) (k:(ar (AW self) (ar (AY self) (ar (AZ self) (A8 self)))) [.io l zs, .sh (.int D), .sh (.int v), .no, .no, .no, .no, .no, .no, .no]=R):zh self [.io l zs, .sh (.int D), .sh (.int v), .no, .no, .no, .no, .no, .no, .no]=R:=by
  unfold zh
  refine qc ?_ k
  simp only [dQ,bG,af,ad,hv,List.getElem?_cons_succ,List.getElem?_cons_zero,Sl.isBr,Bool.false_and,Bool.false_eq_true,pC,gH,bR,look,Sl.val,Option.bind_some,if_false,bo,decide_true,Option.map_some,aZ,Cm.i,Cm.s,hD,if_true]
end
theorem u_ {c:List Pc} {k:Int} (lc:c.length≤400) (h1: -5≤k) (h2:k≤5):(rp c k).length≤2000:=by
  have e:=p_ c k
  have a0:0≤bd k:=by unfold bd;split <;> omega
  have a5:bd k≤5:=by unfold bd;split <;> omega
  have:(c.length:Int)*bd k≤400*5:=Int.mul_le_mul (by omega) a5 a0 (by omega)
  omega
theorem wL (self:List Int→List PyData→Option (Sl×List Int)) (D:Nat) (hD:D≤3) (hs:∀D',D=D'+1→jQ self D'):i9 (bK self) D:=by
  intro cell m b m0 m1
  have pg:=AB D
  have qg:=AA D
  obtain ⟨c1,n1,v,ef,v0,v1,a1,a2⟩:=jr cell m b 5 (by decide) (by decide) m0 (by omega)
  by_cases h3:v=3∧0 < (D:Int)
  · obtain ⟨D',rfl⟩:∃D',D=D'+1:=⟨D - 1,by omega⟩
    have pe:Pb (D'+1)=7+2*Rb D':=rfl
    have qe:Qb (D'+1)=2*Lb D'+35:=rfl
    have ll:=xB (show D'≤2 by omega)
    obtain ⟨r,A,S,c,c2,n2,b2,er,lA,lS,lc,q1',q2',q3',good⟩:=hs D' rfl c1 n1 (b - 1) a1 (by omega)
    obtain ⟨c3,n3,k,w,e2,hw,k1,k2,k3,k4⟩:=u7 c2 n2 b2 q1' (by omega)
    have kb:k.natAbs < 10 ^ 30:=by omega
    have wl:=i8 hw kb
    have nl:=iq kb
    have a0:0≤bd k:=by unfold bd;split <;> omega
    have a5:bd k≤5:=by unfold bd;split <;> omega
    have lm:c.length*(bd k).toNat≤400*5:=Nat.mul_le_mul lc (by omega)
    have cl:(NH.contr c).length=c.length:=NH.bi c
    refine ⟨vj (kH r) k w,40::(A++41::w),40::(S++41::fU k),rp c k,c3,n3,b2,fW rfl rfl fun l=>?_,by simp only [List.length_cons,List.length_append];omega,by simp only [List.length_cons,List.length_append];omega,u_ lc k1 k2,k3,by omega,by omega,fun hb=>?_⟩
    · obtain ⟨E',g4,z0⟩:=q4 self l [c3,n3,b2] (.sh (.int ((D'+1:Nat):Int))) (.sh (.int v)) A S w (c.map bn) ((rp c k).map bn) k (by omega) (by omega) hw kb (bC _)
      refine ⟨E',_,?_,z0,nO _ _ _⟩
      rw [qd,jt,aY (p0 self l _ _ _ v ef),aY (p1 self l _ _ _ _ _)]
      refine u9 (CP self l _ v _ h3.1 h3.2 _ ?_)
      rw [aY (q0 self l _ _ _ _ _ (by rw [show ((D'+1:Nat):Int) - 1=(D':Int) by omega];exact er)),aY (q1 self l _ _ _ _ _ _ k e2),aY (q2 self l _ _ _ _ _ _ c k _ rfl (eq_true (by omega)) (eq_true (by omega)) (eq_true (by omega)))]
      by_cases hk:k < 0
      · have er':rp c k=(List.replicate (bd k).toNat (NH.contr c)).flatten:=by rw [show bd k= -k from if_pos hk];exact if_pos hk
        rw [aY (CM self l _ _ _ _ _ _ _ c k _ hk (by omega) rfl (eq_true (by rw [cl];omega)) (eq_true (by omega)) (eq_true (by omega))),←er']
        exact g4
      · have er':rp c k=(List.replicate (bd k).toNat c).flatten:=by rw [show bd k=k from if_neg hk];exact if_neg hk
        rw [aY (CL self l _ _ _ _ _ _ k hk),←er']
        exact g4
    · obtain ⟨g1,g2,g3,g5,g6⟩:=good hb
      have T:=oW g6 (by omega) (by rw [←g2];omega)
      refine ⟨by rw [g1];rfl,by rw [g2];rfl,by rw [g3];rfl,xz T hw kb ?_ ?_⟩
      · show (r.flatMap J.c).length≤4000;rw [←g3];omega
      · show (r.flatMap J.S).length≤300000;rw [←g2];omega
  by_cases h4:v=4∧0 < (D:Int)
  · obtain ⟨D',rfl⟩:∃D',D=D'+1:=⟨D - 1,by omega⟩
    have pe:Pb (D'+1)=7+2*Rb D':=rfl
    have qe:Qb (D'+1)=2*Lb D'+35:=rfl
    have ll:=xB (show D'≤2 by omega)
    obtain ⟨r,A,S,c,c2,n2,b2,er,lA,lS,lc,q1',q2',q3',good⟩:=hs D' rfl c1 n1 (b - 1) a1 (by omega)
    obtain ⟨r',B,T,e,c3,n3,b3,er2,lB,lT,le,s1',s2',s3',good'⟩:=hs D' rfl c2 n2 b2 q1' (by omega)
    refine ⟨AS (kH r) (kH r'),91::(A++44::(B++[93])),91::(S++44::(T++[93])),c++e++NH.contr c++NH.contr e,c3,n3,b3,fW rfl rfl fun l=>?_,by simp only [List.length_cons,List.length_append,List.length_nil];omega,by simp only [List.length_cons,List.length_append,List.length_nil];omega,by simp only [List.length_append,NH.bi];omega,s1',by omega,by omega,fun hb=>?_⟩
    · obtain ⟨E',g4,z0⟩:=r3 self l [c3,n3,b3] (.sh (.int ((D'+1:Nat):Int))) (.sh (.int v)) A S B T (c.map bn) (e.map bn) ((c++e++NH.contr c++NH.contr e).map bn) (by omega) (by omega) (bC _)
      refine ⟨E',_,?_,z0,nO _ _ _⟩
      have dd:((D'+1:Nat):Int) - 1=(D':Int):=by omega
      rw [qd,jt,aY (p0 self l _ _ _ v ef),aY (p1 self l _ _ _ _ _),aY (Cj self l _ v _ h3)]
      refine u9 (CQ self l _ v _ h4.1 h4.2 _ ?_)
      rw [aY (r0 self l _ _ _ _ _ (by rw [dd];exact er)),aY (r1 self l _ _ _ _ _ _ (by rw [dd];exact er2)),aY (r2 self l _ _ _ _ _ _ _ c e (by omega) (by omega))]
      exact g4
    · obtain ⟨g1,g2,g3,g5,g6⟩:=good (by omega)
      obtain ⟨f1,f2,f3,f5,f6⟩:=good' hb
      have T1:=oW g6 (by omega) (by rw [←g2];omega)
      have T2:=oW f6 (by omega) (by rw [←f2];omega)
      refine ⟨by rw [g1,f1];rfl,by rw [g2,f2];rfl,by rw [g3,f3];rfl,Av T1 T2 ?_⟩
      show (r.flatMap J.S).length+(r'.flatMap J.S).length≤300000
      rw [←g2,←f2];omega
  · obtain ⟨j,A,S,e,c',mm,b',h1,h2,h3',h4',h5,h6,h7,h8⟩:=wK self D c1 n1 b v a1 (by omega) h3 h4 cell m ef
    exact ⟨j,A,S,e,c',mm,b',h1,by omega,by omega,h4',h5,by omega,h7,fun _=>h8⟩
section
variable (self:List Int→List PyData→Option (Sl×List Int)) (l:Addr)
theorem CS (c m b:Int) (x1 x2 x3 x4 x5 x6:Sl) (h:¬0 < b):Ax self [.io l [c,m,b],x1,x2,x3,x4,x5,x6]=some ([.io l [c,m,b],x1,x2,x3,x4,x5,x6], .nx):=by
  simp only [Ax,aU,bG,af,fP,List.getElem?_cons_zero,List.getElem?_cons_succ,Option.map_some,Sl.isBr,Bool.false_and,Bool.false_eq_true,pC,bR,look,Sl.val,aZ,Cm.i,Cm.s,Option.bind_some,if_false,h,decide_false,ar,aB]
theorem Ck (c m b:Int) (x1 x2 x3 x4 x5 x6:Sl) (h:0 < b) (R:Option (List Sl×Fl)) (k:(ar (Ba self) (ar (Bb self) (ar (Bc self) (Bd self)))) [.io l [c,m,b],x1,x2,x3,x4,x5,x6]=R):Ax self [.io l [c,m,b],x1,x2,x3,x4,x5,x6]=R:=by
  unfold Ax
  refine qc ?_ k
  simp only [bG,af,fP,List.getElem?_cons_zero,List.getElem?_cons_succ,Option.map_some,Sl.isBr,Bool.false_and,Bool.false_eq_true,pC,bR,look,Sl.val,aZ,Cm.i,Cm.s,Option.bind_some,if_false,h,decide_true]
theorem Cl (zs zs':List Int) (D:Int) (x2 x3 x4 x5 x6:Sl) (ps:List Pt) (e:bK self zs [.int D]=some (.tx ps,zs')):Ba self [.io l zs, .sh (.int D),x2,x3,x4,x5,x6]=some ([.io l zs', .sh (.int D),x2,x3,x4,x5, .tx ps], .nx):=by
  simp only [Ba,aG,aK,List.getElem?_cons_zero,ae,ad,List.getElem?_cons_succ,Sl.isBr,Bool.false_and,Bool.false_eq_true,ao,Option.map_some,if_false,Option.bind_some,az,look,Sl.val,List.set_cons_zero,e,if_true,PL.settle,frz,frzAll,List.length_cons,List.length_nil,Nat.zero_add,Nat.reduceAdd,Nat.reduceLT,List.set_cons_succ]
theorem Cp (zs:List Int) (A B S:List Nat) (cw:List PyData) (x1 x3 x4 x5:Sl) (h:A.length+B.length≤1000000):Bb self [.io l zs,x1, .sh (.str ⟨A.toArray⟩),x3,x4,x5, .tx [.fl (.str ⟨B.toArray⟩), .ol cw, .fl (.str ⟨S.toArray⟩)]]=some ([.io l zs,x1, .sh (.str ⟨(A++B).toArray⟩),x3,x4,x5, .tx [.fl (.str ⟨B.toArray⟩), .ol cw, .fl (.str ⟨S.toArray⟩)]], .nx):=by
  have h':=eq_true h
  simp only [Bb,aG,af,ad,List.getElem?_cons_succ,List.getElem?_cons_zero,Sl.isBr,Bool.false_and,Bool.false_eq_true,pC,b6,look,Sl.val,hot,bx,Option.bind_some,if_false,aC,List.map_cons,Pt.val,List.map_nil,Option.any_some,Bool.true_and,iA,Option.map_some,aP,Bool.not_true,Bool.not_false,Bool.true_or,Bool.and_true,bc,h',gf,if_true,PL.settle,frz,frzAll,List.length_cons,List.length_nil,Nat.zero_add,Nat.reduceAdd,Nat.reduceLT,List.set_cons_succ,List.set_cons_zero]
theorem Cq (zs:List Int) (B S:Str) (c e:List Pc) (x1 x2 x4 x5:Sl) (h:c.length+e.length≤1000000):Bc self [.io l zs,x1,x2, .ow (c.map bn),x4,x5, .tx [.fl (.str B), .ol (e.map bn), .fl (.str S)]]=some ([.io l zs,x1,x2, .ow ((c++e).map bn),x4,x5, .tx [.fl (.str B), .ol (e.map bn), .fl (.str S)]], .nx):=by
  have h':=eq_true h
  simp only [Bc,aG,af,ad,List.getElem?_cons_succ,List.getElem?_cons_zero,Sl.isBr,Bool.false_and,Bool.false_eq_true,pC,b6,look,Sl.val,hot,bx,Option.bind_some,if_false,aC,List.map_cons,Pt.val,List.map_nil,Option.any_some,Bool.true_and,iB,Option.map_some,aP,Bool.not_false,if_true,Bool.true_or,Bool.and_true,Bool.not_true,Bool.false_or,List.length_map,h',decide_true,bC,←List.map_append,PL.settle,frz,frzAll,List.length_cons,List.length_nil,Nat.zero_add,Nat.reduceAdd,Nat.reduceLT,List.set_cons_succ,List.set_cons_zero]
theorem Cr (zs:List Int) (A B S:List Nat) (cw:List PyData) (x1 x2 x3 x5:Sl) (h:A.length+S.length≤1000000):Bd self [.io l zs,x1,x2,x3, .sh (.str ⟨A.toArray⟩),x5, .tx [.fl (.str ⟨B.toArray⟩), .ol cw, .fl (.str ⟨S.toArray⟩)]]=some ([.io l zs,x1,x2,x3, .sh (.str ⟨(A++S).toArray⟩),x5, .tx [.fl (.str ⟨B.toArray⟩), .ol cw, .fl (.str ⟨S.toArray⟩)]], .nx):=by
  have h':=eq_true h
  simp only [Bd,aG,af,ad,List.getElem?_cons_succ,List.getElem?_cons_zero,Sl.isBr,Bool.false_and,Bool.false_eq_true,pC,b6,look,Sl.val,hot,bx,Option.bind_some,if_false,aC,List.map_cons,Pt.val,List.map_nil,Option.any_some,Bool.true_and,qK,Option.map_some,aP,Bool.not_true,Bool.not_false,Bool.true_or,Bool.and_true,bc,h',gf,if_true,PL.settle,frz,frzAll,List.length_cons,List.length_nil,Nat.zero_add,Nat.reduceAdd,Nat.reduceLT,List.set_cons_succ,List.set_cons_zero]
theorem Ct (zs:List Int) (c:List Pc) (x1 x2 x4 x5 x6:Sl) (lc:c.length≤1000000) (h:¬400 < (c.length:Int)):Ay self [.io l zs,x1,x2, .ow (c.map bn),x4,x5,x6]=some ([.io l zs,x1,x2, .ow (c.map bn),x4,x5,x6], .nx):=by
  have lc':=eq_true lc
  simp only [Ay,aU,bG,af,bt,ae,ad,List.getElem?_cons_succ,List.getElem?_cons_zero,Sl.isBr,Bool.false_and,Bool.false_eq_true,ao,Option.map_some,if_false,Option.bind_some,dR,az,look,Sl.val,List.length_map,pC,bR,aZ,Cm.i,Cm.s,h,decide_false,ar,aB]
theorem CT (a m b:Int) (c c1:List Pc) (x1 x2 x4 x5 x6:Sl) (lc:c.length≤1000000) (h:400 < (c.length:Int)) (ec:cutL c none (some 1)=c1):Ay self [.io l [a,m,b],x1,x2, .ow (c.map bn),x4,x5,x6]=some ([.io l [a,m,-1],x1,x2, .ow (c1.map bn),x4,x5,x6], .nx):=by
  have lc':=eq_true lc
  unfold Ay Ci BR
  simp only [aU,bG,af,bt,ae,ad,List.getElem?_cons_succ,List.getElem?_cons_zero,Sl.isBr,Bool.false_and,Bool.false_eq_true,ao,Option.map_some,if_false,Option.bind_some,dR,az,look,Sl.val,List.length_map,pC,bR,aZ,Cm.i,Cm.s,h,decide_true,ar,aG,pA,qI,jv,hot,bx,PL.settle,frz,frzAll,gK,gD,gi,Int.reduceNeg,aB,Option.any_some,Bool.not_false,uo,ec,bC,Bool.or_true,if_true,List.length_cons,List.length_nil,Nat.zero_add,Nat.reduceAdd,Nat.reduceLT,List.set_cons_succ,List.set_cons_zero]
end
structure Sr where
  A:List Nat
  c:List Pc
  S:List Nat
  a:Int
  m:Int
  b:Int
structure SrOk (D n:Nat) (s:Sr):Prop where
  lA:s.A.length+n*Qb D≤Lb D
  lS:s.S.length+n*Qb D≤Lb D
  lc:s.c.length≤400
  m0:0≤s.m
  m1:s.m+n*Pb D≤99990
  gd:0≤s.b→∃r:List J,s.A=r.flatMap J.A∧s.S=r.flatMap J.S∧s.c=r.flatMap J.c∧r.length+n≤5∧∀j∈r,ItJ D j
abbrev zj (l:Addr) (D:Nat) (s:Sr) (x5 x6:Sl):List Sl:=[.io l [s.a,s.m,s.b], .sh (.int (D:Int)), .sh (.str ⟨s.A.toArray⟩), .ow (s.c.map bn), .sh (.str ⟨s.S.toArray⟩),x5,x6]
theorem va (self:List Int→List PyData→Option (Sl×List Int)) (D n:Nat) (hD:D≤3) (P:i9 (bK self) D) (s:Sr) (h:SrOk D (n+1) s):∃t:Sr,SrOk D n t∧t.b≤s.b∧t.m≤s.m+Pb D∧∀(i:Int) (l:Addr) (x5 x6:Sl),∃x6',(cL (.int i) (zj l D s x5 x6)).bind (cN self)=some (zj l D t (.sh (.int i)) x6', .nx):=by
  have e1:(n+1)*Qb D=n*Qb D+Qb D:=Nat.succ_mul n (Qb D)
  have e2:((n+1:Nat):Int)*(Pb D:Int)=n*Pb D+Pb D:=by rw [Int.natCast_add,Int.add_mul];simp
  have lA:=h.lA
  have lS:=h.lS
  have lc:=h.lc
  have m0:=h.m0
  have m1:=h.m1
  rw [e1] at lA lS
  rw [e2] at m1
  have nn:0≤(n:Int)*(Pb D:Int):=Int.mul_nonneg (by omega) (by omega)
  have ll:Lb D≤200000:=by rcases (show D=0∨D=1∨D=2∨D=3 by omega) with rfl | rfl | rfl | rfl <;> decide
  have et:∀(i:Int) (l:Addr) (x5 x6:Sl),cL (.int i) (zj l D s x5 x6)=some (zj l D s (.sh (.int i)) x6):=fun _ _ _ _=>rfl
  by_cases hb:0 < s.b
  · obtain ⟨j,A,S,c,a',m',b',ep,p1,p2,p3,p4,p5,p6,good⟩:=P s.a s.m s.b m0 (by omega)
    by_cases hc:400 < ((s.c++c).length:Int)
    · have cm:=rY (s.c++c) (show (0:Int)≤1 by decide)
      refine ⟨⟨s.A++A,cutL (s.c++c) none (some 1),s.S++S,a',m',-1⟩,⟨by simp only [List.length_append];omega,by simp only [List.length_append];omega,by show (cutL (s.c++c) none (some 1)).length≤400;omega,p4,by show m'+_≤_;omega,fun z=>absurd (show (0:Int)≤ -1 from z) (by decide)⟩,by show (-1:Int)≤s.b;omega,p5,fun i l x5 x6=>⟨sJ A S c,?_⟩⟩
      have l1:(s.c++c).length≤1000000:=by rw [List.length_append];omega
      rw [et,Option.bind_some,ib,aY (Ck self l _ _ _ _ _ _ _ _ _ hb _ (by
        rw [aY (Cl self l _ _ _ _ _ _ _ _ _ ep),aY (Cp self l _ s.A A S (c.map bn) _ _ _ _ (by omega)),aY (Cq self l _ _ _ s.c c _ _ _ _ (by omega))]
        exact Cr self l _ s.S A S (c.map bn) _ _ _ _ (by omega)))]
      exact CT self l _ _ _ _ _ _ _ _ _ _ l1 hc rfl
    · refine ⟨⟨s.A++A,s.c++c,s.S++S,a',m',b'⟩,⟨by simp only [List.length_append];omega,by simp only [List.length_append];omega,by show (s.c++c).length≤400;omega,p4,by show m'+_≤_;omega,fun z=>?_⟩,by show b'≤s.b;omega,p5,fun i l x5 x6=>⟨sJ A S c,?_⟩⟩
      · obtain ⟨r,g1,g2,g3,g4,g5⟩:=h.gd (by omega)
        obtain ⟨f1,f2,f3,f4⟩:=good z
        refine ⟨r++[j],?_,?_,?_,by rw [List.length_append,List.length_singleton];omega,fun q hq=>?_⟩
        · show s.A++A=_
          rw [List.flatMap_append,←g1,f1];simp
        · show s.S++S=_
          rw [List.flatMap_append,←g2,f2];simp
        · show s.c++c=_
          rw [List.flatMap_append,←g3,f3];simp
        · rcases List.mem_append.mp hq with hq | hq
          · exact g5 q hq
          · rw [List.mem_singleton.mp hq];exact f4
      · have l1:(s.c++c).length≤1000000:=by rw [List.length_append];omega
        rw [et,Option.bind_some,ib,aY (Ck self l _ _ _ _ _ _ _ _ _ hb _ (by
          rw [aY (Cl self l _ _ _ _ _ _ _ _ _ ep),aY (Cp self l _ s.A A S (c.map bn) _ _ _ _ (by omega)),aY (Cq self l _ _ _ s.c c _ _ _ _ (by omega))]
          exact Cr self l _ s.S A S (c.map bn) _ _ _ _ (by omega)))]
        exact Ct self l _ _ _ _ _ _ _ l1 hc
  · refine ⟨s,⟨by omega,by omega,lc,m0,by omega,fun z=>?_⟩,Int.le_refl _,by omega,fun i l x5 x6=>⟨x6,?_⟩⟩
    · obtain ⟨r,g1,g2,g3,g4,g5⟩:=h.gd z
      exact ⟨r,g1,g2,g3,by omega,g5⟩
    · rw [et,Option.bind_some,ib,aY (CS self l _ _ _ _ _ _ _ _ _ hb)]
      exact Ct self l _ _ _ _ _ _ _ (by omega) (by omega)
theorem oX (self:List Int→List PyData→Option (Sl×List Int)) (D:Nat) (hD:D≤3) (P:i9 (bK self) D):∀(n lo:Nat) (s:Sr),SrOk D n s→∃t:Sr,SrOk D 0 t∧t.b≤s.b∧t.m≤s.m+n*Pb D∧∀(l:Addr) (x5 x6:Sl),∃x5' x6',eN cL (cN self) (jE lo n) (zj l D s x5 x6)=some (zj l D t x5' x6', .nx)
  | 0,lo,s,h=>⟨s,h,Int.le_refl _,by simp,fun l x5 x6=>⟨x5,x6,rfl⟩⟩
  | n+1,lo,s,h=>by
    obtain ⟨t,h1,h2,h3,h4⟩:=va self D n hD P s h
    obtain ⟨u,k1,k2,k3,k4⟩:=oX self D hD P n (lo+1) t h1
    have e2:((n+1:Nat):Int)*(Pb D:Int)=n*Pb D+Pb D:=by rw [Int.natCast_add,Int.add_mul];simp
    refine ⟨u,k1,by omega,by rw [e2];omega,fun l x5 x6=>?_⟩
    obtain ⟨x6',st⟩:=h4 lo l x5 x6
    obtain ⟨x5'',x6'',e⟩:=k4 l (.sh (.int lo)) x6'
    refine ⟨x5'',x6'',?_⟩
    rw [jh,eN,st]
    exact e
theorem yU (self:List Int→List PyData→Option (Sl×List Int)) (l:Addr) (zs zs':List Int) (D:Int) (n:Nat) (E:List Sl) (e:av zs [.int 6]=some (.sh (.int n),zs')) (nb:(-1000000≤(n:Int)∧(n:Int)≤1000000)=True) (k:eN cL (cN self) (jE 0 n) [.io l zs', .sh (.int D), .sh (.str ⟨([]:List Nat).toArray⟩), .ow [], .sh (.str ⟨([]:List Nat).toArray⟩), .no, .no]=some (E, .nx)):ar (Be self) (ar (Bf self) (ar (Bh self) (ar (Bi self) (Bj self)))) [.io l zs, .sh (.int D), .no, .no, .no, .no, .no]=Bj self E:=by
  have e0:Str.ofString ""=⟨([]:List Nat).toArray⟩:=by decide+kernel
  have h0:Be self [.io l zs, .sh (.int D), .no, .no, .no, .no, .no]=some ([.io l zs, .sh (.int D), .sh (.str ⟨([]:List Nat).toArray⟩), .no, .no, .no, .no], .nx):=by simp only [Be,aG,pC,e0,PL.settle,frz,frzAll,Option.bind_some,List.length_cons,List.length_nil,Nat.zero_add,Nat.reduceAdd,Nat.reduceLT,List.set_cons_succ,List.set_cons_zero,if_true]
  have h1:∀x2,Bf self [.io l zs, .sh (.int D),x2, .no, .no, .no, .no]=some ([.io l zs, .sh (.int D),x2, .ow [], .no, .no, .no], .nx):=fun x2=>by simp only [Bf,aG,cR,bP,Option.bind_some,List.length_nil,Nat.reduceLeDiff,if_true,PL.settle,frz,frzAll,List.length_cons,Nat.zero_add,Nat.reduceAdd,Nat.reduceLT,List.set_cons_succ,List.set_cons_zero]
  have h2:∀x2 x3,Bh self [.io l zs, .sh (.int D),x2,x3, .no, .no, .no]=some ([.io l zs, .sh (.int D),x2,x3, .sh (.str ⟨([]:List Nat).toArray⟩), .no, .no], .nx):=fun x2 x3=>by simp only [Bh,aG,pC,e0,PL.settle,frz,frzAll,Option.bind_some,List.length_cons,List.length_nil,Nat.zero_add,Nat.reduceAdd,Nat.reduceLT,List.set_cons_succ,List.set_cons_zero,if_true]
  have h3:Bi self [.io l zs, .sh (.int D), .sh (.str ⟨([]:List Nat).toArray⟩), .ow [], .sh (.str ⟨([]:List Nat).toArray⟩), .no, .no]=some (E, .nx):=by
    simp only [Bi,kN,jg,ae,aK,List.getElem?_cons_zero,pC,Sl.isBr,Bool.false_and,Bool.false_eq_true,ao,Option.map_some,if_false,Option.bind_some,az,look,Sl.val,List.set_cons_zero,e,if_true,Int.reduceNeg,nb,Int.toNat_natCast,k]
  rw [aY h0,aY (h1 _),aY (h2 _ _),aY h3]
theorem yV (self:List Int→List PyData→Option (Sl×List Int)) (D:Nat) (hD:D≤3) (P:i9 (bK self) D):jQ (kq 1 6 (fL self)) D:=by
  intro cell m b m0 m1
  have re:(Rb D:Int)=1+5*Pb D:=by show ((1+5*Pb D:Nat):Int)=_;omega
  have le:Lb D=5*Qb D:=rfl
  obtain ⟨a1,n1,v,ef,v0,v1,q1,q2⟩:=jr cell m b 6 (by decide) (by decide) m0 (by omega)
  obtain ⟨n,rfl⟩:∃n:Nat,v=n:=⟨v.toNat,by omega⟩
  have n5:n≤5:=by omega
  have np:n*Pb D≤5*Pb D:=Nat.mul_le_mul_right _ n5
  have nq:n*Qb D≤5*Qb D:=Nat.mul_le_mul_right _ n5
  have npi:(n:Int)*(Pb D:Int)≤5*Pb D:=by rw [←Int.natCast_mul];omega
  obtain ⟨t,h1,h2,h3,h4⟩:=oX self D hD P n 0 ⟨[],[],[],a1,n1,b⟩ ⟨by show 0+_≤_;omega,by show 0+_≤_;omega,by show 0≤400;decide,q1,by show n1+_≤_;omega,fun _=>⟨[],rfl,rfl,rfl,by show 0+n≤5;omega,fun _ z=>nomatch z⟩⟩
  obtain ⟨r,hr⟩:∃r:List J,0≤t.b→t.A=r.flatMap J.A∧t.S=r.flatMap J.S∧t.c=r.flatMap J.c∧r.length≤5∧∀j∈r,ItJ D j:=by
    by_cases z:0≤t.b
    · obtain ⟨r,g1,g2,g3,g4,g5⟩:=h1.gd z
      exact ⟨r,fun _=>⟨g1,g2,g3,by omega,g5⟩⟩
    · exact ⟨[],fun y=>absurd y z⟩
  have tA:=h1.lA
  have tS:=h1.lS
  have h3':t.m≤n1+(n:Int)*(Pb D:Int):=h3
  refine ⟨r,t.A,t.S,t.c,t.a,t.m,t.b,fW rfl rfl fun l=>?_,by omega,by omega,h1.lc,h1.m0,by omega,h2,hr⟩
  obtain ⟨x5',x6',e⟩:=h4 l .no .no
  have fc:=bC t.c
  refine ⟨[.io l [t.a,t.m,t.b], .sh (.int (D:Int)), .sh (.str ⟨t.A.toArray⟩), .no, .sh (.str ⟨t.S.toArray⟩),x5',x6'],_,?_,rfl,nO t.A t.S t.c⟩
  rw [show ax 6 [.int (D:Int)]=[.sh (.int (D:Int)), .no, .no, .no, .no, .no] from rfl,u8]
  rw [yU self l _ _ D n _ ef (eq_true (by omega)) e]
  generalize t.c.map bn=cw at fc ⊢
  simp only [Bj,aF,bT,bS,aV,ad,List.getElem?_cons_succ,List.getElem?_cons_zero,takeP,dm,Option.map_some,Option.bind_some,List.set_cons_succ,List.set_cons_zero,List.length_cons,List.length_nil,Nat.zero_add,Nat.reduceAdd,Nat.reduceLeDiff,if_true,List.all_cons,iu,List.all_nil,Bool.and_true,Bool.and_false,Bool.false_eq_true,List.map_cons,Pt.val,List.map_nil,if_false]
theorem rl:∀(n D:Nat),D < n→D≤3→jQ (dL n) D
  | 0,_,h,_=>absurd h (Nat.not_lt_zero _)
  | n+1,D,h,hD=>yV _ D hD (wL _ D hD fun D' e=>rl n D' (by omega) (by omega))
def B1:bA:=(aG 1 (aA de (ae false (ad 0) (ae false (pC (.int 1)) ao))))
def B3:bA:=(aG 2 (cR (aR (ad 1) (aR (pC (.int 1)) (aR (pC (.int 30)) bP)))))
def AC:bA:=(aU (bM (bG (bF (aZ .lt) (aZ .lt) false false (gD gi (af iS false (pC (.int 10)) (pC (.int 18)))) (ad 1) (af iS false (pC (.int 10)) (pC (.int 18))))))
  (aG 2 (cR (aR (ad 1) (aR (pC (.int 0)) (aR (pC (.int 30)) bP)))))
  aB)
def B4:bA:=(iI (aK 2 dG (ae false (pC (.int 3)) ao)) (dI 3 (bj (aW 3) (bj (aW 4) (bj (aW 5) dS)))))
def zk:bA:=(aU (bG (af (bR (aZ .lt)) false (af b6 false (ad 2) (pC (.int 2))) (pC (.int 0))))
  (qQ 3 4 5 (ae false (pC (.str "z-3")) (ae false (cR (aR (gj (aR (pC (.str "z")) (aR (gD gi (pC (.int 3))) bP))) bP)) (ae false (pC (.str "z-3")) ao))))
  aB)
def yW:bA:=(aU (bG (af gH false (af je false (aA de (ae false (ad 0) (ae false (pC (.int 2)) ao))) (pC (.int 8))) (pC (.int 5))))
  (iI (aA cF (ae false (ad 3) (ae false (ad 4) (ae false (ad 5) ao)))) (dI 3 (bj (aW 3) (bj (aW 4) (bj (aW 5) dS)))))
  aB)
def Bk:bA:=(aU (eT (bM (cQ (aA a8 (ae false (ad 3) (ae false (ad 4) (ae false (ad 5) ao)))))) (bM (cQ (aA a8 (ae false (ad 5) (ae false (ad 4) (ae false (ad 5) ao)))))))
  (aF (pC (.bool false)))
  aB)
def Bl:bA:=(aF (aA a8 (ae false (af aC false (af aC false (ad 3) (pC (.str "a1"))) (ad 3)) (ae false (af aC false (af aC false (ad 4) (cR (aR (gj (aR (pC (.str "a")) (aR (pC (.int 1)) bP))) bP))) (ad 4)) (ae false (af aC false (af aC false (ad 5) (pC (.str "a"))) (ad 5)) ao)))))
theorem vb:ma=ar B1 (ar B3 (ar AC (ar B4 (ar zk (ar yW (ar Bk Bl)))))):=rfl
def Cs (c:List Pc) (x:Sl):Prop:=x= .sh (.list (c.map bn))∨x= .ow (c.map bn)
theorem nu_m1:NH.jF (-1)=[45,49]:=by decide+kernel
theorem yX:fU (-1)=[45,49]:=by unfold fU;rw [if_neg (by decide),nu_m1]
theorem nu_p1:NH.jF 1=[49]:=by decide+kernel
theorem AD (c:List Pc):rp c (-1)=NH.contr c:=by
  unfold rp
  rw [if_pos (by decide)]
  show (List.replicate 1 (NH.contr c)).flatten=_
  simp
theorem wM (A S:List Nat) (c:List Pc) (x1 x3:Sl) (i:Int) (hx:Cs c x1) (lc:c.length≤1000000) (lA:A.length≤900000) (lS:S.length≤900000):(bU (.int i) [.sh (.str ⟨A.toArray⟩),x1, .sh (.str ⟨S.toArray⟩),x3]).bind bV=some ([.sh (.str ⟨(40::(A++41::[45,49])).toArray⟩), .ow ((NH.contr c).map bn), .sh (.str ⟨(40::(S++41::[45,49])).toArray⟩), .sh (.int i)], .nx):=by
  obtain ⟨L1,s1,h1⟩:∃L:List Nat,Str.ofString "("=⟨L.toArray⟩∧L=[40]:=⟨[40],by decide+kernel,rfl⟩
  obtain ⟨L2,s2,h2⟩:∃L:List Nat,Str.ofString ")-1"=⟨L.toArray⟩∧L=[41,45,49]:=⟨[41,45,49],by decide+kernel,rfl⟩
  have k1:(L1.length+A.length≤1000000)=True:=eq_true (by rw [h1];simp;omega)
  have k2:((L1++A).length+L2.length≤1000000)=True:=eq_true (by rw [h1,h2];simp;omega)
  have k3:(L1.length+S.length≤1000000)=True:=eq_true (by rw [h1];simp;omega)
  have k4:((L1++S).length+L2.length≤1000000)=True:=eq_true (by rw [h1,h2];simp;omega)
  have f1:40::(A++41::[45,49])=L1++A++L2:=by rw [h1,h2];simp
  have f2:40::(S++41::[45,49])=L1++S++L2:=by rw [h1,h2];simp
  have ec:=dD c lc
  rw [f1,f2]
  rcases hx with rfl | rfl
  · simp only [bU,aW,List.length_cons,List.length_nil,Nat.zero_add,Nat.reduceAdd,Nat.reduceLT,List.set_cons_succ,List.set_cons_zero,if_true,bV,s1,s2,Option.bind_some,ar,aG,af,pC,Sl.isBr,Bool.false_and,Bool.false_eq_true,ad,aC,look,Sl.val,hot,bx,if_false,List.getElem?_cons_zero,Bool.not_false,Bool.true_or,Bool.and_true,bc,k1,gf,k2,PL.settle,frz,frzAll,aA,ae,ao,Option.map_some,List.getElem?_cons_succ,k3,k4,az,ec]
  · simp only [bU,aW,List.length_cons,List.length_nil,Nat.zero_add,Nat.reduceAdd,Nat.reduceLT,List.set_cons_succ,List.set_cons_zero,if_true,bV,s1,s2,Option.bind_some,ar,aG,af,pC,Sl.isBr,Bool.false_and,Bool.false_eq_true,ad,aC,look,Sl.val,hot,bx,if_false,List.getElem?_cons_zero,Bool.not_false,Bool.true_or,Bool.and_true,bc,k1,gf,k2,PL.settle,frz,frzAll,aA,ae,ao,Option.map_some,List.getElem?_cons_succ,k3,k4,az,ec]
structure RJ (h:Nat) (r:List J):Prop where
  it:∀j∈r,ItJ h j
  ln:r.length≤100
  lA:(r.flatMap J.A).length+4*(30 - h)≤196000
  lS:(r.flatMap J.S).length+4*(30 - h)≤196000
  lc:(r.flatMap J.c).length≤400
theorem md {h:Nat} {r:List J} {x1:Sl} (x3:Sl) (lo:Nat) (R:RJ h r) (hh:h+1≤30) (hx:Cs (r.flatMap J.c) x1):∃r',RJ (h+1) r'∧(bU (.int lo) [.sh (.str ⟨(r.flatMap J.A).toArray⟩),x1, .sh (.str ⟨(r.flatMap J.S).toArray⟩),x3]).bind bV=some ([.sh (.str ⟨(r'.flatMap J.A).toArray⟩), .ow ((r'.flatMap J.c).map bn), .sh (.str ⟨(r'.flatMap J.S).toArray⟩), .sh (.int lo)], .nx):=by
  have lA:=R.lA
  have lS:=R.lS
  have lc:=R.lc
  have st:=wM (r.flatMap J.A) (r.flatMap J.S) (r.flatMap J.c) x1 x3 lo hx (by omega) (by omega) (by omega)
  have T:=oW R.it (by have:=R.ln;omega) (by omega)
  have hw:i7 [45,49] (-1):= .inr nu_m1.symm
  have I:=xz (k:= -1) (w:=[45,49]) T hw (by decide) (show (r.flatMap J.c).length≤4000 by omega) (show (r.flatMap J.S).length≤300000 by omega)
  have eA:[vj (kH r) (-1) [45,49]].flatMap J.A=40::(r.flatMap J.A++41::[45,49]):=by
    show (40::(r.flatMap J.A++41::[45,49]))++[]=_
    rw [List.append_nil]
  have eS:[vj (kH r) (-1) [45,49]].flatMap J.S=40::(r.flatMap J.S++41::[45,49]):=by
    show (40::(r.flatMap J.S++41::fU (-1)))++[]=_
    rw [List.append_nil,yX]
  have ec:[vj (kH r) (-1) [45,49]].flatMap J.c=NH.contr (r.flatMap J.c):=by
    show rp (r.flatMap J.c) (-1)++[]=_
    rw [List.append_nil,AD]
  refine ⟨[vj (kH r) (-1) [45,49]],⟨fun j hj=>by rw [List.mem_singleton.mp hj];exact I,by simp,by rw [eA];simp only [List.length_cons,List.length_append,List.length_nil];omega,by rw [eS];simp only [List.length_cons,List.length_append,List.length_nil];omega,by rw [ec,NH.bi];exact lc⟩,?_⟩
  rw [eA,eS,ec]
  exact st
theorem me:∀(n lo h:Nat) (r:List J) (x1 x3:Sl),RJ h r→h+(n+1)≤30→Cs (r.flatMap J.c) x1→∃r' x3',RJ (h+(n+1)) r'∧eN bU bV (jE lo (n+1)) [.sh (.str ⟨(r.flatMap J.A).toArray⟩),x1, .sh (.str ⟨(r.flatMap J.S).toArray⟩),x3]=some ([.sh (.str ⟨(r'.flatMap J.A).toArray⟩), .ow ((r'.flatMap J.c).map bn), .sh (.str ⟨(r'.flatMap J.S).toArray⟩),x3'], .nx)
  | 0,lo,h,r,x1,x3,R,hh,hx=>by
    obtain ⟨r',R',st⟩:=md x3 lo R (by omega) hx
    refine ⟨r', .sh (.int lo),R',?_⟩
    rw [jh,eN,st]
    rfl
  | n+1,lo,h,r,x1,x3,R,hh,hx=>by
    obtain ⟨r1,R1,st⟩:=md x3 lo R (by omega) hx
    obtain ⟨r',x3',k1,k3⟩:=me n (lo+1) (h+1) r1 (.ow ((r1.flatMap J.c).map bn)) (.sh (.int lo)) R1 (by omega) (.inr rfl)
    refine ⟨r',x3',by rw [show h+(n+1+1)=h+1+(n+1) by omega];exact k1,?_⟩
    rw [jh,eN,st]
    exact k3
theorem wN {r:List J} (R:RJ 3 r):∃r',RJ 30 r'∧cF [.str ⟨(r.flatMap J.A).toArray⟩, .list ((r.flatMap J.c).map bn), .str ⟨(r.flatMap J.S).toArray⟩]=some (sJ (r'.flatMap J.A) (r'.flatMap J.S) (r'.flatMap J.c)):=by
  obtain ⟨r',x3',k1,k3⟩:=me 26 0 3 r (.sh (.list ((r.flatMap J.c).map bn))) .no R (by decide) (.inl rfl)
  refine ⟨r',k1,?_⟩
  have fc:=bC (r'.flatMap J.c)
  have k3':eN bU bV (jE 0 27) [.sh (.str ⟨(r.flatMap J.A).toArray⟩), .sh (.list ((r.flatMap J.c).map bn)), .sh (.str ⟨(r.flatMap J.S).toArray⟩), .no]=_:=k3
  unfold sJ
  generalize (r'.flatMap J.c).map bn=cw at k3' fc ⊢
  generalize (r'.flatMap J.A).toArray=aw at k3' ⊢
  generalize (r'.flatMap J.S).toArray=sw at k3' ⊢
  simp only [cF,cj,List.length_cons,List.length_nil,Nat.zero_add,Nat.reduceAdd,b7,gO,ar,kN,jg,ae,pC,ax,List.map_cons,List.map_nil,Nat.reduceSub,List.replicate,List.cons_append,List.nil_append,Sl.isBr,Bool.false_and,Bool.false_eq_true,ao,Option.map_some,if_false,Option.bind_some,Int.reduceNeg,az,look,Sl.val,Int.reduceLE,and_self,Int.reduceToNat,if_true,k3',aF,bT,bS,aV,ad,takeP,dm,List.getElem?_cons_zero,List.getElem?_cons_succ,List.set_cons_succ,List.set_cons_zero,Nat.reduceLeDiff,List.all_cons,iu,List.all_nil,Bool.and_true,Bool.and_false,Pt.val,bz,a7,aP,fc]
section
variable (ns:List Int)
def SL (ns:List Int):Sl:= .sh (.list (ns.map .int))
theorem l0:B1 [SL ns, .no, .no, .no, .no, .no]=some ([SL ns, .sh (.int (ns.getD 1 0)), .no, .no, .no, .no], .nx):=by
  have a:=jm ns 1
  rw [show ((1:Nat):Int)=1 from rfl] at a
  simp only [B1,aG,aA,ae,ad,SL,List.getElem?_cons_zero,Sl.isBr,Bool.false_and,Bool.false_eq_true,pC,ao,Option.map_some,if_false,Option.bind_some,az,look,Sl.val,a,PL.settle,frz,frzAll,List.length_cons,List.length_nil,Nat.zero_add,Nat.reduceAdd,Nat.reduceLT,List.set_cons_succ,List.set_cons_zero,if_true]
theorem l1 (z:Int):B3 [SL ns, .sh (.int z), .no, .no, .no, .no]=some ([SL ns, .sh (.int z), .ow [.int z, .int 1, .int 30], .no, .no, .no], .nx):=by
  simp only [B3,aG,cR,aR,ad,SL,List.getElem?_cons_succ,List.getElem?_cons_zero,frz,pC,bP,Option.map_some,Option.bind_some,List.length_cons,List.length_nil,Nat.zero_add,Nat.reduceAdd,Nat.reduceLeDiff,if_true,PL.settle,frzAll,Nat.reduceLT,List.set_cons_succ,List.set_cons_zero]
theorem l2 (z:Int):∃m:Int,(m=0∨m=1)∧AC [SL ns, .sh (.int z), .ow [.int z, .int 1, .int 30], .no, .no, .no]=some ([SL ns, .sh (.int z), .ow [.int z, .int m, .int 30], .no, .no, .no], .nx):=by
  by_cases h1: -1000000000000000000 < z
  · by_cases h2:z < 1000000000000000000
    · exact ⟨1, .inr rfl,by simp only [AC,aU,bM,bG,bF,gD,af,pC,SL,Sl.isBr,Bool.false_and,Bool.false_eq_true,iS,bR,look,Sl.val,iE,Int.reducePow,Int.reduceNeg,Option.bind_some,if_false,Int.reduceLE,Int.reduceLT,and_self,decide_true,Int.reduceToNat,if_true,Option.map_some,gi,Bool.or_false,ad,aZ,Cm.i,Cm.s,List.getElem?_cons_succ,List.getElem?_cons_zero,h2,h1,Bool.not_true,aG,cR,aR,frz,bP,PL.settle,frzAll,aB,List.length_cons,List.length_nil,Nat.zero_add,Nat.reduceAdd,Nat.reduceLeDiff,Nat.reduceLT,List.set_cons_succ,List.set_cons_zero]⟩
    · exact ⟨0, .inl rfl,by simp only [AC,aU,bM,bG,bF,gD,af,pC,SL,Sl.isBr,Bool.false_and,Bool.false_eq_true,iS,bR,look,Sl.val,iE,Int.reducePow,Int.reduceNeg,Option.bind_some,if_false,Int.reduceLE,Int.reduceLT,and_self,decide_true,Int.reduceToNat,if_true,Option.map_some,gi,Bool.or_false,ad,aZ,Cm.i,Cm.s,List.getElem?_cons_succ,List.getElem?_cons_zero,h2,decide_false,h1,Bool.not_false,aG,cR,aR,frz,bP,PL.settle,frzAll,aB,List.length_cons,List.length_nil,Nat.zero_add,Nat.reduceAdd,Nat.reduceLeDiff,Nat.reduceLT,List.set_cons_succ,List.set_cons_zero]⟩
  · exact ⟨0, .inl rfl,by simp only [AC,aU,bM,bG,bF,gD,af,pC,SL,Sl.isBr,Bool.false_and,Bool.false_eq_true,iS,bR,look,Sl.val,iE,Int.reducePow,Int.reduceNeg,Option.bind_some,if_false,Int.reduceLE,Int.reduceLT,and_self,decide_true,Int.reduceToNat,if_true,Option.map_some,gi,Bool.or_false,ad,aZ,Cm.i,Cm.s,List.getElem?_cons_succ,List.getElem?_cons_zero,h1,decide_false,Bool.not_false,aG,cR,aR,frz,bP,PL.settle,frzAll,aB,List.length_cons,List.length_nil,Nat.zero_add,Nat.reduceAdd,Nat.reduceLeDiff,Nat.reduceLT,List.set_cons_succ,List.set_cons_zero]⟩
theorem l3 (x1:Sl) (z m a' m' b':Int) (A S:List Nat) (c:List Pc) (e:dG [z,m,30] [.int 3]=some (sJ A S c,[a',m',b'])):B4 [SL ns,x1, .ow [.int z, .int m, .int 30], .no, .no, .no]=some ([SL ns,x1, .ow [.int a', .int m', .int b'], .sh (.str ⟨A.toArray⟩), .sh (.list (c.map bn)), .sh (.str ⟨S.toArray⟩)], .nx):=by
  simp only [B4,iI,aK,SL,List.getElem?_cons_succ,List.getElem?_cons_zero,ae,pC,Sl.isBr,Bool.false_and,Bool.false_eq_true,ao,Option.map_some,if_false,Option.bind_some,AO,az,look,Sl.val,List.set_cons_succ,List.set_cons_zero,e,List.map_cons,List.map_nil,frz,dI,bj,aW,Pt.val,List.length_cons,List.length_nil,Nat.zero_add,Nat.reduceAdd,Nat.reduceLT,if_true,dS,List.isEmpty_nil]
theorem CU (x1 x3 x4 x5:Sl) (a m b:Int) (h:¬b < 0):zk [SL ns,x1, .ow [.int a, .int m, .int b],x3,x4,x5]=some ([SL ns,x1, .ow [.int a, .int m, .int b],x3,x4,x5], .nx):=by
  have e:atI [PyData.int a, .int m, .int b] 2=some (.int b):=rfl
  simp only [zk,aU,bG,af,ad,SL,List.getElem?_cons_succ,List.getElem?_cons_zero,Sl.isBr,Bool.false_and,Bool.false_eq_true,pC,b6,look,Sl.val,hot,bx,Option.bind_some,if_false,Option.any_some,e,Option.map_some,bR,aZ,Cm.i,Cm.s,h,decide_false,aB]
theorem CV (x1 x3 x4 x5:Sl) (a m b:Int) (h:b < 0):zk [SL ns,x1, .ow [.int a, .int m, .int b],x3,x4,x5]=some ([SL ns,x1, .ow [.int a, .int m, .int b], .sh (.str "z-3"), .ow [bn (122,-3)], .sh (.str "z-3")], .nx):=by
  have e:atI [PyData.int a, .int m, .int b] 2=some (.int b):=rfl
  have sz:Str.ofString "z"=⟨#[122]⟩:=by decide+kernel
  unfold bn
  simp only [zk,aU,bG,af,ad,SL,List.getElem?_cons_succ,List.getElem?_cons_zero,Sl.isBr,Bool.false_and,Bool.false_eq_true,pC,b6,look,Sl.val,hot,bx,Option.bind_some,if_false,Option.any_some,e,Option.map_some,bR,aZ,Cm.i,Cm.s,h,decide_true,qQ,ae,cR,aR,gj,sz,frz,gD,gi,Int.reduceNeg,bP,List.length_cons,List.length_nil,Nat.zero_add,Nat.reduceAdd,Nat.reduceLeDiff,if_true,ao,Sl.isAl,Bool.not_false,Bool.and_true,Bool.true_and,aB,Nat.reduceLT,List.set_cons_succ,List.set_cons_zero]
theorem CW (x1 x2 x3 x4 x5:Sl) (h:¬ns.getD 2 0 % 8=5):yW [SL ns,x1,x2,x3,x4,x5]=some ([SL ns,x1,x2,x3,x4,x5], .nx):=by
  have a:=jm ns 2
  rw [show ((2:Nat):Int)=2 from rfl] at a
  simp only [yW,aU,bG,af,aA,ae,ad,SL,List.getElem?_cons_zero,Sl.isBr,Bool.false_and,Bool.false_eq_true,pC,ao,Option.map_some,if_false,Option.bind_some,az,look,Sl.val,a,je,bR,iE,Int.reduceLT,decide_true,if_true,gH,bo,h,decide_false,iI,frz,dI,bj,aW,aB,List.getElem?_cons_succ]
theorem CY (x1 x2 x4:Sl) (A S B T:List Nat) (c e:List Pc) (hx:Cs c x4) (h:ns.getD 2 0 % 8=5) (ed:cF [.str ⟨A.toArray⟩, .list (c.map bn), .str ⟨S.toArray⟩]=some (sJ B T e)):yW [SL ns,x1,x2, .sh (.str ⟨A.toArray⟩),x4, .sh (.str ⟨S.toArray⟩)]=some ([SL ns,x1,x2, .sh (.str ⟨B.toArray⟩), .sh (.list (e.map bn)), .sh (.str ⟨T.toArray⟩)], .nx):=by
  have a:=jm ns 2
  rw [show ((2:Nat):Int)=2 from rfl] at a
  rcases hx with rfl | rfl
  · simp only [yW,aU,bG,af,aA,ae,ad,SL,List.getElem?_cons_zero,Sl.isBr,Bool.false_and,Bool.false_eq_true,pC,ao,Option.map_some,if_false,Option.bind_some,az,look,Sl.val,a,je,bR,iE,Int.reduceLT,decide_true,h,if_true,gH,bo,iI,frz,dI,bj,aW,aB,List.getElem?_cons_succ,ed,List.map_cons,Pt.val,List.map_nil,List.length_cons,List.length_nil,Nat.zero_add,Nat.reduceAdd,Nat.reduceLT,List.set_cons_succ,List.set_cons_zero,dS,List.isEmpty_nil]
  · simp only [yW,aU,bG,af,aA,ae,ad,SL,List.getElem?_cons_zero,Sl.isBr,Bool.false_and,Bool.false_eq_true,pC,ao,Option.map_some,if_false,Option.bind_some,az,look,Sl.val,a,je,bR,iE,Int.reduceLT,decide_true,h,if_true,gH,bo,iI,frz,dI,bj,aW,aB,List.getElem?_cons_succ,ed,List.map_cons,Pt.val,List.map_nil,List.length_cons,List.length_nil,Nat.zero_add,Nat.reduceAdd,Nat.reduceLT,List.set_cons_succ,List.set_cons_zero,dS,List.isEmpty_nil]
theorem l6 (x1 x2 x4:Sl) (A S:Str) (c:List Pc) (hx:Cs c x4) (e1:a8 [.str A, .list (c.map bn), .str S]=some (.sh (.bool true))) (e2:a8 [.str S, .list (c.map bn), .str S]=some (.sh (.bool true))):Bk [SL ns,x1,x2, .sh (.str A),x4, .sh (.str S)]=some ([SL ns,x1,x2, .sh (.str A),x4, .sh (.str S)], .nx):=by
  rcases hx with rfl | rfl
  · simp only [Bk,aU,eT,bM,cQ,aA,ae,ad,SL,List.getElem?_cons_succ,List.getElem?_cons_zero,Sl.isBr,Bool.false_and,Bool.false_eq_true,ao,Option.map_some,if_false,Option.bind_some,az,look,Sl.val,e1,eX,Bool.not_true,e2,aF,pC,aB]
  · simp only [Bk,aU,eT,bM,cQ,aA,ae,ad,SL,List.getElem?_cons_succ,List.getElem?_cons_zero,Sl.isBr,Bool.false_and,Bool.false_eq_true,ao,Option.map_some,if_false,Option.bind_some,az,look,Sl.val,e1,eX,Bool.not_true,e2,aF,pC,aB]
theorem l7 (x1 x2 x4:Sl) (A S:List Nat) (c:List Pc) (hx:Cs c x4) (lA:A.length≤400000) (lS:S.length≤400000) (lc:c.length≤4000) (e:a8 [.str ⟨(A++[97,49]++A).toArray⟩, .list ((c++[((97,1):Pc)]++c).map bn), .str ⟨(S++[97]++S).toArray⟩]=some (.sh (.bool true))):∃E,Bl [SL ns,x1,x2, .sh (.str ⟨A.toArray⟩),x4, .sh (.str ⟨S.toArray⟩)]=some (E, .rt (.sh (.bool true))):=by
  obtain ⟨L1,s1,h1⟩:∃L:List Nat,Str.ofString "a1"=⟨L.toArray⟩∧L=[97,49]:=⟨[97,49],by decide+kernel,rfl⟩
  obtain ⟨L2,s2,h2⟩:∃L:List Nat,Str.ofString "a"=⟨L.toArray⟩∧L=[97]:=⟨[97],by decide+kernel,rfl⟩
  have sq:(⟨L2.toArray⟩:Str)=⟨#[97]⟩:=by rw [h2]
  rw [←h1,←h2] at e
  have k1:(A.length+L1.length≤1000000)=True:=eq_true (by rw [h1];simp;omega)
  have k2:((A++L1).length+A.length≤1000000)=True:=eq_true (by rw [h1];simp;omega)
  have k3:(S.length+L2.length≤1000000)=True:=eq_true (by rw [h2];simp;omega)
  have k4:((S++L2).length+S.length≤1000000)=True:=eq_true (by rw [h2];simp;omega)
  obtain ⟨q,hq⟩:∃q:List PyData,q=[.tuple [.str ⟨L2.toArray⟩, .int 1]]:=⟨_,rfl⟩
  have eq:(c++[((97,1):Pc)]++c).map bn=c.map bn++[.tuple [.str ⟨L2.toArray⟩, .int 1]]++c.map bn:=by
    rw [List.map_append,List.map_append,sq];rfl
  rw [eq] at e
  have m1:((c.map bn).length≤999999)=True:=eq_true (by rw [List.length_map];omega)
  have m2:((c.map bn++[PyData.tuple [.str ⟨L2.toArray⟩, .int 1]]).length+(c.map bn).length≤1000000)=True:=eq_true (by rw [List.length_append,List.length_map,List.length_singleton];omega)
  refine ⟨[SL ns,x1,x2, .sh (.str ⟨A.toArray⟩),x4, .sh (.str ⟨S.toArray⟩)],?_⟩
  have m3:=m2
  rw [List.length_append,List.length_singleton] at m3
  unfold Cs at hx
  generalize c.map bn=cw at *
  rcases hx with rfl | rfl
  · simp only [Bl,aF,aA,ae,af,ad,SL,List.getElem?_cons_succ,List.getElem?_cons_zero,Sl.isBr,Bool.false_and,Bool.false_eq_true,pC,s1,aC,look,Sl.val,hot,bx,Option.bind_some,Bool.not_false,Bool.true_or,Bool.and_true,if_false,bc,k1,gf,if_true,k2,cR,aR,gj,s2,frz,bP,Option.map_some,List.length_cons,List.length_nil,Nat.zero_add,Nat.reduceAdd,Nat.reduceLeDiff,ao,m1,decide_true,m2,k3,k4,az,e]
  · simp only [Bl,aF,aA,ae,af,ad,SL,List.getElem?_cons_succ,List.getElem?_cons_zero,Sl.isBr,Bool.false_and,Bool.false_eq_true,pC,s1,aC,look,Sl.val,hot,bx,Option.bind_some,Bool.not_false,Bool.true_or,Bool.and_true,if_false,bc,k1,gf,if_true,k2,cR,aR,gj,s2,frz,bP,Option.map_some,List.length_cons,List.length_nil,Nat.zero_add,Nat.reduceAdd,Nat.reduceLeDiff,ao,Option.any_some,m1,decide_true,m2,k3,k4,az,e]
end
theorem yY (ns:List Int) (hl:ns.length≤63):iN [.list (ns.map .int)]=some (.sh (.bool true)):=by
  obtain ⟨m,hm,e2⟩:=l2 ns (ns.getD 1 0)
  have RB:Rb 3=39996:=by decide
  have RS:jQ dG 3:=rl 4 3 (by decide) (by decide)
  obtain ⟨r,A,S,c,a',m',b',er,lA,lS,lc,q1,q2,q3,good⟩:=RS (ns.getD 1 0) m 30 (by omega) (by omega)
  have er':dG [ns.getD 1 0,m,30] [.int 3]=some (sJ A S c,[a',m',b']):=er
  have L3:Lb 3=194425:=by decide
  -- what the row is
  obtain ⟨r1,x4,R1,hx,e4⟩:∃(r1:List J) (x4:Sl),RJ 3 r1∧Cs (r1.flatMap J.c) x4∧zk [SL ns, .sh (.int (ns.getD 1 0)), .ow [.int a', .int m', .int b'], .sh (.str ⟨A.toArray⟩), .sh (.list (c.map bn)), .sh (.str ⟨S.toArray⟩)]=some ([SL ns, .sh (.int (ns.getD 1 0)), .ow [.int a', .int m', .int b'], .sh (.str ⟨(r1.flatMap J.A).toArray⟩),x4, .sh (.str ⟨(r1.flatMap J.S).toArray⟩)], .nx):=by
    by_cases hb:b' < 0
    · have nz:NH.jF (-3)=[45,51]:=by decide+kernel
      have e1:[u4 (122,-3) [45,51]].flatMap J.A=[122,45,51]:=rfl
      have e2:[u4 (122,-3) [45,51]].flatMap J.S=[122,45,51]:=by
        show (122::fU (-3))++[]=_
        unfold fU
        rw [if_neg (by decide),nz]
        rfl
      have sz:Str.ofString "z-3"=⟨([122,45,51]:List Nat).toArray⟩:=by decide+kernel
      refine ⟨[u4 (122,-3) [45,51]], .ow [bn (122,-3)],⟨fun j hj=>by rw [List.mem_singleton.mp hj];exact u5 3 (.inr nz.symm) ⟨by decide,by decide⟩ (by decide),by simp,by rw [e1];decide,by rw [e2];decide,by show [((122,-3):Pc)].length≤400;decide⟩, .inr rfl,?_⟩
      rw [e1,e2,←sz]
      exact CV ns _ _ _ _ a' m' b' hb
    · obtain ⟨g1,g2,g3,g4,g5⟩:=good (by omega)
      refine ⟨r, .sh (.list (c.map bn)),⟨g5,by omega,by rw [←g1];omega,by rw [←g2];omega,by rw [←g3];exact lc⟩,by rw [←g3];exact .inl rfl,?_⟩
      rw [←g1,←g2]
      exact CU ns _ _ _ _ a' m' b' hb
  -- in 27 brackets more
  obtain ⟨h,r2,y4,hh,R2,hy,e5⟩:∃(h:Nat) (r2:List J) (y4:Sl),h≤30∧RJ h r2∧Cs (r2.flatMap J.c) y4∧yW [SL ns, .sh (.int (ns.getD 1 0)), .ow [.int a', .int m', .int b'], .sh (.str ⟨(r1.flatMap J.A).toArray⟩),x4, .sh (.str ⟨(r1.flatMap J.S).toArray⟩)]=some ([SL ns, .sh (.int (ns.getD 1 0)), .ow [.int a', .int m', .int b'], .sh (.str ⟨(r2.flatMap J.A).toArray⟩),y4, .sh (.str ⟨(r2.flatMap J.S).toArray⟩)], .nx):=by
    by_cases h5:ns.getD 2 0 % 8=5
    · obtain ⟨r2,R2,ed⟩:=wN R1
      exact ⟨30,r2,_,by decide,R2, .inl rfl,CY ns _ _ x4 _ _ _ _ _ _ hx h5 ed⟩
    · exact ⟨3,r1,x4,by decide,R1,hx,CW ns _ _ _ _ _ h5⟩
  have lA2:=R2.lA
  have lS2:=R2.lS
  have lc2:=R2.lc
  have ln2:=R2.ln
  obtain ⟨t1,t2⟩:=u6 R2.it hh (by omega) (by omega) (by omega) (by omega)
  have ia:ItJ h (u4 (97,1) [49]):=u5 h (.inr nu_p1.symm) ⟨by decide,by decide⟩ (by decide)
  have all:∀j∈r2++[u4 (97,1) [49]]++r2,ItJ h j:=fun j hj=>by
    rcases List.mem_append.mp hj with hj | hj
    · rcases List.mem_append.mp hj with hj | hj
      · exact R2.it j hj
      · rw [List.mem_singleton.mp hj];exact ia
    · exact R2.it j hj
  have eA:(r2++[u4 (97,1) [49]]++r2).flatMap J.A=r2.flatMap J.A++[97,49]++r2.flatMap J.A:=by
    rw [List.flatMap_append,List.flatMap_append];rfl
  have eS:(r2++[u4 (97,1) [49]]++r2).flatMap J.S=r2.flatMap J.S++[97]++r2.flatMap J.S:=by
    rw [List.flatMap_append,List.flatMap_append]
    have:[u4 (97,1) [49]].flatMap J.S=[97]:=by
      show (97::fU 1)++[]=_
      rw [show fU 1=[] from if_pos rfl]
      rfl
    rw [this]
  have ec:(r2++[u4 (97,1) [49]]++r2).flatMap J.c=r2.flatMap J.c++[((97,1):Pc)]++r2.flatMap J.c:=by
    rw [List.flatMap_append,List.flatMap_append];rfl
  obtain ⟨t3,_⟩:=u6 all hh (by simp only [List.length_append,List.length_singleton];omega) (by rw [eA];simp only [List.length_append,List.length_cons,List.length_nil];omega) (by rw [eS];simp only [List.length_append,List.length_cons,List.length_nil];omega) (by rw [ec];simp only [List.length_append,List.length_cons,List.length_nil];omega)
  rw [eA,eS,ec] at t3
  obtain ⟨E,e7⟩:=l7 ns (.sh (.int (ns.getD 1 0))) (.ow [.int a', .int m', .int b']) y4 _ _ _ hy (by omega) (by omega) (by omega) t3
  have run:ma [SL ns, .no, .no, .no, .no, .no]=some (E, .rt (.sh (.bool true))):=by
    rw [vb,aY (l0 ns),aY (l1 ns _),aY e2,aY (l3 ns _ _ _ _ _ _ _ _ _ er'),aY e4,aY e5,aY (l6 ns _ _ y4 _ _ _ hy t1 t2)]
    exact e7
  simp only [iN,cj,List.length_cons,List.length_nil,if_true,ax]
  show ((ma [SL ns, .no, .no, .no, .no, .no]).bind _)=_
  rw [run]
  rfl
end Nhk61
namespace Nhk61
open PySem L2 Nh PL
open PySem.W (nsIn codeIn keepIn fnOf)
theorem mY {fd:FuncData} {xs:List Str} (h:∀a0,bindArgs fd ⟨[a0],[]⟩=pure (xs.zip [a0])):∀us:List Value,us.length=1→bindArgs fd ⟨us,[]⟩=pure (xs.zip us)
  | [a0],_=>h a0
theorem ix {fd:FuncData} {xs:List Str} (h:∀a0 a1,bindArgs fd ⟨[a0,a1],[]⟩=pure (xs.zip [a0,a1])):∀us:List Value,us.length=2→bindArgs fd ⟨us,[]⟩=pure (xs.zip us)
  | [a0,a1],_=>h a0 a1
theorem qf {fd:FuncData} {xs:List Str} (h:∀a0 a1 a2,bindArgs fd ⟨[a0,a1,a2],[]⟩=pure (xs.zip [a0,a1,a2])):∀us:List Value,us.length=3→bindArgs fd ⟨us,[]⟩=pure (xs.zip us)
  | [a0,a1,a2],_=>h a0 a1 a2
abbrev HD (K:PySem.W.Frag) (n:Str) (st:Stmt):Prop:=∃(f:Addr) (oc:Value) (od an:Option Addr) (sl:Array (Option Value)) (kV dc pm cd ct:Value),nsIn K mainGlobals n=some (some (.ref f))∧K.lookup f=some ⟨oc,od, .func (fnOf n n (cV st) (bL st) (aj st) .none kV dc pm an cd ct),sl⟩∧codeIn K cd n=true∧keepIn K (.ref f)=true
theorem AE {K:PySem.W.Frag} {n:Str} {st:Stmt} {f:Addr} {oc:Value} {od an:Option Addr} {sl:Array (Option Value)} {kV dc pm cd ct:Value} (a:nsIn K mainGlobals n=some (some (.ref f))) (l:K.lookup f=some ⟨oc,od, .func (fnOf n n (cV st) (bL st) (aj st) .none kV dc pm an cd ct),sl⟩) (c:codeIn K cd n=true) (k:keepIn K (.ref f)=true):HD K n st:=⟨f,oc,od,an,sl,kV,dc,pm,cd,ct,a,l,c,k⟩
theorem cG {K:PySem.W.Frag} {h:Heap} {mg:Str→Option Value} {x:Str} {st:Stmt} {ps:List Str} (d:HD K x st) (X:K.In h) (G:h.Ns mainGlobals mg) (b:∀(kV doc pm:Value) (an:Option Addr) (cdv ct:Value) (us:List Value),us.length=ps.length→bindArgs (fnOf x x (cV st) (bL st) (aj st) .none kV doc pm an cdv ct) ⟨us,[]⟩=pure (ps.zip us)):Def K mg x st ps:=by
  obtain ⟨f,oc,od,an,sl,kV,dc,pm,cd,ct,a,l,c,k⟩:=d
  exact ye X G a l c k b
theorem sK {K:PySem.W.Frag} {C:Addr} (c1:nsIn K mainGlobals "Piece"=some (some (.ref C))) (c2:PySem.W.plainGet K C Str.empty=true) (c3:PySem.W.hasDictIn K C=true) (c4:PySem.W.plainOver K C=true) (c5:PySem.W.findIn K (.ref C) "__setattr__"=some (some (.builtin "object.__setattr__"))) (c6:PySem.W.makesIn K C=true) (c7:keepIn K (.ref C)=true) (n1:PySem.W.findIn K (.ref C) "nail"=some none) (n2:PySem.W.findIn K (.ref C) "turns"=some none) (n3:PySem.W.findIn K (.ref C) "size"=some none) (m1:HM K C "pieces" "Term.pieces" bB) (m2:HM K C "cord" "Term.cord" bW) (m3:HM K C "made" "Piece.made" fo) (m4:HM K C "text" "Piece.text" fv) (m5:HM K C "__init__" "Piece.__init__" fE):nr K:=⟨C,⟨c1,c2,c3,c4,c5,c6,c7⟩,n1,n2,n3,m1,m2,m3,m4,m5⟩
theorem sL {K:PySem.W.Frag} {C:Addr} (c1:nsIn K mainGlobals "Parts"=some (some (.ref C))) (c2:PySem.W.plainGet K C Str.empty=true) (c3:PySem.W.hasDictIn K C=true) (c4:PySem.W.plainOver K C=true) (c5:PySem.W.findIn K (.ref C) "__setattr__"=some (some (.builtin "object.__setattr__"))) (c6:PySem.W.makesIn K C=true) (c7:keepIn K (.ref C)=true) (n1:PySem.W.findIn K (.ref C) "parts"=some none) (n2:PySem.W.findIn K (.ref C) "kept"=some none) (n3:PySem.W.findIn K (.ref C) "size"=some none) (m1:HM K C "pieces" "Term.pieces" bB) (m2:HM K C "cord" "Term.cord" bW) (m3:HM K C "made" "Parts.made" fz) (m4:HM K C "text" "Parts.text" fA) (m5:HM K C "__init__" "Parts.__init__" fF):nt K:=⟨C,⟨c1,c2,c3,c4,c5,c6,c7⟩,n1,n2,n3,m1,m2,m3,m4,m5⟩
theorem sM {K:PySem.W.Frag} {C:Addr} (c1:nsIn K mainGlobals "Times"=some (some (.ref C))) (c2:PySem.W.plainGet K C Str.empty=true) (c3:PySem.W.hasDictIn K C=true) (c4:PySem.W.plainOver K C=true) (c5:PySem.W.findIn K (.ref C) "__setattr__"=some (some (.builtin "object.__setattr__"))) (c6:PySem.W.makesIn K C=true) (c7:keepIn K (.ref C)=true) (n1:PySem.W.findIn K (.ref C) "body"=some none) (n2:PySem.W.findIn K (.ref C) "number"=some none) (n3:PySem.W.findIn K (.ref C) "size"=some none) (m1:HM K C "pieces" "Term.pieces" bB) (m2:HM K C "cord" "Term.cord" bW) (m3:HM K C "made" "Times.made" fB) (m4:HM K C "text" "Times.text" fD) (m5:HM K C "__init__" "Times.__init__" fG):nu K:=⟨C,⟨c1,c2,c3,c4,c5,c6,c7⟩,n1,n2,n3,m1,m2,m3,m4,m5⟩
theorem vc {K:PySem.W.Frag} {C:Addr} (c1:nsIn K mainGlobals "Back"=some (some (.ref C))) (c2:PySem.W.plainGet K C Str.empty=true) (c3:PySem.W.hasDictIn K C=true) (c4:PySem.W.plainOver K C=true) (c5:PySem.W.findIn K (.ref C) "__setattr__"=some (some (.builtin "object.__setattr__"))) (c6:PySem.W.makesIn K C=true) (c7:keepIn K (.ref C)=true) (n1:PySem.W.findIn K (.ref C) "one"=some none) (n2:PySem.W.findIn K (.ref C) "other"=some none) (n3:PySem.W.findIn K (.ref C) "size"=some none) (m1:HM K C "pieces" "Term.pieces" bB) (m2:HM K C "cord" "Term.cord" bW) (m3:HM K C "made" "Back.made" f8) (m4:HM K C "text" "Back.text" f9) (m5:HM K C "__init__" "Back.__init__" f_):pO K:=⟨C,⟨c1,c2,c3,c4,c5,c6,c7⟩,n1,n2,n3,m1,m2,m3,m4,m5⟩
def AF (K:PySem.W.Frag):Prop:=∃D,nsIn K mainGlobals "Parts"=some (some (.ref D))∧IsRow K D tab_is_Parts
theorem yZ {K:PySem.W.Frag} {D:Addr} (a0:nsIn K mainGlobals "Parts"=some (some (.ref D))) (hn:PySem.W.specialIn K (.builtin "object.__class__") "__get__"=some (some (.builtin "getset_descriptor.__get__"))) (ht:PySem.W.takesIn K (.builtin "object.__class__")=some true) {CParts:Addr} (aParts:nsIn K mainGlobals "Parts"=some (some (.ref CParts))) (bParts:PySem.W.plainGet K CParts "__class__"=true) (dParts:PySem.W.hasDictIn K CParts=true) (eParts:PySem.W.findIn K (.ref CParts) "__class__"=some (some (.builtin "object.__class__"))) (mParts:PySem.W.mroIn K CParts (.type "object")=some true) (kParts:PySem.W.kitOne K (.ref CParts) (.ref D)=some true):AF K:=⟨D,a0,(.cons aParts ⟨bParts,dParts,eParts,hn,ht,mParts⟩ kParts .nil)⟩
theorem vd {K:PySem.W.Frag} {b:Addr}:∀l:List (Str×Str),(∀n∈l,nsIn K mainGlobals n.1=some none)→vn K b l=none
  | [],_=>rfl
  | n::r,h=>by
    have e:sQ K n.1=none:=by
      unfold sQ
      rw [h n (List.mem_cons_self ..)]
    unfold vn
    rw [e,if_neg nofun]
    exact vd r fun m hm=>h m (List.mem_cons_of_mem _ hm)
theorem wO {K:PySem.W.Frag} {h:Heap} (t0:nsIn K mainGlobals "in_told_order"=some none) (t1:nsIn K mainGlobals "_law_moves_refused"=some none) (t2:nsIn K mainGlobals "_law_long_refused"=some none) (t3:nsIn K mainGlobals "_law_sets_refused"=some none) (t4:nsIn K mainGlobals "_law_cords_refused"=some none) (t5:nsIn K mainGlobals "_law_many_refused"=some none) (t6:nsIn K mainGlobals "_law_two_refused"=some none) (t7:nsIn K mainGlobals "_law_at_least_refused"=some none):L2.qP K h:=fun b q z=>by
  unfold jS at z
  rw [vd _ fun n hn=>by
    unfold wR at hn
    simp only [List.mem_cons,List.not_mem_nil,or_false] at hn
    rcases hn with rfl | rfl | rfl | rfl | rfl | rfl | rfl | rfl
    · exact t0
    · exact t1
    · exact t2
    · exact t3
    · exact t4
    · exact t5
    · exact t6
    · exact t7] at z
  cases z
theorem y1 {l:PySem.W.OpenLaw} {w:World} {K:PySem.W.Frag} {h:Heap} {mg:Str→Option Value} {fa:Addr} (X:K.In h) (G:h.Ns mainGlobals mg) (hfa:mg "law"=some (.ref fa)) (B:Bn mg) (hPiece:nr K) (hParts:nt K) (hTimes:nu K) (hBack:pO K) (his:AF K)
    (d1:HD K "contrary" gR)
    (d2:HD K "number_text" eI)
    (d3:HD K "repeated" gS)
    (d4:HD K "there_and_back" di)
    (d5:HD K "is_nail" im)
    (d6:HD K "figures_end" eJ)
    (d7:HD K "number_end" fH)
    (d8:HD K "read_number" eK)
    (d9:HD K "behind" i4)
    (d10:HD K "read_piece" fI)
    (d11:HD K "_law_at" i5)
    (d12:HD K "_law_mix" ip)
    (d13:HD K "_law_digit" gb)
    (d14:HD K "_law_contrary" d_)
    (d15:HD K "_law_right" gc)
    (d16:HD K "_law_figure" fJ)
    (d17:HD K "_law_number" fK)
    (d18:HD K "_law_deep" gT)
    (d19:HD K "read_times" dk)
    (d20:HD K "read_back" dM)
    (d21:HD K "read_part" dN)
    (d22:HD K "read_parts" eg)
    (d23:HD K "read" nH)
    (d24:HD K "_law_told" gU)
    (d25:HD K "_law_part" eB)
    (d26:HD K "_law_row" gC)
    (d27:HD K "law" kB)
    {t_DEEPEST:Tok} (g_DEEPEST:PySem.W.nsIn K mainGlobals "DEEPEST"=some (some (.int 30 t_DEEPEST)))
    {t_LONGEST:Tok} (g_LONGEST:PySem.W.nsIn K mainGlobals "LONGEST"=some (some (.int 4000 t_LONGEST)))
    {t_MOST_FIGURES:Tok} (g_MOST_FIGURES:PySem.W.nsIn K mainGlobals "MOST_FIGURES"=some (some (.int 30 t_MOST_FIGURES))):
    ∃fd:FuncData,(∀(s:Shared) (v:Value),BindsTo s fd ⟨[v],[]⟩ [("_law_script",v)])∧∀base:Heap,K.In base→base.Ns mainGlobals mg→FnOk l.prog w K mg base ir 146 fa fd ["_law_script"] (cy K iN):=by
  obtain ⟨f27,oc27,od27,an27,sl27,kV27,dc27,pm27,cd27,ct27,a27,l27,c27,k27⟩:=id d27
  have e:=hfa.symm.trans (PySem.W.mg_of X G a27)
  cases e
  have F0:=j2 (st:=kB) l27 c27 k27
  have G_DEEPEST:=PySem.W.mg_of X G g_DEEPEST
  have G_LONGEST:=PySem.W.mg_of X G g_LONGEST
  have G_MOST_FIGURES:=PySem.W.mg_of X G g_MOST_FIGURES
  have e_contrary:Def K mg "contrary" gR ["cord"]:=cG d1 X G fun _ _ _ _ _ _=>fun us hl=>mY (fun _=>rfl) us hl
  have e_number_text:Def K mg "number_text" eI ["number"]:=cG d2 X G fun _ _ _ _ _ _=>fun us hl=>mY (fun _=>rfl) us hl
  have e_repeated:Def K mg "repeated" gS ["cord","times"]:=cG d3 X G fun _ _ _ _ _ _=>fun us hl=>ix (fun _ _=>rfl) us hl
  have e_there_and_back:Def K mg "there_and_back" di ["one","other"]:=cG d4 X G fun _ _ _ _ _ _=>fun us hl=>ix (fun _ _=>rfl) us hl
  have e_is_nail:Def K mg "is_nail" im ["thing"]:=cG d5 X G fun _ _ _ _ _ _=>fun us hl=>mY (fun _=>rfl) us hl
  have e_figures_end:Def K mg "figures_end" eJ ["text","place"]:=cG d6 X G fun _ _ _ _ _ _=>fun us hl=>ix (fun _ _=>rfl) us hl
  have e_number_end:Def K mg "number_end" fH ["text","place"]:=cG d7 X G fun _ _ _ _ _ _=>fun us hl=>ix (fun _ _=>rfl) us hl
  have e_read_number:Def K mg "read_number" eK ["text","place"]:=cG d8 X G fun _ _ _ _ _ _=>fun us hl=>ix (fun _ _=>rfl) us hl
  have e_behind:Def K mg "behind" i4 ["sign","text","place"]:=cG d9 X G fun _ _ _ _ _ _=>fun us hl=>qf (fun _ _ _=>rfl) us hl
  have e_read_piece:Def K mg "read_piece" fI ["text","place"]:=cG d10 X G fun _ _ _ _ _ _=>fun us hl=>ix (fun _ _=>rfl) us hl
  have e_law_at:Def K mg "_law_at" i5 ["_law_script","_law_k"]:=cG d11 X G fun _ _ _ _ _ _=>fun us hl=>ix (fun _ _=>rfl) us hl
  have e_law_mix:Def K mg "_law_mix" ip ["_law_cell","_law_k"]:=cG d12 X G fun _ _ _ _ _ _=>fun us hl=>ix (fun _ _=>rfl) us hl
  have e_law_digit:Def K mg "_law_digit" gb ["_law_rest","_law_m"]:=cG d13 X G fun _ _ _ _ _ _=>fun us hl=>ix (fun _ _=>rfl) us hl
  have e_law_contrary:Def K mg "_law_contrary" d_ ["_law_cord_here"]:=cG d14 X G fun _ _ _ _ _ _=>fun us hl=>mY (fun _=>rfl) us hl
  have e_law_right:Def K mg "_law_right" gc ["_law_found","_law_due"]:=cG d15 X G fun _ _ _ _ _ _=>fun us hl=>ix (fun _ _=>rfl) us hl
  have e_law_figure:Def K mg "_law_figure" fJ ["_law_rest","_law_m"]:=cG d16 X G fun _ _ _ _ _ _=>fun us hl=>ix (fun _ _=>rfl) us hl
  have e_law_number:Def K mg "_law_number" fK ["_law_rest"]:=cG d17 X G fun _ _ _ _ _ _=>fun us hl=>mY (fun _=>rfl) us hl
  have e_law_deep:Def K mg "_law_deep" gT ["_law_words","_law_cord_here","_law_shown"]:=cG d18 X G fun _ _ _ _ _ _=>fun us hl=>qf (fun _ _ _=>rfl) us hl
  have e_read_times:Def K mg "read_times" dk ["text","place","depth"]:=cG d19 X G fun _ _ _ _ _ _=>fun us hl=>qf (fun _ _ _=>rfl) us hl
  have e_read_back:Def K mg "read_back" dM ["text","place","depth"]:=cG d20 X G fun _ _ _ _ _ _=>fun us hl=>qf (fun _ _ _=>rfl) us hl
  have e_read_part:Def K mg "read_part" dN ["text","place","depth"]:=cG d21 X G fun _ _ _ _ _ _=>fun us hl=>qf (fun _ _ _=>rfl) us hl
  have e_read_parts:Def K mg "read_parts" eg ["text","start","depth"]:=cG d22 X G fun _ _ _ _ _ _=>fun us hl=>qf (fun _ _ _=>rfl) us hl
  have e_read:Def K mg "read" nH ["text"]:=cG d23 X G fun _ _ _ _ _ _=>fun us hl=>mY (fun _=>rfl) us hl
  have e_law_told:Def K mg "_law_told" gU ["_law_words","_law_cord_here","_law_shown"]:=cG d24 X G fun _ _ _ _ _ _=>fun us hl=>qf (fun _ _ _=>rfl) us hl
  have e_law_part:Def K mg "_law_part" eB ["_law_rest","_law_deep_here"]:=cG d25 X G fun _ _ _ _ _ _=>fun us hl=>ix (fun _ _=>rfl) us hl
  have e_law_row:Def K mg "_law_row" gC ["_law_rest","_law_deep_here"]:=cG d26 X G fun _ _ _ _ _ _=>fun us hl=>ix (fun _ _=>rfl) us hl
  refine ⟨PySem.W.fnOf "law" "law" (cV kB) (bL kB) (aj kB) .none kV27 dc27 pm27 an27 cd27 ct27,fun s v=> .of_eq rfl,fun base _ _=>?_⟩
  obtain ⟨DIs,aIs,rIs⟩:=his
  have D_is_Parts:=And.intro (PySem.W.mg_of X G aIs) rIs
  have D_contrary:=oN (P:=l.prog) (w:=w) (base:=base) e_contrary B
  have D_number_text:=kx (P:=l.prog) (w:=w) (base:=base) e_number_text B
  have D_repeated:=oP (P:=l.prog) (w:=w) (base:=base) e_repeated B D_contrary
  have D_there_and_back:=i3 (P:=l.prog) (w:=w) (base:=base) e_there_and_back B D_contrary
  obtain ⟨D_mk_Piece,D_mk_Parts,D_mk_Times,D_mk_Back,D_m_pieces,D_m_text,D_m_cord⟩:=wu (P:=l.prog) (w:=w) (base:=base) X G B hPiece hParts hTimes hBack G_LONGEST D_number_text D_repeated D_there_and_back
  have D_is_nail:=pQ (P:=l.prog) (w:=w) (base:=base) e_is_nail B
  have D_figures_end:=kz (P:=l.prog) (w:=w) (base:=base) e_figures_end B
  have D_number_end:=lv (P:=l.prog) (w:=w) (base:=base) e_number_end B G_MOST_FIGURES D_figures_end
  have D_read_number:=kA (P:=l.prog) (w:=w) (base:=base) e_read_number B D_number_end
  have D_behind:=sy (P:=l.prog) (w:=w) (base:=base) e_behind B
  have D_read_piece:=lx (P:=l.prog) (w:=w) (base:=base) e_read_piece B D_read_number D_mk_Piece
  have D_law_at:=sD (P:=l.prog) (w:=w) (base:=base) e_law_at B
  have D_law_mix:=pR (P:=l.prog) (w:=w) (base:=base) e_law_mix B
  have D_law_digit:=ny (P:=l.prog) (w:=w) (base:=base) e_law_digit B
  have D_law_contrary:=jH (P:=l.prog) (w:=w) (base:=base) e_law_contrary B
  have D_law_right:=nC (P:=l.prog) (w:=w) (base:=base) e_law_right B
  have D_law_figure:=lz (P:=l.prog) (w:=w) (base:=base) e_law_figure B D_law_digit D_law_mix
  have D_law_number:=lC (P:=l.prog) (w:=w) (base:=base) e_law_number B D_law_figure
  have D_law_deep:=oQ (P:=l.prog) (w:=w) (base:=base) e_law_deep B D_law_contrary
  have D_read_parts:=lE (P:=l.prog) (w:=w) (base:=base) e_read_parts B e_read_times e_read_back e_read_part G_DEEPEST D_behind D_read_number D_mk_Times D_mk_Back D_is_nail D_read_piece D_mk_Parts
  have D_read:=wv (P:=l.prog) (w:=w) (base:=base) e_read B D_read_parts
  have D_law_told:=oR (P:=l.prog) (w:=w) (base:=base) e_law_told B D_read D_is_Parts D_m_pieces D_m_cord D_law_right D_m_text
  have D_law_row:=pS (P:=l.prog) (w:=w) (base:=base) e_law_row B e_law_part D_law_figure D_law_number D_law_contrary
  exact yJ F0 B D_law_at D_law_row D_law_deep D_law_told
theorem B5 {l:PySem.W.OpenLaw} {q:Program} {loose:List Str} {XP:(Str→Option Value)→Heap→Prop} {YP:World→Heap→Prop} {d:DefRec} {K:Params→PySem.W.Frag} (hn:l.most=some 63) (hdf:d.params.defaults=[])
    (hY:∀(w:World) (h:Heap),YP w h→(K w.params).In h∧qP (K w.params) h)
    (F:∀(w:World) (mg:Str→Option Value) (fa:Addr) (h:Heap),(K w.params).In h→h.Ns mainGlobals mg→mg d.name=some (.ref fa)→
      ∃fd:FuncData,(∀(s:Shared) (u:Value),BindsTo s fd ⟨[u],[]⟩ [("_law_script",u)])∧∀base:Heap,(K w.params).In base→base.Ns mainGlobals mg→FnOk l.prog w (K w.params) mg base ir 146 fa fd ["_law_script"] (cy (K w.params) iN)):
    PySem.W.WalkO q loose XP YP l.row.toRowW d [] (fun f vs=>PySem.call f vs):=
  L2.uH (n:=63) (k:=146) (x:="_law_script") (CX:=fun _=>ir) (sp:=fun w=>cy (K w.params) iN) hn (by decide) hdf ⟨rfl,by decide,by decide⟩ hY F (fun _ _ a ns hl hS=>yt (yY ns hl) hS) fun _ _ _ _ _ z=>z
end Nhk61
open PySem PySem.W PyProof.Rows
namespace PySem.W.Fast
def tw12402575589747128320:=0
def tw10212154017754342784:=0
def tw14964568787067303456:=0
def tw14012315583206632032:=0
def tw12865469250276149888:=0
def tw15978866140790115072:=0
def tw2405009249194019873:=0
def tw1636886578125552673:=0
def tw4450746541635590209:=0
def tw6397301401602346145:=0
def tw17737783197727302881:=0
def tw384132538962980289:=0
def tw7542804898020837921:=0
def tw12173174346079701665:=0
def tw40195450538509025:=0
def tw615594337356349153:=0
def tw7681026986099823425:=0
def tw6862379943448990593:=0
def tw6913160012808803362:=0
def tw6939970150613765154:=0
def tw4463715543502572706:=0
def tw14883032646087686370:=0
def tw12369414504183947682:=0
def tw10685711277237112290:=0
def tw16730483949516319362:=0
def tw14142337536415566498:=0
def tw16642466905476498242:=0
def tw2896090512336042882:=0
def tw7967371107737875362:=0
def tw708707340010616770:=0
def tw9308787661634325474:=0
def tw15570900272094821539:=0
def tw1623864073387461923:=0
def tw14487574117051698787:=0
def tw17915638718075540099:=0
def tw11705950133005051555:=0
def tw7245089400262201155:=0
def tw4137600247954648995:=0
def tw15434349673696462852:=0
def tw4345981557639907332:=0
def tw8546743106380233764:=0
def tw14560956727200330148:=0
def tw9820911727267677700:=0
def tw12514722295752626724:=0
def tw8493973534871186084:=0
def tw8294502277548086980:=0
def tw18309309489846518468:=0
def tw5271595678967589828:=0
def tw8095651955519425541:=0
def tw5228485554249308389:=0
def tw12649573285682035973:=0
def tw1534716859788158277:=0
def tw11537517296387451237:=0
def tw5666625292388333925:=0
def tw13587152051650554341:=0
def tw4107715511302089221:=0
def tw14246631161401316901:=0
def tw4153912976361267781:=0
def tw17865629456422789701:=0
def tw13676307913426306693:=0
def tw13259750398575587173:=0
def tw4903417918300046342:=0
def tw18280283960770664518:=0
def tw4702670795024841862:=0
def tw13168985842279009446:=0
def tw2850953610032407750:=0
def tw10295891071376492774:=0
def tw12606994806280345862:=0
def tw4527921471413294438:=0
def tw7498153991642675622:=0
def tw9300074561299517990:=0
def tw128995832337011494:=0
def tw13072935943455846214:=0
def tw314026683665618854:=0
def tw1727321135557446598:=0
def tw2767392467349050342:=0
def tw17428290820491499527:=0
def tw1315760412504903815:=0
def tw8847573432137944327:=0
def tw10503512116207998247:=0
def tw2561321217351805223:=0
def tw11150175815012949319:=0
def tw13875707707993544039:=0
def tw9759015545948933511:=0
def tw16047949472020900295:=0
def tw10589500756955494887:=0
def tw7612722602674825703:=0
def tw10886645939223667271:=0
def tw17282302730993751719:=0
def tw8644555599183113063:=0
def tw17600358230260297607:=0
def tw11352634503331348552:=0
def tw8397153689687798856:=0
def tw15918738743097128008:=0
def tw6080504706812548264:=0
def tw5200859354385822888:=0
def tw5640842291877892264:=0
def tw13273057027252940232:=0
def tw12753907479264655816:=0
def tw10743268526944686600:=0
def tw9153260488778981960:=0
def tw17661452901134817960:=0
def tw13052788916641173320:=0
def tw1108109110743337896:=0
def tw17153915572162849736:=0
def tw4609180348668696713:=0
def tw10978012156449403049:=0
def tw9043749072745794857:=0
def tw14477672262890693993:=0
def tw8308466997814969737:=0
def tw4339552363945120169:=0
def tw3954059918899415497:=0
def tw10184764454502493641:=0
def tw15441378644217572841:=0
def tw4791795557243558409:=0
def tw2235507820389322281:=0
def tw7204975127530472458:=0
def tw14235777952739615818:=0
def tw4245019132558686410:=0
def tw16863688584718911690:=0
def tw312303142363135210:=0
def tw812339077784427786:=0
def tw16844047703133553962:=0
def tw8938319170541677930:=0
def tw14205661567394488746:=0
def tw9890179765735043562:=0
def tw4408898908134232586:=0
def tw14085449035572511274:=0
def tw4581922292116262474:=0
def tw4431649349076013738:=0
def tw1874836518086385354:=0
def tw4959862053428552394:=0
def tw9299492702470432490:=0
def tw8866333611300380522:=0
def tw5337588763435496298:=0
def tw9221356752077802474:=0
def tw11566981789800197259:=0
def tw9337441729895092459:=0
def tw7448145735922197867:=0
def tw2454651494190295499:=0
def tw5232656831632626443:=0
def tw9279670769046736715:=0
def tw2040121769289908043:=0
def tw11658373377762167659:=0
def tw15077056261004813324:=0
def tw8568129614181551148:=0
def tw11682596160040349772:=0
def tw10222349130583107660:=0
def tw1003208644560670828:=0
def tw14817091476429777100:=0
def tw1674454906626774252:=0
def tw16288416094778123852:=0
def tw4628793812093238924:=0
def tw93972883765088940:=0
def tw17898861776199147308:=0
def tw6766659489662379884:=0
def tw13497862010691735565:=0
def tw4216531097623513197:=0
def tw12060606909896271213:=0
def tw3224833031189811789:=0
def tw16415529937378637453:=0
def tw14557891012291687085:=0
def tw2942146801138168525:=0
def tw6945593223327851245:=0
def tw17266808854630475501:=0
def tw2875569166983033613:=0
def tw2459438652037715757:=0
def tw6521624233890562957:=0
def tw11623061564598088589:=0
def tw10573255369125983278:=0
def tw13013949254755062926:=0
def tw8256783557655272686:=0
def tw687136728043090318:=0
def tw8162066685892404622:=0
def tw16718553565512607246:=0
def tw2241642155978824238:=0
def tw3964011891811209838:=0
def tw12015661174726739598:=0
def tw5362472123818131150:=0
def tw2843128505304651502:=0
def tw8595585960981778158:=0
def tw8191656004128465870:=0
def tw9698816400410730543:=0
def tw9871030000255156303:=0
def tw13778544164212009103:=0
def tw1502270439115290863:=0
def tw412822069988149487:=0
def tw14042052125305465167:=0
def tw435274869185927567:=0
def tw2573762463902329231:=0
def tw1972932591391099535:=0
def tw3666865121359583951:=0
def tw1300282672846184239:=0
def tw4627289945578524559:=0
def tw135090201590950895:=0
def tw7423267483986044944:=0
def tw18028124140253173008:=0
def tw6569172901404221840:=0
def tw12231294150210849200:=0
def tw10541919863586819568:=0
def tw9996074003493393072:=0
def tw11395980248869381840:=0
def tw8012988549970655056:=0
def tw3387010596998241136:=0
def tw13703204174132347760:=0
def tw14404944231266254736:=0
def tw12733126479079549969:=0
def tw3717822545775647921:=0
def tw14654946649317865681:=0
def tw13740327504942217457:=0
def tw3135110492860709137:=0
def tw13656917876579919345:=0
def tw3916604475034990097:=0
def tw8525191701959566993:=0
def tw15274024828256653041:=0
def tw8319518093698337585:=0
def tw12775266885833748369:=0
def tw19719452874302385:=0
def tw18300708278982621298:=0
def tw5219422823328532658:=0
def tw13591633252492322034:=0
def tw14305512641738589490:=0
def tw14823001121108978002:=0
def tw2070210371759938002:=0
def tw5945546549835420242:=0
def tw16790840090227408466:=0
def tw7561208385143113394:=0
def tw13514777409716119218:=0
def tw2273578419369037586:=0
def tw5487685811885307923:=0
def tw15282280431524796467:=0
def tw13253387439454921811:=0
def tw9815241250020088915:=0
def tw14080813948487471347:=0
def tw5316634868128254227:=0
def tw15019461610507572499:=0
def tw14999694997219987731:=0
def tw15829154116124584403:=0
def tw10665522226026925587:=0
def tw12986539252874022451:=0
def tw191703219204869811:=0
def tw2872603811746288403:=0
def tw15212331383935386419:=0
def tw1756054016450868115:=0
def tw4659129313226930067:=0
def tw7503532033764419475:=0
def tw11569137340591388724:=0
def tw14115984037981238388:=0
def tw4802339814700012692:=0
def tw2963680456839030964:=0
def tw9108653417847183604:=0
def tw7392872612709479764:=0
def tw9169306905717575028:=0
def tw18193421237110234580:=0
def tw8768236113025503764:=0
def tw10490486845067939348:=0
def tw12606953953322578516:=0
def tw8552521099537494676:=0
def tw16063423701182064372:=0
def tw3718524904140105492:=0
def tw15731944477766536052:=0
def tw11583723979259756468:=0
def tw6807668923082398676:=0
def tw3545658132778444821:=0
def tw3979795899773492277:=0
def tw5427311011564628245:=0
def tw5093553571478819157:=0
def tw11295291800306860437:=0
def tw13836642904019431925:=0
def tw7143765012622039701:=0
def tw2612913022455016149:=0
def tw4293113200329776085:=0
def tw8661227589964054742:=0
def tw3634628602430807286:=0
def tw3136479221367461206:=0
def tw5905036423838068086:=0
def tw468060056963670390:=0
def tw17362559718344444406:=0
def tw17968816794000851510:=0
def tw2635461844455892598:=0
def tw4978008397031980694:=0
def tw7571813661724540630:=0
def tw10625302089657270998:=0
def tw16109334267898613558:=0
def tw1148517503363204022:=0
def tw18018648228089599958:=0
def tw5475524043368338551:=0
def tw11196621528952735991:=0
def tw1000617419960155479:=0
def tw16890987440253500823:=0
def tw2566055958908039607:=0
def tw18292442315120449975:=0
def tw6842078185833084375:=0
def tw422405991344315895:=0
def tw6238851600271496695:=0
def tw18302769283334101559:=0
def tw886235041145499383:=0
def tw9854861395205658391:=0
def tw1105916157863245687:=0
def tw6975053355244255095:=0
def tw16600927645907203991:=0
def tw9637685844664560599:=0
def tw9999458981278215127:=0
def tw861922080203351128:=0
def tw3132835886887366776:=0
def tw17561326609946163416:=0
def tw2350722698215975128:=0
def tw8688837028918286584:=0
def tw7008081061850283352:=0
def tw446693811862443480:=0
def tw4282601516998403576:=0
def tw2293308888552147480:=0
def tw9806751040302272024:=0
def tw17063957861609957976:=0
def tw15571274468467511960:=0
def tw8968707339521809368:=0
def tw11913708222872780760:=0
def tw3272865643419398201:=0
def tw13741875302336782393:=0
def tw6026342575370811481:=0
def tw3725811067106073785:=0
def tw17072741847750110521:=0
def tw10771654769024926041:=0
def tw12761377348254929337:=0
def tw14629443731556606425:=0
def tw2471547813101416953:=0
def tw1116468121906276921:=0
def tw6793405539215906425:=0
def tw5279654945544211065:=0
def tw8086053681468917433:=0
def tw167331469700664025:=0
def tw8820383152824989401:=0
def tw14807169202953268985:=0
def tw8013797998533921721:=0
def tw17479676085303269369:=0
def tw606765764557697082:=0
def tw1406578705738009658:=0
def tw16666372905691791418:=0
def tw6161294800081867866:=0
def tw2632225199270538362:=0
def tw1242692160849939642:=0
def tw18377627656673005818:=0
def tw10223626443702011194:=0
def tw8498439029395645850:=0
def tw1757502071861996954:=0
def tw8468552602934203866:=0
def tw1246955027156727514:=0
def tw10660252533536655130:=0
def tw16868084816906115930:=0
def tw16414872271232427898:=0
def tw10061159556307714938:=0
def tw11551452614843274170:=0
def tw3901563436912244698:=0
def tw748116950127003610:=0
def tw5275464514157064315:=0
def tw17088319979455868155:=0
def tw10353896976090680603:=0
def tw7752531597454816571:=0
def tw57915648073071035:=0
def tw6502422466984681179:=0
def tw12906111545305077531:=0
def tw10821078139601188892:=0
def tw9843599284152767548:=0
def tw6859655804082451676:=0
def tw14611399814297051356:=0
def tw17489311516006703612:=0
def tw6958075429861205596:=0
def tw18016810656969316956:=0
def tw7295533852552596220:=0
def tw14477665919819758332:=0
def tw16900273297975098236:=0
def tw541848143525749660:=0
def tw8473932060421366716:=0
def tw8033516124997477405:=0
def tw2925428560866535549:=0
def tw3148457345520213213:=0
def tw13012443865235201341:=0
def tw11686733671656351229:=0
def tw1116348333290755677:=0
def tw10311300913871678045:=0
def tw12702531752840760029:=0
def tw2870722408722825981:=0
def tw16337791642819928957:=0
def tw2617165785238951805:=0
def tw4383167716639958909:=0
def tw9136036852177770718:=0
def tw9947354371050311070:=0
def tw685611666906429886:=0
def tw5448420185704290782:=0
def tw4827536806537320990:=0
def tw14059056913204090430:=0
def tw17831100279358235198:=0
def tw5641353278957225630:=0
def tw18090904349271278302:=0
def tw1740489993368793886:=0
def tw4380465932970483518:=0
def tw12951666861067594654:=0
def tw3312928689432791966:=0
def tw11144828500963686334:=0
def tw14351574406892428319:=0
def tw17574112903256562719:=0
def tw5756313631049366623:=0
def tw4101425878697809151:=0
def tw5522253899022589183:=0
def tw15781284936711399679:=0
def tw1814910203466395999:=0
def tw3185661546067900799:=0
def tw16582345718066395519:=0
def tw5393102469488692607:=0
def tw8293432837608140287:=0
def tw4599161084695780895:=0
def tw13713093434555746847:=0
def tw15565941413937318495:=0
def tw17586069624182297183:=0
def tw13246277101016905311:=0
def tw17015754027084922495:=0
def tw11005099703094429343:=0
def tw465783345256894111:=0
def tw464111398341056191:=0
def tw13777627147462773471:=0
def tw5499046835182791487:=0
def tw2626086442368628543:=0
def tw4400231566694799167:=0
def tw18089383735884911519:=0
def tw15411732221079781375:=0
def tw10118239524123521249:=0
end PySem.W.Fast
set_option maxRecDepth 100000 in
set_option maxHeartbeats 0 in
theorem PySem.Challenge.cw_nailhang_k61_texts_read_holds : PySem.Challenge.rw_nailhang_k61_texts_read.Holds := by
  w_on;o_law;k_head;(case hw=>w_witness2)
  k_fill
  refine Nhk61.B5 (l:=PySem.Challenge.rw_nailhang_k61_texts_read) rfl rfl (fun w h Y=>⟨PySem.W.kIn_of Y,Nhk61.wO (by k_is) (by k_is) (by k_is) (by k_is) (by k_is) (by k_is) (by k_is) (by k_is)⟩) ?F
  case F=>
    intro w mg fa h KX G hmg
    refine' Nhk61.y1 KX G hmg (PL.Aa KX G ?_ ?_ ?_ ?_ ?_ ?_ ?_ ?_ ?_ ?_ ?_ ?_ ?_ ?_ ?_ ?_ ?_ ?_ ?_ ?_) ?hPiece ?hParts ?hTimes ?hBack ?his ?_ ?_ ?_ ?_ ?_ ?_ ?_ ?_ ?_ ?_ ?_ ?_ ?_ ?_ ?_ ?_ ?_ ?_ ?_ ?_ ?_ ?_ ?_ ?_ ?_ ?_ ?_ ?g_DEEPEST ?g_LONGEST ?g_MOST_FIGURES
    case hPiece=>refine' Nhk61.sK ?_ ?_ ?_ ?_ ?_ ?_ ?_ ?_ ?_ ?_ ?_ ?_ ?_ ?_ ?_ <;> first | (refine' PL.qT ?_ ?_ ?_ ?_ ?_ <;> first | k_is | skip) | k_is | skip
    case hParts=>refine' Nhk61.sL ?_ ?_ ?_ ?_ ?_ ?_ ?_ ?_ ?_ ?_ ?_ ?_ ?_ ?_ ?_ <;> first | (refine' PL.qT ?_ ?_ ?_ ?_ ?_ <;> first | k_is | skip) | k_is | skip
    case hTimes=>refine' Nhk61.sM ?_ ?_ ?_ ?_ ?_ ?_ ?_ ?_ ?_ ?_ ?_ ?_ ?_ ?_ ?_ <;> first | (refine' PL.qT ?_ ?_ ?_ ?_ ?_ <;> first | k_is | skip) | k_is | skip
    case hBack=>refine' Nhk61.vc ?_ ?_ ?_ ?_ ?_ ?_ ?_ ?_ ?_ ?_ ?_ ?_ ?_ ?_ ?_ <;> first | (refine' PL.qT ?_ ?_ ?_ ?_ ?_ <;> first | k_is | skip) | k_is | skip
    case his=>refine' Nhk61.yZ ?_ ?_ ?_ ?_ ?_ ?_ ?_ ?_ ?_ <;> first | k_is | kit_is | skip
    (case g_DEEPEST=>k_is)
    (case g_LONGEST=>k_is)
    (case g_MOST_FIGURES=>k_is)
    all_goals first | (refine' Nhk61.AE ?_ ?_ ?_ ?_ <;> first | k_is | skip) | k_is
