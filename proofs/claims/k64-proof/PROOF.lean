import PyProof.Rows.All
import KE.KLam
import KE.KNestM
import PyProof.OldK
import Wide.All
import OpenK.AllK
import Wide.FinOn
import Lean
import PyProof.EqAt
import PyProof.EqKinds
import PyProof.TupleCall
import KE.KRevIter
import PyProof.Rows.SeqMore
import PyProof.Rows.ListMulArg
import PyProof.ZipIter
import PyProof.Rows.ZipGen
import PyProof.EnumMake
import PyProof.StrWalks
import PyProof.SliceStr2
import PyProof.StrBlockH
import PyProof.FString5
import PyProof.Rows.StrJoin2
import PyProof.Rows.Range3
import KE.KDictLaws
import PyProof.ConsumeWalk
import PyProof.SumWalkG
import PyProof.Rows.SeqCalls
import PyProof.Rows.SeqGen
import PyProof.Rows.MinMaxN
import PyProof.Rows.CallKwBuiltin
import PyProof.Rows.SortStr
import PyProof.StrOps2
import PyProof.Rows.StrMul
import PyProof.IsRules
import PyProof.Rows.SetFrom
import PyProof.CollectStr
import KE.KTryMore
import PyProof.PureStr
import PyProof.CallStr
import KE.KIntText
import KE.IntTextLaws
import PyProof.Rows.ReprOcc
import PyProof.StrLawsIdx
import PyProof.StrLawsIn
import PyProof.StrLaws
import KE.RegKIsAll
import KE.RegKTryMore
import PySem.Challenge.RW_nailhang_k64_too_long
set_option Elab.async false
set_option linter.all false
set_option maxRecDepth 100000
set_option maxHeartbeats 4000000
local macro_rules | `(tactic| omega) => `(tactic| lia)
noncomputable section
namespace L2
open PySem PySem.Spec PyProof.Rows
abbrev eP:=Sum Int Str
def yy:eP→Value→Bool
  | .inl k,v=>Value.isInt k v
  | .inr x,v=>Value.isStrOf x v
def Cz (w:World):eP→Int
  | .inl k=>hashInt k
  | .inr x=>hashStr w x
theorem cj:∀{k:eP} {v:Value},yy k v=true→(∃i t,k=Sum.inl i∧v=Value.int i t)∨(∃x t,k=Sum.inr x∧v=Value.str x t)
  | .inl i,v,h=>by
    obtain ⟨t,e⟩:=Value.isInt_shape (k:=i) (v:=v) h
    exact .inl ⟨i,t,rfl,e⟩
  | .inr x,v,h=>by
    obtain ⟨t,e⟩:=Value.isStrOf_shape (x:=x) (v:=v) h
    exact .inr ⟨x,t,rfl,e⟩
theorem zd (a b:Int):decide ((Sum.inl a:eP)=Sum.inl b)=(a == b):=by
  by_cases e:a=b
  · subst e;simp
  · have h:¬(Sum.inl a:eP)=Sum.inl b:=fun q=>e (Sum.inl.inj q)
    rw [decide_eq_false h]
    exact (beq_eq_false_iff_ne.mpr e).symm
theorem ze (a b:Str):decide ((Sum.inr a:eP)=Sum.inr b)=decide (a=b):=by
  by_cases e:a=b
  · subst e;simp
  · have h:¬(Sum.inr a:eP)=Sum.inr b:=fun q=>e (Sum.inr.inj q)
    rw [decide_eq_false h,decide_eq_false e]
theorem zf (a:Int) (b:Str):decide ((Sum.inl a:eP)=Sum.inr b)=false:=decide_eq_false (fun q=>nomatch q)
theorem zh (a:Str) (b:Int):decide ((Sum.inr a:eP)=Sum.inl b)=false:=decide_eq_false (fun q=>nomatch q)
def kL (prog:Program) (w:World):PySem.KeyKind prog w eP where
  is:=yy
  hash:=Cz w
  inj:=fun v a b ha hb=>by
    rcases cj ha with ⟨i,t,rfl,rfl⟩ | ⟨x,t,rfl,rfl⟩
    · rcases cj hb with ⟨j,u,rfl,e⟩ | ⟨y,u,rfl,e⟩
      · injection e with e1 _;rw [e1]
      · exact nomatch e
    · rcases cj hb with ⟨j,u,rfl,e⟩ | ⟨y,u,rfl,e⟩
      · exact nomatch e
      · injection e with e1 _;rw [e1]
  byValue:=fun k v h=>by
    rcases cj h with ⟨i,t,rfl,rfl⟩ | ⟨x,t,rfl,rfl⟩ <;> rfl
  pyHash:=fun hv h=>by
    rcases cj hv with ⟨i,t,rfl,rfl⟩ | ⟨x,t,rfl,rfl⟩
    · exact wpAny_pyHash_int h
    · exact wpAny_pyHash_str h
  eqBool:=fun hu hv h=>by
    rcases cj hu with ⟨i,t,rfl,rfl⟩ | ⟨x,t,rfl,rfl⟩
    · rcases cj hv with ⟨j,u,rfl,rfl⟩ | ⟨y,u,rfl,rfl⟩
      · rw [zd] at h;exact wpAny_eqBool_int h
      · rw [zf] at h;exact SeqAt.EqAt.int_str i t y u _ _ _ _ h
    · rcases cj hv with ⟨j,u,rfl,rfl⟩ | ⟨y,u,rfl,rfl⟩
      · rw [zh] at h;exact SeqAt.EqAt.str_int x t j u _ _ _ _ h
      · rw [ze] at h;exact wpAny_eqBool_str h
  «strs»:=fun k x t v h=>by
    rcases cj h with ⟨i,u,rfl,e⟩ | ⟨y,u,rfl,e⟩
    · exact nomatch e
    · injection e with e1 _
      subst e1
      cases v <;> rfl
end L2
namespace L2
open PySem PySem.Spec PyProof.Rows
inductive V where
  | non | bl (b:Bool) | int (i:Int) | str (x:Str) | byt (b:Array UInt8) | flt (b:UInt64) | ref (a:Addr) | ty (n:String)
  deriving DecidableEq
def RelV:V→Value→Prop
  | .non,u=>u=Value.none
  | .bl b,u=>u=Value.bool b
  | .int i,u=>∃t,u=Value.int i t
  | .str x,u=>∃t,u=Value.str x t
  | .byt b,u=>∃t,u=Value.bytes b t
  | .flt b,u=>∃t,u=Value.float b t
  | .ref a,u=>u=Value.ref a
  | .ty n,u=>u=Value.type n
abbrev Vals:List V→List Value→Prop:=Paired RelV
theorem Vals.length {xs:List V} {us:List Value} (r:Vals xs us):xs.length=us.length:=Paired.length r
theorem Vals.get:∀{xs:List V} {us:List Value} {i:Nat} {x:V},Vals xs us→xs[i]? =some x→∃u,us[i]? =some u∧RelV x u
  | _,_,_,_, .nil,e=>by simp at e
  | _,_,0,_, .cons r _,e=>by simp at e;subst e;exact ⟨_,rfl,r⟩
  | _,_,i+1,x, .cons _ t,e=>by
    obtain ⟨u,h1,h2⟩:=Vals.get (i:=i) (x:=x) t (by simpa using e)
    exact ⟨u,by simpa using h1,h2⟩
theorem Vals.set {x:V} {u:Value} (r:RelV x u):∀{xs:List V} {us:List Value} (i:Nat),Vals xs us→Vals (xs.set i x) (us.set i u)
  | _,_,_, .nil=> .nil
  | _,_,0, .cons _ t=> .cons r t
  | _,_,i+1, .cons q t=> .cons q (Vals.set r i t)
theorem Vals.append:∀{xs ys:List V} {us ws:List Value},Vals xs us→Vals ys ws→Vals (xs++ys) (us++ws)
  | _,_,_,_, .nil,s=>s
  | _,_,_,_, .cons r t,s=> .cons r (Vals.append t s)
theorem Vals.take:∀{xs:List V} {us:List Value} (n:Nat),Vals xs us→Vals (xs.take n) (us.take n)
  | _,_,0,_=> .nil
  | _,_,_+1, .nil=> .nil
  | _,_,n+1, .cons r t=> .cons r (Vals.take n t)
theorem Vals.drop:∀{xs:List V} {us:List Value} (n:Nat),Vals xs us→Vals (xs.drop n) (us.drop n)
  | _,_,0,r=>r
  | _,_,_+1, .nil=> .nil
  | _,_,n+1, .cons _ t=>Vals.drop n t
theorem Vals.none_of:∀{xs:List V} {us:List Value} {i:Nat},Vals xs us→xs[i]? =none→us[i]? =none:=fun {xs us i} r e=>by
  have h1:=r.length
  have h2:xs.length≤i:=List.getElem?_eq_none_iff.mp e
  exact List.getElem?_eq_none_iff.mpr (by omega)
def RelO:Option V→Option Value→Prop
  | some v,some u=>RelV v u
  | none,none=>True
  | _,_=>False
def KV {κ:Type}:List (κ×V)→List (κ×Value)→Prop:=Paired fun (p:κ×V) (q:κ×Value)=>p.1=q.1∧RelV p.2 q.2
def kV:eP→V
  | .inl i=> .int i
  | .inr x=> .str x
inductive HO where
  /-- a list -/
  | lst (xs:List V)
  /-- a tuple (never changes) -/
  | tup (xs:List V)
  /-- a dict whose keys are ints and texts;one whose keys are tuples of ints and texts (the empty one is both) -/
  | dK (kvs:List (eP×V)) | dT (kvs:List (List eP×V))
  /-- a set of ints:its members,its size -/
  | set (S:Int→Bool) (n:Nat)
  /-- an instance of the class at C,its dict at dx,its attributes -/
  | ins (C dx:Addr) (fs:List (Str×V))
  /-- the dict of the instance at x -/
  | own (x:Addr)
  /-- the dict of an exception -/
  | xd (fs:List (Str×V))
  /-- a bound method,f of x -/
  | met (f x:Addr)
  /-- a range object lo,lo+1, .. below hi -/
  | rng (lo hi:Int)
  /-- a thing that is known to the object (the script;a dict while a loop walks it):read,never written while it is so -/
  | frz (o:Obj) (u:HO)
  /-- a code object's table -/
  | tbl (q:Str)
  /-- any other thing,by what is true of its one object (a def of one's own:SetO a S n:=HO.ext fun h=> ..) -/
  | ext (φ:Heap→Prop)
abbrev Hp:=Addr→Option HO
def upd (H:Hp) (a:Addr) (o:HO):Hp:=fun b=>if b=a then some o else H b
theorem upd_same {H:Hp} {a:Addr} {o:HO}:upd H a o a=some o:=by unfold upd;rw [if_pos rfl]
theorem av {H:Hp} {a b:Addr} {o:HO} (h:b≠a):upd H a o b=H b:=by unfold upd;rw [if_neg h]
theorem nO {H:Hp} {a:Addr} {o u:HO}:upd (upd H a o) a u=upd H a u:=by
  funext b;unfold upd;split <;> rfl
theorem yz {H:Hp} {a b:Addr} {o u:HO} (h:H a=some o) (h':H b=some u) (d:o≠u):a≠b:=by
  intro e;subst e;rw [h] at h';exact d (Option.some.inj h')
theorem aL {H:Hp} {a b:Addr} {o:HO} (h:H a=some o) (h':H b=none):a≠b:=by
  intro e;subst e;rw [h] at h';cases h'
section
variable (P:Program) (w:World)
def ObjOk (H:Hp) (h:Heap) (a:Addr):HO→Prop
  | .lst xs=>xs.length≤sizeLine∧∃(its:List Value) (n:Nat),Vals xs its∧h.get? a=some {cls:= .type "list",data:= .seq its.toArray n}
  | .tup xs=>xs.length≤sizeLine∧∃its:List Value,Vals xs its∧IsTup h a its.toArray
  | .dK kvs=>kvs.length≤sizeLine∧(a == sysModules)=false∧∃vs,KV kvs vs∧h.DictOf (kL P w) a vs
  | .dT kvs=>kvs.length≤sizeLine∧(a == sysModules)=false∧∃xs:List (List eP×Addr×Value),
      Paired (fun (p:List eP×V) (q:List eP×Addr×Value)=>p.1=q.1∧H q.2.1=some (.tup (p.1.map kV))∧RelV p.2 q.2.2) kvs xs∧
      ∃o es ep,h.get? a=some o∧o.ExactDict∧o.data= .dict es ep∧es.toList=xs.map (entryOfKey (tupleKind (kL P w)))∧(xs.map (·.1)).Nodup
  | .set S n=>h.SetOf (intKind P w) a S n
  | .ins C dx fs=>H dx=some (.own a)∧fs.length≤1000∧dx≠a∧h.get? a=some (PySem.W.instObj C dx)∧
      ∃mA,h.Ns1 dx mA∧(∀f,RelO (fs.lookup f) (mA f))∧PySem.Within mA (fs.map (·.1))
  | .own _=>∃o,h.get? a=some o
  | .xd fs=>∃mA,h.Ns1 a mA∧∀f,RelO (fs.lookup f) (mA f)
  | .rng lo hi=>∃t u v,h.get? a=some {cls:= .type "range",data:= .fields #[.int lo t, .int hi u, .int 1 v]}
  | .frz o u=>h.get? a=some o∧ObjOk H h a u
  | .tbl q=>∃ps:Array Value,h.get? a=some (PySem.W.tabObj ps)∧TriplesOk ps.toList∧∀pos cv,codeAmong pos ps.toList=some cv→∃c,cv=Value.ref c∧H c=some (.own a)∧h.CodeRec cv q
  | .met f x=>h.get? a=some (PySem.W.methodObj (.ref f) (.ref x))
  | .ext φ=>φ h∧(∃o,h.get? a=some o)∧∀h1 h2:Heap,φ h1→(∀o,h1.get? a=some o→h2.get? a=some o)→φ h2
def HOk (H:Hp) (h:Heap):Prop:=∀a o,H a=some o→ObjOk P w H h a o
end
section
variable {P:Program} {w:World} {H H':Hp} {h h':Heap} {a:Addr} {o:HO}
theorem ObjOk.lt (x:ObjOk P w H h a o):a < h.objs.size:=by
  cases o with
  | lst xs=>obtain ⟨_,_,_,_,e⟩:=x;exact Heap.lt_size e
  | tup xs=>obtain ⟨_,_,_,p⟩:=x;exact p.lt
  | dK kvs=>obtain ⟨_,_,_,_,o,_,_,e,_⟩:=x;exact Heap.lt_size e
  | dT kvs=>obtain ⟨_,_,_,_,o,_,_,e,_⟩:=x;exact Heap.lt_size e
  | set S n=>obtain ⟨o,_,_,_,e,_⟩:=x;exact Heap.lt_size e
  | ins C dx fs=>obtain ⟨_,_,_,e,_⟩:=x;exact Heap.lt_size e
  | own y=>obtain ⟨_,e⟩:=x;exact Heap.lt_size e
  | xd fs=>obtain ⟨_,⟨_,_,_,e,_⟩,_⟩:=x;exact Heap.lt_size e
  | rng lo hi=>obtain ⟨_,_,_,e⟩:=x;exact Heap.lt_size e
  | frz ob u=>obtain ⟨e,_⟩:=x;exact Heap.lt_size e
  | tbl q=>obtain ⟨_,e,_⟩:=x;exact Heap.lt_size e
  | met f y=>exact Heap.lt_size (show h.get? a=some _ from x)
  | ext φ=>obtain ⟨_,⟨_,e⟩,_⟩:=x;exact Heap.lt_size e
theorem Paired.mapP {α β:Type} {F G:α→β→Prop} {l₁:List α} {l₂:List β} (h:Paired F l₁ l₂) (f:∀a b,F a b→G a b):Paired G l₁ l₂:=by
  induction h with
  | nil=>exact .nil
  | cons r _ t=>exact .cons (f _ _ r) t
theorem ObjOk.stay (x:ObjOk P w H h a o) (k:∀b u,(b=a∨H b=some (.own a))→h.get? b=some u→h'.get? b=some u)
    (ho:∀b,H b=some (.own a)→H' b=some (.own a)) (ht:∀b xs,H b=some (.tup xs)→H' b=some (.tup xs)):ObjOk P w H' h' a o:=by
  induction o with
  | lst xs=>obtain ⟨z,its,n,r,e⟩:=x;exact ⟨z,its,n,r,k _ _ (.inl rfl) e⟩
  | tup xs=>obtain ⟨z,its,r,ob,e,c⟩:=x;exact ⟨z,its,r,ob,k _ _ (.inl rfl) e,c⟩
  | dK kvs=>obtain ⟨z,y,vs,r,ob,es,ep,e,c⟩:=x;exact ⟨z,y,vs,r,ob,es,ep,k _ _ (.inl rfl) e,c⟩
  | dT kvs=>
    obtain ⟨z,y,xs,r,ob,es,ep,e,c⟩:=x
    exact ⟨z,y,xs,Paired.mapP r fun p q z=>⟨z.1,ht _ _ z.2.1,z.2.2⟩,ob,es,ep,k _ _ (.inl rfl) e,c⟩
  | set S n=>obtain ⟨ob,es,ep,t,e,c⟩:=x;exact ⟨ob,es,ep,t,k _ _ (.inl rfl) e,c⟩
  | ins C dx fs=>
    obtain ⟨d,z,ne,e,mA,⟨od,es,ep,e2,c⟩,r⟩:=x
    exact ⟨ho _ d,z,ne,k _ _ (.inl rfl) e,mA,⟨od,es,ep,k _ _ (.inr d) e2,c⟩,r⟩
  | own y=>obtain ⟨ob,e⟩:=x;exact ⟨ob,k _ _ (.inl rfl) e⟩
  | xd fs=>obtain ⟨mA,⟨od,es,ep,e,c⟩,r⟩:=x;exact ⟨mA,⟨od,es,ep,k _ _ (.inl rfl) e,c⟩,r⟩
  | rng lo hi=>obtain ⟨t,u,v,e⟩:=x;exact ⟨t,u,v,k _ _ (.inl rfl) e⟩
  | frz ob u ih=>obtain ⟨e,q⟩:=x;exact ⟨k _ _ (.inl rfl) e,ih q⟩
  | tbl q=>
    obtain ⟨ps,e,t,r⟩:=x
    refine ⟨ps,k _ _ (.inl rfl) e,t,fun pos cv z=>?_⟩
    obtain ⟨c,ec,ho',c2,oc,vs,tq,hc,hoc,hd⟩:=r pos cv z
    subst ec
    cases hc
    exact ⟨c,rfl,ho _ ho',c,oc,vs,tq,rfl,k _ _ (.inr ho') hoc,hd⟩
  | met f y=>
    have e:h.get? a=some (PySem.W.methodObj (.ref f) (.ref y)):=x
    show h'.get? a=some (PySem.W.methodObj (.ref f) (.ref y))
    exact k a _ (.inl rfl) e
  | ext φ=>obtain ⟨p,⟨o,e⟩,st⟩:=x;exact ⟨st _ _ p fun o q=>k _ _ (.inl rfl) q,⟨o,k _ _ (.inl rfl) e⟩,st⟩
theorem HOk.lt (x:HOk P w H h) (e:H a=some o):a < h.objs.size:=(x a o e).lt
theorem HOk.fresh (x:HOk P w H h) (e:h.objs.size≤a):H a=none:=by
  cases q:H a with
  | none=>rfl
  | some u=>exact absurd (Nat.lt_of_lt_of_le (x.lt q) e) (Nat.lt_irrefl _)
theorem HOk.kept (x:HOk P w H h) (k:∀b u,h.get? b=some u→h'.get? b=some u):HOk P w H h':=fun a o e=>
  (x a o e).stay (fun b u _ q=>k b u q) (fun _ q=>q) fun _ _ q=>q
theorem HOk.laid (x:HOk P w H h) (k:∀b u,h.get? b=some u→h'.get? b=some u) (hp:h.objs.size≤a) (new:ObjOk P w (upd H a o) h' a o):HOk P w (upd H a o) h':=fun b u e=>by
  have hn:=x.fresh hp
  by_cases hb:b=a
  · subst hb;rw [upd_same] at e;cases e;exact new
  · rw [av hb] at e
    exact (x b u e).stay (fun c v _ q=>k c v q) (fun c q=>by rw [av (aL q hn)];exact q) fun c xs q=>by rw [av (aL q hn)];exact q
end
def Rd (H:Hp) (a:Addr) (u:HO):Prop:=H a=some u∨∃o,H a=some (.frz o u)
theorem Rd.of {H:Hp} {a:Addr} {u:HO} (h:H a=some u):Rd H a u:= .inl h
theorem Rd.ok {P:Program} {w:World} {H:Hp} {h:Heap} {a:Addr} {u:HO} (r:Rd H a u) (x:HOk P w H h):ObjOk P w H h a u:=by
  rcases r with r | ⟨o,r⟩
  · exact x a u r
  · obtain ⟨_,q⟩:=x a _ r
    exact q
def Cg:Option HO→Prop
  | some (.lst _)=>True
  | some (.dK _)=>True
  | some (.dT _)=>True
  | some (.set _ _)=>True
  | some (.ins _ _ _)=>True
  | some (.ext _)=>True
  | _=>False
section
variable {P:Program} {w:World} {H:Hp} {h h':Heap} {x e:Addr} {o':HO}
theorem HOk.write (ok:HOk P w H h) (mu:Cg (H x)) (he:e=x∨H e=some (.own x)) (k:∀b u,b≠e→h.get? b=some u→h'.get? b=some u) (heo:∃u,h'.get? e=some u)
    (new:ObjOk P w (upd H x o') h' x o'):HOk P w (upd H x o') h':=fun b u q=>by
  have nown:∀c y,H c=some (.own y)→c≠x:=fun c y r z=>by subst z;rw [r] at mu;exact mu
  have ntup:∀c xs,H c=some (.tup xs)→c≠x:=fun c xs r z=>by subst z;rw [r] at mu;exact mu
  by_cases hb:b=x
  · subst hb;rw [upd_same] at q;cases q;exact new
  · rw [av hb] at q
    by_cases hbe:b=e
    · have q':H b=some (.own x):=by
        rcases he with z | z
        · exact absurd (hbe.trans z) hb
        · rw [hbe];exact z
      rw [q] at q';cases q'
      obtain ⟨v,hv⟩:=heo
      exact ⟨v,by rw [hbe];exact hv⟩
    · refine (ok b u q).stay (fun c v hc r=>k c v ?_ r) (fun c r=>by rw [av (nown c b r)];exact r) fun c xs r=>by rw [av (ntup c xs r)];exact r
      rcases hc with rfl | hc
      · exact hbe
      · rintro rfl
        rcases he with z | z
        · exact nown c b hc z
        · rw [hc] at z;cases z;exact hb rfl
end
structure Un (fs ex:List Addr) (H H':Hp) (h h':Heap):Prop where
  keep:∀b o,h.get? b=some o→H b=none→b∉fs→b∉ex→h'.get? b=some o
  slot:∀b o,h.get? b=some o→H b=none→b∈fs→b∉ex→∃sl,h'.get? b=some {o with slots:=sl}
  free:∀b o,h.get? b=some o→H b=none→b∉ex→H' b=none
  there:∀b o,h.get? b=some o→b∉ex→∃o',h'.get? b=some o'
  tups:∀b xs,H b=some (.tup xs)→H' b=some (.tup xs)
  frzs:∀b o u,H b=some (.frz o u)→H' b=some (.frz o u)
  tbls:∀b ps,H b=some (.tbl ps)→H' b=some (.tbl ps)
section
variable {fs fs' ex ex':List Addr} {H H1 H2:Hp} {h h1 h2 h':Heap} {a x e:Addr} {o:HO}
theorem Un.any (u:Un fs ex H H1 h h1) {b:Addr} {ob:Obj} (q:h.get? b=some ob) (n:H b=none) (hx:b∉ex):∃sl,h1.get? b=some {ob with slots:=sl}:=by
  by_cases hb:b∈fs
  · exact u.slot b ob q n hb hx
  · exact ⟨ob.slots,u.keep b ob q n hb hx⟩
theorem Un.trans (a:Un fs ex H H1 h h1) (b:Un fs ex H1 H2 h1 h2):Un fs ex H H2 h h2 where
  keep:=fun c ob q n hc hx=>b.keep c ob (a.keep c ob q n hc hx) (a.free c ob q n hx) hc hx
  slot:=fun c ob q n hc hx=>by
    obtain ⟨sl,e1⟩:=a.slot c ob q n hc hx
    obtain ⟨sl',e2⟩:=b.slot c _ e1 (a.free c ob q n hx) hc hx
    exact ⟨sl',e2⟩
  free:=fun c ob q n hx=>by
    obtain ⟨o',e1⟩:=a.there c ob q hx
    exact b.free c o' e1 (a.free c ob q n hx) hx
  there:=fun c ob q hx=>by
    obtain ⟨o',e1⟩:=a.there c ob q hx
    exact b.there c o' e1 hx
  tups:=fun c xs q=>b.tups c xs (a.tups c xs q)
  frzs:=fun c ob xs q=>b.frzs c ob xs (a.frzs c ob xs q)
  tbls:=fun c ps q=>b.tbls c ps (a.tbls c ps q)
theorem Un.kept (k:∀b u,h.get? b=some u→h'.get? b=some u):Un fs ex H H h h':=
  ⟨fun b ob q _ _ _=>k b ob q,fun b ob q _ _ _=>⟨ob.slots,k b ob q⟩,fun _ _ _ n _=>n,fun b ob q _=>⟨ob,k b ob q⟩,fun _ _ q=>q,fun _ _ _ q=>q,fun _ _ q=>q⟩
theorem Un.refl:Un fs ex H H h h:=Un.kept fun _ _ q=>q
theorem Un.laid (k:∀b u,h.get? b=some u→h'.get? b=some u) (hp:h.objs.size≤a) (hn:H a=none):Un fs ex H (upd H a o) h h' where
  keep:=fun b u q _ _ _=>k b u q
  slot:=fun b u q _ _ _=>⟨u.slots,k b u q⟩
  free:=fun b u q n _=>by rw [av (Nat.ne_of_lt (Nat.lt_of_lt_of_le (Heap.lt_size q) hp))];exact n
  there:=fun b u q _=>⟨u,k b u q⟩
  tups:=fun b xs q=>by rw [av (aL q hn)];exact q
  frzs:=fun b u xs q=>by rw [av (aL q hn)];exact q
  tbls:=fun b ps q=>by rw [av (aL q hn)];exact q
theorem Un.write (mu:Cg (H x)) (he:e=x∨H e=some (.own x)) (k:∀b u,b≠e→h.get? b=some u→h'.get? b=some u) (heo:∃u,h'.get? e=some u):Un fs ex H (upd H x o) h h':=by
  have hx:∀b,H b=none→b≠x:=fun b n z=>by subst z;rw [n] at mu;exact mu
  have hb:∀b,H b=none→b≠e:=fun b n z=>by
    subst z
    rcases he with r | r
    · exact hx b n r
    · rw [n] at r;cases r
  have hm:∀b u,H b=some u→¬Cg (some u)→b≠x:=fun b u q nm z=>by subst z;rw [q] at mu;exact nm mu
  refine ⟨fun b u q n _ _=>k b u (hb b n) q,fun b u q n _ _=>⟨u.slots,k b u (hb b n) q⟩,fun b u q n _=>by rw [av (hx b n)];exact n,fun b u q _=>?_,
    fun b xs q=>by rw [av (hm b _ q fun z=>z)];exact q,fun b u xs q=>by rw [av (hm b _ q fun z=>z)];exact q,fun b ps q=>by rw [av (hm b _ q fun z=>z)];exact q⟩
  by_cases hbe:b=e
  · subst hbe;exact heo
  · exact ⟨u,k b u hbe q⟩
theorem Un.mono (u:Un fs ex H H1 h h1) (hs:∀b∈fs,b∈fs') (hx:∀b∈ex,b∈ex'):Un fs' ex' H H1 h h1:=
  ⟨fun b ob q n hb he=>u.keep b ob q n (fun z=>hb (hs b z)) fun z=>he (hx b z),fun _ _ q n _ he=>u.any q n fun z=>he (hx _ z),fun b ob q n he=>u.free b ob q n fun z=>he (hx b z),fun b ob q he=>u.there b ob q fun z=>he (hx b z),u.tups,u.frzs,u.tbls⟩
end
def Ch (h:Heap) (H:Hp):List Addr:=(List.range h.objs.size).filter fun a=>(H a).isSome
def o8 (h:Heap) (H:Hp):Heap:=PySem.W.hideAll h (Ch h H)
theorem sH (h:Heap) (H:Hp):(o8 h H).objs.size=h.objs.size:=PySem.W.hideAll_size _ _
theorem kS {h:Heap} {H:Hp} {b:Addr} {o:Obj} (e:h.get? b=some o) (n:H b=none):(o8 h H).get? b=some o:=
  PySem.W.hideAll_get _ e fun hm=>by
    have q:(H b).isSome=true:=(List.mem_filter.mp hm).2
    rw [n] at q;simp at q
theorem wO {h:Heap} {H:Hp} {b:Addr} {o:Obj} (e:(o8 h H).get? b=some o):h.get? b=some o∧H b=none:=by
  have e':h.get? b=some o:=PySem.W.of_hideAll (Ch h H) e
  refine ⟨e',?_⟩
  cases q:H b with
  | none=>rfl
  | some x=>
    have hm:b∈Ch h H:=List.mem_filter.mpr ⟨List.mem_range.mpr (Heap.lt_size e'),by simp [q]⟩
    have z:(o8 h H).get? b=none:=PySem.W.hideAll_none (Ch h H) hm
    rw [z] at e;cases e
def wP (g h:Heap) (L:Addr):List (Addr×Obj):=(List.range h.objs.size).filterMap fun a=>if a=L∨(g.get? a).isSome=true then none else (h.get? a).map fun o=>(a,o)
def bK (g h:Heap) (L d:Addr):List (Addr×Obj):=(wP g h L).filter fun p=>decide (p.1≠d)
end L2
namespace L2
open PySem PySem.Spec PyProof.Rows
def uC (K:PySem.W.Frag) (n:Str):Option Addr:=match PySem.W.nsIn K mainGlobals n with
  | some (some (.ref f))=>match K.lookup f with
    | some ⟨_,_, .func fd,_⟩=>match fd.code with
      | .ref c=>match K.lookup c with
        | some ⟨_,_, .fields vs,_⟩=>match (vs[11]? :Option Value) with
          | some (.ref P)=>some P
          | _=>none
        | _=>none
      | _=>none
    | _=>none
  | _=>none
def yA:List (Str×Str):=[("in_told_order","in_told_order.<locals>.<lambda>"),("_law_moves_refused","_law_moves_refused.<locals>.<lambda>"),("_law_long_refused","_law_long_refused.<locals>.<lambda>"),("_law_sets_refused","_law_sets_refused.<locals>.<lambda>"),("_law_cords_refused","_law_cords_refused.<locals>.<lambda>"),("_law_many_refused","_law_many_refused.<locals>.<lambda>"),("_law_two_refused","_law_two_refused.<locals>.<lambda>"),("_law_at_least_refused","_law_at_least_refused.<locals>.<lambda>")]
def wQ (K:PySem.W.Frag) (b:Addr):List (Str×Str)→Option Str
  | []=>none
  | n::r=>if uC K n.1=some b then some n.2 else wQ K b r
def kT (K:PySem.W.Frag) (b:Addr):Option Str:=wQ K b yA
structure Mod (K:PySem.W.Frag) (mg:Str→Option Value) (base:Heap):Prop where
  kin:K.In base
  glob:base.Ns mainGlobals mg
  blt:∃mb,base.Ns builtinsNs mb∧∀x:Str,x≠"__name__"→mb x=bootBuiltins x
  nolimit:base.NoLimit
  bmain:∃bm ob,mg "__builtins__"=some (.ref bm)∧bm≠builtinsNs∧base.get? bm=some ob∧ob.cls= .type "module"∧ob.dict=some builtinsNs∧ob.data= .plain
structure Cx where
  prog:Program
  w:World
  K:PySem.W.Frag
  mg:Str→Option Value
  base:Heap
  A:Around
  N:List Str
  s₀:Shared
  H₀:Hp
  env:Env
  outer:List Env
  stack:List Env
  ex:List Addr
  fn:Str→Bool
  calm:Bool
  pn:List (Addr×Obj)
  xe:Value→Shared→Prop
def kC (l:List Env):List Addr:=l.filterMap (·.frame)
abbrev Cx.fs (X:Cx):List Addr:=kC X.outer
def yB (sc:Scope) (x:Str):Prop:=sc.names.lookup x=some .local∨sc.names.lookup x=some .cell∨sc.names.lookup x=some .free
def AN (sc:Scope) (x:Str):Prop:=sc.names.lookup x=some .local∨sc.names.lookup x=some .cell
def CA (env:Env) (h:Heap) (m:Str→Option Value) (x:Str) (u:Value):Prop:=
  (env.kindOf x=some .local∧m x=some u)∨((env.kindOf x=some .cell∨env.kindOf x=some .free)∧∃c,env.cells.lookup x=some c∧h.IsCell c (some u))
structure Cx.Ok (X:Cx):Prop where
  mod:Mod X.K X.mg X.base
  kind:X.env.scope.kind= .function
  glob:X.env.globals=mainGlobals
  blt:X.env.builtins=builtinsNs
  above:X.s₀.heap.objs.size≤X.env.locals
  inj:∀x y c,X.env.cells.lookup x=some c→X.env.cells.lookup y=some c→x=y
  has:∀x,(X.env.kindOf x=some .cell∨X.env.kindOf x=some .free)→∃c,X.env.cells.lookup x=some c
  cab:∀x c,X.fn x=true→X.env.cells.lookup x=some c→X.s₀.heap.objs.size≤c
  hd:X.calm=true→X.A.handled=none
  frames:X.A.frames=some X.stack
  stk:X.stack=X.outer∨(X.stack=X.env::X.outer∧X.env.frame=some X.env.locals)
  exf:∀b∈X.ex,b≠X.env.locals∧∀x c,X.env.cells.lookup x=some c→c≠b
  bs:∀b o,X.base.get? b=some o→X.s₀.heap.get? b=some o∧X.H₀ b=none
  bsz:X.base.objs.size≤X.s₀.heap.objs.size
  noex:∀b o,X.base.get? b=some o→b∉X.ex
  exfs:∀b∈X.ex,b∉X.fs
  funs:X.s₀.heap.FunFrames X.base X.outer
  frf:∀b∈X.fs,X.H₀ b=none
  tab:∀b q,kT X.K b=some q→X.H₀ b=some (.tbl q)
structure Inv (X:Cx) (pins:List (Addr×Obj)) (σ:List (Option V)) (H:Hp) (s:Shared):Prop where
  ok:X.Ok
  os:s.os=X.s₀.os
  bare:AllBare s.gens
  base:Un X.fs X.ex X.H₀ H X.s₀.heap s.heap
  loc:∃m,s.heap.Ns X.env.locals m∧∀(i:Nat) (x:Str) (v:V),X.N[i]? =some x→σ[i]? =some (some v)→yB X.env.scope x→∃u,RelV v u∧CA X.env s.heap m x u
  cell:∀x c,X.env.cells.lookup x=some c→∃v,s.heap.IsCell c v
  free:H X.env.locals=none
  freeC:∀x c,X.env.cells.lookup x=some c→H c=none
  pin:∀p∈X.pn++pins,s.heap.get? p.1=some p.2∧H p.1=none∧p.1≠X.env.locals∧p.1∉X.fs∧∀v,p.2.data≠ .cell v
  hok:HOk X.prog X.w H s.heap
  len:σ.length=X.N.length
section
variable {X:Cx} {pins:List (Addr×Obj)} {σ:List (Option V)} {H H':Hp} {s:Shared} {h':Heap}
theorem Cx.Ok.nofr (ok:X.Ok) {b:Addr} {o:Obj} (e:X.base.get? b=some o):b∉X.fs:=fun hb=>by
  have:=(ok.funs.mem hb).1
  rw [e] at this;cases this
theorem Inv.bs (I:Inv X pins σ H s):∀b o,X.base.get? b=some o→s.heap.get? b=some o∧H b=none:=fun b o e=>
  ⟨I.base.keep b o (I.ok.bs b o e).1 (I.ok.bs b o e).2 (I.ok.nofr e) (I.ok.noex b o e),I.base.free b o (I.ok.bs b o e).1 (I.ok.bs b o e).2 (I.ok.noex b o e)⟩
theorem Inv.bk (I:Inv X pins σ H s):∀b o,X.base.get? b=some o→s.heap.get? b=some o:=fun b o e=>(I.bs b o e).1
theorem Inv.mod (I:Inv X pins σ H s):Mod X.K X.mg X.base:=I.ok.mod
theorem Inv.tab (I:Inv X pins σ H s):∀b q,kT X.K b=some q→H b=some (.tbl q):=fun b q e=>I.base.tbls b q (I.ok.tab b q e)
theorem Inv.kIn (I:Inv X pins σ H s):X.K.In s.heap:=I.ok.mod.kin.keeps I.bk
theorem Inv.nolimit (I:Inv X pins σ H s):s.heap.NoLimit:=I.ok.mod.nolimit.keeps I.bk
theorem Inv.fr (I:Inv X pins σ H s):∃m,Fr X.base X.env.locals s.heap m:=
  let ⟨m,hn,_⟩:=I.loc
  ⟨m,hn,I.bk,Nat.le_trans I.ok.bsz I.ok.above⟩
theorem Inv.lt (I:Inv X pins σ H s):X.env.locals < s.heap.objs.size:=let ⟨_,hn,_⟩:=I.loc;hn.lt
theorem Inv.sz (I:Inv X pins σ H s):X.s₀.heap.objs.size≤s.heap.objs.size:=Nat.le_trans I.ok.above (Nat.le_of_lt I.lt)
theorem Inv.nofs (I:Inv X pins σ H s) {a:Addr} (h:s.heap.objs.size≤a):a∉X.fs:=fun hb=>by
  obtain ⟨_,o,ho,_⟩:=I.ok.funs.mem hb
  exact absurd (Nat.lt_of_lt_of_le (Heap.lt_size ho) (Nat.le_trans I.sz h)) (Nat.lt_irrefl _)
theorem Inv.cne (I:Inv X pins σ H s):∀x c,X.env.cells.lookup x=some c→c≠X.env.locals:=fun x c e z=>by
  obtain ⟨v,o,ho,hd⟩:=I.cell x c e
  obtain ⟨m,⟨o',es,ep,ho',hd',_⟩,_⟩:=I.loc
  rw [z,ho'] at ho;cases ho;rw [hd'] at hd;cases hd
theorem Inv.funs (I:Inv X pins σ H s):s.heap.FunFrames X.base X.outer:=by
  have all:∀(l:List Env),(∀b∈kC l,b∈X.fs)→X.s₀.heap.FunFrames X.base l→s.heap.FunFrames X.base l:=by
    intro l
    induction l with
    | nil=>intro _ _;trivial
    | cons env r ih=>
      intro hs hl
      obtain ⟨hk,⟨L,o,hf,hn,ho,hd⟩,hr⟩:=hl
      have hL:L∈X.fs:=hs L (by unfold kC;rw [List.filterMap_cons,hf];exact List.mem_cons_self)
      obtain ⟨sl,e⟩:=I.base.slot L o ho (I.ok.frf L hL) hL fun z=>I.ok.exfs L z hL
      exact ⟨hk,⟨L,_,hf,hn,e,hd⟩,ih (fun b hb=>hs b (by unfold kC;rw [List.filterMap_cons,hf];exact List.mem_cons_of_mem _ hb)) hr⟩
  exact all X.outer (fun _ hb=>hb) I.ok.funs
theorem Inv.stack (I:Inv X pins σ H s):s.heap.FunFrames X.base X.stack:=by
  rcases I.ok.stk with e | ⟨e,hf⟩
  · rw [e];exact I.funs
  · rw [e]
    obtain ⟨m,hn,_⟩:=I.loc
    refine .cons (by rw [I.ok.kind];decide) hf hn ?_ I.funs
    exact Heap.get?_none_of_le (Nat.le_trans I.ok.bsz I.ok.above)
theorem Inv.stkSub (I:Inv X pins σ H s):∀b∈kC X.stack,b∈X.env.locals::X.fs:=fun b hb=>by
  rcases I.ok.stk with e | ⟨e,hf⟩
  · rw [e] at hb;exact List.mem_cons_of_mem _ hb
  · rw [e] at hb
    unfold kC at hb
    rw [List.filterMap_cons,hf] at hb
    exact hb
theorem Inv.stkFree (I:Inv X pins σ H s):∀b∈kC X.stack,H b=none:=fun b hb=>by
  rcases List.mem_cons.mp (I.stkSub b hb) with e | hb
  · rw [e];exact I.free
  · obtain ⟨_,o,ho,_⟩:=I.ok.funs.mem hb
    exact I.base.free b o ho (I.ok.frf b hb) fun z=>I.ok.exfs b z hb
theorem Inv.step {g':Array GenState} {t':Nat} {d':Drawn} {ch:List Addr} (I:Inv X pins σ H s)
    (hch:∀b∈ch,(b∈X.ex∨X.s₀.heap.objs.size≤b)∧b≠X.env.locals∧(∀x c,X.env.cells.lookup x=some c→c≠b)∧∀p∈X.pn++pins,p.1≠b)
    (keep:∀b o,b≠X.env.locals→b∉X.fs→b∉ch→s.heap.get? b=some o→H b=none→h'.get? b=some o)
    (slot:∀b o,b≠X.env.locals→b∈X.fs→b∉ch→s.heap.get? b=some o→H b=none→∃sl,h'.get? b=some {o with slots:=sl}) (free:∀b o,b∉ch→s.heap.get? b=some o→H b=none→H' b=none)
    (there:∀b o,b∉ch→s.heap.get? b=some o→∃o',h'.get? b=some o')
    (tups:∀b xs,H b=some (.tup xs)→H' b=some (.tup xs)) (frzs:∀b o u,H b=some (.frz o u)→H' b=some (.frz o u)) (tbls:∀b ps,H b=some (.tbl ps)→H' b=some (.tbl ps))
    (ns:∀m,s.heap.Ns X.env.locals m→h'.Ns X.env.locals m) (hok:HOk X.prog X.w H' h') (hg:AllBare g'):
    Inv X pins σ H' {s with heap:=h',gens:=g',drawn:=d',toks:=t'}:=by
  have neL:∀b o,X.s₀.heap.get? b=some o→b≠X.env.locals:=fun b o e=>Nat.ne_of_lt (Nat.lt_of_lt_of_le (Heap.lt_size e) I.ok.above)
  have neC:∀b o,X.s₀.heap.get? b=some o→b∉X.ex→b∉ch:=fun b o e hx hb=>by
    rcases (hch b hb).1 with z | z
    · exact hx z
    · exact absurd (Nat.lt_of_lt_of_le (Heap.lt_size e) z) (Nat.lt_irrefl _)
  have cellK:∀x c,X.env.cells.lookup x=some c→∀v,s.heap.IsCell c v→h'.IsCell c v:=fun x c e v ⟨o,ho,hd⟩=>by
    have nch:c∉ch:=fun z=>(hch c z).2.2.1 x c e rfl
    by_cases hc:c∈X.fs
    · obtain ⟨sl,q⟩:=slot c o (I.cne x c e) hc nch ho (I.freeC x c e)
      exact ⟨_,q,hd⟩
    · exact ⟨o,keep c o (I.cne x c e) hc nch ho (I.freeC x c e),hd⟩
  refine ⟨I.ok,I.os,hg,⟨fun b o e n hb hx=>?_,fun b o e n hb hx=>?_,fun b o e n hx=>?_,fun b o e hx=>?_,fun b xs e=>tups b xs (I.base.tups b xs e),fun b o xs e=>frzs b o xs (I.base.frzs b o xs e),fun b ps e=>?_⟩,?_,fun x c e=>?_,?_,fun x c e=>?_,fun p hp=>?_,hok,I.len⟩
  · exact keep b o (neL b o e) hb (neC b o e hx) (I.base.keep b o e n hb hx) (I.base.free b o e n hx)
  · obtain ⟨sl,e1⟩:=I.base.slot b o e n hb hx
    obtain ⟨sl',e2⟩:=slot b _ (neL b o e) hb (neC b o e hx) e1 (I.base.free b o e n hx)
    exact ⟨sl',e2⟩
  · obtain ⟨o',e1⟩:=I.base.there b o e hx
    exact free b o' (neC b o e hx) e1 (I.base.free b o e n hx)
  · obtain ⟨o',e1⟩:=I.base.there b o e hx
    exact there b o' (neC b o e hx) e1
  · exact tbls b _ (I.base.tbls b ps e)
  · obtain ⟨m,hn,hl⟩:=I.loc
    refine ⟨m,ns m hn,fun i x v e1 e2 e3=>?_⟩
    obtain ⟨u,r,l⟩:=hl i x v e1 e2 e3
    refine ⟨u,r,?_⟩
    rcases l with l | ⟨k,c,e,z⟩
    · exact .inl l
    · exact .inr ⟨k,c,e,cellK x c e _ z⟩
  · obtain ⟨v,z⟩:=I.cell x c e
    exact ⟨v,cellK x c e v z⟩
  · obtain ⟨m,⟨o,_,_,ho,_⟩,_⟩:=I.loc
    exact free _ o (fun z=>(hch _ z).2.1 rfl) ho I.free
  · obtain ⟨v,o,ho,hd⟩:=I.cell x c e
    exact free c o (fun z=>(hch c z).2.2.1 x c e rfl) ho (I.freeC x c e)
  · obtain ⟨e,n,ne,nf,d⟩:=I.pin p hp
    have nch:p.1∉ch:=fun z=>(hch p.1 z).2.2.2 p hp rfl
    exact ⟨keep p.1 p.2 ne nf nch e n,free p.1 p.2 nch e n,ne,nf,d⟩
theorem Inv.un {t':Nat} (I:Inv X pins σ H s) (u:Un X.fs [] H H' s.heap h') (hok:HOk X.prog X.w H' h'):Inv X pins σ H' {s with heap:=h',toks:=t'}:=by
  obtain ⟨m,⟨o,es,ep,ho,r⟩,_⟩:=id I.loc
  obtain ⟨sl,hL⟩:=u.any ho I.free (by simp)
  exact I.step (g':=s.gens) (d':=s.drawn) (ch:=[]) (fun _ z=>nomatch z) (fun b o _ hb _ e n=>u.keep b o e n hb (by simp)) (fun b o _ hb _ e n=>u.slot b o e n hb (by simp)) (fun b o _ e n=>u.free b o e n (by simp)) (fun b o _ e=>u.there b o e (by simp)) u.tups u.frzs u.tbls (fun m' hm=>by
    obtain ⟨o',es',ep',ho',r'⟩:=hm
    rw [ho] at ho';cases ho'
    exact ⟨_,es',ep',hL,r'⟩) hok I.bare
theorem Inv.call {g':Array GenState} {t':Nat} {d':Drawn} {ch:List Addr} (I:Inv X pins σ H s) (u:Un (kC X.stack) ch H H' s.heap h') (hok:HOk X.prog X.w H' h') (hg:AllBare g')
    (hch:∀b∈ch,(b∈X.ex∨X.s₀.heap.objs.size≤b)∧b≠X.env.locals∧(∀x c,X.env.cells.lookup x=some c→c≠b)∧∀p∈X.pn++pins,p.1≠b):
    Inv X pins σ H' {s with heap:=h',gens:=g',drawn:=d',toks:=t'}:=by
  obtain ⟨m,⟨o,es,ep,ho,r⟩,_⟩:=id I.loc
  obtain ⟨sl,hL⟩:=u.any ho I.free fun z=>(hch _ z).2.1 rfl
  exact I.step (ch:=ch) hch (fun b o hL hb hc e n=>u.keep b o e n (fun z=>(List.mem_cons.mp (I.stkSub b z)).elim hL hb) hc) (fun b o _ _ hc e n=>u.any e n hc) (fun b o hc e n=>u.free b o e n hc) (fun b o hc e=>u.there b o e hc) u.tups u.frzs u.tbls (fun m' hm=>by
    obtain ⟨o',es',ep',ho',r'⟩:=hm
    rw [ho] at ho';cases ho'
    exact ⟨_,es',ep',hL,r'⟩) hok hg
theorem Inv.turned {t':Nat} {it:Addr} (I:Inv X pins σ H s) (k:∀b o,b≠it→s.heap.get? b=some o→h'.get? b=some o) (hn:H it=none) (hL:it≠X.env.locals)
    (h1:it∈X.ex∨X.s₀.heap.objs.size≤it) (h2:∀x c,X.env.cells.lookup x=some c→c≠it) (h3:∀p∈X.pn++pins,p.1≠it):Inv X pins σ H {s with heap:=h',toks:=t'}:=by
  have nit:∀b u,H b=some u→b≠it:=fun b u e z=>by rw [z,hn] at e;cases e
  refine I.step (g':=s.gens) (d':=s.drawn) (ch:=[it]) (fun b hb=>?_) (fun b o _ _ hc e _=>k b o (fun z=>hc (by simp [z])) e) (fun b o _ _ hc e _=>⟨o.slots,k b o (fun z=>hc (by simp [z])) e⟩) (fun _ _ _ _ n=>n)
    (fun b o hc e=>⟨o,k b o (fun z=>hc (by simp [z])) e⟩) (fun _ _ e=>e) (fun _ _ _ e=>e) (fun _ _ e=>e) (fun m hm=>?_) (fun b u e=>?_) I.bare
  · have e:b=it:=by simpa using hb
    subst e
    exact ⟨h1,hL,h2,h3⟩
  · obtain ⟨o,es,ep,ho,r⟩:=hm
    exact ⟨o,es,ep,k _ o (Ne.symm hL) ho,r⟩
  · refine (I.hok b u e).stay (fun c v hc q=>k c v ?_ q) (fun _ q=>q) fun _ _ q=>q
    rcases hc with z | z
    · rw [z];exact nit b u e
    · exact nit c _ z
theorem Inv.tok (I:Inv X pins σ H s) (t:Nat):Inv X pins σ H {s with toks:=t}:=I.un (h':=s.heap) (t':=t) Un.refl I.hok
theorem Inv.kept {t':Nat} (I:Inv X pins σ H s) (k:∀b u,s.heap.get? b=some u→h'.get? b=some u):Inv X pins σ H {s with heap:=h',toks:=t'}:=I.un (Un.kept k) (I.hok.kept k)
theorem Inv.laid {a:Addr} {o:HO} {t':Nat} (I:Inv X pins σ H s) (k:∀b u,s.heap.get? b=some u→h'.get? b=some u) (hp:s.heap.objs.size≤a) (new:ObjOk X.prog X.w (upd H a o) h' a o):
    Inv X pins σ (upd H a o) {s with heap:=h',toks:=t'}:=I.un (Un.laid k hp (I.hok.fresh hp)) (I.hok.laid k hp new)
theorem Inv.write {x e:Addr} {o:HO} {t':Nat} (I:Inv X pins σ H s) (mu:Cg (H x)) (he:e=x∨H e=some (.own x)) (k:∀b u,b≠e→s.heap.get? b=some u→h'.get? b=some u) (heo:∃u,h'.get? e=some u)
    (new:ObjOk X.prog X.w (upd H x o) h' x o):Inv X pins σ (upd H x o) {s with heap:=h',toks:=t'}:=I.un (Un.write mu he k heo) (I.hok.write mu he k heo new)
theorem Inv.pins_of {pins':List (Addr×Obj)} (I:Inv X pins σ H s) (h:∀p∈pins',s.heap.get? p.1=some p.2∧H p.1=none∧p.1≠X.env.locals∧p.1∉X.fs∧∀v,p.2.data≠ .cell v):Inv X pins' σ H s:=
  ⟨I.ok,I.os,I.bare,I.base,I.loc,I.cell,I.free,I.freeC,fun p hp=>(List.mem_append.mp hp).elim (fun z=>I.pin p (List.mem_append_left _ z)) (h p),I.hok,I.len⟩
theorem kU {N:List Str} (hN:N.Nodup) {i j:Nat} {x:Str} (a:N[i]? =some x) (b:N[j]? =some x):i=j:=by
  obtain ⟨h1,e1⟩:=List.getElem?_eq_some_iff.mp a
  obtain ⟨h2,e2⟩:=List.getElem?_eq_some_iff.mp b
  exact (List.getElem_inj hN).mp (e1.trans e2.symm)
theorem sI {M:Model} {A:Around} {E:Value→Shared→Prop} {i:Nat} {x:Str} {v:V} {u:Value} {Q:Unit→Shared→Prop} (I:Inv X pins σ H s) (hN:X.N.Nodup) (hi:X.N[i]? =some x) (hx:AN X.env.scope x) (r:RelV v u)
    (h:∀s',Inv X pins (σ.set i (some v)) H s'→(∃a,Heap.SameBut a s.heap s'.heap∧(a=X.env.locals∨X.env.cells.lookup x=some a))→Q () s') (hf:X.fn x=true∨X.env.scope.names.lookup x=some .local:=by first | exact .inl rfl | exact .inr rfl | assumption):wpAny M A (storeName X.env x u) Q E s:=by
  obtain ⟨m,hn,hl⟩:=id I.loc
  have hcls:(X.env.scope.kind == .class||(X.env.scope.kind == .module&&X.env.locals != X.env.globals))=false:=by rw [I.ok.kind];rfl
  have hiσ:i < σ.length:=by rw [I.len];exact (List.getElem?_eq_some_iff.mp hi).1
  have cne:=I.cne
  have tracked:∀{a:Addr} {h':Heap},(∃o,s.heap.get? a=some o∧H a=none)→Heap.SameBut a s.heap h'→HOk X.prog X.w H h':=fun {a h'} ha hs b ob e=>by
    obtain ⟨_,_,hfree⟩:=ha
    refine (I.hok b ob e).stay (fun c w' hc q=>(hs.2 c ?_).trans q) (fun _ q=>q) fun _ _ q=>q
    rintro rfl
    rcases hc with rfl | hc
    · rw [hfree] at e;cases e
    · rw [hfree] at hc;cases hc
  rcases hx with hk | hk
  · refine wpAny_storeName_local hk hn (fun h' hn' hs=>?_) hcls
    obtain ⟨oL,_,_,hoL,_⟩:=id hn
    refine h _ ⟨I.ok,I.os,I.bare,⟨fun b o e n hb hx=>?_,fun b o e n hb hx=>?_,I.base.free,fun b o e hx=>?_,I.base.tups,I.base.frzs,I.base.tbls⟩,⟨_,hn',fun j y v' e1 e2 e3=>?_⟩,fun y c e=>?_,I.free,I.freeC,fun p hp=>?_,tracked ⟨oL,hoL,I.free⟩ hs,by simpa using I.len⟩ ⟨_,hs, .inl rfl⟩
    · exact (hs.2 b (Nat.ne_of_lt (Nat.lt_of_lt_of_le (Heap.lt_size e) I.ok.above))).trans (I.base.keep b o e n hb hx)
    · obtain ⟨sl,e1⟩:=I.base.slot b o e n hb hx
      exact ⟨sl,(hs.2 b (Nat.ne_of_lt (Nat.lt_of_lt_of_le (Heap.lt_size e) I.ok.above))).trans e1⟩
    · obtain ⟨o',e1⟩:=I.base.there b o e hx
      exact ⟨o',(hs.2 b (Nat.ne_of_lt (Nat.lt_of_lt_of_le (Heap.lt_size e) I.ok.above))).trans e1⟩
    · by_cases hj:j=i
      · subst hj
        rw [hi] at e1;cases e1
        rw [List.getElem?_set_self hiσ] at e2
        cases e2
        exact ⟨u,r, .inl ⟨hk,by simp⟩⟩
      · rw [List.getElem?_set_ne (Ne.symm hj)] at e2
        obtain ⟨u',r',q⟩:=hl j y v' e1 e2 e3
        refine ⟨u',r',?_⟩
        rcases q with ⟨k,e⟩ | ⟨k,c,e,z⟩
        · refine .inl ⟨k,?_⟩
          have:y≠x:=fun e=>hj (kU hN e1 (e▸hi))
          simp [this,e]
        · exact .inr ⟨k,c,e,z.sameBut hs (cne y c e)⟩
    · obtain ⟨w',z⟩:=I.cell y c e
      exact ⟨w',z.sameBut hs (cne y c e)⟩
    · obtain ⟨e,n,ne,nf,d⟩:=I.pin p hp
      exact ⟨(hs.2 p.1 ne).trans e,n,ne,nf,d⟩
  · have hfn:X.fn x=true:=by
      rcases hf with z | z
      · exact z
      · rw [z] at hk;cases hk
    obtain ⟨c,hc⟩:=I.ok.has x (.inl hk)
    obtain ⟨w',z⟩:=I.cell x c hc
    refine wpAny_storeName_cell I.ok.kind hk hc z (fun h' hc' hs=>?_)
    obtain ⟨oc,hoc,hocd⟩:=id z
    refine h {s with heap:=h'} ⟨I.ok,I.os,I.bare,⟨fun b o e n hb hx=>?_,fun b o e n hb hx=>?_,I.base.free,fun b o e hx=>?_,I.base.tups,I.base.frzs,I.base.tbls⟩,⟨m,hn.sameBut hs (Ne.symm (cne x c hc)),fun j y v' e1 e2 e3=>?_⟩,fun y c' e=>?_,I.free,I.freeC,fun p hp=>?_,tracked ⟨oc,hoc,I.freeC x c hc⟩ hs,by simpa using I.len⟩ ⟨c,hs, .inr hc⟩
    · exact (hs.2 b (Nat.ne_of_lt (Nat.lt_of_lt_of_le (Heap.lt_size e) (I.ok.cab x c hfn hc)))).trans (I.base.keep b o e n hb hx)
    · obtain ⟨sl,e1⟩:=I.base.slot b o e n hb hx
      exact ⟨sl,(hs.2 b (Nat.ne_of_lt (Nat.lt_of_lt_of_le (Heap.lt_size e) (I.ok.cab x c hfn hc)))).trans e1⟩
    · obtain ⟨o',e1⟩:=I.base.there b o e hx
      exact ⟨o',(hs.2 b (Nat.ne_of_lt (Nat.lt_of_lt_of_le (Heap.lt_size e) (I.ok.cab x c hfn hc)))).trans e1⟩
    · by_cases hj:j=i
      · subst hj
        rw [hi] at e1;cases e1
        rw [List.getElem?_set_self hiσ] at e2
        cases e2
        exact ⟨u,r, .inr ⟨.inl hk,c,hc,hc'⟩⟩
      · rw [List.getElem?_set_ne (Ne.symm hj)] at e2
        obtain ⟨u',r',q⟩:=hl j y v' e1 e2 e3
        refine ⟨u',r',?_⟩
        rcases q with q | ⟨k,c',e,z'⟩
        · exact .inl q
        · refine .inr ⟨k,c',e,z'.sameBut hs ?_⟩
          rintro rfl
          exact hj (kU hN e1 (I.ok.inj _ _ _ e hc▸hi))
    · by_cases hcc:c'=c
      · subst hcc;exact ⟨_,hc'⟩
      · obtain ⟨w2,z2⟩:=I.cell y c' e
        exact ⟨w2,z2.sameBut hs hcc⟩
    · obtain ⟨e,n,ne,nf,d⟩:=I.pin p hp
      refine ⟨(hs.2 p.1 ?_).trans e,n,ne,nf,d⟩
      intro q
      rw [q,hoc] at e
      have q':oc=p.2:=Option.some.inj e
      exact d w' (by rw [←q'];exact hocd)
theorem kW {M:Model} {A:Around} {E:Value→Shared→Prop} {i:Nat} {x:Str} {v:V} {u:Value} {Q:Unit→Shared→Prop} (I:Inv X pins σ H s) (hN:X.N.Nodup) (hi:X.N[i]? =some x) (hx:AN X.env.scope x) (r:RelV v u)
    (h:∀s',Inv X pins (σ.set i (some v)) H s'→Q () s') (hf:X.fn x=true∨X.env.scope.names.lookup x=some .local:=by first | exact .inl rfl | exact .inr rfl | assumption):wpAny M A (storeName X.env x u) Q E s:=
  sI I hN hi hx r (fun s' I' _=>h s' I') hf
theorem Inv.call' {s':Shared} {ch:List Addr} (I:Inv X pins σ H s) (ho:s'.os=s.os) (u:Un (kC X.stack) ch H H' s.heap s'.heap) (hok:HOk X.prog X.w H' s'.heap) (hg:AllBare s'.gens)
    (hch:∀b∈ch,(b∈X.ex∨X.s₀.heap.objs.size≤b)∧b≠X.env.locals∧(∀x c,X.env.cells.lookup x=some c→c≠b)∧∀p∈X.pn++pins,p.1≠b):Inv X pins σ H' s':=by
  obtain ⟨h',g',d',t',o'⟩:=s'
  have e:o'=s.os:=ho
  subst e
  exact I.call (g':=g') (t':=t') (d':=d') u hok hg hch
end
abbrev XK:=Value→Option Addr→Hp→Prop
abbrev St:=List (Option V)
abbrev VK:=V→Hp→Prop
abbrev TE:=St→Hp→VK→Prop
abbrev TT:=St→Hp→(Bool→Hp→Prop)→Prop
abbrev TA:=St→Hp→(List V→Hp→Prop)→Prop
structure Ends where
  nx:St→Hp→Prop
  rt:VK
  bk:St→Hp→Prop:=fun _ _=>False
  ct:St→Hp→Prop:=fun _ _=>False
abbrev TS:=Ends→St→Hp→Prop
def EP (X:Cx) (pins:List (Addr×Obj)) (σ:St) (Q:VK) (u:Value) (s':Shared):Prop:=∃v H',Inv X pins σ H' s'∧RelV v u∧Q v H'
def TP (X:Cx) (pins:List (Addr×Obj)) (σ:St) (Q:Bool→Hp→Prop) (b:Bool) (s':Shared):Prop:=∃H',Inv X pins σ H' s'∧Q b H'
def AP (X:Cx) (pins:List (Addr×Obj)) (σ:St) (Q:List V→Hp→Prop) (us:List Value) (s':Shared):Prop:=∃vs H',Inv X pins σ H' s'∧Vals vs us∧Q vs H'
def SP (X:Cx) (pins:List (Addr×Obj)) (D:Ends) (f:Flow) (s':Shared):Prop:=
  match f with
  | .next=>∃σ' H',Inv X pins σ' H' s'∧D.nx σ' H'
  | .brk=>∃σ' H',Inv X pins σ' H' s'∧D.bk σ' H'
  | .cont=>∃σ' H',Inv X pins σ' H' s'∧D.ct σ' H'
  | .ret u=>∃v σ' H',Inv X pins σ' H' s'∧RelV v u∧D.rt v H'
def PE (X:Cx) (e:Expr) (t:TE):Prop:=
  ∀(pins:List (Addr×Obj)) (s:Shared) (σ:St) (H:Hp) (Q:VK),Inv X pins σ H s→t σ H Q→wpAny (model X.prog X.w) X.A (eval e X.env) (EP X pins σ Q) X.xe s
def PT (X:Cx) (e:Expr) (t:TT):Prop:=
  ∀(pins:List (Addr×Obj)) (s:Shared) (σ:St) (H:Hp) (Q:Bool→Hp→Prop),Inv X pins σ H s→t σ H Q→wpAny (model X.prog X.w) X.A (isTrue e X.env (eval e X.env)) (TP X pins σ Q) X.xe s
def PW (X:Cx) (e:Expr) (t:TT):Prop:=
  ∀(whole:Sem Value) (pins:List (Addr×Obj)) (s:Shared) (σ:St) (H:Hp) (Q:Bool→Hp→Prop),Inv X pins σ H s→t σ H Q→wpAny (model X.prog X.w) X.A (isTrue e X.env whole) (TP X pins σ Q) X.xe s
theorem PW.pt {X:Cx} {e:Expr} {t:TT} (h:PW X e t):PT X e t:=h _
def PA (X:Cx) (es:List Expr) (t:TA):Prop:=
  ∀(pos:Pos) (pins:List (Addr×Obj)) (s:Shared) (σ:St) (H:Hp) (Q:List V→Hp→Prop),Inv X pins σ H s→t σ H Q→wpAny (model X.prog X.w) X.A (spliced (backTo pos (starEach es X.env))) (AP X pins σ Q) X.xe s
def PS (X:Cx) (st:Stmt) (t:TS):Prop:=
  ∀(pins:List (Addr×Obj)) (s:Shared) (σ:St) (H:Hp) (D:Ends),Inv X pins σ H s→t D σ H→wpAny (model X.prog X.w) X.A (exec st X.env) (SP X pins D) X.xe s
def PSs (X:Cx) (st:List Stmt) (t:TS):Prop:=
  ∀(pins:List (Addr×Obj)) (s:Shared) (σ:St) (H:Hp) (D:Ends),Inv X pins σ H s→t D σ H→wpAny (model X.prog X.w) X.A (execs st X.env) (SP X pins D) X.xe s
theorem cE {α:Type} {t:Sem α} {Q Q':α→Shared→Prop} {M:Model} {A:Around} {E:Value→Shared→Prop} {s:Shared} (h:wpAny M A t Q E s) (hQ:∀a s,Q a s→Q' a s):wpAny M A t Q' E s:=wpAny_mono h hQ fun _ _ x=>x
end L2
namespace L2
open PySem PySem.Spec PyProof.Rows
section
variable {X:Cx}
def dQ (i:Nat):TE:=fun σ H Q=>∃v,σ[i]? =some (some v)∧Q v H
def tC (v:V):TE:=fun _ H Q=>Q v H
theorem jT {i:Nat} {x:Str} {pos:Pos} (hN:X.N[i]? =some x) (hv:yB X.env.scope x) (hd:(x == ("__debug__":Str))=false:=by decide) (hcd:(x == ("__classdict__":Str))=false:=by decide):PE X (.Name x pos) (dQ i):=by
  intro pins s σ H Q I h
  obtain ⟨v,e,h⟩:=h
  obtain ⟨m,hn,hl⟩:=I.loc
  obtain ⟨u,r,l⟩:=hl i x v hN e hv
  have fin:EP X pins σ Q u s:=⟨v,H,I,r,h⟩
  rcases l with ⟨hk,hm⟩ | ⟨hk,c,hc,hcell⟩
  · exact wpAny_Name (wpAny_loadName_local I.ok.kind hk hn hm fin) hd
  · rcases hk with hk | hk
    · exact wpAny_Name (wpAny_loadName_cell I.ok.kind hk hc hcell fin) hd
    · exact wpAny_Name (wpAny_loadName_free I.ok.kind hk hc hcell fin hcd) hd
theorem jU {i j pos}:PE X (.Constant (.int i) j pos) (tC (.int i)):=fun _ _ _ H _ I h=>wpAny_Constant_int ⟨.int i,H,I.tok _,⟨_,rfl⟩,h⟩
theorem AW {b j pos}:PE X (.Constant (.bool b) j pos) (tC (.bl b)):=fun _ _ _ H _ I h=>Constant_bool ⟨.bl b,H,I,rfl,h⟩
theorem qh {x j pos}:PE X (.Constant (.str x) j pos) (tC (.str x)):=fun _ _ _ H _ I h=>Calls.Constant_str ⟨.str x,H,I.tok _,⟨_,rfl⟩,h⟩
def Gl (X:Cx) (x:Str):Prop:=X.env.kindOf x=some .globalImplicit
theorem gP {E:Value→Shared→Prop} {pins:List (Addr×Obj)} {s:Shared} {σ:St} {H:Hp} {x:Str} {u:Value} {pos:Pos} {Q:Value→Shared→Prop} (I:Inv X pins σ H s) (hg:Gl X x) (hm:X.mg x=some u) (h:Q u s)
    (hd:(x == ("__debug__":Str))=false:=by decide):wpAny (model X.prog X.w) X.A (eval (.Name x pos) X.env) Q E s:=
  Calls.Name_function_global I.ok.kind hg (Calls.loadGlobal_global (by rw [I.ok.glob];exact I.mod.glob.keeps I.bk) hm h) hd
theorem jV {E:Value→Shared→Prop} {pins:List (Addr×Obj)} {s:Shared} {σ:St} {H:Hp} {x:Str} {u:Value} {pos:Pos} {Q:Value→Shared→Prop} (I:Inv X pins σ H s) (hg:Gl X x) (hm:X.mg x=none) (hv:bootBuiltins x=some u) (h:Q u s)
    (hn:x≠"__name__":=by decide) (hd:(x == ("__debug__":Str))=false:=by decide):wpAny (model X.prog X.w) X.A (eval (.Name x pos) X.env) Q E s:=by
  obtain ⟨mb,h1,h2⟩:=I.mod.blt
  exact Calls.Name_function_global I.ok.kind hg (Calls.loadGlobal_builtin (by rw [I.ok.glob];exact I.mod.glob.keeps I.bk) hm (by rw [I.ok.blt];exact h1.keeps I.bk) ((h2 x hn).trans hv) h) hd
theorem rj {x:Str} {v:V} {u:Value} {pos:Pos} (hg:Gl X x) (hm:X.mg x=some u) (r:RelV v u) (hd:(x == ("__debug__":Str))=false:=by decide):PE X (.Name x pos) (tC v):=
  fun _ _ _ H _ I h=>gP I hg hm ⟨v,H,I,r,h⟩ hd
theorem rk {x:Str} {v:V} {u:Value} {pos:Pos} (hg:Gl X x) (hm:X.mg x=none) (hv:bootBuiltins x=some u) (r:RelV v u) (hn:x≠"__name__":=by decide) (hd:(x == ("__debug__":Str))=false:=by decide):PE X (.Name x pos) (tC v):=
  fun _ _ _ H _ I h=>jV I hg hm hv ⟨v,H,I,r,h⟩ hn hd
variable {a b:Expr} {ta tb:TE} {pos:Pos}
variable {tA tB':TT} {bK:List Expr}
def CB (t u:TT):TT:=fun σ H Q=>t σ H fun c H1=>if c=true then u σ H1 Q else Q false H1
def DE (t u:TT):TT:=fun σ H Q=>t σ H fun c H1=>if c=true then Q true H1 else u σ H1 Q
def CC (t:TT):TT:=fun σ H Q=>t σ H fun c H1=>Q (!c) H1
theorem wR (ha:PT X a tA):PW X (.BoolOp .And [a] pos) tA:=by
  intro wh pins s σ H Q I h
  refine isTrue_and (cE (ha pins s σ H Q I h) fun c s1 e=>?_)
  cases c with
  | true=>exact isTrue_and_nil e
  | false=>exact e
theorem zi (ha:PT X a tA):PW X (.BoolOp .Or [a] pos) tA:=by
  intro wh pins s σ H Q I h
  refine isTrue_or (cE (ha pins s σ H Q I h) fun c s1 e=>?_)
  cases c with
  | false=>exact isTrue_or_nil e
  | true=>exact e
theorem zj (ha:PT X a tA) (hb:PW X (.BoolOp .And (b::bK) pos) tB'):PW X (.BoolOp .And (a::b::bK) pos) (CB tA tB'):=by
  intro wh pins s σ H Q I h
  refine isTrue_and (cE (ha pins s σ H _ I h) fun c s1 ⟨H1,I1,q1⟩=>?_)
  cases c with
  | true=>exact hb wh pins s1 σ H1 Q I1 q1
  | false=>exact ⟨H1,I1,q1⟩
theorem AY (ha:PT X a tA) (hb:PW X (.BoolOp .Or (b::bK) pos) tB'):PW X (.BoolOp .Or (a::b::bK) pos) (DE tA tB'):=by
  intro wh pins s σ H Q I h
  refine isTrue_or (cE (ha pins s σ H _ I h) fun c s1 ⟨H1,I1,q1⟩=>?_)
  cases c with
  | true=>exact ⟨H1,I1,q1⟩
  | false=>exact hb wh pins s1 σ H1 Q I1 q1
theorem zk (ha:PT X a tA):PT X (.UnaryOp .Not a pos) (CC tA):=by
  intro pins s σ H Q I h
  exact isTrue_not (ha pins s σ H (fun c H1=>Q (!c) H1) I h)
def AZ (ta tb:TE):TE:=fun σ H Q=>ta σ H fun x H1=>∃c,x= .bl c∧if c=true then tb σ H1 Q else Q (.bl false) H1
theorem zm {op} {t:TE} (h:PE X a t):PE X (.BoolOp op [a] pos) t:=fun pins s σ H Q I hw=>BoolOp_one (h pins s σ H Q I hw)
theorem zo (ha:PE X a ta) (hb:PE X (.BoolOp .And (b::bK) pos) tb):PE X (.BoolOp .And (a::b::bK) pos) (AZ ta tb):=by
  intro pins s σ H Q I h
  refine BoolOp_and (cE (ha pins s σ H _ I h) fun v s1 ⟨x,H1,I1,r1,q1⟩=>?_)
  obtain ⟨c,rfl,q1⟩:=q1
  cases r1
  refine wpAny_truthy_bool ?_
  cases c with
  | true=>exact hb pins s1 σ H1 Q I1 q1
  | false=>exact ⟨.bl false,H1,I1,rfl,q1⟩
def DF (t:TT) (ta tb:TE):TE:=fun σ H Q=>t σ H fun c H1=>if c=true then ta σ H1 Q else tb σ H1 Q
theorem uD {c:Expr} (hc:PT X c tA) (ha:PE X a ta) (hb:PE X b tb):PE X (.IfExp c a b pos) (DF tA ta tb):=by
  intro pins s σ H Q I h
  refine wpAny_IfExp (cE (hc pins s σ H _ I h) fun d s1 ⟨H1,I1,q1⟩=>?_)
  cases d with
  | true=>exact ha pins s1 σ H1 Q I1 q1
  | false=>exact hb pins s1 σ H1 Q I1 q1
end
end L2
namespace L2
open PySem PySem.Spec PyProof.Rows
def SqL (K:PySem.W.Frag) (H:Hp) (a:Addr) (xs:List V):Prop:=
  Rd H a (.lst xs)∨
    ∃(o:Obj) (its:Array Value) (n:Nat),K.lookup a=some o∧o.cls= .type "list"∧o.dict=none∧o.data= .seq its n∧its.size≤sizeLine∧Vals xs its.toList
def SqT (K:PySem.W.Frag) (H:Hp) (a:Addr) (xs:List V):Prop:=
  Rd H a (.tup xs)∨
    ∃(o:Obj) (its:Array Value) (n:Nat),K.lookup a=some o∧o.cls= .type "tuple"∧o.data= .seq its n∧its.size≤sizeLine∧Vals xs its.toList
def CD:Value→Option V
  | .none=>some .non
  | .bool b=>some (.bl b)
  | .int i _=>some (.int i)
  | .str x _=>some (.str x)
  | .bytes b _=>some (.byt b)
  | .float b _=>some (.flt b)
  | .ref a=>some (.ref a)
  | .type n=>some (.ty n)
  | _=>none
theorem RelV.abs {x:V} {u:Value} (r:RelV x u):CD u=some x:=by
  cases x with
  | non=>cases r;rfl
  | bl _=>cases r;rfl
  | int _=>obtain ⟨t,rfl⟩:=r;rfl
  | str _=>obtain ⟨t,rfl⟩:=r;rfl
  | byt _=>obtain ⟨t,rfl⟩:=r;rfl
  | flt _=>obtain ⟨t,rfl⟩:=r;rfl
  | ref _=>cases r;rfl
  | ty _=>cases r;rfl
theorem RelV.inj {x y:V} {u:Value} (r:RelV x u) (q:RelV y u):x=y:=Option.some.inj (r.abs.symm.trans q.abs)
theorem Vals.inj {xs ys:List V} {us:List Value} (h:Vals xs us) (k:Vals ys us):xs=ys:=by
  induction h generalizing ys with
  | nil=>cases k;rfl
  | cons r _ ih=>cases k with | cons r' t'=>rw [r.inj r',ih t']
section
variable {X:Cx} {pins:List (Addr×Obj)} {σ:St} {H:Hp} {s:Shared} {a:Addr} {xs ys:List V}
theorem SqL.of {K:PySem.W.Frag} (h:H a=some (.lst xs)):SqL K H a xs:= .inl (.inl h)
theorem SqT.of {K:PySem.W.Frag} (h:H a=some (.tup xs)):SqT K H a xs:= .inl (.inl h)
theorem Inv.list (I:Inv X pins σ H s) (h:SqL X.K H a xs):∃its:List Value,Vals xs its∧PlainL s.heap a its.toArray∧xs.length≤sizeLine:=by
  rcases h with h | ⟨o,its,n,hk,hc,hd,hs,hz,r⟩
  · obtain ⟨z,its,n,r,e⟩:=h.ok I.hok
    exact ⟨its,r,⟨_,n,e,rfl,rfl,rfl⟩,z⟩
  · refine ⟨its.toList,r,⟨o,n,I.kIn a o hk,hc,hd,by simpa using hs⟩,?_⟩
    have e:=r.length
    simp only [Array.length_toList] at e
    omega
theorem Inv.tuple (I:Inv X pins σ H s) (h:SqT X.K H a xs):∃its:List Value,Vals xs its∧IsTup s.heap a its.toArray∧xs.length≤sizeLine:=by
  rcases h with h | ⟨o,its,n,hk,hc,hs,hz,r⟩
  · obtain ⟨z,its,r,p⟩:=h.ok I.hok
    exact ⟨its,r,p,z⟩
  · refine ⟨its.toList,r,⟨o,I.kIn a o hk,hc,n,by simpa using hs⟩,?_⟩
    have e:=r.length
    simp only [Array.length_toList] at e
    omega
theorem Inv.list_inj (I:Inv X pins σ H s) (h:SqL X.K H a xs) (h':SqL X.K H a ys):xs=ys:=by
  obtain ⟨its,r,⟨o,n,e,_,_,d⟩,_⟩:=I.list h
  obtain ⟨its',r',⟨o',n',e',_,_,d'⟩,_⟩:=I.list h'
  rw [e] at e';cases e'
  rw [d] at d'
  injection d' with d1 _
  have:its=its':=by simpa using congrArg Array.toList d1
  subst this
  exact r.inj r'
theorem Inv.tuple_inj (I:Inv X pins σ H s) (h:SqT X.K H a xs) (h':SqT X.K H a ys):xs=ys:=by
  obtain ⟨its,r,⟨o,e,_,n,d⟩,_⟩:=I.tuple h
  obtain ⟨its',r',⟨o',e',_,n',d'⟩,_⟩:=I.tuple h'
  rw [e] at e';cases e'
  rw [d] at d'
  injection d' with d1 _
  have:its=its':=by simpa using congrArg Array.toList d1
  subst this
  exact r.inj r'
end
abbrev Cx.wish (X:Cx) (E:Value→Shared→Prop):Cx:={X with xe:=E}
abbrev Cx.nox (X:Cx):Cx:=X.wish fun _ _=>False
theorem Cx.Ok.wish {X:Cx} (ok:X.Ok) (E:Value→Shared→Prop):(X.wish E).Ok:=
  ⟨ok.mod,ok.kind,ok.glob,ok.blt,ok.above,ok.inj,ok.has,ok.cab,ok.hd,ok.frames,ok.stk,ok.exf,ok.bs,ok.bsz,ok.noex,ok.exfs,ok.funs,ok.frf,ok.tab⟩
theorem Cx.Ok.unwish {X:Cx} {E:Value→Shared→Prop} (ok:(X.wish E).Ok):X.Ok:=
  ⟨ok.mod,ok.kind,ok.glob,ok.blt,ok.above,ok.inj,ok.has,ok.cab,ok.hd,ok.frames,ok.stk,ok.exf,ok.bs,ok.bsz,ok.noex,ok.exfs,ok.funs,ok.frf,ok.tab⟩
section
variable {X:Cx} {pins:List (Addr×Obj)} {σ:St} {H:Hp} {s:Shared} {E:Value→Shared→Prop}
theorem Inv.wish (I:Inv X pins σ H s) (E:Value→Shared→Prop):Inv (X.wish E) pins σ H s:=⟨I.ok.wish E,I.os,I.bare,I.base,I.loc,I.cell,I.free,I.freeC,I.pin,I.hok,I.len⟩
theorem Inv.unwish (I:Inv (X.wish E) pins σ H s):Inv X pins σ H s:=⟨I.ok.unwish,I.os,I.bare,I.base,I.loc,I.cell,I.free,I.freeC,I.pin,I.hok,I.len⟩
theorem SP.unwish {D:Ends} {f:Flow} {s':Shared} (h:SP (X.wish E) pins D f s'):SP X pins D f s':=by
  cases f with
  | next=>obtain ⟨σ',H',I,q⟩:=h;exact ⟨σ',H',I.unwish,q⟩
  | brk=>obtain ⟨σ',H',I,q⟩:=h;exact ⟨σ',H',I.unwish,q⟩
  | cont=>obtain ⟨σ',H',I,q⟩:=h;exact ⟨σ',H',I.unwish,q⟩
  | ret u=>obtain ⟨v,σ',H',I,r,q⟩:=h;exact ⟨v,σ',H',I.unwish,r,q⟩
theorem PE.nox {e:Expr} {t:TE} (h:PE X.nox e t):PE X e t:=fun pins s σ H Q I hw=>
  wpAny_mono (h pins s σ H Q (I.wish _) hw) (fun _ _ ⟨v,H',I',r,q⟩=>⟨v,H',I'.unwish,r,q⟩) fun _ _ z=>False.elim z
theorem PT.nox {e:Expr} {t:TT} (h:PT X.nox e t):PT X e t:=fun pins s σ H Q I hw=>
  wpAny_mono (h pins s σ H Q (I.wish _) hw) (fun _ _ ⟨H',I',q⟩=>⟨H',I'.unwish,q⟩) fun _ _ z=>False.elim z
theorem PSs.nox {st:List Stmt} {t:TS} (h:PSs X.nox st t):PSs X st t:=fun pins s σ H D I hw=>
  wpAny_mono (h pins s σ H D (I.wish _) hw) (fun _ _ q=>q.unwish) fun _ _ z=>False.elim z
end
section
variable {X:Cx} {st:Stmt} {bK:List Stmt} {t u:TS} {e:Expr} {te:TE} {pos:Pos}
def A8:TS:=fun D σ H=>D.nx σ H
def nP (t u:TS):TS:=fun D σ H=>t {D with nx:=u D} σ H
theorem wS:PSs X [] A8:=fun _ _ σ H _ I h=>wpAny_execs_nil ⟨σ,H,I,h⟩
theorem c_ (h1:PS X st t) (h2:PSs X bK u):PSs X (st::bK) (nP t u):=by
  intro pins s σ H D I h
  refine wpAny_execs_cons (cE (h1 pins s σ H {D with nx:=u D} I h) fun f s1 q=>?_)
  cases f with
  | next=>
    obtain ⟨σ',H',I',q⟩:=q
    exact h2 pins s1 σ' H' D I' q
  | ret v=>exact q
  | brk=>exact q
  | cont=>exact q
theorem iQ (h1:PS X st t):PSs X [st] t:=by
  intro pins s σ H D I h
  refine wpAny_execs_cons (cE (h1 pins s σ H D I h) fun f s1 q=>?_)
  cases f with
  | next=>exact wpAny_execs_nil q
  | ret v=>exact q
  | brk=>exact q
  | cont=>exact q
theorem Inv.quiet {pins:List (Addr×Obj)} {σ:St} {H:Hp} {s:Shared} (I:Inv X pins σ H s):interactive X.env=false:=by simp [interactive,I.ok.kind]
def A9 (te:TE):TS:=fun D σ H=>te σ H fun _ H1=>D.nx σ H1
theorem wT (he:PE X e te) (hs:swapsWith e none pos.line X.env=pure false:=by rfl):PS X (.Expr e pos) (A9 te):=by
  intro pins s σ H D I h
  exact wpAny_Expr_any (cE (he pins s σ H _ I h) fun v s1 ⟨x,H1,I1,r1,q1⟩=>⟨σ,H1,I1,q1⟩) I.quiet hs
def CG (te:TE):TS:=fun D σ H=>te σ H D.rt
theorem uE (he:PE X e te):PS X (.Return (some e) pos) (CG te):=by
  intro pins s σ H D I h
  exact wpAny_Return_some (cE (he pins s σ H _ I h) fun v s1 ⟨x,H1,I1,r1,q1⟩=>⟨x,σ,H1,I1,r1,q1⟩)
def CI (c:TT) (t u:TS):TS:=fun D σ H=>c σ H fun b H1=>if b=true then t D σ H1 else u D σ H1
theorem A_ {c:Expr} {a b:List Stmt} {tc:TT} (hc:PT X c tc) (ha:PSs X a t) (hb:PSs X b u):PS X (.If c a b pos) (CI tc t u):=by
  intro pins s σ H D I h
  refine wpAny_If (cE (hc pins s σ H _ I h) fun d s1 ⟨H1,I1,q1⟩=>?_)
  cases d with
  | true=>exact ha pins s1 σ H1 D I1 q1
  | false=>exact hb pins s1 σ H1 D I1 q1
def zp:TS:=fun _ _ _=>False
theorem uF:PS X st zp:=fun _ _ _ _ _ _ h=>h.elim
end
abbrev TG:=V→St→Hp→(St→Hp→Prop)→Prop
abbrev wU:=List V→St→Hp→(St→Hp→Prop)→Prop
def PG (X:Cx) (target:Expr) (t:TG):Prop:=
  ∀(pins:List (Addr×Obj)) (s:Shared) (σ:St) (H:Hp) (v:V) (u:Value) (Q:St→Hp→Prop),Inv X pins σ H s→RelV v u→t v σ H Q→
    wpAny (model X.prog X.w) X.A (assign target X.env u) (fun _ s'=>∃σ' H',Inv X pins σ' H' s'∧Q σ' H') X.xe s
def zq (X:Cx) (ts:List Expr) (t:wU):Prop:=
  ∀(pins:List (Addr×Obj)) (s:Shared) (σ:St) (H:Hp) (vs:List V) (us:List Value) (Q:St→Hp→Prop),Inv X pins σ H s→Vals vs us→t vs σ H Q→
    wpAny (model X.prog X.w) X.A (assignInOrder ((assignEach ts X.env).map (·.2)) us) (fun _ s'=>∃σ' H',Inv X pins σ' H' s'∧Q σ' H') X.xe s
abbrev zr:=V→V→V→Hp→(Hp→Prop)→Prop
def Ba (X:Cx) (t:zr):Prop:=
  ∀(pins:List (Addr×Obj)) (s:Shared) (σ:St) (H:Hp) (o i v:V) (ov iv u:Value) (Q:Hp→Prop),Inv X pins σ H s→RelV o ov→RelV i iv→RelV v u→t o i v H Q→
    wpAny (model X.prog X.w) X.A (setItem ov iv u) (fun _ s'=>∃H',Inv X pins σ H' s'∧Q H') X.xe s
section
variable {X:Cx} {pos:Pos}
def o9 (i:Nat):TG:=fun v σ H Q=>Q (σ.set i (some v)) H
theorem rl {i:Nat} {x:Str} (hN:X.N.Nodup) (hi:X.N[i]? =some x) (hx:AN X.env.scope x) (hf:X.fn x=true∨X.env.scope.names.lookup x=some .local:=by first | exact .inl rfl | exact .inr rfl | assumption):PG X (.Name x pos) (o9 i):=by
  intro pins s σ H v u Q I r h
  exact wpAny_assign_Name (kW I hN hi hx r (fun s' I'=>⟨_,H,I',h⟩) hf)
def CJ:wU:=fun vs σ H Q=>vs=[]∧Q σ H
def Bc (t:TG) (u:wU):wU:=fun vs σ H Q=>∃v r,vs=v::r∧t v σ H fun σ' H'=>u r σ' H' Q
theorem wV:zq X [] CJ:=by
  intro pins s σ H vs us Q I r h
  obtain ⟨e,h⟩:=h
  subst e
  cases r
  exact assignInOrder_nil ⟨σ,H,I,h⟩
theorem uG {e:Expr} {es:List Expr} {t:TG} {u:wU} (h1:PG X e t) (h2:zq X es u)
    (hs:(assignEach (e::es) X.env).map (·.2)=assign e X.env::(assignEach es X.env).map (·.2):=by rfl):zq X (e::es) (Bc t u):=by
  intro pins s σ H vs us Q I r h
  obtain ⟨v,vr,e1,h⟩:=h
  subst e1
  cases r with
  | cons r rr=>
    rw [hs]
    refine assignInOrder_cons (cE (h1 pins s σ H _ _ _ I r h) fun _ s1 ⟨σ1,H1,I1,q1⟩=>?_)
    exact h2 pins s1 σ1 H1 _ _ Q I1 rr q1
def CK (K:PySem.W.Frag) (n:Nat) (t:wU):TG:=fun v σ H Q=>∃a xs,v= .ref a∧SqT K H a xs∧xs.length=n∧t xs σ H Q
theorem zt {es:List Expr} {k:Nat} {t:wU} {n:Nat} (hc:X.calm=true) (h:zq X es t)
    (hn:(assignEach es X.env).length=n:=by rfl) (hst:(assignEach es X.env).findIdx? (·.1)=none:=by rfl):PG X (.Tuple es k pos) (CK X.K n t):=by
  intro pins s σ H v u Q I r hw
  obtain ⟨a,xs,e1,hq,hl,hw⟩:=hw
  subst e1
  cases r
  obtain ⟨its,rv,ht,hz⟩:=I.tuple hq
  refine assign_Tuple_tuple (I.ok.hd hc) ht (by simp [hn,←hl,rv.length]) hst fun h' hx=>?_
  have I1:Inv X pins σ H {s with heap:=h'}:=I.kept (t':=s.toks) fun b o e=>hx b o (Nat.ne_of_lt (Heap.lt_size e)) e
  exact h pins _ σ H xs _ Q I1 (by simpa using rv) hw
def CL (to ti:TE) (t:zr):TG:=fun v σ H Q=>to σ H fun o H1=>ti σ H1 fun i H2=>t o i v H2 fun H3=>Q σ H3
theorem zu {o i:Expr} {to ti:TE} {t:zr} (ho:PE X o to) (hi:PE X i ti) (hs:Ba X t)
    (ha:∀v,assign (.Subscript o i pos) X.env v=(do
      let ov ←holding [v] (eval o X.env)
      let iv ←holding [v,ov] (eval i X.env)
      standAt pos
      holding [v,ov,iv] (setItem ov iv v)
      release [v,ov,iv] []):=by intro _;rfl):PG X (.Subscript o i pos) (CL to ti t):=by
  intro pins s σ H v u Q I r h
  rw [ha]
  refine wpAny_bind (wpAny_holding (cE (ho pins s σ H _ I h) fun ov s1 ⟨x,H1,I1,r1,q1⟩=>?_))
  refine wpAny_bind (wpAny_holding (cE (hi pins s1 σ H1 _ I1 q1) fun iv s2 ⟨y,H2,I2,r2,q2⟩=>?_))
  refine wpAny_bind (wpAny_standAt (wpAny_bind (wpAny_holding (cE (hs pins s2 σ H2 x y v ov iv u _ I2 r1 r2 r q2) fun _ s3 ⟨H3,I3,q3⟩=>?_))))
  exact wpAny_release ⟨σ,H3,I3,q3⟩
def Bd (te:TE) (g:TG):TS:=fun D σ H=>te σ H fun x H1=>g x σ H1 D.nx
theorem uH {tg e:Expr} {te:TE} {g:TG} (he:PE X e te) (hg:PG X tg g) (hs:swapsWithSole [tg] e pos.line X.env=pure false:=by rfl) (hw:swappedStores [tg] e X.env=pure none:=by rfl)
    (h1:(assignEach [tg] X.env).map (·.2)=[assign tg X.env]:=by rfl):PS X (.Assign [tg] e pos) (Bd te g):=by
  intro pins s σ H D I h
  refine wpAny_Assign_stores (cE (he pins s σ H _ I h) fun v s1 ⟨x,H1,I1,r1,q1⟩=>?_) hs hw
  rw [h1]
  exact cE (hg pins s1 σ H1 x v _ I1 r1 q1) fun _ s2 q=>q
theorem uI {i:Nat} {x:Str} {e:Expr} {te:TE} {pos':Pos} (hN:X.N.Nodup) (hi:X.N[i]? =some x) (hx:AN X.env.scope x) (he:PE X e te) (hs:swapsWith e (some (.Name x pos')) pos.line X.env=pure false:=by rfl) (hf:X.fn x=true∨X.env.scope.names.lookup x=some .local:=by first | exact .inl rfl | exact .inr rfl | assumption):
    PS X (.Assign [.Name x pos'] e pos) (Bd te (o9 i)):=by
  intro pins s σ H D I h
  refine wpAny_Assign_Name (cE (he pins s σ H _ I h) fun v s1 ⟨y,H1,I1,r1,q1⟩=>?_) hs
  exact kW I1 hN hi hx r1 (fun s2 I2=>⟨_,H1,I2,q1⟩) hf
end
section
variable {X:Cx} {pos:Pos}
def zv (c:TT) (tb:TS):TS:=fun D σ H=>∃W:Nat→St→Hp→Prop,(∃m,W m σ H)∧∀m σ H,W m σ H→
  c σ H fun b H1=>if b=true then ∃N:St→Hp→Prop,(∀σ' H',N σ' H'→∃m',m' < m∧W m' σ' H')∧tb {D with nx:=N,ct:=N,bk:=D.nx} σ H1 else D.nx σ H1
theorem uJ {c:Expr} {body:List Stmt} {tc:TT} {tb:TS} (hp:PassesOwn (model X.prog X.w) X.A X.env X.xe) (hc:PT X c tc) (hb:PSs X body tb):PS X (.While c body [] pos) (zv tc tb):=by
  intro pins s σ H D I h
  obtain ⟨W,⟨m0,w0⟩,turn⟩:=h
  refine wpAny_While (codeAny_whileLoop (fun n s'=>∃σ' H',Inv X pins σ' H' s'∧W n σ' H') ?_ m0 ⟨σ,H,I,w0⟩)
  rintro n s1 ⟨σ1,H1,I1,w1⟩
  refine wpAny_passesOwn hp (cE (hc pins s1 σ1 H1 _ I1 (turn n σ1 H1 w1)) fun b s2 ⟨H2,I2,q2⟩=>?_)
  cases b with
  | true=>
    obtain ⟨N,hN,q2⟩:=q2
    rw [if_pos rfl]
    refine wpAny_passesOwn hp (cE (hb pins s2 σ1 H2 _ I2 q2) fun f s3 q3=>?_)
    cases f with
    | next=>
      obtain ⟨σ3,H3,I3,n3⟩:=q3
      obtain ⟨m',hm,w3⟩:=hN σ3 H3 n3
      exact ⟨m',hm,σ3,H3,I3,w3⟩
    | cont=>
      obtain ⟨σ3,H3,I3,n3⟩:=q3
      obtain ⟨m',hm,w3⟩:=hN σ3 H3 n3
      exact ⟨m',hm,σ3,H3,I3,w3⟩
    | brk=>exact q3
    | ret v=>exact q3
  | false=>
    rw [if_neg Bool.false_ne_true]
    exact wpAny_execs_nil ⟨σ1,H2,I2,q2⟩
end
structure It where
  go:Nat→Hp→Prop
  yld:Nat→Hp→V→Hp→Prop
  stop:Nat→Hp→Prop
def mf (X:Cx) (pins:List (Addr×Obj)) (H:Hp) (b:Addr):Prop:=
  H b=none∧b≠X.env.locals∧b∉X.fs∧(b∈X.ex∨X.s₀.heap.objs.size≤b)∧(∀x c,X.env.cells.lookup x=some c→c≠b)∧∀p∈X.pn++pins,p.1≠b
theorem Inv.fpOk {X:Cx} {pins:List (Addr×Obj)} {σ:St} {H H':Hp} {s:Shared} {b:Addr} (I:Inv X pins σ H s) (hb:s.heap.objs.size≤b) (hn:H' b=none):mf X pins H' b:=by
  refine ⟨hn,Nat.ne_of_gt (Nat.lt_of_lt_of_le I.lt hb),I.nofs hb, .inr (Nat.le_trans I.sz hb),fun x c e z=>?_,fun p hp z=>?_⟩
  · obtain ⟨v,q⟩:=I.cell x c e
    exact absurd (Nat.lt_of_lt_of_le q.lt (by rw [z];exact hb)) (Nat.lt_irrefl _)
  · exact absurd (Nat.lt_of_lt_of_le (Heap.lt_size (I.pin p hp).1) (by rw [z];exact hb)) (Nat.lt_irrefl _)
structure Turn (P:Program) (w:World) (K:PySem.W.Frag) (tg:Expr) (J:It) (fp:List Addr) (it:Addr) (tn:Nat→Heap→Prop):Prop where
  mem:it∈fp
  obj:∀i h,tn i h→∀b∈fp,∃o,h.get? b=some o∧∀v,o.data≠ .cell v
  keep:∀i h h',tn i h→(∀b∈fp,∀o,h.get? b=some o→h'.get? b=some o)→tn i h'
  item:∀(X:Cx),X.prog=P→X.w=w→X.K=K→X.calm=true→∀(i:Nat) (pins:List (Addr×Obj)) (s:Shared) (σ:St) (H:Hp) (E:Value→Shared→Prop),Inv X pins σ H s→(∀b∈fp,mf X pins H b)→tn i s.heap→J.go i H→
    wpAny (model P w) X.A (pyNext (.ref it)) (fun r s1=>∃u,r=some u∧
      wpAny (model P w) X.A (letOwnedTupleGo tg (.ref it) u) (fun _ s2=>∃x H',Inv X pins σ H' s2∧RelV x u∧J.yld i H x H'∧tn (i+1) s2.heap∧∀b∈fp,H' b=none) E s1) E s
  done:∀(X:Cx),X.prog=P→X.w=w→X.K=K→X.calm=true→∀(i:Nat) (pins:List (Addr×Obj)) (s:Shared) (σ:St) (H:Hp) (E:Value→Shared→Prop),Inv X pins σ H s→(∀b∈fp,mf X pins H b)→tn i s.heap→J.stop i H→
    wpAny (model P w) X.A (pyNext (.ref it)) (fun r s1=>r=none∧Inv X pins σ H s1) E s
  self:∀(A:Around) (i:Nat) (s:Shared) (Q:Value→Shared→Prop) (E:Value→Shared→Prop),tn i s.heap→Q (.ref it) s→wpAny (model P w) A (pyIter (.ref it)) Q E s
abbrev TI:=St→Hp→(It→Hp→Prop)→Prop
def Ds (X:Cx) (pins:List (Addr×Obj)) (σ:St) (tg:Expr) (R:It→Hp→Prop) (itv:Value) (s2:Shared):Prop:=
  ∃(it:Addr) (fp:List Addr) (tn:Nat→Heap→Prop) (J:It) (H':Hp),itv= .ref it∧Inv X pins σ H' s2∧Turn X.prog X.w X.K tg J fp it tn∧tn 0 s2.heap∧(∀b∈fp,mf X pins H' b)∧R J H'
def PI (X:Cx) (tg iter:Expr) (wi:TI):Prop:=
  ∀(pins:List (Addr×Obj)) (s:Shared) (σ:St) (H:Hp) (R:It→Hp→Prop),Inv X pins σ H s→wi σ H R→
    wpAny (model X.prog X.w) X.A (eval iter X.env) (fun v s1=>wpAny (model X.prog X.w) X.A (pyIter v) (Ds X pins σ tg R) X.xe s1) X.xe s
theorem o_ {M:Model} {A:Around} {E:Value→Shared→Prop} {s:Shared} {tg:Expr} {it:Addr} {u:Value} {o:Obj} {n:String} {vs:Array Value} {Q:Unit→Shared→Prop} (ho:s.heap.get? it=some o) (hc:o.cls= .type n) (hd:o.data= .fields vs)
    (hn:["enumerate","zip","dict_itemiterator","dict_reverseitemiterator","odict_iterator","itertools.zip_longest","itertools.pairwise"].contains n=false) (hQ:Q () s):wpAny M A (letOwnedTupleGo tg (.ref it) u) Q E s:=by
  unfold letOwnedTupleGo
  cases tg <;> first
    | exact wpAny_pure hQ
    | (cases u <;> first
        | exact wpAny_pure hQ
        | (refine wpAny_bind (wpAny_load ho ?_)
           rw [hc,hd]
           show wpAny M A (if (["enumerate","zip","dict_itemiterator","dict_reverseitemiterator","odict_iterator","itertools.zip_longest","itertools.pairwise"].contains n&&vs[0]? == some (rawInt _))=true then _ else _) Q E s
           rw [if_neg (by intro h;rw [hn,Bool.false_and] at h;cases h)]
           exact wpAny_pure hQ))
def AO (K:PySem.W.Frag) (a:Addr):It:=
  ⟨fun i H=>∃xs x,SqL K H a xs∧xs[i]? =some x,fun i H x H'=>H'=H∧∀xs,SqL K H a xs→xs[i]? =some x,fun i H=>∃xs,SqL K H a xs∧xs.length≤i⟩
def CM (K:PySem.W.Frag) (a:Addr):It:=
  ⟨fun i H=>∃xs x,SqT K H a xs∧xs[i]? =some x,fun i H x H'=>H'=H∧∀xs,SqT K H a xs→xs[i]? =some x,fun i H=>∃xs,SqT K H a xs∧xs.length≤i⟩
def Ci (lo:Int) (n:Nat):It:=⟨fun i _=>i < n,fun i H x H'=>H'=H∧x= .int (lo+i),fun i _=>n≤i⟩
theorem sJ {P:Program} {w:World} {K:PySem.W.Frag} {tg:Expr} (a it:Addr):Turn P w K tg (AO K a) [it] it (fun i h=>h.IsListIter it a i) where
  mem:=by simp
  obj:=fun i h st b hb=>by
    have e:b=it:=by simpa using hb
    subst e
    obtain ⟨o,e,c,d⟩:=st
    exact ⟨o,e,fun v z=>by rw [d] at z;cases z⟩
  keep:=fun i h h' st k=>st.at fun o e=>k it (by simp) o e
  item:=by
    intro X hP hw hK hc i pins s σ H E I hf st hg
    subst hP hw hK
    obtain ⟨xs,x,hq,hx⟩:=hg
    obtain ⟨its,rv,p,hz⟩:=I.list hq
    obtain ⟨u,hu,ru⟩:=rv.get hx
    obtain ⟨f0,f1,f2,f3,f4,f5⟩:=hf it (by simp)
    refine wpAny_pyNext_list_item st p.isList (x:=u) (by simpa using hu) fun h' st' sb=>?_
    have I1:Inv X pins σ H {s with heap:=h'}:=I.turned (t':=s.toks) (fun b o hb e=>(sb.2 b hb).trans e) f0 f1 f3 f4 f5
    obtain ⟨o,e,c,d⟩:=id st'
    exact ⟨u,rfl,o_ (s:={s with heap:=h'}) e c d (by decide) ⟨x,H,I1,ru,⟨rfl,fun ys hy=>by rw [I.list_inj hy hq];exact hx⟩,st',fun b hb=>(hf b hb).1⟩⟩
  done:=by
    intro X hP hw hK hc i pins s σ H E I hf st hg
    subst hP hw hK
    obtain ⟨xs,hq,hx⟩:=hg
    obtain ⟨its,rv,p,hz⟩:=I.list hq
    obtain ⟨f0,f1,f2,f3,f4,f5⟩:=hf it (by simp)
    have hl:=rv.length
    exact wpAny_pyNext_list_end (I.ok.hd hc) st p.isList (by simp;omega) fun h' eb=>⟨rfl,I.turned (t':=s.toks) (fun b o hb e=>eb b o hb e) f0 f1 f3 f4 f5⟩
  self:=fun _ _ _ _ _ st h=>wpAny_pyIter_listiter st h
theorem qi {P:Program} {w:World} {K:PySem.W.Frag} {tg:Expr} (a it:Addr):Turn P w K tg (CM K a) [it] it (fun i h=>h.IsTupleIter it a i) where
  mem:=by simp
  obj:=fun i h st b hb=>by
    have e:b=it:=by simpa using hb
    subst e
    obtain ⟨o,e,c,d⟩:=st
    exact ⟨o,e,fun v z=>by rw [d] at z;cases z⟩
  keep:=fun i h h' st k=>st.at fun o e=>k it (by simp) o e
  item:=by
    intro X hP hw hK hc i pins s σ H E I hf st hg
    subst hP hw hK
    obtain ⟨xs,x,hq,hx⟩:=hg
    obtain ⟨its,rv,p,hz⟩:=I.tuple hq
    obtain ⟨u,hu,ru⟩:=rv.get hx
    obtain ⟨f0,f1,f2,f3,f4,f5⟩:=hf it (by simp)
    refine wpAny_pyNext_tuple_item st (show s.heap.IsTuple a its.toArray from p) (x:=u) (by simpa using hu) fun h' st' sb=>?_
    have I1:Inv X pins σ H {s with heap:=h'}:=I.turned (t':=s.toks) (fun b o hb e=>(sb.2 b hb).trans e) f0 f1 f3 f4 f5
    obtain ⟨o,e,c,d⟩:=id st'
    exact ⟨u,rfl,o_ (s:={s with heap:=h'}) e c d (by decide) ⟨x,H,I1,ru,⟨rfl,fun ys hy=>by rw [I.tuple_inj hy hq];exact hx⟩,st',fun b hb=>(hf b hb).1⟩⟩
  done:=by
    intro X hP hw hK hc i pins s σ H E I hf st hg
    subst hP hw hK
    obtain ⟨xs,hq,hx⟩:=hg
    obtain ⟨its,rv,p,hz⟩:=I.tuple hq
    obtain ⟨f0,f1,f2,f3,f4,f5⟩:=hf it (by simp)
    have hl:=rv.length
    exact wpAny_pyNext_tuple_end (I.ok.hd hc) st (show s.heap.IsTuple a its.toArray from p) (by simp;omega) fun h' eb=>⟨rfl,I.turned (t':=s.toks) (fun b o hb e=>eb b o hb e) f0 f1 f3 f4 f5⟩
  self:=fun _ _ _ _ _ st h=>wpAny_pyIter_tupleiter st h
theorem qj {P:Program} {w:World} {K:PySem.W.Frag} {tg:Expr} (it:Addr) (lo:Int) (n:Nat):Turn P w K tg (Ci lo n) [it] it (fun i h=>IsRangeIter h it (lo+(i:Nat)*1) ((n:Int) - (i:Nat)) 1) where
  mem:=by simp
  obj:=fun i h st b hb=>by
    have e:b=it:=by simpa using hb
    subst e
    exact ⟨_,st,fun v z=>by
      have z':Data.fields _=Data.cell v:=z
      cases z'⟩
  keep:=fun i h h' st k=>k it (by simp) _ st
  item:=by
    intro X hP hw hK hc i pins s σ H E I hf st hg
    subst hP hw hK
    obtain ⟨f0,f1,f2,f3,f4,f5⟩:=hf it (by simp)
    have W:=Walks.range (prog:=X.prog) (w:=X.w) (I.ok.hd hc) it lo 1 n
    refine W.item i s _ _ hg st fun v h' tk hv st' kk=>?_
    obtain ⟨t,rfl⟩:=hv
    have I1:Inv X pins σ H {s with heap:=h',toks:=tk}:=I.turned (fun b o hb e=>kk b o (by simpa using hb) e) f0 f1 f3 f4 f5
    refine ⟨_,rfl,o_ (s:={s with heap:=h',toks:=tk}) (n:="range_iterator") st' rfl rfl (by decide) ⟨.int (lo+i),H,I1,⟨t,?_⟩,⟨rfl,rfl⟩,st',fun b hb=>(hf b hb).1⟩⟩
    rw [Int.mul_one]
  done:=by
    intro X hP hw hK hc i pins s σ H E I hf st hg
    subst hP hw hK
    obtain ⟨f0,f1,f2,f3,f4,f5⟩:=hf it (by simp)
    exact wpAny_pyNext_range_end (I.ok.hd hc) st (by have:n≤i:=hg;omega) fun h' eb=>⟨rfl,I.turned (t':=s.toks) (fun b o hb e=>eb b o hb e) f0 f1 f3 f4 f5⟩
  self:=fun _ _ _ _ _ st h=>wpAny_pyIter_rangeiter st h
end L2
namespace L2
open PySem PySem.Spec PyProof.Rows
section
variable {X:Cx} {tg:Expr}
def yC (K:PySem.W.Frag) (tl:TE):TI:=fun σ H R=>tl σ H fun x H1=>∃a,x= .ref a∧(∃xs,SqL K H1 a xs)∧R (AO K a) H1
def CN (K:PySem.W.Frag) (tl:TE):TI:=fun σ H R=>tl σ H fun x H1=>∃a,x= .ref a∧(∃xs,SqT K H1 a xs)∧R (CM K a) H1
theorem rm {l:Expr} {tl:TE} (hl:PE X l tl):PI X tg l (yC X.K tl):=by
  intro pins s σ H R I h
  refine cE (hl pins s σ H _ I h) fun v s1 ⟨x,H1,I1,r1,q1⟩=>?_
  obtain ⟨a,e,⟨xs,hq⟩,q⟩:=q1
  subst e
  cases r1
  obtain ⟨its,rv,p,hz⟩:=I1.list hq
  refine wpAny_pyIter_list p.isList ?_
  refine ⟨s1.heap.objs.size,[s1.heap.objs.size],_,_,H1,rfl,I1.kept (t':=s1.toks) fun b o e=>Heap.get?_push_of_some _ e,sJ a _,⟨_,Heap.get?_push_size _ rfl,rfl,rfl⟩,fun b hb=>?_,q⟩
  have e:b=s1.heap.objs.size:=by simpa using hb
  subst e
  exact I1.fpOk (Nat.le_refl _) (I1.hok.fresh (Nat.le_refl _))
theorem zw {l:Expr} {tl:TE} (hl:PE X l tl):PI X tg l (CN X.K tl):=by
  intro pins s σ H R I h
  refine cE (hl pins s σ H _ I h) fun v s1 ⟨x,H1,I1,r1,q1⟩=>?_
  obtain ⟨a,e,⟨xs,hq⟩,q⟩:=q1
  subst e
  cases r1
  obtain ⟨its,rv,p,hz⟩:=I1.tuple hq
  refine wpAny_pyIter_tuple (show s1.heap.IsTuple a its.toArray from p) ?_
  refine ⟨s1.heap.objs.size,[s1.heap.objs.size],_,_,H1,rfl,I1.kept (t':=s1.toks) fun b o e=>Heap.get?_push_of_some _ e,qi a _,⟨_,Heap.get?_push_size _ rfl,rfl,rfl⟩,fun b hb=>?_,q⟩
  have e:b=s1.heap.objs.size:=by simpa using hb
  subst e
  exact I1.fpOk (Nat.le_refl _) (I1.hok.fresh (Nat.le_refl _))
theorem uK {pins:List (Addr×Obj)} {σ:St} {H:Hp} {s:Shared} {R:It→Hp→Prop} {E:Value→Shared→Prop} {lo hi:Int} {t u v:Tok} {tk:Nat} (I:Inv X pins σ H s) (h1: -(2 ^ 62)≤lo) (h2:lo < 2 ^ 62) (h3: -(2 ^ 62)≤hi) (h4:hi < 2 ^ 62)
    (q:R (Ci lo (hi - lo).toNat) H):wpAny (model X.prog X.w) X.A (pyIter (.ref s.heap.objs.size)) (Ds X pins σ tg R) E {s with heap:=s.heap.push {cls:= .type "range",data:= .fields #[.int lo t, .int hi u, .int 1 v]},toks:=tk}:=by
  refine wpAny_pyIter_range (IsRange.new ..) (small_one h1 h2 h3 h4) ?_
  have I1:Inv X pins σ H {s with heap:=s.heap.push {cls:= .type "range",data:= .fields #[.int lo t, .int hi u, .int 1 v]},toks:=tk}:=I.kept fun b o e=>Heap.get?_push_of_some _ e
  refine ⟨(s.heap.push {cls:= .type "range",data:= .fields #[.int lo t, .int hi u, .int 1 v]}).objs.size,[(s.heap.push {cls:= .type "range",data:= .fields #[.int lo t, .int hi u, .int 1 v]}).objs.size],_,_,H,rfl,
    I1.kept (t':=tk) fun b o e=>Heap.get?_push_of_some _ e,qj _ lo (hi - lo).toNat,?_,fun b hb=>?_,q⟩
  · have e1:lo+((0:Nat):Int)*1=lo:=by simp
    have e2:(((hi - lo).toNat:Nat):Int) - ((0:Nat):Int)=Builtin.Range.rangeSize lo hi 1:=by rw [rangeSize_one];split <;> omega
    show IsRangeIter _ _ (lo+((0:Nat):Int)*1) ((((hi - lo).toNat:Nat):Int) - ((0:Nat):Int)) 1
    rw [e1,e2]
    exact Heap.get?_push_size _ rfl
  · have e:b=(s.heap.push {cls:= .type "range",data:= .fields #[.int lo t, .int hi u, .int 1 v]}).objs.size:=by simpa using hb
    subst e
    exact I1.fpOk (Nat.le_refl _) (I1.hok.fresh (Nat.le_refl _))
def Be (ta:TA):TI:=fun σ H R=>ta σ H fun vs H1=>∃j:Int,vs=[.int j]∧ -(2 ^ 62)≤j∧j < 2 ^ 62∧R (Ci 0 j.toNat) H1
theorem sK {a:Expr} {ta:TA} {p pos:Pos} (hg:Gl X "range") (hm:X.mg "range"=none) (ha:PA X [a] ta) (hs:starEach [a] X.env=[(false,eval a X.env)]:=by rfl):PI X tg (.Call (.Name "range" p) [a] [] pos) (Be ta):=by
  intro pins s σ H R I h
  refine Call_ (jV I hg hm boot_range (PyProof.Rows.callWith_type1 (cE (ha pos pins s σ H _ I h) fun us s1 ⟨vs,H1,I1,r1,q1⟩=>?_) hs rfl))
  obtain ⟨j,e,q1,q2,q⟩:=q1
  subst e
  cases r1 with
  | cons r rr=>
    cases rr
    obtain ⟨t,rfl⟩:=r
    exact call_range_1 (uK I1 (by omega) (by omega) q1 q2 (by simpa using q))
def CO (wi:TI) (g:TG) (tb:TS):TS:=fun D σ H=>wi σ H fun J H1=>∃W:Nat→Nat→St→Hp→Prop,(∃m,W 0 m σ H1)∧∀i m σ H,W i m σ H→
  (J.stop i H∧D.nx σ H)∨(J.go i H∧∃N:St→Hp→Prop,(∀σ' H',N σ' H'→∃m',m' < m∧W (i+1) m' σ' H')∧∀x H',J.yld i H x H'→g x σ H' fun σ2 H2=>tb {D with nx:=N,ct:=N,bk:=D.nx} σ2 H2)
def kX (fp:List Addr) (h:Heap):List (Addr×Obj):=fp.filterMap fun b=>(h.get? b).map fun o=>(b,o)
theorem gQ {fp:List Addr} {h:Heap} {b:Addr} {o:Obj} (hb:b∈fp) (e:h.get? b=some o):(b,o)∈kX fp h:=List.mem_filterMap.mpr ⟨b,hb,by rw [e];rfl⟩
theorem sL {fp:List Addr} {h:Heap} {p:Addr×Obj} (hp:p∈kX fp h):p.1∈fp∧h.get? p.1=some p.2:=by
  obtain ⟨b,hb,e⟩:=List.mem_filterMap.mp hp
  cases q:h.get? b with
  | none=>rw [q] at e;cases e
  | some o=>
    rw [q] at e
    have e':(b,o)=p:=Option.some.inj e
    subst e'
    exact ⟨hb,q⟩
theorem Inv.pinned {pins:List (Addr×Obj)} {σ:St} {H:Hp} {s:Shared} {fp:List Addr} (I:Inv X pins σ H s) (hf:∀b∈fp,mf X pins H b) (ho:∀b∈fp,∃o,s.heap.get? b=some o∧∀v,o.data≠ .cell v):Inv X (pins++kX fp s.heap) σ H s:=
  I.pins_of fun p hp=>(List.mem_append.mp hp).elim (fun z=>I.pin p (List.mem_append_right _ z)) fun z=>by
    obtain ⟨hb,e⟩:=sL z
    obtain ⟨f0,f1,f2,_⟩:=hf p.1 hb
    obtain ⟨o,e',d⟩:=ho p.1 hb
    rw [e] at e';cases e'
    exact ⟨e,f0,f1,f2,d⟩
theorem Inv.unpinned {pins pl:List (Addr×Obj)} {σ:St} {H:Hp} {s:Shared} (I:Inv X (pins++pl) σ H s):Inv X pins σ H s:=I.pins_of fun p hp=>I.pin p (List.mem_append_right _ (List.mem_append_left _ hp))
theorem zx {iter:Expr} {body:List Stmt} {wi:TI} {g:TG} {tb:TS} {pos:Pos} (hp:PassesOwn (model X.prog X.w) X.A X.env X.xe) (hc:X.calm=true) (hi:PI X tg iter wi) (hg:PG X tg g) (hb:PSs X body tb)
    (hs:∀x,foldedSetIterable iter X.env x=pure x:=by intro _;rfl):PS X (.For tg iter body [] pos) (CO wi g tb):=by
  intro pins s σ H D I h
  refine wpAny_For (cE (hi pins s σ H _ I h) fun v s1 h1=>cE h1 fun itv s2 h2=>?_) hs
  obtain ⟨it,fp,tn,J,H2,e,I2,T,st2,f2,W,⟨m0,w0⟩,turn⟩:=h2
  subst e
  -- what stays true of the iterator's objects through the loop
  have stat:∀{H':Hp},(∀b∈fp,H' b=none)→∀b∈fp,mf X pins H' b:=fun hn b hb=>⟨hn b hb,(f2 b hb).2⟩
  refine codeAny_forLoop_any (fun n s'=>∃i σ' H',Inv X pins σ' H' s'∧tn i s'.heap∧(∀b∈fp,H' b=none)∧W i n σ' H') ?_ m0 ⟨0,σ,H2,I2,st2,fun b hb=>(f2 b hb).1,w0⟩
  rintro n s3 ⟨i,σ3,H3,I3,st3,fr3,w3⟩
  rcases turn i n σ3 H3 w3 with ⟨stop,qn⟩ | ⟨go,N,hN,step⟩
  · refine wpAny_passesOwn hp (cE (T.done X rfl rfl rfl hc i pins s3 σ3 H3 X.xe I3 (stat fr3) st3 stop) fun r s4 ⟨hr,I4⟩=>?_)
    subst hr
    exact wpAny_execs_nil ⟨σ3,H3,I4,qn⟩
  · refine wpAny_passesOwn hp (cE (T.item X rfl rfl rfl hc i pins s3 σ3 H3 X.xe I3 (stat fr3) st3 go) fun r s4 ⟨u,hr,h4⟩=>?_)
    subst hr
    refine wpAny_passesOwn hp (cE h4 fun _ s5 ⟨x,H5,I5,r5,y5,st5,fr5⟩=>?_)
    have I5':=I5.pinned (stat fr5) (T.obj _ _ st5)
    refine wpAny_passesOwn hp (cE (hg _ s5 σ3 H5 x u _ I5' r5 (step x H5 y5)) fun _ s6 ⟨σ6,H6,I6,q6⟩=>?_)
    refine wpAny_passesOwn hp (cE (hb _ s6 σ6 H6 _ I6 q6) fun f s7 q7=>?_)
    have again:∀{σ7:St} {H7:Hp},Inv X (pins++kX fp s5.heap) σ7 H7 s7→N σ7 H7→∃m,m < n∧∃i σ' H',Inv X pins σ' H' s7∧tn i s7.heap∧(∀b∈fp,H' b=none)∧W i m σ' H':=fun {σ7 H7} I7 n7=>by
      obtain ⟨m',hm,w7⟩:=hN σ7 H7 n7
      refine ⟨m',hm,i+1,σ7,H7,I7.unpinned,T.keep _ _ _ st5 fun b hb o e=>(I7.pin (b,o) (List.mem_append_right _ (List.mem_append_right _ (gQ hb e)))).1,fun b hb=>?_,w7⟩
      obtain ⟨o,e,d⟩:=T.obj _ _ st5 b hb
      exact (I7.pin (b,o) (List.mem_append_right _ (List.mem_append_right _ (gQ hb e)))).2.1
    cases f with
    | next=>obtain ⟨σ7,H7,I7,n7⟩:=q7;exact again I7 n7
    | cont=>obtain ⟨σ7,H7,I7,n7⟩:=q7;exact again I7 n7
    | brk=>obtain ⟨σ7,H7,I7,q7⟩:=q7;exact ⟨σ7,H7,I7.unpinned,q7⟩
    | ret v=>obtain ⟨x7,σ7,H7,I7,r7,q7⟩:=q7;exact ⟨x7,σ7,H7,I7.unpinned,r7,q7⟩
end
end L2
namespace L2
open PySem PySem.Spec PyProof.Rows
abbrev R2:=V→V→Hp→VK→Prop
def OpR (X:Cx) (f:Value→Value→Sem Value) (r:R2):Prop:=
  ∀(pins:List (Addr×Obj)) (s:Shared) (σ:St) (H:Hp) (x y:V) (v u:Value) (Q:VK),Inv X pins σ H s→RelV x v→RelV y u→r x y H Q→
    wpAny (model X.prog X.w) X.A (f v u) (EP X pins σ Q) X.xe s
def CP (X:Cx) (f:Value→Sem Value) (r:V→Hp→VK→Prop):Prop:=
  ∀(pins:List (Addr×Obj)) (s:Shared) (σ:St) (H:Hp) (x:V) (v:Value) (Q:VK),Inv X pins σ H s→RelV x v→r x H Q→
    wpAny (model X.prog X.w) X.A (f v) (EP X pins σ Q) X.xe s
def CallR (X:Cx) (f:Value) (r:List V→Hp→VK→Prop):Prop:=
  ∀(pins:List (Addr×Obj)) (s:Shared) (σ:St) (H:Hp) (xs:List V) (us:List Value) (Q:VK),Inv X pins σ H s→Vals xs us→r xs H Q→
    wpAny (model X.prog X.w) X.A (call f us) (EP X pins σ Q) X.xe s
def CQ (X:Cx) (r:V→Hp→(Bool→Hp→Prop)→Prop):Prop:=
  ∀(pins:List (Addr×Obj)) (s:Shared) (σ:St) (H:Hp) (x:V) (v:Value) (Q:Bool→Hp→Prop),Inv X pins σ H s→RelV x v→r x H Q→
    wpAny (model X.prog X.w) X.A (truthy v) (TP X pins σ Q) X.xe s
def yD (r:R2) (ta tb:TE):TE:=fun σ H Q=>ta σ H fun x H1=>tb σ H1 fun y H2=>r x y H2 Q
def DG (r:V→Hp→VK→Prop) (ta:TE):TE:=fun σ H Q=>ta σ H fun x H1=>r x H1 Q
def rI (C:Int→Int→Prop) (g:Int→Int→V):R2:=fun x y H Q=>∃i j,x= .int i∧y= .int j∧C i j∧Q (g i j) H
def wW (g:Int→Int→V):R2:=fun x y H Q=>∃i j,x= .int i∧y= .int j∧Q (g i j) H
def rU (g:Int→V):V→Hp→VK→Prop:=fun x H Q=>∃i,x= .int i∧Q (g i) H
section
variable {X:Cx} {a b c:Expr} {ta tb tc:TE} {pos:Pos}
theorem zy (ha:PE X a ta) (hb:PE X b tb) {pins:List (Addr×Obj)} {s:Shared} {σ:St} {H:Hp} {R:V→V→Hp→Prop} (I:Inv X pins σ H s)
    (h:ta σ H fun x H1=>tb σ H1 fun y H2=>R x y H2) {Q:Value→Shared→Prop} {f:Value→Value→Sem Value}
    (hf:∀v u s2 x y H2,Inv X pins σ H2 s2→RelV x v→RelV y u→R x y H2→wpAny (model X.prog X.w) X.A (f v u) Q X.xe s2):
    wpAny (model X.prog X.w) X.A (eval a X.env) (fun v s₁=>wpAny (model X.prog X.w) X.A (eval b X.env) (fun u s₂=>wpAny (model X.prog X.w) X.A (f v u) Q X.xe s₂) X.xe s₁) X.xe s:=by
  refine cE (ha pins s σ H _ I h) fun v s1 ⟨x,H1,I1,r1,q1⟩=>?_
  refine cE (hb pins s1 σ H1 _ I1 q1) fun u s2 ⟨y,H2,I2,r2,q2⟩=>?_
  exact hf v u s2 x y H2 I2 r1 r2 q2
theorem m_ {op:Operator} {r:R2} (ho:OpR X (binaryOp op) r) (ha:PE X a ta) (hb:PE X b tb):PE X (.BinOp a op b pos) (yD r ta tb):=by
  intro pins s σ H Q I h
  exact wpAny_BinOp (zy ha hb I h fun v u s2 x y H2 I2 rx ry q=>ho pins s2 σ H2 x y v u Q I2 rx ry q)
theorem Bf {op:UnaryOp} {r:V→Hp→VK→Prop} (ho:CP X (unaryOp op) r) (ha:PE X a ta):PE X (.UnaryOp op a pos) (DG r ta):=by
  intro pins s σ H Q I h
  exact UnaryOp_ (cE (ha pins s σ H _ I h) fun v s1 ⟨x,H1,I1,r1,q1⟩=>ho pins s1 σ H1 x v Q I1 r1 q1)
theorem Cj {f:Value→Value→Sem Value} {C:Int→Int→Prop} {g:Int→Int→Int}
    (rule:∀(i j:Int) (t u:Tok) (s:Shared) (Q:Value→Shared→Prop) (E:Value→Shared→Prop),C i j→Q (.int (g i j) s.toks) {s with toks:=s.toks+1}→wpAny (model X.prog X.w) X.A (f (.int i t) (.int j u)) Q E s):
    OpR X f (rI C fun i j=> .int (g i j)):=by
  intro pins s σ H x y v u Q I rx ry h
  obtain ⟨i,j,rfl,rfl,hc,q⟩:=h
  obtain ⟨t,rfl⟩:=rx
  obtain ⟨t',rfl⟩:=ry
  exact rule i j t t' s _ _ hc ⟨.int (g i j),H,I.tok _,⟨_,rfl⟩,q⟩
theorem Bh {f:Value→Value→Sem Value} {g:Int→Int→Int}
    (rule:∀(i j:Int) (t u:Tok) (s:Shared) (Q:Value→Shared→Prop) (E:Value→Shared→Prop),Q (.int (g i j) s.toks) {s with toks:=s.toks+1}→wpAny (model X.prog X.w) X.A (f (.int i t) (.int j u)) Q E s):
    OpR X f (wW fun i j=> .int (g i j)):=by
  intro pins s σ H x y v u Q I rx ry h
  obtain ⟨i,j,rfl,rfl,q⟩:=h
  obtain ⟨t,rfl⟩:=rx
  obtain ⟨t',rfl⟩:=ry
  exact rule i j t t' s _ _ ⟨.int (g i j),H,I.tok _,⟨_,rfl⟩,q⟩
theorem wX {f:Value→Value→Sem Value} {g:Int→Int→Bool}
    (rule:∀(i j:Int) (t u:Tok) (s:Shared) (Q:Value→Shared→Prop) (E:Value→Shared→Prop),Q (.bool (g i j)) s→wpAny (model X.prog X.w) X.A (f (.int i t) (.int j u)) Q E s):
    OpR X f (wW fun i j=> .bl (g i j)):=by
  intro pins s σ H x y v u Q I rx ry h
  obtain ⟨i,j,rfl,rfl,q⟩:=h
  obtain ⟨t,rfl⟩:=rx
  obtain ⟨t',rfl⟩:=ry
  exact rule i j t t' s _ _ ⟨.bl (g i j),H,I,rfl,q⟩
def Bi (i j:Int):Prop:=0≤j∧j≤1000000∧i.natAbs < 2 ^ 64
def CMul (i j:Int):Prop:=(-(2 ^ 64) < i∧i < 2 ^ 64)∨(-(2 ^ 64) < j∧j < 2 ^ 64)
theorem CMul.ok {i j:Int} (h:CMul i j):IntMulOk i j:=by
  rcases h with ⟨h1,h2⟩ | ⟨h1,h2⟩
  · exact .of_left (intBits_le_64 h1 h2)
  · exact .of_right (intBits_le_64 h1 h2)
theorem uL:OpR X (binaryOp .Add) (wW fun i j=> .int (i+j)):=Bh fun _ _ _ _ _ _ _ q=>add_int q
theorem zA:OpR X (binaryOp .Sub) (wW fun i j=> .int (i - j)):=Bh fun _ _ _ _ _ _ _ q=>sub_int q
theorem uM:OpR X (binaryOp .Mod) (rI (fun _ j=>0 < j) fun i j=> .int (i % j)):=Cj fun i j _ _ _ _ _ hc q=>by
  have h1:(0:Int) < j:=hc
  exact mod_int' (by omega) (by rw [Int.fmod_eq_emod_of_nonneg i (by omega)];exact q)
theorem zB:OpR X (binaryOp .Pow) (rI Bi fun i j=> .int (i ^ j.toNat)):=Cj fun _ _ _ _ _ _ _ hc q=>pow_int_small hc.1 hc.2.1 hc.2.2 q
theorem DH {f:Value→Sem Value} {g:Int→Int}
    (rule:∀(i:Int) (t:Tok) (s:Shared) (Q:Value→Shared→Prop) (E:Value→Shared→Prop),Q (.int (g i) s.toks) {s with toks:=s.toks+1}→wpAny (model X.prog X.w) X.A (f (.int i t)) Q E s):
    CP X f (rU fun i=> .int (g i)):=by
  intro pins s σ H x v Q I rx h
  obtain ⟨i,rfl,q⟩:=h
  obtain ⟨t,rfl⟩:=rx
  exact rule i t s _ _ ⟨.int (g i),H,I.tok _,⟨_,rfl⟩,q⟩
theorem zC:CP X (unaryOp .USub) (rU fun i=> .int (-i)):=DH fun _ _ _ _ _ q=>neg_int q
end
def zD:V→V→Bool
  | .non, .non=>true | .non, .int _=>true | .int _, .non=>true | .non, .bl _=>true | .bl _, .non=>true | .non, .str _=>true | .str _, .non=>true
  | .int _, .int _=>true | .bl _, .bl _=>true | .str _, .str _=>true | .byt _, .byt _=>true
  | .int _, .str _=>true | .str _, .int _=>true | .bl _, .str _=>true | .str _, .bl _=>true
  | _,_=>false
def Dt:R2:=fun x y H Q=>zD x y=true∧Q (.bl (decide (x=y))) H
def Du:R2:=fun x y H Q=>zD x y=true∧Q (.bl (!decide (x=y))) H
theorem rq {i j:Int}:decide (V.int i=V.int j)=(i == j):=by
  rw [Bool.eq_iff_iff]
  simp
theorem uN {i j:Bool}:decide (V.bl i=V.bl j)=(i == j):=by
  rw [Bool.eq_iff_iff]
  simp
theorem rz {i j:Str}:decide (V.str i=V.str j)=(i == j):=by
  rw [Bool.eq_iff_iff]
  simp
theorem rA {i j:Array UInt8}:decide (V.byt i=V.byt j)=(i.toList == j.toList):=by
  rw [Bool.eq_iff_iff]
  cases i
  cases j
  simp
section
variable {X:Cx} {a b c:Expr} {ta tb tc:TE} {pos:Pos}
theorem a8 {pins:List (Addr×Obj)} {σ:St} {H:Hp} {s:Shared} {Q:VK} {k k':Bool} (I:Inv X pins σ H s) (q:Q (.bl k) H) (e:k=k'):EP X pins σ Q (.bool k') s:=by
  subst e
  exact ⟨.bl k,H,I,rfl,q⟩
theorem yE:OpR X (compareOp .Eq) Dt:=by
  intro pins s σ H x y v u Q I rx ry h
  obtain ⟨hs,q⟩:=h
  cases x with
  | non=>
    cases rx
    cases y with
    | non=>cases ry;exact PySem.EqNone.eq_none_none (a8 I q (by simp))
    | bl j=>cases ry;exact PySem.EqNone.eq_none_bool (a8 I q (by simp))
    | int j=>obtain ⟨t',rfl⟩:=ry;exact PySem.EqNone.eq_none_int (a8 I q (by simp))
    | str j=>obtain ⟨t',rfl⟩:=ry;exact PySem.EqNone.eq_none_str (a8 I q (by simp))
    | _=>exact absurd (show false=true from hs) Bool.false_ne_true
  | bl i=>
    cases rx
    cases y with
    | non=>cases ry;exact PySem.EqNone.eq_bool_none (a8 I q (by simp))
    | bl j=>cases ry;exact eq_bool (a8 I q uN)
    | str j=>obtain ⟨t',rfl⟩:=ry;exact PySem.EqMixed.eq_bool_str (a8 I q (by simp))
    | _=>exact absurd (show false=true from hs) Bool.false_ne_true
  | int i=>
    obtain ⟨t,rfl⟩:=rx
    cases y with
    | non=>cases ry;exact PySem.EqNone.eq_int_none (a8 I q (by simp))
    | int j=>obtain ⟨t',rfl⟩:=ry;exact eq_int (a8 I q rq)
    | str j=>obtain ⟨t',rfl⟩:=ry;exact PySem.EqMixed.eq_int_str (a8 I q (by simp))
    | _=>exact absurd (show false=true from hs) Bool.false_ne_true
  | str i=>
    obtain ⟨t,rfl⟩:=rx
    cases y with
    | non=>cases ry;exact PySem.EqNone.eq_str_none (a8 I q (by simp))
    | bl j=>cases ry;exact PySem.EqMixed.eq_str_bool (a8 I q (by simp))
    | int j=>obtain ⟨t',rfl⟩:=ry;exact PySem.EqMixed.eq_str_int (a8 I q (by simp))
    | str j=>obtain ⟨t',rfl⟩:=ry;exact eq_str (a8 I q rz)
    | _=>exact absurd (show false=true from hs) Bool.false_ne_true
  | byt i=>
    obtain ⟨t,rfl⟩:=rx
    cases y with
    | byt j=>obtain ⟨t',rfl⟩:=ry;exact PySem.W.eq_bytes (a8 I q rA)
    | _=>exact absurd (show false=true from hs) Bool.false_ne_true
  | _=>cases y <;> exact absurd (show false=true from hs) Bool.false_ne_true
theorem yF:OpR X (compareOp .NotEq) Du:=by
  intro pins s σ H x y v u Q I rx ry h
  obtain ⟨hs,q⟩:=h
  cases x with
  | non=>
    cases rx
    cases y with
    | non=>cases ry;exact PySem.EqNone.ne_none_none (a8 I q (by simp))
    | bl j=>cases ry;exact PySem.EqNone.ne_none_bool (a8 I q (by simp))
    | int j=>obtain ⟨t',rfl⟩:=ry;exact PySem.EqNone.ne_none_int (a8 I q (by simp))
    | str j=>obtain ⟨t',rfl⟩:=ry;exact PySem.EqNone.ne_none_str (a8 I q (by simp))
    | _=>exact absurd (show false=true from hs) Bool.false_ne_true
  | bl i=>
    cases rx
    cases y with
    | non=>cases ry;exact PySem.EqNone.ne_bool_none (a8 I q (by simp))
    | bl j=>cases ry;exact ne_bool (a8 I q (congrArg not uN))
    | str j=>obtain ⟨t',rfl⟩:=ry;exact PySem.EqMixed.ne_bool_str (a8 I q (by simp))
    | _=>exact absurd (show false=true from hs) Bool.false_ne_true
  | int i=>
    obtain ⟨t,rfl⟩:=rx
    cases y with
    | non=>cases ry;exact PySem.EqNone.ne_int_none (a8 I q (by simp))
    | int j=>obtain ⟨t',rfl⟩:=ry;exact ne_int (a8 I q (congrArg not rq))
    | str j=>obtain ⟨t',rfl⟩:=ry;exact PySem.EqMixed.ne_int_str (a8 I q (by simp))
    | _=>exact absurd (show false=true from hs) Bool.false_ne_true
  | str i=>
    obtain ⟨t,rfl⟩:=rx
    cases y with
    | non=>cases ry;exact PySem.EqNone.ne_str_none (a8 I q (by simp))
    | bl j=>cases ry;exact PySem.EqMixed.ne_str_bool (a8 I q (by simp))
    | int j=>obtain ⟨t',rfl⟩:=ry;exact PySem.EqMixed.ne_str_int (a8 I q (by simp))
    | str j=>obtain ⟨t',rfl⟩:=ry;exact ne_str (a8 I q (congrArg not rz))
    | _=>exact absurd (show false=true from hs) Bool.false_ne_true
  | byt i=>
    obtain ⟨t,rfl⟩:=rx
    cases y with
    | byt j=>obtain ⟨t',rfl⟩:=ry;exact PySem.W.ne_bytes (a8 I q (congrArg not rA))
    | _=>exact absurd (show false=true from hs) Bool.false_ne_true
  | _=>cases y <;> exact absurd (show false=true from hs) Bool.false_ne_true
theorem Bj:OpR X (compareOp .Lt) (wW fun i j=> .bl (decide (i < j))):=wX fun _ _ _ _ _ _ _ q=>lt_int q
theorem Bk:OpR X (compareOp .LtE) (wW fun i j=> .bl (decide (i≤j))):=wX fun _ _ _ _ _ _ _ q=>le_int q
theorem Bl:OpR X (compareOp .Gt) (wW fun i j=> .bl (decide (j < i))):=wX fun _ _ _ _ _ _ _ q=>gt_int q
theorem Bm:OpR X (compareOp .GtE) (wW fun i j=> .bl (decide (j≤i))):=wX fun _ _ _ _ _ _ _ q=>ge_int q
theorem sM:OpR X (compareOp .Lt) (fun x y H Q=>∃i j,x= .str i∧y= .str j∧Q (.bl (decide (i.cps.toList < j.cps.toList))) H):=by
  intro pins s σ H x y v u Q I rx ry h
  obtain ⟨i,j,rfl,rfl,q⟩:=h
  obtain ⟨t,rfl⟩:=rx
  obtain ⟨t',rfl⟩:=ry
  exact lt_str (a8 I q rfl)
theorem OpR.or {f:Value→Value→Sem Value} {r r':R2} (h:OpR X f r) (h':OpR X f r'):OpR X f (fun x y H Q=>r x y H Q∨r' x y H Q):=by
  intro pins s σ H x y v u Q I rx ry q
  rcases q with q | q
  · exact h pins s σ H x y v u Q I rx ry q
  · exact h' pins s σ H x y v u Q I rx ry q
theorem kY (b:Expr) {op:CmpOp} (h:op≠ .In:=by decide) (h2:op≠ .NotIn:=by decide):behindInMarks op b=false:=by
  have e1:(op == CmpOp.In)=false:=by cases op <;> first | rfl | exact absurd rfl h
  have e2:(op == CmpOp.NotIn)=false:=by cases op <;> first | rfl | exact absurd rfl h2
  cases b <;> simp [behindInMarks,e1,e2]
theorem wY {op:CmpOp} {r:R2} (ho:OpR X (compareOp op) r) (ha:PE X a ta) (hb:PE X b tb) (hm:behindInMarks op b=false):PE X (.Compare a [op] [b] pos) (yD r ta tb):=by
  intro pins s σ H Q I h
  exact wpAny_Compare1 (zy ha hb I h fun v u s2 x y H2 I2 rx ry q=>ho pins s2 σ H2 x y v u Q I2 rx ry q) hm
def yG (t:TE):TT:=fun σ H Q=>t σ H fun x H'=>∃k,x= .bl k∧Q k H'
theorem wZ {op:CmpOp} {r:R2} (ho:OpR X (compareOp op) r) (ha:PE X a ta) (hb:PE X b tb) (hm:behindInMarks op b=false):PT X (.Compare a [op] [b] pos) (yG (yD r ta tb)):=by
  intro pins s σ H Q I h
  refine wpAny_isTrue_Compare1 (cE (ha pins s σ H _ I h) fun v s1 ⟨x,H1,I1,r1,q1⟩=>cE (hb pins s1 σ H1 _ I1 q1) fun u s2 ⟨y,H2,I2,r2,q2⟩=>
    cE (ho pins s2 σ H2 x y v u _ I2 r1 r2 q2) fun c s3 ⟨z,H3,I3,r3,k,e,q3⟩=>?_) hm
  subst e
  cases r3
  exact wpAny_truthy_bool ⟨H3,I3,q3⟩
def qk (r r':R2) (ta tb tc:TE):TE:=fun σ H Q=>ta σ H fun x H1=>tb σ H1 fun y H2=>r x y H2 fun z H3=>∃k,z= .bl k∧
  (if k=true then tc σ H3 fun w' H4=>r' y w' H4 Q else Q (.bl false) H3)
theorem uO {op op':CmpOp} {r r':R2} (ho:OpR X (compareOp op) r) (ho':OpR X (compareOp op') r') (ha:PE X a ta) (hb:PE X b tb) (hc:PE X c tc)
    (hm:lastMarks [op,op'] [b,c]=false:=by with_unfolding_all rfl):PE X (.Compare a [op,op'] [b,c] pos) (qk r r' ta tb tc):=by
  intro pins s σ H Q I h
  refine Compare_chain (cE (ha pins s σ H _ I h) fun v s1 ⟨x,H1,I1,r1,q1⟩=>chain_link (cE (hb pins s1 σ H1 _ I1 q1) fun u s2 ⟨y,H2,I2,r2,q2⟩=>
    cE (ho pins s2 σ H2 x y v u _ I2 r1 r2 q2) fun d s3 ⟨z,H3,I3,r3,k,e,q3⟩=>?_)) hm
  subst e
  cases r3
  refine wpAny_truthy_bool ?_
  cases k with
  | false=>exact ite_ff ⟨.bl false,H3,I3,rfl,q3⟩
  | true=>exact ite_tt (chain_last (cE (hc pins s3 σ H3 _ I3 q3) fun w' s4 ⟨z',H4,I4,r4,q4⟩=>ho' pins s4 σ H4 y z' u w' Q I4 r2 r4 q4))
theorem uP {op op':CmpOp} {r r':R2} (ho:OpR X (compareOp op) r) (ho':OpR X (compareOp op') r') (ha:PE X a ta) (hb:PE X b tb) (hc:PE X c tc)
    (hm:lastMarks [op,op'] [b,c]=false:=by with_unfolding_all rfl):PT X (.Compare a [op,op'] [b,c] pos) (yG (qk r r' ta tb tc)):=by
  intro pins s σ H Q I h
  refine isTrue_chain (cE (ha pins s σ H _ I h) fun v s1 ⟨x,H1,I1,r1,q1⟩=>test_link (cE (hb pins s1 σ H1 _ I1 q1) fun u s2 ⟨y,H2,I2,r2,q2⟩=>
    cE (ho pins s2 σ H2 x y v u _ I2 r1 r2 q2) fun d s3 ⟨z,H3,I3,r3,k,e,q3⟩=>?_)) hm
  subst e
  cases r3
  refine wpAny_truthy_bool ?_
  cases k with
  | false=>
    obtain ⟨k',e',q'⟩:=q3
    cases e'
    exact ite_ff ⟨H3,I3,q'⟩
  | true=>
    refine ite_tt (test_last (cE (hc pins s3 σ H3 _ I3 q3) fun w' s4 ⟨z',H4,I4,r4,q4⟩=>cE (ho' pins s4 σ H4 y z' u w' _ I4 r2 r4 q4) fun d' s5 ⟨z2,H5,I5,r5,k2,e2,q5⟩=>?_))
    subst e2
    cases r5
    exact wpAny_truthy_bool ⟨H5,I5,q5⟩
def uQ (K:PySem.W.Frag) (x:V) (H:Hp) (k:Bool):Prop:=
  match x with
  | .non=>k=false
  | .bl b=>k=b
  | .int i=>k=(i != 0)
  | .str y=>y.length≤sizeLine∧k=((y.length:Int) != 0)
  | .byt y=>y.size≤sizeLine∧k=((y.size:Int) != 0)
  | .ref p=>(∃xs,SqL K H p xs∧k= !xs.isEmpty)∨(∃xs,SqT K H p xs∧k= !xs.isEmpty)∨∃kvs,H p=some (.dK kvs)∧k= !kvs.isEmpty
  | _=>False
theorem ql {κ:Type} {kvs:List (κ×V)} {vs:List (κ×Value)} (r:KV kvs vs):(!vs.isEmpty)= !kvs.isEmpty:=by
  cases r <;> rfl
theorem kZ {xs:List V} {its:List Value} (r:Vals xs its):(!its.toArray.isEmpty)= !xs.isEmpty:=by
  cases r <;> simp
theorem i8:(sizeLine:Nat) < 2 ^ 63:=by rw [sizeLine_eq];decide
theorem zE:CQ X (fun x H Q=>∃k,uQ X.K x H k∧Q k H):=by
  intro pins s σ H x v Q I rx h
  obtain ⟨k,e,q⟩:=h
  have hl:=i8
  have hs:sizeLine=16777216:=sizeLine_eq
  cases x with
  | non=>
    cases rx
    have e':k=false:=e
    subst e'
    exact truthy_none ⟨H,I,q⟩
  | bl b=>
    cases rx
    have e':k=b:=e
    subst e'
    exact wpAny_truthy_bool ⟨H,I,q⟩
  | int i=>
    obtain ⟨t,rfl⟩:=rx
    have e':k=(i != 0):=e
    subst e'
    exact PySem.P.truthy_int ⟨H,I,q⟩
  | str y=>
    obtain ⟨t,rfl⟩:=rx
    obtain ⟨hy,e'⟩:y.length≤sizeLine∧k=((y.length:Int) != 0):=e
    subst e'
    exact PySem.P.truthy_str (by omega) ⟨H,I.tok _,q⟩
  | byt y=>
    obtain ⟨t,rfl⟩:=rx
    obtain ⟨hy,e'⟩:y.size≤sizeLine∧k=((y.size:Int) != 0):=e
    subst e'
    exact PySem.W.truthy_bytes (by omega) ⟨H,I.tok _,q⟩
  | ref p=>
    cases rx
    have e':(∃xs,SqL X.K H p xs∧k= !xs.isEmpty)∨(∃xs,SqT X.K H p xs∧k= !xs.isEmpty)∨∃kvs,H p=some (.dK kvs)∧k= !kvs.isEmpty:=e
    rcases e' with ⟨xs,hx,e'⟩ | ⟨xs,hx,e'⟩ | ⟨kvs,hx,e'⟩
    · subst e'
      obtain ⟨its,r,pl,hz⟩:=I.list hx
      have hlen:=r.length
      exact wpAny_truthy_list pl.isList (by simp only [List.size_toArray];omega) ⟨H,I.tok _,by rw [kZ r];exact q⟩
    · subst e'
      obtain ⟨its,r,pl,hz⟩:=I.tuple hx
      have hlen:=r.length
      exact truthy_tuple pl (by simp only [List.size_toArray];omega) ⟨H,I.tok _,by rw [kZ r];exact q⟩
    · subst e'
      obtain ⟨hz,hS,vs,r,m⟩:kvs.length≤sizeLine∧(p == sysModules)=false∧∃vs,KV kvs vs∧s.heap.DictOf (kL X.prog X.w) p vs:=I.hok p _ hx
      have hlen:kvs.length=vs.length:=Paired.length r
      exact wpAny_truthy_dict hS m (by omega) ⟨H,I.tok _,by rw [ql r];exact q⟩
  | _=>exact (show False from e).elim
theorem uR (ha:PE X a ta) (he:∀whole,isTrue a X.env whole=(do let v ←whole;standAt a.pos;holding [v] (truthy v))):
    PT X a (fun σ H Q=>ta σ H fun x H'=>∃k,uQ X.K x H' k∧Q k H'):=by
  intro pins s σ H Q I h
  exact isTrue_plain (cE (ha pins s σ H _ I h) fun v s1 ⟨x,H1,I1,r1,q1⟩=>zE pins s1 σ H1 x v Q I1 r1 q1) (he _)
theorem qm:OpR X (binaryOp .Add) (fun x y H Q=>∃i j,x= .str i∧y= .str j∧i.length+j.length≤sizeLine∧Q (.str (i++j)) H):=by
  intro pins s σ H x y v u Q I rx ry h
  obtain ⟨i,j,rfl,rfl,hz,q⟩:=h
  obtain ⟨t,rfl⟩:=rx
  obtain ⟨t',rfl⟩:=ry
  exact add_str (fun t' tk=>⟨.str (i++j),H,I.tok _,⟨_,rfl⟩,q⟩) hz
theorem k7 {x:V} {us:List Value} (r:Vals [x] us):∃u,us=[u]∧RelV x u:=by
  cases r with
  | cons r1 r2=>cases r2;exact ⟨_,rfl,r1⟩
theorem Bo {x y:V} {us:List Value} (r:Vals [x,y] us):∃u w',us=[u,w']∧RelV x u∧RelV y w':=by
  cases r with
  | cons r1 r2=>
    cases r2 with
    | cons r3 r4=>cases r4;exact ⟨_,_,rfl,r1,r3⟩
theorem pb:CallR X (.builtin "abs") (fun xs H Q=>∃i,xs=[.int i]∧Q (.int (if i < 0 then -i else i)) H):=by
  intro pins s σ H xs us Q I r h
  obtain ⟨i,rfl,q⟩:=h
  obtain ⟨u,rfl,t,rfl⟩:=k7 r
  exact call_abs_int fun u tk=>⟨.int (if i < 0 then -i else i),H,I.tok _,⟨_,rfl⟩,q⟩
theorem sN (hc:X.calm=true):CallR X (.builtin "max") (fun xs H Q=>∃i j,xs=[.int i, .int j]∧Q (.int (if j > i then j else i)) H):=by
  intro pins s σ H xs us Q I r h
  obtain ⟨i,j,rfl,q⟩:=h
  obtain ⟨u,w',rfl,⟨t,rfl⟩,⟨t',rfl⟩⟩:=Bo r
  refine max_two_ints (I.ok.hd hc) fun h' tk k=>⟨_,H,I.kept k,?_,q⟩
  by_cases hj:j > i
  · rw [if_pos hj,if_pos hj];exact ⟨_,rfl⟩
  · rw [if_neg hj,if_neg hj];exact ⟨_,rfl⟩
theorem sO:CallR X (.type "int") (fun xs H Q=>(∃i,xs=[.int i]∧Q (.int i) H)∨∃k,xs=[.bl k]∧Q (.int (if k then 1 else 0)) H):=by
  intro pins s σ H xs us Q I r h
  rcases h with ⟨i,rfl,q⟩ | ⟨k,rfl,q⟩
  · obtain ⟨u,rfl,t,rfl⟩:=k7 r
    exact call_int_int ⟨.int i,H,I,⟨_,rfl⟩,q⟩
  · obtain ⟨u,rfl,r1⟩:=k7 r
    cases r1
    exact call_int_bool ⟨.int (if k then 1 else 0),H,I.tok _,⟨_,rfl⟩,q⟩
end
end L2
namespace L2
open PySem PySem.Spec PyProof.Rows
structure ObjM (h:Heap) (x dx C:Addr) (mA:Str→Option Value):Prop where
  obj:h.get? x=some (PySem.W.instObj C dx)
  ns:h.Ns1 dx mA
  ne:dx≠x
theorem sP {h:Heap} {dx:Addr} {mA:Str→Option Value} (n:h.Ns1 dx mA):∃od,h.get? dx=some od∧∀name,PySem.W.lookIn name od=some (mA name):=by
  obtain ⟨o,es,ep,ho,hd,hk,_,hm⟩:=n
  refine ⟨o,ho,fun name=>?_⟩
  have e:=hm name
  unfold nsFind findBy at e
  rw [←Array.find?_toList] at e
  unfold PySem.W.lookIn
  rw [hd]
  dsimp only
  split
  · rename_i y q
    rw [q] at e
    exact congrArg some e
  · rename_i q
    rw [q] at e
    have a:es.toList.any (·.refKey)=false:=by
      rw [List.any_eq_false]
      intro y hy
      obtain ⟨z,t,hkey⟩:=hk y (Array.mem_toList_iff.mp hy)
      simp [DictEntry.refKey,hkey]
    have a':¬es.toList.any (·.refKey)=true:=by rw [a];exact Bool.false_ne_true
    rw [if_neg a']
    exact congrArg some e
theorem ObjM.look {h:Heap} {x dx C:Addr} {mA:Str→Option Value} (I:ObjM h x dx C mA):∃od,PySem.W.InstAt h x (PySem.W.instObj C dx) C (some od)∧∀name,PySem.W.lookIn name od=some (mA name):=
  let ⟨od,ho,hl⟩:=sP I.ns
  ⟨od,⟨I.obj,rfl,rfl,ho⟩,hl⟩
section
variable {prog:Program} {w:World} {A:Around} {E:Value→Shared→Prop} {s:Shared} {K:PySem.W.Frag} {x dx C f:Addr} {mA:Str→Option Value} {name:Str} {v:Value}
theorem w5 {expr:Bool} {Q:Value→Shared→Prop} (X:K.In s.heap) (I:ObjM s.heap x dx C mA) (hg:PySem.W.plainGet K C name=true) (hh:PySem.W.hasDictIn K C=true)
    (ha:PySem.W.findIn K (.ref C) name=some none) (hv:mA name=some v) (hv':PySem.W.handedIn v=true) (h:Q v {s with toks:=s.toks+1}):
    wpAny (model prog w) A (getAttr (.ref x) name expr) Q E s:=by
  obtain ⟨od,J,hl⟩:=I.look
  exact PySem.W.get_value X J (PySem.W.plainGet_of hg).1 (PySem.W.findObj_own hh ha rfl (by rw [hl,hv])) hv' h
theorem uS {pl:Sem Bool} {Q:Value×List Value→Shared→Prop} (X:K.In s.heap) (I:ObjM s.heap x dx C mA) (hg:PySem.W.plainGet K C name=true)
    (hf:PySem.W.findIn K (.ref C) name=some (some (.ref f))) (ht:PySem.W.isFn K (.ref f)=true) (hv:mA name=none) (h:Q (.ref f,[.ref x]) s):
    wpAny (model prog w) A (getMethod (.ref x) name pl) Q E s:=by
  obtain ⟨od,J,hl⟩:=I.look
  exact PySem.W.method_fn X J (PySem.W.plainGet_of hg).1 (PySem.W.plainGet_of hg).2 hf (beq_iff_eq.mp ht) (by show (PySem.W.lookIn name od).map (·.isSome)=some false;rw [hl,hv];rfl) h
theorem w6 {ns:List Str} {Q:Unit→Shared→Prop} (X:K.In s.heap) (I:ObjM s.heap x dx C mA)
    (hs:PySem.W.findIn K (.ref C) "__setattr__"=some (some (.builtin "object.__setattr__"))) (hp:PySem.W.plainOver K C=true) (ht:PySem.W.takerIn K C name=some none) (hh:PySem.W.hasDictIn K C=true)
    (hw:PySem.Within mA ns) (hsz:ns.length≤sizeLine)
    (h:∀h',ObjM h' x dx C (fun y=>if y=name then some v else mA y)→Heap.SameBut dx s.heap h'→Q () {s with heap:=h',toks:=s.toks+2}):
    wpAny (model prog w) A (setAttr (.ref x) name v) Q E s:=by
  obtain ⟨od,J,hl⟩:=I.look
  refine PySem.W.set_plain X J hs (PySem.W.osa_open (s:={s with toks:=s.toks+1}) (r:=none) X J hp ht fun b=>?_)
  obtain ⟨cd,hc,hd'⟩:=PySem.W.any_some hh
  have hx:s.heap.get? x=some ⟨.ref C,some dx, .plain,#[]⟩:=I.obj
  refine wpAny_bind (wpAny_pure (wpAny_bind (wpAny_bind (wpAny_loadPart hx (wpAny_bind (PySem.W.Looks.here (s:={s with toks:=s.toks+1}) (PySem.W.looks_clsIn X hc) ?_))))))
  rw [hd']
  refine wpAny_pure (a:=some dx) (wpAny_bind (wpAny_pure (wpAny_bind ?_)))
  refine wpAny_nsSet1 (s:={s with toks:=s.toks+1}) I.ns fun h' hn2 hs2=>?_
  obtain ⟨oD,esD,epD,hoD,hdD,hcD⟩:=hn2.count (PySem.Within.cons name v hw)
  refine wpAny_bind (wpAny_lookBehind hoD (by rw [hdD];exact pastItsLine_dict (Nat.le_trans hcD (by rw [List.length_cons];omega))) ?_)
  exact wpAny_pure (h _ ⟨(hs2.2 _ (Ne.symm I.ne)).trans I.obj,hn2,I.ne⟩ hs2)
theorem uT {R:Result→Shared→Prop} {vs:List Value} {kw:List (Str×Value)} (X:K.In s.heap) (hm:PySem.W.makesIn K C=true)
    (hi:PySem.W.findIn K (.ref C) "__init__"=some (some (.ref f))) (hf:PySem.W.typeIn K (.ref f)=some (.type "function"))
    (h:codeAny (model prog w) (A.under (.builtin "type.__call__" ⟨.ref C::vs,kw⟩)) (.call (.ref f) ⟨.ref (s.heap.objs.size+1)::vs,kw⟩) (PySem.W.InitBack (s.heap.objs.size+1) R)
      {s with heap:=(s.heap.push PySem.W.emptyDict).push (PySem.W.instObj C s.heap.objs.size)}):
    codeAny (model prog w) A (.call (.ref C) ⟨vs,kw⟩) R s:=by
  obtain ⟨hh,g,d,t,os⟩:=s
  exact PySem.W.make_core (PySem.W.makes_of X hm) (PySem.W.looks_findIn X hi) (fun self=>PySem.W.bind_fn X self hf) (.inl rfl) h
end
def b9 (f:Str) (v:V):List (Str×V)→List (Str×V)
  | []=>[(f,v)]
  | (g,x)::r=>if g=f then (g,v)::r else (g,x)::b9 f v r
theorem aC (f g:Str) (v:V):∀fs:List (Str×V),(b9 f v fs).lookup g=if g=f then some v else fs.lookup g
  | []=>by
    show List.lookup g [(f,v)]=_
    by_cases h:g=f
    · have hb:(g == f)=true:=beq_iff_eq.mpr h
      simp only [List.lookup,hb,if_pos h]
    · have hb:(g == f)=false:=beq_eq_false_iff_ne.mpr h
      simp only [List.lookup,hb,if_neg h]
  | (k,x)::r=>by
    have ih:=aC f g v r
    rw [show b9 f v ((k,x)::r)=(if k=f then (k,v)::r else (k,x)::b9 f v r) from rfl]
    by_cases hk:k=f
    · rw [if_pos hk]
      by_cases h:g=k
      · have hb:(g == k)=true:=beq_iff_eq.mpr h
        simp only [List.lookup,hb,if_pos (h.trans hk)]
      · have hb:(g == k)=false:=beq_eq_false_iff_ne.mpr h
        simp only [List.lookup,hb,if_neg (fun e:g=f=>h (e.trans hk.symm))]
    · rw [if_neg hk]
      by_cases h:g=k
      · have hb:(g == k)=true:=beq_iff_eq.mpr h
        simp only [List.lookup,hb,if_neg (fun e:g=f=>hk (h.symm.trans e))]
      · have hb:(g == k)=false:=beq_eq_false_iff_ne.mpr h
        simp only [List.lookup,hb]
        exact ih
theorem jW (f:Str) (v:V):∀fs:List (Str×V),f∈(b9 f v fs).map (·.1)∧∀g,g∈fs.map (·.1)→g∈(b9 f v fs).map (·.1)
  | []=>⟨by simp [b9],fun g h=>by simp at h⟩
  | (k,x)::r=>by
    obtain ⟨i1,i2⟩:=jW f v r
    rw [show b9 f v ((k,x)::r)=(if k=f then (k,v)::r else (k,x)::b9 f v r) from rfl]
    by_cases hk:k=f
    · rw [if_pos hk]
      subst hk
      exact ⟨by simp,fun g h=>by simpa using h⟩
    · rw [if_neg hk]
      refine ⟨?_,fun g h=>?_⟩
      · rw [List.map_cons]
        exact List.mem_cons_of_mem _ i1
      · rw [List.map_cons] at h ⊢
        rcases List.mem_cons.mp h with e | e
        · exact List.mem_cons.mpr (.inl e)
        · exact List.mem_cons_of_mem _ (i2 g e)
theorem ir (f:Str) (v:V):∀fs:List (Str×V),(b9 f v fs).length≤fs.length+1
  | []=>by simp [b9]
  | (k,x)::r=>by
    have ih:=ir f v r
    rw [show b9 f v ((k,x)::r)=(if k=f then (k,v)::r else (k,x)::b9 f v r) from rfl]
    by_cases hk:k=f
    · rw [if_pos hk,List.length_cons,List.length_cons];omega
    · rw [if_neg hk,List.length_cons,List.length_cons];omega
theorem RelO.some_of {v:V} {o:Option Value} (r:RelO (some v) o):∃u,o=some u∧RelV v u:=by
  cases o with
  | none=>exact (show False from r).elim
  | some u=>exact ⟨u,rfl,r⟩
theorem RelO.none_of {o:Option Value} (r:RelO none o):o=none:=by
  cases o with
  | none=>rfl
  | some u=>exact (show False from r).elim
theorem sQ {v:V} {u:Value} (r:RelV v u):PySem.W.handedIn u=true:=by
  cases v with
  | non=>cases (show u=Value.none from r);rfl
  | bl b=>cases (show u=Value.bool b from r);rfl
  | int i=>obtain ⟨t,e⟩:=(show ∃t,u=Value.int i t from r);cases e;rfl
  | str x=>obtain ⟨t,e⟩:=(show ∃t,u=Value.str x t from r);cases e;rfl
  | byt b=>obtain ⟨t,e⟩:=(show ∃t,u=Value.bytes b t from r);cases e;rfl
  | flt b=>obtain ⟨t,e⟩:=(show ∃t,u=Value.float b t from r);cases e;rfl
  | ref a=>cases (show u=Value.ref a from r);rfl
  | ty n=>cases (show u=Value.type n from r);rfl
section
variable {P:Program} {w:World} {H H':Hp} {h h':Heap} {a C dx:Addr} {fs fs':List (Str×V)}
theorem jr (hok:HOk P w H h) (e:H a=some (.ins C dx fs)):∃mA,ObjM h a dx C mA∧(∀f,RelO (fs.lookup f) (mA f))∧PySem.Within mA (fs.map (·.1))∧fs.length≤1000∧H dx=some (.own a):=by
  obtain ⟨d,z,ne,ob,mA,n,r,q⟩:=(show ObjOk P w H h a (.ins C dx fs) from hok a _ e)
  exact ⟨mA,⟨ob,n,ne⟩,r,q,z,d⟩
end
structure Cls (K:PySem.W.Frag) (C:Addr):Prop where
  pg:PySem.W.plainGet K C Str.empty=true
  hd:PySem.W.hasDictIn K C=true
  po:PySem.W.plainOver K C=true
  sa:PySem.W.findIn K (.ref C) "__setattr__"=some (some (.builtin "object.__setattr__"))
theorem Cls.get {K:PySem.W.Frag} {C:Addr} (c:Cls K C) (f:Str):PySem.W.plainGet K C f=true:=c.pg
def NoAttr (K:PySem.W.Frag) (C:Addr) (f:Str):Prop:=PySem.W.findIn K (.ref C) f=some none
theorem NoAttr.taker {K:PySem.W.Frag} {C:Addr} {f:Str} (n:NoAttr K C f):PySem.W.takerIn K C f=some none:=by
  unfold PySem.W.takerIn
  rw [show PySem.W.findIn K (.ref C) f=some none from n]
  rfl
structure Meth (K:PySem.W.Frag) (C:Addr) (m:Str) (f:Addr):Prop where
  at_:PySem.W.findIn K (.ref C) m=some (some (.ref f))
  fn:PySem.W.isFn K (.ref f)=true
  kp:PySem.W.keepIn K (.ref f)=true
section
variable {X:Cx} {pins:List (Addr×Obj)} {σ:St} {H:Hp} {s:Shared} {a C dx:Addr} {fs:List (Str×V)} {f:Str} {v:V} {A:Around} {E:Value→Shared→Prop}
theorem qo {b:Bool} {Q:Value→Shared→Prop} (I:Inv X pins σ H s) (e:H a=some (.ins C dx fs)) (c:Cls X.K C) (n:NoAttr X.K C f) (l:fs.lookup f=some v)
    (h:∀u s',Inv X pins σ H s'→RelV v u→Q u s'):wpAny (model X.prog X.w) A (getAttr (.ref a) f b) Q E s:=by
  obtain ⟨mA,O,r,_,_,_⟩:=jr I.hok e
  obtain ⟨u,hu,ru⟩:=RelO.some_of (v:=v) (o:=mA f) (by rw [←l];exact r f)
  exact w5 I.kIn O (c.get f) c.hd n hu (sQ ru) (h u _ (I.tok _) ru)
theorem i9 {m:Str} {g:Addr} {pl:Sem Bool} {Q:Value×List Value→Shared→Prop} (I:Inv X pins σ H s) (e:H a=some (.ins C dx fs)) (c:Cls X.K C) (k:Meth X.K C m g) (l:fs.lookup m=none)
    (h:Q (.ref g,[.ref a]) s):wpAny (model X.prog X.w) A (getMethod (.ref a) m pl) Q E s:=by
  obtain ⟨mA,O,r,_,_,_⟩:=jr I.hok e
  have hn:mA m=none:=RelO.none_of (by rw [←l];exact r m)
  exact uS I.kIn O (c.get m) k.at_ k.fn hn h
theorem qp {y:V} {u:Value} {Q:Unit→Shared→Prop} (I:Inv X pins σ H s) (e:H a=some (.ins C dx fs)) (c:Cls X.K C) (n:NoAttr X.K C f) (hl:fs.length < 1000) (ry:RelV y u)
    (h:∀s',Inv X pins σ (upd H a (.ins C dx (b9 f y fs))) s'→Q () s'):wpAny (model X.prog X.w) A (setAttr (.ref a) f u) Q E s:=by
  obtain ⟨mA,O,r,wi,_,ho⟩:=jr I.hok e
  have hz:(fs.map (·.1)).length≤sizeLine:=by rw [List.length_map,sizeLine_eq];omega
  refine w6 I.kIn O c.sa c.po n.taker c.hd wi hz fun h' O' sb=>h _ ?_
  have hd:∃o,h'.get? dx=some o:=let ⟨o,_,_,e',_⟩:=O'.ns;⟨o,e'⟩
  refine I.write (x:=a) (e:=dx) (by rw [e];exact True.intro) (.inr ho) (fun b q hb z=>(sb.2 b hb).trans z) hd ?_
  refine ⟨by rw [av O.ne];exact ho,?_,O.ne,O'.obj,_,O'.ns,fun g=>?_,fun g hg=>?_⟩
  · have:=ir f y fs;omega
  · show RelO ((b9 f y fs).lookup g) (if g=f then some u else mA g)
    rw [aC]
    by_cases q:g=f
    · rw [if_pos q,if_pos q];exact ry
    · rw [if_neg q,if_neg q];exact r g
  · by_cases q:g=f
    · rw [q];exact (jW f y fs).1
    · refine (jW f y fs).2 g (wi g fun z=>hg ?_)
      show (if g=f then some u else mA g)=none
      rw [if_neg q];exact z
theorem Inv.made (I:Inv X pins σ H s):Inv X pins σ (upd (upd H s.heap.objs.size (.own (s.heap.objs.size+1))) (s.heap.objs.size+1) (.ins C s.heap.objs.size []))
    {s with heap:=(s.heap.push PySem.W.emptyDict).push (PySem.W.instObj C s.heap.objs.size)}:=by
  have e1:(s.heap.push PySem.W.emptyDict).get? s.heap.objs.size=some PySem.W.emptyDict:=Heap.get?_push_size s.heap rfl
  have e2:((s.heap.push PySem.W.emptyDict).push (PySem.W.instObj C s.heap.objs.size)).get? (s.heap.objs.size+1)=some (PySem.W.instObj C s.heap.objs.size):=by
    have:=Heap.get?_push_size (s.heap.push PySem.W.emptyDict) (o:=PySem.W.instObj C s.heap.objs.size) rfl
    rwa [Heap.size_push] at this
  have e3:(s.heap.push PySem.W.emptyDict).Ns s.heap.objs.size (fun _=>none):=⟨PySem.W.emptyDict,#[],_,e1,rfl,(fun e he=>absurd he (by simp)),fun _=>rfl⟩
  have I1:=I.laid (a:=s.heap.objs.size) (o:= .own (s.heap.objs.size+1)) (h':=s.heap.push PySem.W.emptyDict) (t':=s.toks) (fun b u q=>Heap.get?_push_of_some _ q) (Nat.le_refl _) ⟨_,e1⟩
  refine I1.laid (a:=s.heap.objs.size+1) (o:= .ins C s.heap.objs.size []) (t':=s.toks) (fun b u q=>Heap.get?_push_of_some _ q) (Nat.le_of_eq (Heap.size_push _ _)) ?_
  have ne:s.heap.objs.size≠s.heap.objs.size+1:=Nat.ne_of_lt (Nat.lt_succ_self _)
  refine ⟨by rw [av ne,upd_same],Nat.zero_le _,ne,e2,fun _=>none,(Heap.Ns1.of_empty e3).at fun o q=>Heap.get?_push_of_some _ q,fun _=>True.intro,fun y hy=>absurd rfl hy⟩
theorem w_ {prog:Program} {w:World} {env:Env} {e:Expr} {f:Str} {pos:Pos} {s:Shared} {Q:Value→Shared→Prop} (hb:attributeBase e f env (eval e env)=eval e env)
    (h:wpAny (model prog w) A (eval e env) (fun o s₁=>wpAny (model prog w) A (getAttr o f true) Q E s₁) E s):wpAny (model prog w) A (eval (.Attribute e f pos) env) Q E s:=
  Attribute_any_ h (by rw [arm_eval_Attribute,hb])
end
def CS (K:PySem.W.Frag) (ta:TE) (f:Str):TE:=fun σ H Q=>ta σ H fun x H1=>∃a C dx fs v,x= .ref a∧H1 a=some (.ins C dx fs)∧Cls K C∧NoAttr K C f∧fs.lookup f=some v∧Q v H1
def jX (K:PySem.W.Frag) (ta tv:TE) (f:Str):TS:=fun D σ H=>tv σ H fun y H1=>ta σ H1 fun x H2=>∃a C dx fs,x= .ref a∧H2 a=some (.ins C dx fs)∧Cls K C∧NoAttr K C f∧fs.length < 1000∧
  D.nx σ (upd H2 a (.ins C dx (b9 f y fs)))
section
variable {X:Cx} {o e value:Expr} {f:Str} {pos pos' tpos:Pos} {ta tv:TE}
theorem zF (he:PE X e ta) (hb:attributeBase e f X.env (eval e X.env)=eval e X.env):PE X (.Attribute e f pos) (CS X.K ta f):=by
  intro pins s σ H Q I h
  refine w_ hb (cE (he pins s σ H _ I h) fun u s1 ⟨x,H1,I1,rx,a,C,dx,fs,v,ex,ea,c,n,l,q⟩=>?_)
  subst ex
  obtain rfl:u=Value.ref a:=rx
  exact qo I1 ea c n l fun u' s2 I2 ru=>⟨v,H1,I2,ru,q⟩
theorem fj (ha:PE X o ta) (hv:PE X value tv) (hs:swapsWith value (some (.Attribute o f pos')) pos.line X.env=pure false):PS X (.Assign [.Attribute o f pos'] value pos) (jX X.K ta tv f):=by
  intro pins s σ H D I h
  refine plainObj_wpAny_Assign_Attribute (cE (hv pins s σ H _ I h) fun u s1 ⟨y,H1,I1,ry,q⟩=>cE (ha pins s1 σ H1 _ I1 q) fun ov s2 ⟨x,H2,I2,rx,a,C,dx,fs,ex,ea,c,n,l,q2⟩=>?_) hs
  subst ex
  obtain rfl:ov=Value.ref a:=rx
  exact qp I2 ea c n l ry fun s3 I3=>⟨σ,_,I3,q2⟩
end
section
variable {X:Cx} {pins:List (Addr×Obj)} {σ:St} {H:Hp} {s:Shared} {A:Around} {E:Value→Shared→Prop} {Q:Value→Shared→Prop} {c:Value} {b:Bool}
inductive TyOf (K:PySem.W.Frag) (H:Hp):V→Value→Prop where
  | non:TyOf K H .non (.type "NoneType")
  | bl (x:Bool):TyOf K H (.bl x) (.type "bool")
  | int (i:Int):TyOf K H (.int i) (.type "int")
  | str (x:Str):TyOf K H (.str x) (.type "str")
  | flt (x:UInt64):TyOf K H (.flt x) (.type "float")
  | lst {a:Addr} {xs:List V} (e:H a=some (.lst xs)):TyOf K H (.ref a) (.type "list")
  | frz {a:Addr} {o:Obj} {xs:List V} (e:H a=some (.frz o (.lst xs))):TyOf K H (.ref a) (.type "list")
  | tup {a:Addr} {xs:List V} (e:H a=some (.tup xs)):TyOf K H (.ref a) (.type "tuple")
  | dK {a:Addr} {kvs:List (eP×V)} (e:H a=some (.dK kvs)):TyOf K H (.ref a) (.type "dict")
  | dT {a:Addr} {kvs:List (List eP×V)} (e:H a=some (.dT kvs)):TyOf K H (.ref a) (.type "dict")
  | ins {a C dx:Addr} {fs:List (Str×V)} (e:H a=some (.ins C dx fs)) (cl:Cls K C) (ha:PySem.W.findIn K (.ref C) "__class__"=some (some (.builtin "object.__class__")))
      (hn:PySem.W.specialIn K (.builtin "object.__class__") "__get__"=some (some (.builtin "getset_descriptor.__get__"))) (htk:PySem.W.takesIn K (.builtin "object.__class__")=some true)
      (hm:PySem.W.mroIn K C (.type "object")=some true):TyOf K H (.ref a) (.ref C)
theorem iR {x:V} {u t:Value} (I:Inv X pins σ H s) (rx:RelV x u) (ty:TyOf X.K H x t) (e:PySem.W.kitOne X.K t c=some b) (h:∀tk,Q (.bool b) {s with toks:=tk}):
    wpAny (model X.prog X.w) A (call (.builtin "isinstance") [u,c]) Q E s:=by
  cases ty with
  | non=>cases (show u=Value.none from rx);exact PySem.W.kia_one PySem.W.kitx_none I.kIn True.intro e (fun z=>nomatch z) h
  | bl y=>cases (show u=Value.bool y from rx);exact PySem.W.kia_one PySem.W.kitx_bool I.kIn True.intro e (fun z=>nomatch z) h
  | int i=>obtain ⟨t,q⟩:=(show ∃t,u=Value.int i t from rx);cases q;exact PySem.W.kia_one PySem.W.kitx_int I.kIn True.intro e (fun z=>nomatch z) h
  | str y=>obtain ⟨t,q⟩:=(show ∃t,u=Value.str y t from rx);cases q;exact PySem.W.kia_one PySem.W.kitx_str I.kIn True.intro e (fun z=>nomatch z) h
  | flt y=>obtain ⟨t,q⟩:=(show ∃t,u=Value.float y t from rx);cases q;exact PySem.W.kia_one PySem.W.kitx_float I.kIn True.intro e (fun z=>nomatch z) h
  | @lst a xs ea=>
    cases (show u=Value.ref a from rx)
    obtain ⟨_,_,n,_,h1⟩:=(show ObjOk X.prog X.w H s.heap a (.lst xs) from I.hok a _ ea)
    exact PySem.W.kia_one PySem.W.kitx_list I.kIn ⟨_,h1,rfl⟩ e (fun z=>nomatch z) h
  | @frz a ob xs ea=>
    cases (show u=Value.ref a from rx)
    obtain ⟨_,_,_,n,_,h1⟩:=(show ObjOk X.prog X.w H s.heap a (.frz ob (.lst xs)) from I.hok a _ ea)
    exact PySem.W.kia_one PySem.W.kitx_list I.kIn ⟨_,h1,rfl⟩ e (fun z=>nomatch z) h
  | @tup a xs ea=>
    cases (show u=Value.ref a from rx)
    obtain ⟨_,_,_,p⟩:=(show ObjOk X.prog X.w H s.heap a (.tup xs) from I.hok a _ ea)
    obtain ⟨o,h1,h2,_⟩:=p
    exact PySem.W.kia_one PySem.W.kitx_tuple I.kIn ⟨o,h1,h2⟩ e (fun z=>nomatch z) h
  | @dK a kvs ea=>
    cases (show u=Value.ref a from rx)
    obtain ⟨_,_,vs,_,p⟩:=(show ObjOk X.prog X.w H s.heap a (.dK kvs) from I.hok a _ ea)
    obtain ⟨o,es,ep,h1,h2,_⟩:=p
    exact PySem.W.kia_one PySem.W.kitx_dict I.kIn ⟨o,h1,h2.1⟩ e (fun z=>nomatch z) h
  | @dT a kvs ea=>
    cases (show u=Value.ref a from rx)
    obtain ⟨_,_,xs,_,o,es,ep,h1,h2,_⟩:=(show ObjOk X.prog X.w H s.heap a (.dT kvs) from I.hok a _ ea)
    exact PySem.W.kia_one PySem.W.kitx_dict I.kIn ⟨o,h1,h2.1⟩ e (fun z=>nomatch z) h
  | @ins a C dx fs ea cl ha hn htk hm=>
    cases (show u=Value.ref a from rx)
    obtain ⟨mA,O,_⟩:=jr I.hok ea
    obtain ⟨od,J,_⟩:=O.look
    exact PySem.W.kia_one (PySem.W.kitx_own (cl.get _) cl.hd ha hn htk hm) I.kIn J e (fun z=>nomatch z) h
end
end L2
namespace L2
open PySem PySem.Spec PyProof.Rows
structure Room (k:Nat) (A:Around):Prop where
  hd:A.handled=none
  dp:A.depth+3*k+5 < recursionLimit
  un:A.units+16*k+200 < cLine
theorem Room.mono {j k:Nat} {A:Around} (r:Room k A) (h:j≤k):Room j A:=⟨r.hd,by have:=r.dp;omega,by have:=r.un;omega⟩
theorem Room.deeper {k:Nat} {A:Around} (r:Room (k+1) A) (env:Env):Room k (A.deeper env):=
  ⟨r.hd,by have:=r.dp;show A.depth+1+3*k+5 < _;omega,by have:=r.un;show A.units+3+16*k+200 < _;omega⟩
theorem Room.in1 {k:Nat} {A:Around} (r:Room (k+1) A):Room k A.in1:=
  ⟨r.hd,by have:=r.dp;show A.depth+3*k+5 < _;omega,by have:=r.un;show A.units+1+16*k+200 < _;omega⟩
theorem qr {A:Around} {C:Addr} {us:List Value} {kw:List (Str×Value)}:(A.under (.builtin "type.__call__" ⟨.ref C::us,kw⟩)).depth=A.depth+1:=by
  first | rfl | simp [Around.under,Code.weight,Code.isCreation,Code.isGuard,Code.isCaller,Code.frames,Code.isFrame,guardIds]
theorem qu {A:Around} {C:Addr} {us:List Value} {kw:List (Str×Value)}:(A.under (.builtin "type.__call__" ⟨.ref C::us,kw⟩)).units=A.units+1:=by
  first | rfl | simp [Around.under,Code.cUnits,Code.frames,Code.isFrame]
theorem Room.make {k:Nat} {A:Around} (r:Room (k+1) A) (C:Addr) (us:List Value) (kw:List (Str×Value)):Room k (A.under (.builtin "type.__call__" ⟨.ref C::us,kw⟩)):=
  ⟨r.hd,by have:=r.dp;rw [qr];omega,by have:=r.un;rw [qu];omega⟩
theorem Room.depth {k:Nat} {A:Around} (r:Room k A):A.depth < recursionLimit:=by have:=r.dp;omega
theorem Room.units {k:Nat} {A:Around} (r:Room k A):A.units+64 < cLine:=by have:=r.un;omega
def uU:TA:=fun _ H Q=>Q [] H
def pc (ta:TE) (tr:TA):TA:=fun σ H Q=>ta σ H fun x H1=>tr σ H1 fun xs H2=>Q (x::xs) H2
section
variable {X:Cx} {e:Expr} {es:List Expr} {te:TE} {t:TA} {pos:Pos}
theorem dy:PA X [] uU:=fun _ _ _ _ H Q I h=>Calls.spliced_nil ⟨[],H,I, .nil,h⟩
theorem bG (ha:PE X e te) (hr:PA X es t) (hs:starEach (e::es) X.env=(false,eval e X.env)::starEach es X.env:=by rfl):PA X (e::es) (pc te t):=by
  intro pos pins s σ H Q I h
  rw [hs]
  show wpAny _ _ (spliced ((false,eval e X.env)::backTo pos (starEach es X.env))) _ _ s
  refine Calls.spliced_cons (cE (ha pins s σ H _ I h) fun u s1 ⟨x,H1,I1,r1,q1⟩=>?_)
  exact cE (hr pos pins s1 σ H1 _ I1 q1) fun us s2 ⟨xs,H2,I2,r2,q2⟩=>⟨x::xs,H2,I2, .cons r1 r2,q2⟩
def CT (t:TA):TE:=fun σ H Q=>t σ H fun xs H1=>xs.length≤sizeLine∧∀p,H1 p=none→Q (.ref p) (upd H1 p (.tup xs))
def CU (t:TA):TE:=fun σ H Q=>t σ H fun xs H1=>xs.length≤sizeLine∧∀p,H1 p=none→Q (.ref p) (upd H1 p (.lst xs))
theorem uV {x1} (h:PA X es t):PE X (.Tuple es x1 pos) (CT t):=by
  intro pins s σ H Q I hq
  refine wpAny_Tuple_spliced (cE (h pos pins s σ H _ I hq) fun us s1 ⟨xs,H1,I1,r,z,q⟩=>⟨by rw [←r.length];exact z,?_⟩)
  have hf:H1 s1.heap.objs.size=none:=I1.hok.fresh (Nat.le_refl _)
  refine ⟨.ref s1.heap.objs.size,upd H1 s1.heap.objs.size (.tup xs),I1.laid (t':=s1.toks) (fun b u e=>Heap.get?_push_of_some _ e) (Nat.le_refl _) ?_,rfl,q _ hf⟩
  exact ⟨z,us,r,⟨_,Heap.get?_push_size _ rfl,rfl,_,rfl⟩⟩
theorem zG (h:PA X es t):PE X (.List es pos) (CU t):=by
  intro pins s σ H Q I hq
  refine wpAny_List_spliced (cE (h pos pins s σ H _ I hq) fun us s1 ⟨xs,H1,I1,r,z,q⟩=>⟨by rw [←r.length];exact z,?_⟩)
  have hf:H1 s1.heap.objs.size=none:=I1.hok.fresh (Nat.le_refl _)
  refine ⟨.ref s1.heap.objs.size,upd H1 s1.heap.objs.size (.lst xs),I1.laid (t':=s1.toks) (fun b u e=>Heap.get?_push_of_some _ e) (Nat.le_refl _) ?_,rfl,q _ hf⟩
  exact ⟨z,us,0,r,Heap.get?_push_size _ rfl⟩
end
abbrev Sp:=List V→Hp→VK→XK→Prop
abbrev sR:=List Env→Hp→Shared→XK→Value→Shared→Prop
structure Env0 (P:Program) (w:World) (K:PySem.W.Frag) (mg:Str→Option Value) (base:Heap) (A:Around) (outer:List Env) (s:Shared) (H:Hp):Prop where
  frames:A.frames=some outer
  mod:Mod K mg base
  bs:∀b o,base.get? b=some o→s.heap.get? b=some o∧H b=none
  bsz:base.objs.size≤s.heap.objs.size
  funs:s.heap.FunFrames base outer
  frf:∀b∈kC outer,H b=none
  hok:HOk P w H s.heap
  bare:AllBare s.gens
  tab:∀b q,kT K b=some q→H b=some (.tbl q)
def CE (outer:List Env) (P:Program) (w:World) (H:Hp) (s:Shared) (Q:VK) (u:Value) (s':Shared):Prop:=
  ∃v H',s'.os=s.os∧AllBare s'.gens∧Un (kC outer) [] H H' s.heap s'.heap∧HOk P w H' s'.heap∧RelV v u∧Q v H'
def CR (CX:sR) (outer:List Env) (P:Program) (w:World) (H:Hp) (s:Shared) (Q:VK) (E:XK) (r:Result) (s':Shared):Prop:=
  match r with
  | .ok (.ret u)=>CE outer P w H s Q u s'
  | .ok _=>False
  | .error e=>CX outer H s E e s'
structure FnOk (P:Program) (w:World) (K:PySem.W.Frag) (mg:Str→Option Value) (base:Heap) (CX:sR) (k:Nat) (f:Addr) (fd:FuncData) (ps:List Str) (sp:Sp):Prop where
  len:∀vs H Q E,sp vs H Q E→vs.length=ps.length
  run:∀(A:Around) (outer:List Env) (s:Shared) (H:Hp) (args:Args) (us:List Value) (vs:List V) (Q:VK) (E:XK),Room k A→Env0 P w K mg base A outer s H→BindsTo s fd args (ps.zip us)→Vals vs us→sp vs H Q E→
    codeAny (model P w) A (.call (.ref f) args) (CR CX outer P w H s Q E) s
theorem FnOk.mono {P:Program} {w:World} {K:PySem.W.Frag} {mg:Str→Option Value} {base:Heap} {CX:sR} {j k:Nat} {f:Addr} {fd:FuncData} {ps:List Str} {sp:Sp} (F:FnOk P w K mg base CX j f fd ps sp) (h:j≤k):
    FnOk P w K mg base CX k f fd ps sp:=⟨F.len,fun A outer s H args us vs Q E hr=>F.run A outer s H args us vs Q E (hr.mono h)⟩
theorem FnOk.imp {P:Program} {w:World} {K:PySem.W.Frag} {mg:Str→Option Value} {base:Heap} {CX:sR} {k:Nat} {f:Addr} {fd:FuncData} {ps:List Str} {sp sp':Sp} (F:FnOk P w K mg base CX k f fd ps sp)
    (h:∀vs H Q E,sp' vs H Q E→sp vs H Q E):FnOk P w K mg base CX k f fd ps sp':=
  ⟨fun vs H Q E q=>F.len vs H Q E (h _ _ _ _ q),fun A outer s H args us vs Q E hr he hb hv hs=>F.run A outer s H args us vs Q E hr he hb hv (h _ _ _ _ hs)⟩
theorem Env0.make {P:Program} {w:World} {K:PySem.W.Frag} {mg:Str→Option Value} {base:Heap} {A:Around} {outer:List Env} {s:Shared} {H:Hp} (e:Env0 P w K mg base A outer s H) (C:Addr) (us:List Value) (kw:List (Str×Value)):
    Env0 P w K mg base (A.under (.builtin "type.__call__" ⟨.ref C::us,kw⟩)) outer s H:=⟨by first | exact e.frames | (simpa [Around.under,Code.envs,Code.isFrame,pushEnvs] using e.frames),e.mod,e.bs,e.bsz,e.funs,e.frf,e.hok,e.bare,e.tab⟩
theorem Env0.in1 {P:Program} {w:World} {K:PySem.W.Frag} {mg:Str→Option Value} {base:Heap} {A:Around} {outer:List Env} {s:Shared} {H:Hp} (e:Env0 P w K mg base A outer s H):
    Env0 P w K mg base A.in1 outer s H:=⟨e.frames,e.mod,e.bs,e.bsz,e.funs,e.frf,e.hok,e.bare,e.tab⟩
section
variable {X:Cx} {pins:List (Addr×Obj)} {σ:St} {H:Hp} {s s':Shared}
theorem Inv.env0 (I:Inv X pins σ H s):Env0 X.prog X.w X.K X.mg X.base X.A X.stack s H:=
  ⟨I.ok.frames,I.ok.mod,I.bs,Nat.le_trans I.ok.bsz I.sz,I.stack,I.stkFree,I.hok,I.bare,I.tab⟩
theorem Inv.after {Q:VK} {u:Value} (I:Inv X pins σ H s) (h:CE X.stack X.prog X.w H s Q u s'):EP X pins σ Q u s':=by
  obtain ⟨v,H',os,bare,un,hok,r,q⟩:=h
  obtain ⟨hh,g,d,t,os'⟩:=s'
  obtain rfl:os'=s.os:=os
  exact ⟨v,H',I.call (h':=hh) (g':=g) (d':=d) (t':=t) (ch:=[]) un hok bare (fun b z=>absurd z (by simp)),r,q⟩
end
def uW (sp:Sp) (dvs:List V) (E:XK) (t:TA):TE:=fun σ H Q=>t σ H fun vs H1=>sp (vs++dvs) H1 Q E
def Bp (C:Addr) (sp:Sp) (dvs:List V) (E:XK) (t:TA):TE:=fun σ H Q=>t σ H fun vs H1=>∀x dx,H1 x=none→H1 dx=none→dx≠x→
  sp (.ref x::(vs++dvs)) (upd (upd H1 dx (.own x)) x (.ins C dx [])) (fun v H2=>v= .non∧Q (.ref x) H2) E
def Binds (K:PySem.W.Frag) (fd:FuncData) (ps:List Str) (ds:List Value):Prop:=
  ∀(s:Shared) (us:List Value),K.In s.heap→(us++ds).length=ps.length→BindsTo s fd ⟨us,[]⟩ (ps.zip (us++ds))
theorem Binds.all {K:PySem.W.Frag} {fd:FuncData} {ps:List Str} (h:∀us:List Value,us.length=ps.length→bindArgs fd ⟨us,[]⟩=pure (ps.zip us)):Binds K fd ps []:=fun s us _ hl=>by
  rw [List.append_nil] at hl ⊢
  exact .of_eq (h us hl)
def k8 (CX:sR) (X:Cx) (E:XK):Prop:=∀(pins:List (Addr×Obj)) (σ:St) (H:Hp) (s:Shared) (e:Value) (s':Shared),Inv X pins σ H s→CX X.stack H s E e s'→X.xe e s'
section
variable {X:Cx} {CX:sR} {k:Nat} {f C:Addr} {fd:FuncData} {ps:List Str} {sp:Sp} {dvs:List V} {ds:List Value} {E:XK} {x m:Str} {p pos apos:Pos} {e o:Expr} {es:List Expr} {ta:TE} {t:TA}
theorem qv {pins:List (Addr×Obj)} {σ:St} {H:Hp} {s:Shared} {Q:VK} {us:List Value} {vs:List V} (F:FnOk X.prog X.w X.K X.mg X.base CX k f fd ps sp) (hr:Room k X.A) (hb:Binds X.K fd ps ds) (hd:Vals dvs ds) (hx:k8 CX X E)
    (I:Inv X pins σ H s) (r:Vals vs us) (h:sp (vs++dvs) H Q E):wpAny (model X.prog X.w) X.A (call (.ref f) us) (EP X pins σ Q) X.xe s:=by
  have r2:Vals (vs++dvs) (us++ds):=r.append hd
  have hl:(us++ds).length=ps.length:=by rw [←r2.length];exact F.len _ _ _ _ h
  refine wpAny_call (codeAny_mono (F.run X.A X.stack s H ⟨us,[]⟩ (us++ds) (vs++dvs) Q E hr I.env0 (hb s us I.kIn hl) r2 h) fun r s' hq=>?_)
  cases r with
  | error e=>exact hx pins σ H s e s' I hq
  | ok fl=>
    cases fl with
    | ret u=>exact I.after hq
    | next=>exact False.elim hq
    | brk=>exact False.elim hq
    | cont=>exact False.elim hq
theorem xa (F:FnOk X.prog X.w X.K X.mg X.base CX k f fd ps sp) (hr:Room k X.A) (hg:Gl X x) (hm:X.mg x=some (.ref f)) (hk:PySem.W.keepIn X.K (.ref f)=true) (hb:Binds X.K fd ps ds) (hd:Vals dvs ds) (hx:k8 CX X E)
    (ha:PA X (e::es) t) (hdb:(x == ("__debug__":Str))=false:=by decide) (he:starEach (e::es) X.env=(false,eval e X.env)::starEach es X.env:=by rfl) (hpl:(backTo pos (starEach es X.env)).any (·.1)=false:=by rfl):
    PE X (.Call (.Name x p) (e::es) [] pos) (uW sp dvs E t):=by
  intro pins s σ H Q I h
  refine wpAny_Call_Name_kw (gP I hg hm ?_ hdb)
  refine PySem.W.callWith_K (h₀:=X.base) I.ok.mod.kin hk (cE (ha pos pins s σ H _ I h) fun us s1 ⟨vs,H1,I1,r,q⟩=>⟨I1.kIn,?_⟩) he hpl
  exact qv F hr hb hd hx I1 r q
structure Mk (K:PySem.W.Frag) (C f:Addr):Prop where
  makes:PySem.W.makesIn K C=true
  init:PySem.W.findIn K (.ref C) "__init__"=some (some (.ref f))
  fn:PySem.W.isFn K (.ref f)=true
  kp:PySem.W.keepIn K (.ref C)=true
theorem uX {pins:List (Addr×Obj)} {σ:St} {H:Hp} {s:Shared} {Q:VK} {us:List Value} {vs:List V} (M:Mk X.K C f) (F:FnOk X.prog X.w X.K X.mg X.base CX k f fd ps sp) (hr:Room (k+1) X.A) (hb:Binds X.K fd ps ds) (hd:Vals dvs ds)
    (hx:k8 CX X E) (I:Inv X pins σ H s) (r:Vals vs us)
    (h:∀x dx,H x=none→H dx=none→dx≠x→sp (.ref x::(vs++dvs)) (upd (upd H dx (.own x)) x (.ins C dx [])) (fun v H2=>v= .non∧Q (.ref x) H2) E):
    wpAny (model X.prog X.w) X.A (call (.ref C) us) (EP X pins σ Q) X.xe s:=by
  have hq:=h (s.heap.objs.size+1) s.heap.objs.size (I.hok.fresh (Nat.le_succ _)) (I.hok.fresh (Nat.le_refl _)) (Nat.ne_of_lt (Nat.lt_succ_self _))
  have I2:=Inv.made (C:=C) I
  have r2:Vals (V.ref (s.heap.objs.size+1)::(vs++dvs)) (Value.ref (s.heap.objs.size+1)::(us++ds)):= .cons rfl (r.append hd)
  have hl:(Value.ref (s.heap.objs.size+1)::us++ds).length=ps.length:=by
    have e:=r2.length
    rw [F.len _ _ _ _ hq] at e
    exact e.symm
  refine wpAny_call (uT (f:=f) I.kIn M.makes M.init (beq_iff_eq.mp M.fn) (codeAny_mono (F.run _ X.stack _ _ ⟨Value.ref (s.heap.objs.size+1)::us,[]⟩ (Value.ref (s.heap.objs.size+1)::(us++ds)) _ _ E (hr.make C us [])
    (I2.env0.make C us []) (hb _ (Value.ref (s.heap.objs.size+1)::us) I2.kIn hl) r2 hq) fun r s' hq'=>?_))
  cases r with
  | error e=>exact hx pins σ _ _ e s' I2 hq'
  | ok fl=>
    cases fl with
    | ret u=>
      obtain ⟨v,H',I3,rv,ev,q3⟩:=I2.after hq'
      subst ev
      exact ⟨rv,⟨V.ref (s.heap.objs.size+1),H',I3,rfl,q3⟩⟩
    | next=>exact False.elim hq'
    | brk=>exact False.elim hq'
    | cont=>exact False.elim hq'
theorem xb (M:Mk X.K C f) (F:FnOk X.prog X.w X.K X.mg X.base CX k f fd ps sp) (hr:Room (k+1) X.A) (hg:Gl X x) (hm:X.mg x=some (.ref C)) (hb:Binds X.K fd ps ds) (hd:Vals dvs ds) (hx:k8 CX X E)
    (ha:PA X (e::es) t) (hdb:(x == ("__debug__":Str))=false:=by decide) (he:starEach (e::es) X.env=(false,eval e X.env)::starEach es X.env:=by rfl) (hpl:(backTo pos (starEach es X.env)).any (·.1)=false:=by rfl):
    PE X (.Call (.Name x p) (e::es) [] pos) (Bp C sp dvs E t):=by
  intro pins s σ H Q I h
  refine wpAny_Call_Name_kw (gP I hg hm ?_ hdb)
  refine PySem.W.callWith_K (h₀:=X.base) I.ok.mod.kin M.kp (cE (ha pos pins s σ H _ I h) fun us s1 ⟨vs,H1,I1,r,q⟩=>⟨I1.kIn,?_⟩) he hpl
  exact uX M F hr hb hd hx I1 r q
end
structure FnScope (N P:List Str) (sc:Scope):Prop where
  kind:sc.kind= .function
  co:sc.isCoroutine=false
  gen:sc.isGenerator=false
  nd:N.Nodup
  pre:N.take P.length=P
  par:∀x∈P,sc.names.lookup x=some .local∨sc.names.lookup x=some .cell
  nofree:∀y∈sc.names,y.2≠ .free
theorem ng {kindOf:Str→Option NameKind} {x:Str}:∀{binds:List (Str×Value)} {m:Str→Option Value},(∀v,(x,v)∉binds)→bindL kindOf binds m x=m x
  | [],_,_=>rfl
  | (n,v)::r,m,h=>by
    unfold bindL
    rw [ng fun w hw=>h w (List.mem_cons_of_mem _ hw)]
    split
    · have:x≠n:=by rintro rfl;exact h v List.mem_cons_self
      simp [this]
    · rfl
theorem ni {kindOf:Str→Option NameKind} {x:Str}:∀{binds:List (Str×Value)} {m:Str→Option Value},(∀v,(x,v)∉binds)→bindC kindOf binds m x=m x
  | [],_,_=>rfl
  | (n,v)::r,m,h=>by
    unfold bindC
    rw [ni fun w hw=>h w (List.mem_cons_of_mem _ hw)]
    split
    · rfl
    · have:x≠n:=by rintro rfl;exact h v List.mem_cons_self
      simp [this]
theorem nj {kindOf:Str→Option NameKind} {x:Str} {v:Value}:∀{P:List Str} {vs:List Value} {i:Nat} {m:Str→Option Value},P.Nodup→P[i]? =some x→vs[i]? =some v→kindOf x=some .local→
    bindL kindOf (P.zip vs) m x=some v
  | [],_,_,_,_,h,_,_=>by simp at h
  | _::_,[],_,_,_,_,h,_=>by simp at h
  | p::P,w::vs,0,m,nd,h1,h2,hk=>by
    simp at h1 h2;subst h1;subst h2
    show bindL kindOf ((p,w)::P.zip vs) m p=_
    unfold bindL
    rw [ng fun v hv=>(List.nodup_cons.mp nd).1 (List.of_mem_zip hv).1,if_pos hk]
    simp
  | p::P,w::vs,i+1,m,nd,h1,h2,hk=>by
    show bindL kindOf ((p,w)::P.zip vs) m x=_
    unfold bindL
    exact nj (i:=i) (List.nodup_cons.mp nd).2 (by simpa using h1) (by simpa using h2) hk
theorem nk {kindOf:Str→Option NameKind} {x:Str} {v:Value}:∀{P:List Str} {vs:List Value} {i:Nat} {m:Str→Option Value},P.Nodup→P[i]? =some x→vs[i]? =some v→kindOf x≠some .local→
    bindC kindOf (P.zip vs) m x=some v
  | [],_,_,_,_,h,_,_=>by simp at h
  | _::_,[],_,_,_,_,h,_=>by simp at h
  | p::P,w::vs,0,m,nd,h1,h2,hk=>by
    simp at h1 h2;subst h1;subst h2
    show bindC kindOf ((p,w)::P.zip vs) m p=_
    unfold bindC
    rw [ni fun v hv=>(List.nodup_cons.mp nd).1 (List.of_mem_zip hv).1,if_neg hk]
    simp
  | p::P,w::vs,i+1,m,nd,h1,h2,hk=>by
    show bindC kindOf ((p,w)::P.zip vs) m x=_
    unfold bindC
    exact nk (i:=i) (List.nodup_cons.mp nd).2 (by simpa using h1) (by simpa using h2) hk
def cy (N:List Str) (vs:List V):St:=vs.map some++List.replicate (N.length - vs.length) none
def gR (CX:sR) (P:Program) (w:World) (K:PySem.W.Frag) (mg:Str→Option Value) (base:Heap) (N:List Str) (qual:Str) (scope:Scope) (f:Addr) (cd:Value) (A:Around) (outer:List Env) (s:Shared) (H:Hp) (E:XK):Cx where
  prog:=P
  w:=w
  K:=K
  mg:=mg
  base:=base
  A:=A.deeper (envOfC qual scope s.heap.objs.size f cd)
  N:=N
  s₀:=s
  H₀:=H
  env:=envOfC qual scope s.heap.objs.size f cd
  outer:=outer
  stack:=envOfC qual scope s.heap.objs.size f cd::outer
  ex:=[]
  calm:=true
  fn:=fun _=>true
  pn:=[]
  xe:=fun e s'=>wpAny (model P w) (A.deeper (envOfC qual scope s.heap.objs.size f cd)) (leaving (envOfC qual scope s.heap.objs.size f cd) e) (fun _ s''=>CX outer H s E e s'') (fun e' s''=>CX outer H s E e' s'') s'
theorem pd {sc:Scope} {n:Nat} {x:Str} (h:sc.names.lookup x=some .cell):∃c,(cellsFrom n sc.names []).lookup x=some c:=by
  have q:=PySem.W.cellsFrom_some sc.names n [] (.inl h)
  exact Option.isSome_iff_exists.mp q
theorem nq {CX:sR} {P:Program} {w:World} {K:PySem.W.Frag} {mg:Str→Option Value} {base:Heap} {N ps:List Str} {qual:Str} {scope:Scope} {f:Addr} {cd:Value} {A:Around} {outer:List Env} {s s1:Shared} {H:Hp} {E:XK} {us:List Value} {vs:List V}
    (S:FnScope N ps scope) (hd:A.handled=none) (e0:Env0 P w K mg base A outer s H) (hl:vs.length=ps.length) (r:Vals vs us)
    (x:InCallC s s.heap.objs.size (bindL (envOfC qual scope s.heap.objs.size f cd).kindOf (ps.zip us) fun _=>none) (cellsFrom (s.heap.objs.size+1) scope.names []) (bindC (envOfC qual scope s.heap.objs.size f cd).kindOf (ps.zip us) fun _=>none) s1):
    Inv (gR CX P w K mg base N qual scope f cd A outer s H E) [] (cy N vs) H s1:=by
  have hpl:ps.length≤N.length:=by have:=congrArg List.length S.pre;rw [List.length_take] at this;omega
  obtain ⟨h1,tk,rfl,hk⟩:=x.done
  have noA:∀b:Addr,b∉(gR CX P w K mg base N qual scope f cd A outer s H E).ex:=fun b z=>absurd (show b∈([]:List Addr) from z) (by simp)
  refine ⟨⟨e0.mod,S.kind,rfl,rfl,Nat.le_refl _,fun y z c h1 h2=>?_,fun y hy=>?_,fun y c _ h=>?_,fun _=>hd,Around.frames_deeper e0.frames, .inr ⟨rfl,rfl⟩,fun b z=>absurd z (noA b),e0.bs,e0.bsz,fun b _ _=>noA b,fun b z=>absurd z (noA b),e0.funs,e0.frf,e0.tab⟩,
    rfl,e0.bare,Un.kept hk,⟨_,x.toInCall.ns,fun i y v h1 h2 h3=>?_⟩,fun y c h=>⟨_,x.cell y c h⟩,e0.hok.fresh (Nat.le_refl _),fun y c h=>?_,fun p hp=>absurd (show p∈([]:List (Addr×Obj)) from hp) (by simp),e0.hok.kept hk,?_⟩
  · exact name_of_addr x.apart (PySem.mem_of_lookup h1) (PySem.mem_of_lookup h2)
  · have hy:scope.names.lookup y=some .cell∨scope.names.lookup y=some .free:=hy
    rcases hy with hy | hy
    · exact pd hy
    · exact absurd rfl (S.nofree _ (PySem.mem_of_lookup hy))
  · exact Nat.le_of_lt (x.above y c (PySem.mem_of_lookup h))
  · have hi:i < vs.length:=by
      unfold cy at h2
      by_cases hi:i < vs.length
      · exact hi
      · rw [List.getElem?_append_right (by simpa using hi)] at h2
        rw [List.getElem?_replicate] at h2
        split at h2 <;> cases h2
    have ha:vs[i]? =some v:=by
      unfold cy at h2
      rw [List.getElem?_append_left (by simpa using hi),List.getElem?_map] at h2
      cases e:vs[i]? with
      | none=>rw [e] at h2;cases h2
      | some a=>rw [e] at h2;cases h2;rfl
    obtain ⟨u,hu,rv⟩:=r.get ha
    have hp:ps[i]? =some y:=by
      rw [←S.pre,List.getElem?_take_of_lt (by omega)];exact h1
    have ndP:ps.Nodup:=by rw [←S.pre];exact S.nd.sublist (List.take_sublist _ _)
    refine ⟨u,rv,?_⟩
    rcases S.par y (List.mem_of_getElem? hp) with k | k
    · exact .inl ⟨k,nj ndP hp hu k⟩
    · obtain ⟨c,e⟩:=pd (n:=s.heap.objs.size+1) k
      refine .inr ⟨.inl k,c,e,?_⟩
      have q:=x.cell y c e
      rw [nk ndP hp hu (by show scope.names.lookup y≠_;rw [k];decide)] at q
      exact q
  · exact e0.hok.fresh (Nat.le_of_lt (x.above y c (PySem.mem_of_lookup h)))
  · unfold cy
    show _=N.length
    rw [List.length_append,List.length_map,List.length_replicate]
    omega
theorem yH {CX:sR} {P:Program} {w:World} {K:PySem.W.Frag} {mg:Str→Option Value} {base:Heap} {k:Nat} {f:Addr} {name qual:Str} {params:Arguments} {body:List Stmt} {scope:Scope} {dV kV doc pm cdv ct oc:Value} {an od:Option Addr}
    {osl:Array (Option Value)} {N ps:List Str} {sp:Sp} (lk:K.lookup f=some ⟨oc,od, .func (PySem.W.fnOf name qual params body scope dV kV doc pm an cdv ct),osl⟩) (hcd:PySem.W.codeIn K cdv qual=true) (S:FnScope N ps scope)
    (len:∀vs H Q E,sp vs H Q E→vs.length=ps.length)
    (hbody:∀(A:Around) (outer:List Env) (s:Shared) (H:Hp) (vs:List V) (Q:VK) (E:XK),Room k (A.deeper (envOfC qual scope s.heap.objs.size f cdv))→sp vs H Q E→
      ∃t,PSs (gR CX P w K mg base N qual scope f cdv A outer s H E) body t∧t {nx:=fun _ H'=>Q .non H',rt:=Q} (cy N vs) H):
    FnOk P w K mg base CX (k+1) f (PySem.W.fnOf name qual params body scope dV kV doc pm an cdv ct) ps sp:=by
  refine ⟨len,fun A outer s H args us vs Q E hr e0 hb r hsp=>?_⟩
  have hl:=len _ _ _ _ hsp
  have KX:K.In s.heap:=e0.mod.kin.keeps fun b o e=>(e0.bs b o e).1
  have lim:s.heap.NoLimit:=e0.mod.nolimit.keeps fun b o e=>(e0.bs b o e).1
  have hkind:∀y∈ps.zip us,scope.names.lookup y.1=some .local∨(scope.names.lookup y.1=some .cell∧((cellsFrom (s.heap.objs.size+1) scope.names []).lookup y.1).isSome=true):=fun ⟨n,v⟩ hy=>by
    rcases S.par n (List.of_mem_zip hy).1 with q | q
    · exact .inl q
    · exact .inr ⟨q,PySem.W.cellsFrom_some _ _ _ (.inl q)⟩
  refine codeAny_call_function hr.depth (KX _ _ lk) rfl S.co S.gen rfl (PySem.W.codeRec_of KX hcd) (hb _ _ _ _ ?_)
  refine wpAny_newFunctionEnv_cells S.kind hkind fun env he s1 x=>?_
  subst he
  refine ⟨lim.keeps x.toInCall.keep,codeAny_func ?_⟩
  obtain ⟨t,ht,hq⟩:=hbody A outer s H vs Q E (hr.deeper _) hsp
  have I:Inv (gR CX P w K mg base N qual scope f cdv A outer s H E) [] (cy N vs) H s1:=nq S hr.hd e0 hl r x
  refine wpAny_mono (ht [] s1 (cy N vs) H _ I hq) (fun fl s' hs=>?_) fun e s' hs=>hs
  have fin:∀{σ':St} {H':Hp} {v:V} {u:Value},Inv (gR CX P w K mg base N qual scope f cdv A outer s H E) [] σ' H' s'→RelV v u→Q v H'→CE outer P w H s Q u s':=
    fun {σ' H' v u} J rv q=>⟨v,H',J.os,J.bare,J.base,J.hok,rv,q⟩
  cases fl with
  | ret u=>
    obtain ⟨v,σ',H',J,rv,q⟩:=hs
    exact fin J rv q
  | next=>
    obtain ⟨σ',H',J,q⟩:=hs
    exact fin (v:=V.non) (u:=Value.none) J rfl q
  | brk=>
    obtain ⟨_,_,_,q⟩:=hs
    exact False.elim q
  | cont=>
    obtain ⟨_,_,_,q⟩:=hs
    exact False.elim q
end L2
namespace L2
open PySem PySem.Spec PyProof.Rows
section
variable {X:Cx} {x:Str} {p pos:Pos} {e:Expr} {es:List Expr} {t:TA} {id T:String} {r:List V→Hp→VK→Prop}
def zH (r:List V→Hp→VK→Prop) (t:TA):TE:=fun σ H Q=>t σ H fun vs H1=>r vs H1 Q
theorem gE (hc:CallR X (.builtin id) r) (hg:Gl X x) (hm:X.mg x=none) (hv:bootBuiltins x=some (.builtin id)) (ha:PA X (e::es) t) (hn:x≠"__name__":=by decide) (hdb:(x == ("__debug__":Str))=false:=by decide)
    (he:starEach (e::es) X.env=(false,eval e X.env)::starEach es X.env:=by rfl) (hpl:(backTo pos (starEach es X.env)).any (·.1)=false:=by rfl):PE X (.Call (.Name x p) (e::es) [] pos) (zH r t):=by
  intro pins s σ H Q I h
  refine wpAny_Call_Name_kw (jV I hg hm hv ?_ hn hdb)
  exact PyProof.Rows.callWith_builtin1 (cE (ha pos pins s σ H _ I h) fun us s1 ⟨vs,H1,I1,r1,q1⟩=>hc pins s1 σ H1 vs us Q I1 r1 q1) he hpl
theorem gG (hc:CallR X (.type T) r) (hg:Gl X x) (hm:X.mg x=none) (hv:bootBuiltins x=some (.type T)) (ha:PA X (e::es) t) (hn:x≠"__name__":=by decide) (hdb:(x == ("__debug__":Str))=false:=by decide)
    (he:starEach (e::es) X.env=(false,eval e X.env)::starEach es X.env:=by rfl) (hpl:(backTo pos (starEach es X.env)).any (·.1)=false:=by rfl):PE X (.Call (.Name x p) (e::es) [] pos) (zH r t):=by
  intro pins s σ H Q I h
  refine wpAny_Call_Name_kw (jV I hg hm hv ?_ hn hdb)
  exact PyProof.Rows.callWith_type1 (cE (ha pos pins s σ H _ I h) fun us s1 ⟨vs,H1,I1,r1,q1⟩=>hc pins s1 σ H1 vs us Q I1 r1 q1) he hpl
end
end L2
namespace HT
open PySem PyProof.Rows
section
open PySem.SeqAt
open PySem.AutoSeq1 (wpAny_loadPart')
open PySem.MeetsSeq PySem.MeetsSeq2 PySem.MeetsSeq3
end
section
variable {prog:Program} {w:World} {A:Around} {E:Value→Shared→Prop} {s:Shared}
def k9 (n d:Nat):Option Int→Nat
  | none=>d
  | some v=>if v < 0 then (v+(n:Int)).toNat else min v.toNat n
theorem xc (n d k:Nat):k9 n d (some (k:Int))=min k n:=by
  show (if (k:Int) < 0 then ((k:Int)+(n:Int)).toNat else min (k:Int).toNat n)=min k n
  rw [if_neg (by omega),Int.toNat_natCast]
end
end HT
namespace L2
open PySem PySem.Spec PyProof.Rows
abbrev TO:=St→Hp→(Option Int→Hp→Prop)→Prop
def PO (X:Cx) (e:Option Expr) (t:TO):Prop:=
  ∀(pins:List (Addr×Obj)) (s:Shared) (σ:St) (H:Hp) (Q:Option Int→Hp→Prop),Inv X pins σ H s→t σ H Q→
    wpAny (model X.prog X.w) X.A (evalPart e X.env) (fun u s'=>∃o H',Inv X pins σ H' s'∧IsPart u o∧Q o H') X.xe s
def xf:TO:=fun _ H Q=>Q none H
def Bq (t:TE):TO:=fun σ H Q=>t σ H fun x H1=>∃i,x= .int i∧Q (some i) H1
section
variable {X:Cx} {e:Expr} {te:TE} {lo hi:Option Expr} {tl th:TO} {pos p2:Pos}
theorem xg:PO X none xf:=by
  intro pins s σ H Q I h
  rw [evalPart_none]
  exact wpAny_pure ⟨none,H,I, .none,h⟩
theorem xh (h:PE X e te):PO X (some e) (Bq te):=by
  intro pins s σ H Q I hw
  rw [evalPart_some]
  refine cE (h pins s σ H _ I hw) fun u s1 ⟨x,H1,I1,r1,q1⟩=>?_
  obtain ⟨i,rfl,q⟩:=q1
  obtain ⟨t,rfl⟩:=r1
  exact ⟨some i,H1,I1, .int i t,q⟩
def SlR (X:Cx) (r:V→Option Int→Option Int→Hp→VK→Prop):Prop:=
  ∀(pins:List (Addr×Obj)) (s:Shared) (σ:St) (H:Hp) (x:V) (v vl vu:Value) (lo hi:Option Int) (sl:Addr) (Q:VK),Inv X pins σ H s→RelV x v→s.heap.IsSliceOf sl vl vu .none→IsPart vl lo→IsPart vu hi→r x lo hi H Q→
    ∃T id,typeLookup (.type T) "__getitem__"=pure (some (.builtin id))∧s.TypeIs v T∧wpAny (model X.prog X.w) X.A (getItem v (.ref sl)) (EP X pins σ Q) X.xe s
theorem SlR.or {r r':V→Option Int→Option Int→Hp→VK→Prop} (h:SlR X r) (h':SlR X r'):SlR X (fun x lo hi H Q=>r x lo hi H Q∨r' x lo hi H Q):=by
  intro pins s σ H x v vl vu lo hi sl Q I rx hs pl pu q
  rcases q with q | q
  · exact h pins s σ H x v vl vu lo hi sl Q I rx hs pl pu q
  · exact h' pins s σ H x v vl vu lo hi sl Q I rx hs pl pu q
def DI (r:V→Option Int→Option Int→Hp→VK→Prop) (te:TE) (tl th:TO):TE:=fun σ H Q=>te σ H fun x H1=>tl σ H1 fun l H2=>th σ H2 fun u H3=>r x l u H3 Q
theorem uY {r:V→Option Int→Option Int→Hp→VK→Prop} (hr:SlR X r) (he:PE X e te) (hl:PO X lo tl) (hu:PO X hi th):PE X (.Subscript e (.Slice lo hi none p2) pos) (DI r te tl th):=by
  intro pins s σ H Q I h
  refine Subscript_ (cE (he pins s σ H _ I h) fun v s1 ⟨x,H1,I1,r1,q1⟩=>?_)
  refine wpAny_Slice (cE (hl pins s1 σ H1 _ I1 q1) fun vl s2 ⟨l,H2,I2,pl,q2⟩=>cE (hu pins s2 σ H2 _ I2 q2) fun vu s3 ⟨u,H3,I3,pu,q3⟩=>?_)
  rw [evalPart_none]
  refine wpAny_pure ?_
  have I4:Inv X pins σ H3 {s3 with heap:=s3.heap.push {cls:= .type "slice",data:= .fields #[vl,vu, .none]}}:=I3.kept (t':=s3.toks) fun b ob q=>Heap.get?_push_of_some _ q
  obtain ⟨T,id,hT,ht,hg⟩:=hr pins {s3 with heap:=s3.heap.push {cls:= .type "slice",data:= .fields #[vl,vu, .none]}} σ H3 x v vl vu l u s3.heap.objs.size Q I4 r1 (Heap.IsSliceOf.new ..) pl pu q3
  show wpAny (model X.prog X.w) X.A (subscriptTail e (.Slice lo hi none p2) v (.ref s3.heap.objs.size)) (EP X pins σ Q) X.xe {s3 with heap:=s3.heap.push {cls:= .type "slice",data:= .fields #[vl,vu, .none]}}
  exact tail_any (ops:=[.ref s3.heap.objs.size,v]) ht hT hg (by with_unfolding_all rfl)
def sS (xs:List V) (lo hi:Option Int):List V:=(xs.drop (HT.k9 xs.length 0 lo)).take (HT.k9 xs.length xs.length hi - HT.k9 xs.length 0 lo)
theorem pe (xs:List V) (lo hi:Option Int):(sS xs lo hi).length≤xs.length:=by
  unfold sS
  rw [List.length_take,List.length_drop]
  omega
end
end L2
namespace L2
open PySem PySem.Spec PyProof.Rows
def zI (n:Nat) (i:Int):Option Nat:=if 0≤i then (if i < n then some i.toNat else none) else if -(n:Int)≤i then some (i+n).toNat else none
def atI {α:Type} (xs:List α) (i:Int):Option α:=(zI xs.length i).bind fun j=>xs[j]?
theorem rB {n:Nat} {i:Int} {j:Nat} (h:zI n i=some j):seqIndex? i n=some j∧j < n∧ -(n:Int)≤i∧i < n:=by
  unfold zI at h
  by_cases h0:0≤i
  · rw [if_pos h0] at h
    by_cases h1:i < n
    · rw [if_pos h1] at h
      have e:i.toNat=j:=Option.some.inj h
      exact ⟨by rw [seqIndex_of h0 h1,e],by omega,by omega,h1⟩
    · rw [if_neg h1] at h;cases h
  · rw [if_neg h0] at h
    by_cases h1: -(n:Int)≤i
    · rw [if_pos h1] at h
      have e:(i+n).toNat=j:=Option.some.inj h
      exact ⟨by rw [seqIndex_neg (by omega) h1,e],by omega,h1,by omega⟩
    · rw [if_neg h1] at h;cases h
theorem nQ {α:Type} {xs:List α} {i:Int} {v:α} (h:atI xs i=some v):∃j,seqIndex? i xs.length=some j∧xs[j]? =some v∧j < xs.length∧ -(xs.length:Int)≤i∧i < xs.length:=by
  unfold atI at h
  cases e:zI xs.length i with
  | none=>rw [e] at h;cases h
  | some j=>
    rw [e] at h
    obtain ⟨h1,h2,h3,h4⟩:=rB e
    exact ⟨j,h1,h,h2,h3,h4⟩
def rC (b:Expr):Prop:=∀o i,subscripted b false o i=operate [o,i] (getItem o i)
def IxR (X:Cx) (r:R2):Prop:=
  ∀(value slice:Expr) (pins:List (Addr×Obj)) (s:Shared) (σ:St) (H:Hp) (x y:V) (v u:Value) (Q:VK),Inv X pins σ H s→RelV x v→RelV y u→r x y H Q→
    subscripted slice false v u=operate [v,u] (getItem v u)→wpAny (model X.prog X.w) X.A (subscriptTail value slice v u) (EP X pins σ Q) X.xe s
def MtR (X:Cx) (id:String) (r:V→List V→Hp→VK→Prop):Prop:=
  ∀(pins:List (Addr×Obj)) (s:Shared) (σ:St) (H:Hp) (x:V) (xs:List V) (v:Value) (us:List Value) (Q:VK),Inv X pins σ H s→RelV x v→Vals xs us→r x xs H Q→
    wpAny (model X.prog X.w) X.A (call (.builtin id) (v::us)) (EP X pins σ Q) X.xe s
section
variable {X:Cx} {a b:Expr} {ta tb:TE} {pos:Pos}
theorem IxR.or {r r':R2} (h:IxR X r) (h':IxR X r'):IxR X (fun x y H Q=>r x y H Q∨r' x y H Q):=by
  intro value slice pins s σ H x y v u Q I rx ry q hs
  rcases q with q | q
  · exact h value slice pins s σ H x y v u Q I rx ry q hs
  · exact h' value slice pins s σ H x y v u Q I rx ry q hs
theorem MtR.or {id:String} {r r':V→List V→Hp→VK→Prop} (h:MtR X id r) (h':MtR X id r'):MtR X id (fun x xs H Q=>r x xs H Q∨r' x xs H Q):=by
  intro pins s σ H x xs v us Q I rx rs q
  rcases q with q | q
  · exact h pins s σ H x xs v us Q I rx rs q
  · exact h' pins s σ H x xs v us Q I rx rs q
theorem uZ {r:R2} (hr:IxR X r) (ha:PE X a ta) (hb:PE X b tb) (hs:rC b):PE X (.Subscript a b pos) (yD r ta tb):=by
  intro pins s σ H Q I h
  exact Subscript_ (zy ha hb I h fun v u s2 x y H2 I2 rx ry q=>hr a b pins s2 σ H2 x y v u Q I2 rx ry q (hs _ _))
def Br (K:PySem.W.Frag):R2:=fun x y H Q=>∃p xs i v,x= .ref p∧y= .int i∧SqL K H p xs∧atI xs i=some v∧Q v H
def Bs (K:PySem.W.Frag):R2:=fun x y H Q=>∃p xs i v,x= .ref p∧y= .int i∧SqT K H p xs∧atI xs i=some v∧Q v H
def Bt:R2:=fun x y H Q=>∃z i c,x= .str z∧y= .int i∧z.length≤sizeLine∧atI z.cps.toList i=some c∧Q (.str ⟨#[c]⟩) H
theorem ix_list:IxR X (Br X.K):=by
  intro value slice pins s σ H x y v u Q I rx ry h hs
  obtain ⟨p,xs,i,z,rfl,rfl,hq,he,q⟩:=h
  cases rx
  obtain ⟨t,rfl⟩:=ry
  obtain ⟨its,r,pl,hz⟩:=I.list hq
  obtain ⟨j,h1,h2,h3,h4,h5⟩:=nQ he
  obtain ⟨w,ew,rw'⟩:=r.get h2
  have hl:=r.length
  have hn:=i8
  have fin:EP X pins σ Q w s:=⟨z,H,I,rw',q⟩
  by_cases h0:0≤i
  · have hj:i.toNat=j:=by
      rw [seqIndex_of h0 h5] at h1
      exact Option.some.inj h1
    exact item_listR pl.isList h0 (by omega) (by rw [hj];simpa using ew) fin hs
  · have hj:(i+(its.toArray.size:Int)).toNat=j:=by
      rw [seqIndex_neg (by omega) h4] at h1
      rw [List.size_toArray,←hl]
      exact Option.some.inj h1
    exact subscriptTail_builtinR (x:=w) pl.isList.typeIs slot_list_getitem.lookup
      (wpAny_getItem_list_neg (Q:=fun r s'=>r=w∧EP X pins σ Q r s') pl.isList (by omega) (by rw [List.size_toArray] <;> omega) (by omega) (by rw [hj];simpa using ew) ⟨rfl,fin⟩) hs
theorem ix_tup:IxR X (Bs X.K):=by
  intro value slice pins s σ H x y v u Q I rx ry h hs
  obtain ⟨p,xs,i,z,rfl,rfl,hq,he,q⟩:=h
  cases rx
  obtain ⟨t,rfl⟩:=ry
  obtain ⟨its,r,pl,hz⟩:=I.tuple hq
  obtain ⟨j,h1,h2,h3,h4,h5⟩:=nQ he
  obtain ⟨w,ew,rw'⟩:=r.get h2
  have hl:=r.length
  have hn:=i8
  have fin:EP X pins σ Q w s:=⟨z,H,I,rw',q⟩
  exact subscriptTail_builtinR (x:=w) pl.typeIs slot_tuple_getitem.lookup
    (getItem_tuple (j:=j) (Q:=fun r s'=>r=w∧EP X pins σ Q r s') pl (by omega) (by omega) (by rw [List.size_toArray,←hl];exact h1) (by simpa using ew) ⟨rfl,fin⟩) hs
theorem zJ:IxR X Bt:=by
  intro value slice pins s σ H x y v u Q I rx ry h hs
  obtain ⟨z,i,c,rfl,rfl,hz,he,q⟩:=h
  obtain ⟨t,rfl⟩:=rx
  obtain ⟨t',rfl⟩:=ry
  obtain ⟨j,h1,h2,h3,h4,h5⟩:=nQ he
  have hl:z.cps.toList.length=z.length:=by simp [Str.length]
  rw [hl] at h1 h4 h5
  have hn:=i8
  exact tail_any (typeIs_str s z t) slot_str_getitem.lookup (getItem_str (c:=c) (by
    have e1:decide (i < -(2 ^ 63:Int))=false:=decide_eq_false (by omega)
    have e2:decide (i≥2 ^ 63)=false:=decide_eq_false (by omega)
    rw [e1,e2,Bool.or_false]) (by rw [h1];simpa using h2) ⟨.str ⟨#[c]⟩,H,I.tok _,⟨_,rfl⟩,q⟩) hs
def Dv (K:PySem.W.Frag):R2:=fun x y H Q=>Br K x y H Q∨Bs K x y H Q∨Bt x y H Q
theorem zK:IxR X (Dv X.K):=ix_list.or (ix_tup.or zJ)
theorem qw (its:List Value) (n j:Nat) (u:Value):Obj.mapSeq (·.setIfInBounds j u) {cls:= .type "list",data:= .seq its.toArray n}={cls:= .type "list",data:= .seq (its.set j u).toArray n}:=by
  simp [Obj.mapSeq]
theorem Inv.lst {pins:List (Addr×Obj)} {σ:St} {H:Hp} {s:Shared} {p:Addr} {xs:List V} (I:Inv X pins σ H s) (h:H p=some (.lst xs)):
    ∃(its:List Value) (n:Nat),Vals xs its∧s.heap.get? p=some {cls:= .type "list",data:= .seq its.toArray n}∧xs.length≤sizeLine:=by
  obtain ⟨z,its,n,r,e⟩:=I.hok p _ h
  exact ⟨its,n,r,e,z⟩
theorem Inv.lstUpd {pins:List (Addr×Obj)} {σ:St} {H:Hp} {s:Shared} {p:Addr} {xs ys:List V} {its its':List Value} {n n':Nat} {f:Obj→Obj} (I:Inv X pins σ H s) (h:H p=some (.lst xs))
    (ho:s.heap.get? p=some {cls:= .type "list",data:= .seq its.toArray n}) (hf:f {cls:= .type "list",data:= .seq its.toArray n}={cls:= .type "list",data:= .seq its'.toArray n'}) (r:Vals ys its') (hz:ys.length≤sizeLine) (t:Nat):
    Inv X pins σ (upd H p (.lst ys)) {s with heap:=s.heap.update p f,toks:=t}:=by
  have e:(s.heap.update p f).get? p=some {cls:= .type "list",data:= .seq its'.toArray n'}:=by
    rw [Heap.get?_update_self f ho (by rw [hf] <;> rfl),hf]
  refine I.write (x:=p) (e:=p) (by rw [h];trivial) (.inl rfl) (fun b u hb q=>(Heap.get?_update_other _ _ (Ne.symm hb)).trans q) ⟨_,e⟩ ?_
  exact ⟨hz,its',n',r,e⟩
def Bu:V→V→V→Hp→(Hp→Prop)→Prop:=fun o i v H Q=>∃p xs k j,o= .ref p∧i= .int k∧H p=some (.lst xs)∧zI xs.length k=some j∧Q (upd H p (.lst (xs.set j v)))
theorem u0:Ba X Bu:=by
  intro pins s σ H o i v ov iv u Q I ro ri rv h
  obtain ⟨p,xs,k,j,rfl,rfl,hp,hj,q⟩:=h
  cases ro
  obtain ⟨t,rfl⟩:=ri
  obtain ⟨its,n,r,ho,hz⟩:=I.lst hp
  obtain ⟨h1,h2,h3,h4⟩:=rB hj
  have hl:=r.length
  have hn:=i8
  have I':Inv X pins σ (upd H p (.lst (xs.set j v))) {s with heap:=s.heap.update p (Obj.mapSeq (·.setIfInBounds j u))}:=
    I.lstUpd hp ho (qw its n j u) (r.set rv j) (by rw [List.length_set];exact hz) s.toks
  by_cases h0:0≤k
  · have hk:k.toNat=j:=by
      rw [seqIndex_of h0 h4] at h1
      exact Option.some.inj h1
    exact PySem.W.ki_setAt ho h0 (by omega) (by rw [List.size_toArray,←hl];exact h4) (by rw [hk];exact ⟨_,I',q⟩)
  · have hk:(k+(its.toArray.size:Int)).toNat=j:=by
      rw [seqIndex_neg (by omega) h3] at h1
      rw [List.size_toArray,←hl]
      exact Option.some.inj h1
    exact PySem.W.ki_setBack ho (by omega) (by rw [List.size_toArray,←hl];exact h3) (by omega) (by rw [hk];exact ⟨_,I',q⟩)
theorem nR (lo hi:Option Int) (n:Nat):(sliceBounds lo hi none n).1=((HT.k9 n 0 lo:Nat):Int)∧(sliceBounds lo hi none n).2.1=((HT.k9 n n hi:Nat):Int)∧(sliceBounds lo hi none n).2.2=1:=by
  refine ⟨?_,?_,rfl⟩
  · cases lo with
    | none=>simp [sliceBounds,HT.k9]
    | some i=>
      simp only [sliceBounds,HT.k9,Option.getD_none,show (1:Int) > 0 by decide,if_true]
      by_cases h:i < 0
      · simp only [h,if_true] <;> omega
      · simp only [h,if_false] <;> omega
  · cases hi with
    | none=>simp [sliceBounds,HT.k9]
    | some i=>
      simp only [sliceBounds,HT.k9,Option.getD_none,show (1:Int) > 0 by decide,if_true]
      by_cases h:i < 0
      · simp only [h,if_true] <;> omega
      · simp only [h,if_false] <;> omega
theorem mh (its:List Value) (lo hi:Option Int):slicePick its.toArray lo hi none=((its.drop (HT.k9 its.length 0 lo)).take (HT.k9 its.length its.length hi - HT.k9 its.length 0 lo)).toArray:=by
  obtain ⟨h1,h2,h3⟩:=nR lo hi its.toArray.size
  unfold slicePick
  rw [h1,h2,h3]
  simp only [sliceRange_one,pick_run,List.size_toArray] <;> rfl
def CV (K:PySem.W.Frag):V→Option Int→Option Int→Hp→VK→Prop:=fun x lo hi H Q=>∃a xs,x= .ref a∧SqL K H a xs∧∀p,H p=none→Q (.ref p) (upd H p (.lst (sS xs lo hi)))
theorem xi:SlR X (CV X.K):=by
  intro pins s σ H x v vl vu lo hi sl Q I rx hs pl pu h
  obtain ⟨a,xs,rfl,hx,q⟩:=h
  cases rx
  obtain ⟨its,r,ht,hz⟩:=I.list hx
  have hlen:=r.length
  refine ⟨"list",_,slot_list_getitem.lookup,ht.isList.typeIs,?_⟩
  refine wpAny_getItem_list_slice ht.isList hs pl pu .none (by simp) ?_ (by rw [List.size_toArray] <;> omega)
  rw [mh,←hlen]
  refine ⟨.ref s.heap.objs.size,_,I.laid (t':=s.toks) (o:= .lst (sS xs lo hi)) (fun b ob q=>Heap.get?_push_of_some _ q) (Nat.le_refl _) ?_,rfl,q _ (I.hok.fresh (Nat.le_refl _))⟩
  exact ⟨Nat.le_trans (pe xs lo hi) hz,_,0,(r.drop (HT.k9 xs.length 0 lo)).take (HT.k9 xs.length xs.length hi - HT.k9 xs.length 0 lo),Heap.get?_push_size _ rfl⟩
def gH:V→Bool
  | .non=>true
  | .bl _=>true
  | .int _=>true
  | .str _=>true
  | _=>false
def u3:V→V→Bool
  | .non, .non=>true
  | .bl a, .bl b=>a == b
  | .bl a, .int b=>(if a then 1 else 0) == b
  | .int a, .bl b=>a == (if b then 1 else 0)
  | .int a, .int b=>a == b
  | .str a, .str b=>a == b
  | _,_=>false
theorem zL {A:Around} {s:Shared} {y x:V} {u v:Value} (ry:RelV y u) (rx:RelV x v) (fy:gH y=true) (fx:gH x=true):SeqAt.EqAt A s u v (u3 y x):=by
  cases y with
  | non=>
    cases ry
    cases x with
    | non=>cases rx;exact SeqAt.EqAt.same _
    | bl b=>cases rx;exact SeqAt.EqAt.none_bool b
    | int b=>obtain ⟨t,rfl⟩:=rx;exact SeqAt.EqAt.none_int b t
    | str b=>obtain ⟨t,rfl⟩:=rx;exact SeqAt.EqAt.none_str b t
    | _=>exact absurd (show false=true from fx) Bool.false_ne_true
  | bl a=>
    cases ry
    cases x with
    | non=>cases rx;exact SeqAt.EqAt.bool_none a
    | bl b=>cases rx;exact SeqAt.EqAt.bool_bool a b
    | int b=>obtain ⟨t,rfl⟩:=rx;exact SeqAt.EqAt.bool_int a b t
    | str b=>obtain ⟨t,rfl⟩:=rx;exact SeqAt.EqAt.bool_str a b t
    | _=>exact absurd (show false=true from fx) Bool.false_ne_true
  | int a=>
    obtain ⟨t',rfl⟩:=ry
    cases x with
    | non=>cases rx;exact SeqAt.EqAt.int_none a t'
    | bl b=>cases rx;exact SeqAt.EqAt.int_bool a t' b
    | int b=>obtain ⟨t,rfl⟩:=rx;exact SeqAt.EqAt.int_int a t' b t
    | str b=>obtain ⟨t,rfl⟩:=rx;exact SeqAt.EqAt.int_str a t' b t
    | _=>exact absurd (show false=true from fx) Bool.false_ne_true
  | str a=>
    obtain ⟨t',rfl⟩:=ry
    cases x with
    | non=>cases rx;exact SeqAt.EqAt.str_none a t'
    | bl b=>cases rx;exact SeqAt.EqAt.str_bool a t' b
    | int b=>obtain ⟨t,rfl⟩:=rx;exact SeqAt.EqAt.str_int a t' b t
    | str b=>obtain ⟨t,rfl⟩:=rx;exact SeqAt.EqAt.str_str a t' b t
    | _=>exact absurd (show false=true from fx) Bool.false_ne_true
  | _=>exact absurd (show false=true from fy) Bool.false_ne_true
def xj (x:V) (u:Value):Bool:=match u with
  | .none=>u3 .non x
  | .bool b=>u3 (.bl b) x
  | .int i _=>u3 (.int i) x
  | .str z _=>u3 (.str z) x
  | _=>false
theorem u4 {x y:V} {u:Value} (r:RelV y u) (f:gH y=true):xj x u=u3 y x:=by
  cases y with
  | non=>cases r;rfl
  | bl b=>cases r;rfl
  | int i=>obtain ⟨t,rfl⟩:=r;rfl
  | str z=>obtain ⟨t,rfl⟩:=r;rfl
  | _=>exact absurd (show false=true from f) Bool.false_ne_true
theorem nS {x:V}:∀{xs:List V} {us:List Value},Vals xs us→xs.all gH=true→us.any (xj x)=xs.any fun y=>u3 y x
  | _,_, .nil,_=>rfl
  | y::xs,u::us, .cons r t,f=>by
    rw [List.all_cons,Bool.and_eq_true] at f
    rw [List.any_cons,List.any_cons,u4 r f.1,nS t f.2]
theorem k_ {A:Around} {s:Shared} {x:V} {v:Value} (rx:RelV x v) (fx:gH x=true):∀{xs:List V} {us:List Value},Vals xs us→xs.all gH=true→∀u∈us,SeqAt.EqAt A s u v (xj x u)
  | _,_, .nil,_=>fun u hu=>by cases hu
  | y::xs,u::us, .cons r t,f=>fun u' hu=>by
    rw [List.all_cons,Bool.and_eq_true] at f
    rcases List.mem_cons.mp hu with rfl | hu
    · rw [u4 r f.1];exact zL r rx f.1 fx
    · exact k_ rx fx t f.2 u' hu
def yI (x:V) (xs:List V):Bool:=xs.any fun y=>u3 y x
def CW (K:PySem.W.Frag) (neg:Bool):R2:=fun x y H Q=>∃p xs,y= .ref p∧(SqL K H p xs∨SqT K H p xs)∧gH x=true∧xs.all gH=true∧Q (.bl (if neg then !yI x xs else yI x xs)) H
theorem jt:OpR X (compareOp .NotIn) (CW X.K true):=by
  intro pins s σ H x y v u Q I rx ry h
  obtain ⟨p,xs,rfl,hq,fx,fs,q⟩:=h
  cases ry
  rcases hq with hq | hq
  · obtain ⟨its,r,pl,hz⟩:=I.list hq
    refine SeqAt.notIn_listAt (xj x) pl.isList (fun w hw=>k_ rx fx r fs w (by simpa using hw)) ⟨.bl _,H,I,rfl,?_⟩
    rw [show its.toArray.any (xj x)=its.any (xj x) by simp,nS r fs]
    exact q
  · obtain ⟨its,r,pl,hz⟩:=I.tuple hq
    refine SeqAt.notIn_tupleAt (xj x) pl (fun w hw=>k_ rx fx r fs w (by simpa using hw)) ⟨.bl _,H,I,rfl,?_⟩
    rw [show its.toArray.any (xj x)=its.any (xj x) by simp,nS r fs]
    exact q
theorem nT:OpR X (compareOp .NotIn) (fun x y H Q=>∃i j,x= .str i∧y= .str j∧Q (.bl (!(!(Builtin.Str.occurrences j i 0 j.length 1).isEmpty))) H):=by
  intro pins s σ H x y v u Q I rx ry h
  obtain ⟨i,j,rfl,rfl,q⟩:=h
  obtain ⟨t,rfl⟩:=rx
  obtain ⟨t',rfl⟩:=ry
  exact notIn_str ⟨.bl _,H,I,rfl,q⟩
theorem nU:CallR X (.builtin "len") (fun xs H Q=>∃p ys,xs=[.ref p]∧(SqL X.K H p ys∨SqT X.K H p ys)∧Q (.int ys.length) H):=by
  intro pins s σ H xs us Q I r h
  obtain ⟨p,ys,rfl,hq,q⟩:=h
  obtain ⟨u,rfl,rx⟩:=k7 r
  cases rx
  have hn:=i8
  rcases hq with hq | hq
  · obtain ⟨its,r',pl,hz⟩:=I.list hq
    have hlen:=r'.length
    exact Calls.call_len_list pl.isList (by simp only [List.size_toArray] <;> omega) ⟨.int ys.length,H,I.tok _,⟨s.toks+1,by rw [List.size_toArray,hlen]⟩,q⟩
  · obtain ⟨its,r',pl,hz⟩:=I.tuple hq
    have hlen:=r'.length
    exact len_tuple pl (by simp only [List.size_toArray] <;> omega) ⟨.int ys.length,H,I.tok _,⟨s.toks+1,by rw [List.size_toArray,hlen]⟩,q⟩
theorem nV:CallR X (.builtin "len") (fun xs H Q=>∃z,xs=[.str z]∧z.length≤sizeLine∧Q (.int z.length) H):=by
  intro pins s σ H xs us Q I r h
  obtain ⟨z,rfl,hz,q⟩:=h
  obtain ⟨u,rfl,t,rfl⟩:=k7 r
  have hn:=i8
  exact len_str (by omega) ⟨.int z.length,H,I.tok _,⟨_,rfl⟩,q⟩
theorem CallR.or {f:Value} {r r':List V→Hp→VK→Prop} (h:CallR X f r) (h':CallR X f r'):CallR X f (fun xs H Q=>r xs H Q∨r' xs H Q):=by
  intro pins s σ H xs us Q I rs q
  rcases q with q | q
  · exact h pins s σ H xs us Q I rs q
  · exact h' pins s σ H xs us Q I rs q
theorem nW:CallR X (.type "list") (fun xs H Q=>∃p ys,xs=[.ref p]∧(SqL X.K H p ys∨SqT X.K H p ys)∧∀l,H l=none→Q (.ref l) (upd H l (.lst ys))):=by
  intro pins s σ H xs us Q I r h
  obtain ⟨p,ys,rfl,hq,q⟩:=h
  obtain ⟨u,rfl,rx⟩:=k7 r
  cases rx
  have fin:∀(its:List Value),Vals ys its→ys.length≤sizeLine→∀(h':Heap) (c':Nat),(∀b o',s.heap.get? b=some o'→h'.get? b=some o')→
      h'.get? s.heap.objs.size=some {cls:= .type "list",dict:=none,data:= .seq its.toArray c',slots:=#[]}→EP X pins σ Q (.ref s.heap.objs.size) {s with heap:=h'}:=fun its r' hz h' c' kp e=>
    ⟨.ref s.heap.objs.size,_,I.laid (t':=s.toks) kp (Nat.le_refl _) (show ObjOk X.prog X.w _ h' _ (.lst ys) from ⟨hz,its,c',r',e⟩),rfl,q _ (I.hok.fresh (Nat.le_refl _))⟩
  rcases hq with hq | hq
  · obtain ⟨its,r',pl,hz⟩:=I.list hq
    have hlen:=r'.length
    obtain ⟨o,ho,hc,n,hd⟩:=pl.isList
    exact call_list_seq p (.inl rfl) ho hc hd (fun h' c' kp e=>fin its r' hz h' c' kp e) (by simp only [List.size_toArray] <;> omega)
  · obtain ⟨its,r',pl,hz⟩:=I.tuple hq
    have hlen:=r'.length
    obtain ⟨o,ho,hc,n,hd⟩:=pl
    exact call_list_seq p (.inr rfl) ho hc hd (fun h' c' kp e=>fin its r' hz h' c' kp e) (by simp only [List.size_toArray] <;> omega)
theorem mj:CallR X (.type "tuple") (fun xs H Q=>∃p ys,xs=[.ref p]∧((SqL X.K H p ys∧∀l,H l=none→Q (.ref l) (upd H l (.tup ys)))∨(SqT X.K H p ys∧Q (.ref p) H))):=by
  intro pins s σ H xs us Q I r h
  obtain ⟨p,ys,rfl,h⟩:=h
  obtain ⟨u,rfl,rx⟩:=k7 r
  cases rx
  rcases h with ⟨hq,q⟩ | ⟨hq,q⟩
  · obtain ⟨its,r',pl,hz⟩:=I.list hq
    have hlen:=r'.length
    refine call_tuple_list pl.isList (fun h' kp=>?_) (by simp only [List.size_toArray] <;> omega)
    have I1:Inv X pins σ H {s with heap:=h'}:=I.kept (t':=s.toks) kp
    have I2:Inv X pins σ (upd H h'.objs.size (.tup ys)) {s with heap:=h'.push {cls:= .type "tuple",data:= .seq its.toArray}}:=
      I1.laid (t':=s.toks) (fun b o e=>Heap.get?_push_of_some _ e) (Nat.le_refl _) (show ObjOk X.prog X.w _ _ _ (.tup ys) from ⟨hz,its,r',IsTup.new _ _⟩)
    exact ⟨.ref h'.objs.size,_,I2,rfl,q _ (I1.hok.fresh (Nat.le_refl _))⟩
  · obtain ⟨its,r',pl,hz⟩:=I.tuple hq
    exact call_tuple_same pl ⟨.ref p,H,I,rfl,q⟩
def Dw (K:PySem.W.Frag) (T:String) (x:V) (H:Hp):Prop:=match x with
  | .str _=>T="str"
  | .int _=>T="int"
  | .ref p=>(T="list"∧∃xs,SqL K H p xs)∨(T="tuple"∧∃o,K.lookup p=some o∧o.cls= .type "tuple"∧o.dict=none)∨
      (T="dict"∧((∃kvs,H p=some (.dK kvs))∨∃kvs,H p=some (.dT kvs)))∨(T="set"∧∃S n,H p=some (.set S n))
  | _=>False
theorem zM {pins:List (Addr×Obj)} {σ:St} {H:Hp} {s:Shared} {T:String} {x:V} {v:Value} (I:Inv X pins σ H s) (r:RelV x v) (ty:Dw X.K T x H):
    s.TypeIs v T∧∀a,v= .ref a→∃ob,s.heap.get? a=some ob∧ob.dict=none:=by
  cases x with
  | str z=>
    obtain ⟨t,rfl⟩:=r
    cases (show T="str" from ty)
    exact ⟨typeIs_str s z t,fun _ e=>nomatch e⟩
  | int i=>
    obtain ⟨t,rfl⟩:=r
    cases (show T="int" from ty)
    exact ⟨typeIs_int s i t,fun _ e=>nomatch e⟩
  | ref p=>
    cases r
    rcases ty with ⟨rfl,xs,hq⟩ | ⟨rfl,o,hk,hc,hd⟩ | ⟨rfl,hk⟩ | ⟨rfl,S,n,hk⟩
    · obtain ⟨its,_,pl,_⟩:=I.list hq
      refine ⟨pl.isList.typeIs,fun a e=>?_⟩
      cases e
      obtain ⟨o,n,e,c,hd,_⟩:=pl
      exact ⟨o,e,hd⟩
    · refine ⟨⟨o,I.kIn p o hk,hc⟩,fun a e=>?_⟩
      cases e
      exact ⟨o,I.kIn _ o hk,hd⟩
    · have z:∃o,s.heap.get? p=some o∧o.ExactDict:=by
        rcases hk with ⟨kvs,hk⟩ | ⟨kvs,hk⟩
        · obtain ⟨_,_,_,_,o,_,_,e,ex,_⟩:=I.hok p _ hk
          exact ⟨o,e,ex⟩
        · obtain ⟨_,_,_,_,o,_,_,e,ex,_⟩:=I.hok p _ hk
          exact ⟨o,e,ex⟩
      obtain ⟨o,e,ex⟩:=z
      refine ⟨⟨o,e,ex.1⟩,fun a e2=>?_⟩
      cases e2
      exact ⟨o,e,ex.2.1⟩
    · obtain ⟨o,_,_,_,e,ex,_⟩:=I.hok p _ hk
      refine ⟨⟨o,e,ex.1⟩,fun a e2=>?_⟩
      cases e2
      exact ⟨o,e,ex.2.1⟩
  | _=>exact False.elim ty
def DJ (K:PySem.W.Frag) (T:String) (r:V→List V→Hp→VK→Prop) (to:TE) (t:TA):TE:=fun σ H Q=>to σ H fun x H1=>Dw K T x H1∧t σ H1 fun xs H2=>r x xs H2 Q
variable {o e:Expr} {es:List Expr} {to:TE} {t:TA} {name:Str} {apos cpos:Pos} {T id:String} {r:V→List V→Hp→VK→Prop}
theorem rD (pa:PlainAttrs T) (slot:Slot T name id) (hty:typeOf (.builtin id)=pure (.type "method_descriptor")) (hm:MtR X id r) (ho:PE X o to) (ha:PA X (e::es) t)
    (hbase:attributeBase o name X.env (eval o X.env)=eval o X.env:=by rfl)
    (hfew:((backTo cpos (starEach (e::es) X.env)).all (fun x=> !x.1)&&(backToKw cpos (keywordEach [] X.env)).all (fun x=>x.1.isSome)
      &&decide ((e::es).length+([]:List Keyword).length+(if ([]:List Keyword).isEmpty then 0 else 1) < 30))=true:=by rfl)
    (hline:(apos.endLine == cpos.line)=true:=by rfl) (hs:starEach (e::es) X.env=(false,eval e X.env)::starEach es X.env:=by rfl) (hplain:(backTo cpos (starEach es X.env)).any (·.1)=false:=by rfl):
    PE X (.Call (.Attribute o name apos) (e::es) [] cpos) (DJ X.K T r to t):=by
  intro pins s σ H Q I h
  refine wpAny_Call_method_late hbase hfew hline rfl (cE (ho pins s σ H _ I h) fun v s1 ⟨x,H1,I1,r1,ty,q1⟩=>?_)
  obtain ⟨h1,h2⟩:=zM I1 r1 ty
  refine ⟨T,id,pa,slot,hty,h1,h2,?_⟩
  have hA:=ha cpos pins s1 σ H1 _ I1 q1
  rw [hs] at hA ⊢
  refine Calls.callWith_builtin (by show (false||(backTo cpos (starEach es X.env)).any (·.1))=false;rw [hplain] <;> rfl) (Calls.evalArgs_plain ?_)
  exact cE hA fun us s2 ⟨vs,H2,I2,r2,q2⟩=>hm pins s2 σ H2 x vs v us Q I2 r1 r2 q2
end
end L2
namespace L2
open PySem PySem.Spec PyProof.Rows
def Dx (X:Cx) (id:String) (r:V→List V→Hp→VK→Prop):Prop:=
  ∀(pins:List (Addr×Obj)) (s:Shared) (σ:St) (H:Hp) (x:V) (xs:List V) (v:Value) (us:List Value) (Q:VK),Inv X pins σ H s→RelV x v→Vals xs us→r x xs H Q→
    wpAny (model X.prog X.w) X.A (call (.builtin id) (v::us)) (EP X pins σ Q) X.xe s
theorem Vals.one {x:V} {us:List Value} (h:Vals [x] us):∃u,us=[u]∧RelV x u:=by
  cases h with
  | cons r t=>cases t;exact ⟨_,rfl,r⟩
theorem Vals.two {x y:V} {us:List Value} (h:Vals [x,y] us):∃u v,us=[u,v]∧RelV x u∧RelV y v:=by
  cases h with
  | cons r t=>
    obtain ⟨v,rfl,q⟩:=Vals.one t
    exact ⟨_,_,rfl,r,q⟩
theorem Vals.zero:∀{us:List Value},Vals [] us→us=[]
  | _, .nil=>rfl
theorem Vals.dropLast {xs:List V} {us:List Value} (h:Vals xs us):Vals xs.dropLast us.dropLast:=by
  induction h with
  | nil=>exact .nil
  | cons r t ih=>
    cases t with
    | nil=>exact .nil
    | cons q t'=>exact .cons r ih
theorem Vals.reverse {xs:List V} {us:List Value} (h:Vals xs us):Vals xs.reverse us.reverse:=by
  induction h with
  | nil=>exact .nil
  | cons r t ih=>rw [List.reverse_cons,List.reverse_cons];exact Vals.append ih (.cons r .nil)
theorem Vals.rep {xs:List V} {us:List Value} (h:Vals xs us):∀k:Nat,Vals (List.replicate k xs).flatten (List.replicate k us).flatten
  | 0=> .nil
  | k+1=>by
    rw [List.replicate_succ,List.replicate_succ,List.flatten_cons,List.flatten_cons]
    exact Vals.append h (Vals.rep h k)
section
variable {X:Cx} {pins:List (Addr×Obj)} {σ:St} {H:Hp} {s:Shared} {l b:Addr} {xs ys zs:List V}
theorem Inv.lset {its its':List Value} {n:Nat} {f:Array Value→Array Value} {t':Nat} (I:Inv X pins σ H s) (hH:H l=some (.lst xs))
    (e:s.heap.get? l=some {cls:= .type "list",data:= .seq its.toArray n}) (hf:f its.toArray=its'.toArray) (hv:Vals ys its') (hz:ys.length≤sizeLine):
    Inv X pins σ (upd H l (.lst ys)) {s with heap:=s.heap.update l (Obj.mapSeq f),toks:=t'}:=by
  have q:=PySem.IsL.update e f
  rw [hf] at q
  refine I.write (x:=l) (e:=l) (by rw [hH];exact trivial) (.inl rfl) (fun b' u hb hu=>(Heap.get?_update_other s.heap (Obj.mapSeq f) (Ne.symm hb)).trans hu) ⟨_,q⟩ ?_
  exact ⟨hz,its',_,hv,q⟩
theorem Inv.lnew {its:List Value} {t':Nat} (I:Inv X pins σ H s) (hv:Vals ys its) (hz:ys.length≤sizeLine):
    Inv X pins σ (upd H s.heap.objs.size (.lst ys)) {s with heap:=s.heap.push {cls:= .type "list",data:= .seq its.toArray},toks:=t'}:=
  I.laid (fun _ _ q=>Heap.get?_push_of_some _ q) (Nat.le_refl _) ⟨hz,its,0,hv,Heap.get?_push_size _ rfl⟩
theorem Inv.fresh (I:Inv X pins σ H s):H s.heap.objs.size=none:=I.hok.fresh (Nat.le_refl _)
theorem Inv.lstM (I:Inv X pins σ H s) (hH:H l=some (.lst xs)):xs.length≤sizeLine∧∃(its:List Value) (n:Nat),Vals xs its∧xs.length=its.length∧s.heap.get? l=some {cls:= .type "list",data:= .seq its.toArray n}:=by
  obtain ⟨z,its,n,r,e⟩:=I.hok l _ hH
  exact ⟨z,its,n,r,r.length,e⟩
theorem u5 {n:Nat} (h:n≤sizeLine):Builtin.List.listTooLong n=false:=by
  unfold Builtin.List.listTooLong
  exact decide_eq_false (by omega)
end
section
variable {X:Cx}
def xk:V→List V→Hp→VK→Prop:=fun x vs H Q=>∃l xs y,x= .ref l∧vs=[y]∧H l=some (.lst xs)∧xs.length < sizeLine∧Q .non (upd H l (.lst (xs++[y])))
theorem nr:Dx X "list.append" xk:=by
  intro pins s σ H x vs v us Q I rx rv h
  obtain ⟨l,xs,y,rfl,rfl,hH,hz,q⟩:=h
  cases rx
  obtain ⟨u,rfl,ru⟩:=rv.one
  obtain ⟨z,its,n,r,hl,e⟩:=I.lstM hH
  refine call_meets F.slot_list_append ⟨_,e,rfl⟩ F.entry_list_append (F.args_list_append_2 _ _) (PySem.list_append l its.toArray n u (by rw [List.size_toArray];omega)) ⟨e,?_⟩
  refine ⟨.non,_,I.lset (its':=its++[u]) hH e (by simp) (r.append (.cons ru .nil)) ?_,rfl,q⟩
  rw [List.length_append,List.length_singleton]
  omega
def xm:V→List V→Hp→VK→Prop:=fun x vs H Q=>∃l b xs zs,x= .ref l∧vs=[.ref b]∧H l=some (.lst xs)∧H b=some (.lst zs)∧xs.length+zs.length≤sizeLine∧Q .non (upd H l (.lst (xs++zs)))
theorem sT:Dx X "list.extend" xm:=by
  intro pins s σ H x vs v us Q I rx rv h
  obtain ⟨l,b,xs,zs,rfl,rfl,hH,hB,hz,q⟩:=h
  cases rx
  obtain ⟨u,rfl,ru⟩:=rv.one
  cases ru
  obtain ⟨z,its,n,r,hl,e⟩:=I.lstM hH
  obtain ⟨z2,its2,n2,r2,hl2,e2⟩:=I.lstM hB
  have hsz:its.toArray.size+its2.toArray.size≤sizeLine:=by rw [List.size_toArray,List.size_toArray];omega
  have hlong:¬(!its.toArray.isEmpty&&Builtin.List.listTooLong (its.toArray.size+its2.toArray.size))=true:=by
    rw [u5 hsz,Bool.and_false]
    exact Bool.false_ne_true
  refine call_meets F.slot_list_extend ⟨_,e,rfl⟩ F.entry_list_extend (F.args_list_extend_2 _ _)
    (AutoSeq1.list_extend_list_list_0 l its.toArray n b its2.toArray n2 hlong (by rw [List.size_toArray];omega) (by omega)) ⟨e,e2,?_⟩
  refine ⟨.non,_,I.lset (its':=its++its2) hH e (by simp) (r.append r2) ?_,rfl,q⟩
  rw [List.length_append]
  omega
theorem xn {α:Type} (xs:List α) (k:Nat):(List.replicate k xs).flatten.length=k*xs.length:=by
  induction k with
  | zero=>simp
  | succ k ih=>rw [List.replicate_succ,List.flatten_cons,List.length_append,ih,Nat.succ_mul,Nat.add_comm]
end
end L2
namespace Att
open PySem PySem.W PySem.Calls PyProof.Rows
theorem kD {P:Params} {h:Heap}:∀(ns:List Int) (vs:List Value),WellAll P h vs (ns.map WData.int)→IntsAre vs ns:=by
  intro ns
  induction ns with
  | nil=>
    intro vs w
    rw [List.map_nil] at w
    cases w
    exact .nil
  | cons n ns ih=>
    intro vs w
    rw [List.map_cons] at w
    cases w with
    | cons a b=>
      cases a
      exact .cons _ _ (ih _ b)
theorem sU {l:OpenLaw} {n:Nat} (hn:l.most=some n) {P:Params} {h:Heap} {args:List WData} {vals:List Value}
    (hpre:l.row.toRowW.claim.pre args=true) (hwl:WellAll P h vals args):
    ∃a vs ns,vals=[Value.ref a]∧args=[WData.list (ns.map WData.int)]∧h.get? a=some {cls:= .type "list",data:= .seq vs.toArray}∧IntsAre vs ns∧ns.length≤n:=by
  have hsh:WShape.hasAll [] args [.list .int]=true:=(pre_splitW hpre).1
  have hc:l.pre.holds [] {args:=args}=true:=(pre_splitW hpre).2
  obtain ⟨d,r,rfl,h1,h2⟩:=hasAllW_cons hsh
  obtain rfl:=hasAllW_nil h2
  obtain ⟨xs,rfl,h3⟩:=hasW_list h1
  obtain ⟨ns,rfl⟩:=items_int h3
  have hlen:ns.length≤n:=by
    unfold OpenLaw.pre at hc
    have h4:(WTm.not (.lt (.lit (.int (n:Int))) (.len (.arg 0)))).holds [] {args:=[.list (ns.map .int)]}=true:=by
      have h4:=(holds_andW hc).1
      rw [hn] at h4
      exact h4
    have h5:=condW_of h4 (w_not (w_lt w_lit (w_len_list (w_arg rfl))))
    rw [List.length_map] at h5
    refine Nat.le_of_not_lt fun q=>?_
    have q':(n:Int) < ((ns.length:Nat):Int):=by omega
    first
      | (rw [decide_eq_true q'] at h5;exact absurd h5 (by decide))
      | (simp at h5;omega)
  cases hwl with
  | cons w1 w2=>
    cases w2
    cases w1 with
    | list ho hall=>exact ⟨_,_,ns,rfl,rfl,ho,kD ns _ hall,hlen⟩
theorem sV (l:OpenLaw) (args:List WData):l.row.toRowW.claim.post args (.bool true) args=true:=
  postW_of (r:=l.row.toRowW) (X:=(true == true))
    (show WShape.has [] (.bool true) .bool=true by first | rfl | decide | simp [WShape.has,WShape.arms,WShape.armsAll])
    (show (WTm.eq .res (.lit (.bool true))).value [] {args:=args,res:=some (.bool true),after:=args}=some (.bool (true == true)) from w_eq_bool (w_res rfl) w_lit) rfl
theorem pf {l:OpenLaw} {n:Nat} {q:Program} {loose:List Str} {XP:(Str→Option Value)→Heap→Prop} {YP:World→Heap→Prop} {d:DefRec}
    (hn:l.most=some n) (hdf:d.params.defaults=[])
    (call:∀(w:World) (s₀ s₁:Shared) (mg mb:Str→Option Value) (fa:Addr) (o:Obj) (pm cd doc:Value) (a:Addr) (vs:List Value) (ns:List Int),
      Ground q loose [] XP w s₀ mg mb s₁.heap→YP w s₁.heap→
      s₁.heap.get? fa=some o→o.data= .func (docDef d.name d.params d.body d.scope pm cd doc)→s₁.heap.CodeRec cd d.name→mg d.name=some (.ref fa)→
      s₁.heap.get? a=some {cls:= .type "list",data:= .seq vs.toArray}→IntsAre vs ns→ns.length≤n→s₁.gens=#[]→
      codeAny (model l.prog w) callerA (.call (.ref fa) ⟨[.ref a],[]⟩) (fun r s'=>r= .ok (.ret (.bool true))∧OldK s₁.heap s'.heap∧s'.os=s₁.os∧AllBare s'.gens) s₁):
    WalkO q loose XP YP l.row.toRowW d [] (fun f vs=>PySem.call f vs):=by
  intro w s₀ s₁ mg mb G Y fa o pm cd doc dV kV ho hd hcd hD hmg hg args vals as hpre hlay hrd hwl hlo
  obtain rfl:dV= .none:=Dflts.none hD hdf
  obtain rfl:kV= .none:=Dflts.noKw hD
  obtain ⟨a,vs,ns,rfl,rfl,hobj,hints,hlen⟩:=sU hn hpre hwl
  refine enter_call (codeAny_mono (call w s₀ s₁ mg mb fa o pm cd doc a vs ns G Y ho (fd_plain hd) hcd hmg hobj hints hlen hg) fun r s' hq=>?_)
  obtain ⟨rfl,h2,h3,h4⟩:=hq
  exact ⟨.inl ⟨.bool true, .bool true,[],rfl,fun _=>rfl, .bool true,sV l _,fun _=>⟨List.Pairwise.nil,fun _ hm=>(nomatch hm)⟩⟩,h2,h3,h4⟩
end Att
namespace L2
open PySem PySem.Spec PyProof.Rows
theorem gI:∀{vs:List Value} {ns:List Int},IntsAre vs ns→Vals (ns.map V.int) vs
  | _,_, .nil=> .nil
  | _,_, .cons n t h=> .cons ⟨t,rfl⟩ (gI h)
theorem ObjOk.tbl0 {P:Program} {w:World} {H:Hp} {h:Heap} {b:Addr} {q:Str} (e:h.get? b=some (PySem.W.tabObj #[])):ObjOk P w H h b (.tbl q):=⟨#[],e,trivial,fun pos cv z=>by cases z⟩
end L2
namespace L2
open PySem PySem.Spec PyProof.Rows
def cY (s:Stmt) (j:Nat):Stmt:=match s with
  | .ClassDef _ _ _ body _ _ _ _ _ _ _=>body.getD j (.Pass ⟨0,0,0,0⟩)
  | _=> .Pass ⟨0,0,0,0⟩
def cJ (s:Stmt):Arguments:=match s with
  | .FunctionDef _ a _ _ _ _ _ _ _ _=>a
  | _=>{posonlyargs:=[],args:=[],vararg:=none,kwonlyargs:=[],kw_defaults:=[],kwarg:=none,defaults:=[]}
def bE (s:Stmt):List Stmt:=match s with
  | .FunctionDef _ _ b _ _ _ _ _ _ _=>b
  | _=>[]
def ai (s:Stmt):Scope:=match s with
  | .FunctionDef _ _ _ _ _ _ sc _ _ _=>sc
  | _=>{kind:= .function,names:=[],isGenerator:=false,isCoroutine:=false}
abbrev iu:sR:=fun _ _ _ _ _ _=>False
abbrev E0:XK:=fun _ _ _=>False
theorem rE {X:Cx}:k8 iu X E0:=fun _ _ _ _ _ _ _ h=>h.elim
structure Fun (K:PySem.W.Frag) (x qual:Str) (st:Stmt) (f:Addr) (fd:FuncData):Prop where
  ex:∃(oc:Value) (od:Option Addr) (kV doc pm:Value) (an:Option Addr) (cdv ct:Value) (osl:Array (Option Value)),
    fd=PySem.W.fnOf x qual (cJ st) (bE st) (ai st) .none kV doc pm an cdv ct∧K.lookup f=some ⟨oc,od, .func fd,osl⟩∧PySem.W.codeIn K cdv qual=true
  kp:PySem.W.keepIn K (.ref f)=true
section
variable {P:Program} {w:World} {K:PySem.W.Frag} {mg:Str→Option Value} {base:Heap}
theorem Fun.ok {x qual:Str} {st:Stmt} {f:Addr} {fd:FuncData} {N ps:List Str} {k:Nat} {sp:Sp} (F:Fun K x qual st f fd) (S:FnScope N ps (ai st)) (len:∀vs H Q E,sp vs H Q E→vs.length=ps.length)
    (hbody:∀(cdv:Value) (A:Around) (outer:List Env) (s:Shared) (H:Hp) (vs:List V) (Q:VK) (E:XK),Room k (A.deeper (envOfC qual (ai st) s.heap.objs.size f cdv))→sp vs H Q E→
      ∃t,PSs (gR iu P w K mg base N qual (ai st) f cdv A outer s H E).nox (bE st) t∧t {nx:=fun _ H'=>Q .non H',rt:=Q} (cy N vs) H):FnOk P w K mg base iu (k+1) f fd ps sp:=by
  obtain ⟨oc,od,kV,doc,pm,an,cdv,ct,osl,rfl,lk,hcd⟩:=F.ex
  refine yH lk hcd S len fun A outer s H vs Q E hr hsp=>?_
  obtain ⟨t,h,q⟩:=hbody cdv A outer s H vs Q E hr hsp
  exact ⟨t,h.nox,q⟩
theorem Fun.binds {x qual:Str} {st:Stmt} {f:Addr} {fd:FuncData} {ps:List Str} (F:Fun K x qual st f fd)
    (h:∀(kV doc pm:Value) (an:Option Addr) (cdv ct:Value) (us:List Value),us.length=ps.length→bindArgs (PySem.W.fnOf x qual (cJ st) (bE st) (ai st) .none kV doc pm an cdv ct) ⟨us,[]⟩=pure (ps.zip us)):Binds K fd ps []:=by
  obtain ⟨oc,od,kV,doc,pm,an,cdv,ct,osl,rfl,lk,hcd⟩:=F.ex
  exact .all (h kV doc pm an cdv ct)
theorem jY {x qual:Str} {st:Stmt} {f:Addr} {oc:Value} {od an:Option Addr} {osl:Array (Option Value)} {kV doc pm cdv ct:Value} (l:K.lookup f=some ⟨oc,od, .func (PySem.W.fnOf x qual (cJ st) (bE st) (ai st) .none kV doc pm an cdv ct),osl⟩)
    (c:PySem.W.codeIn K cdv qual=true) (k:PySem.W.keepIn K (.ref f)=true):Fun K x qual st f (PySem.W.fnOf x qual (cJ st) (bE st) (ai st) .none kV doc pm an cdv ct):=⟨⟨oc,od,kV,doc,pm,an,cdv,ct,osl,rfl,l,c⟩,k⟩
end
section
variable {X:Cx}
theorem pv (i:Nat) {x:Str} {pos:Pos} (hN:X.N[i]? =some x:=by rfl) (hv:yB X.env.scope x:=by first | exact Or.inl rfl | exact Or.inr (Or.inl rfl) | exact Or.inr (Or.inr rfl)) (hd:(x == ("__debug__":Str))=false:=by decide)
    (hcd:(x == ("__classdict__":Str))=false:=by decide):PE X (.Name x pos) (dQ i):=jT hN hv hd hcd
end
def Same (H H':Hp):Prop:=∀b o,H b=some o→H' b=some o
theorem Same.refl (H:Hp):Same H H:=fun _ _ h=>h
theorem Same.trans {H H1 H2:Hp} (a:Same H H1) (b:Same H1 H2):Same H H2:=fun c o h=>b c o (a c o h)
theorem Same.free {H H':Hp} (e:Same H H') {l:Addr} (h:H' l=Option.none):H l=Option.none:=by
  cases q:H l with
  | none=>rfl
  | some o=>
    rw [e l o q] at h
    cases h
theorem Same.seq {K:PySem.W.Frag} {H H':Hp} {a:Addr} {xs:List V} (e:Same H H') (h:SqL K H a xs):SqL K H' a xs:=by
  rcases h with (h | ⟨o,h⟩) | h
  · exact .inl (.inl (e _ _ h))
  · exact .inl (.inr ⟨o,e _ _ h⟩)
  · exact .inr h
end L2
namespace NH
section
variable {α:Type} [DecidableEq α]
def stp (r:List (α×Int)) (p:α×Int):List (α×Int):=
  match r with
  | []=>if p.2=0 then [] else [p]
  | q::r'=>if q.1=p.1 then (if q.2+p.2=0 then r' else (p.1,q.2+p.2)::r') else (if p.2=0 then q::r' else p::q::r')
def stk (c:List (α×Int)):List (α×Int):=c.foldl stp []
def Red:List (α×Int)→Prop
  | []=>True
  | [p]=>p.2≠0
  | p::q::r=>p.2≠0∧p.1≠q.1∧Red (q::r)
theorem Red.cons {p:α×Int} {r:List (α×Int)} (h0:p.2≠0) (h1:∀q∈r.head?,p.1≠q.1) (h:Red r):Red (p::r):=by
  cases r with
  | nil=>exact h0
  | cons q r=>exact ⟨h0,h1 q rfl,h⟩
theorem Red.next {p:α×Int} {r:List (α×Int)} (h:Red (p::r)):∀q∈r.head?,p.1≠q.1:=by
  cases r with
  | nil=>intro q hq;cases hq
  | cons q r=>intro q' hq;cases hq;exact h.2.1
def contr (c:List (α×Int)):List (α×Int):=c.reverse.map fun p=>(p.1,-p.2)
theorem bt (c:List (α×Int)):(contr c).length=c.length:=by simp [contr]
def sn (w:List (α×Int)) (p:α×Int):List (α×Int):=(stp w.reverse p).reverse
def nX (p x:α×Int):List (α×Int):=if x.1=p.1 then (if x.2+p.2=0 then [] else [(p.1,x.2+p.2)]) else (if p.2=0 then [x] else [p,x])
theorem ju (p x:α×Int) (r:List (α×Int)):stp (x::r) p=nX p x++r:=by
  show (if x.1=p.1 then (if x.2+p.2=0 then r else (p.1,x.2+p.2)::r) else (if p.2=0 then x::r else p::x::r))=nX p x++r
  unfold nX
  by_cases e:x.1=p.1
  · rw [if_pos e,if_pos e];split <;> rfl
  · rw [if_neg e,if_neg e];split <;> rfl
def Ck (x p:α×Int):List (α×Int):=(nX p x).reverse
theorem rG (p x:α×Int) (r:List (α×Int)):sn (r++[x]) p=r++Ck x p:=by
  unfold sn Ck
  rw [List.reverse_append,List.reverse_singleton,List.singleton_append,ju,List.reverse_append,List.reverse_reverse]
theorem Bv (p q:α×Int) (x:α×Int) (hx:x.2≠0):stp (sn [x] q) p=sn (stp [x] p) q:=by
  obtain ⟨n,a⟩:=p
  obtain ⟨k,b⟩:=q
  obtain ⟨m,u⟩:=x
  simp at hx
  by_cases e1:m=n
  · subst e1
    by_cases e2:m=k
    · subst e2
      by_cases z1:u+a=0 <;> by_cases z2:u+b=0
      · simp [stp,sn,z1,z2]
        have:a=b:=by omega
        have ha:a≠0:=by omega
        have hb:b≠0:=by omega
        simp [ha,hb,this]
      · have hb:u+b+a=b:=by omega
        by_cases b0:b=0
        · subst b0;simp [stp,sn,z1,hx]
        · simp [stp,sn,z1,z2,hb,b0]
      · have hb:u+a+b=a:=by omega
        by_cases a0:a=0
        · subst a0;simp [stp,sn,z2,hx]
        · simp [stp,sn,z1,z2,hb,a0]
      · have hb:u+b+a=u+a+b:=by omega
        by_cases z3:u+a+b=0
        · simp [stp,sn,z1,z2,hb,z3]
        · simp [stp,sn,z1,z2,hb,z3]
    · by_cases z1:u+a=0 <;> by_cases z2:b=0 <;> simp [stp,sn,e2,z1,z2]
  · by_cases e2:m=k
    · subst e2
      by_cases z1:u+b=0 <;> by_cases z2:a=0 <;> simp [stp,sn,e1,z1,z2]
    · by_cases z1:a=0 <;> by_cases z2:b=0 <;> simp [stp,sn,e1,e2,z1,z2]
theorem Bw (p q:α×Int):stp (sn [] q) p=sn (stp [] p) q:=by
  obtain ⟨n,a⟩:=p
  obtain ⟨k,b⟩:=q
  by_cases z1:a=0 <;> by_cases z2:b=0
  · simp [stp,sn,z1,z2]
  · by_cases e:k=n <;> simp [stp,sn,z1,z2,e]
  · by_cases e:n=k <;> simp [stp,sn,z1,z2,e]
  · by_cases e:k=n
    · subst e
      by_cases z:a+b=0
      · have z':b+a=0:=by omega
        simp [stp,sn,z1,z2,z,z']
      · have z':¬b+a=0:=by omega
        simp [stp,sn,z1,z2,z,z']
        omega
    · have e':¬n=k:=fun t=>e t.symm
      simp [stp,sn,z1,z2,e,e']
theorem comm (p q:α×Int) {w:List (α×Int)} (h:Red w):stp (sn w q) p=sn (stp w p) q:=by
  cases w with
  | nil=>exact Bw p q
  | cons x r=>
    rcases List.eq_nil_or_concat r with rfl | ⟨m,y,e⟩
    · exact Bv p q x h
    · have e':r=m++[y]:=by rw [e] <;> simp
      subst e'
      have e1:x::(m++[y])=(x::m)++[y]:=rfl
      have e2:sn (x::(m++[y])) q=x::(m++Ck y q):=by rw [e1,rG];rfl
      rw [e2,ju,ju,←List.append_assoc,←List.append_assoc,rG]
end
end NH
namespace L2
open PySem PySem.Spec PyProof.Rows
theorem gJ {H:Hp} {p:Addr} (h:H p=none) (o:HO):Same H (upd H p o):=fun b u q=>by rw [av (aL q h)];exact q
theorem Same.tup {K:PySem.W.Frag} {H H':Hp} {a:Addr} {xs:List V} (e:Same H H') (h:SqT K H a xs):SqT K H' a xs:=by
  rcases h with (h | ⟨o,h⟩) | h
  · exact .inl (.inl (e _ _ h))
  · exact .inl (.inr ⟨o,e _ _ h⟩)
  · exact .inr h
def SameBut (l:Addr) (H H':Hp):Prop:=∀b o,b≠l→H b=some o→H' b=some o
theorem SameBut.upd {H:Hp} {l:Addr} (o:HO):SameBut l H (upd H l o):=fun b u hb q=>by rw [av hb];exact q
theorem SameBut.trans {H H1 H2:Hp} {l:Addr} (a:SameBut l H H1) (b:SameBut l H1 H2):SameBut l H H2:=fun c o hc q=>b c o hc (a c o hc q)
theorem SameBut.same {H H':Hp} {l:Addr} (a:SameBut l H H') (h:H l=none):Same H H':=fun b o q=>a b o (aL q h) q
theorem SameBut.tup {K:PySem.W.Frag} {H H':Hp} {l a:Addr} {xs ys:List V} (e:SameBut l H H') (hl:H l=some (.lst ys)) (h:SqT K H a xs):SqT K H' a xs:=by
  rcases h with (h | ⟨o,h⟩) | h
  · exact .inl (.inl (e _ _ (yz h hl (by intro z;cases z)) h))
  · exact .inl (.inr ⟨o,e _ _ (yz h hl (by intro z;cases z)) h⟩)
  · exact .inr h
mutual
inductive DOf (K:PySem.W.Frag) (H:Hp):V→PyData→Prop
  | non:DOf K H .non .none
  | bl (b:Bool):DOf K H (.bl b) (.bool b)
  | int (i:Int):DOf K H (.int i) (.int i)
  | str (x:Str):DOf K H (.str x) (.str x)
  | lst {a:Addr} {xs:List V} {ds:List PyData}:SqL K H a xs→DAll K H xs ds→DOf K H (.ref a) (.list ds)
  | tup {a:Addr} {xs:List V} {ds:List PyData}:SqT K H a xs→DAll K H xs ds→DOf K H (.ref a) (.tuple ds)
inductive DAll (K:PySem.W.Frag) (H:Hp):List V→List PyData→Prop
  | nil:DAll K H [] []
  | cons {x:V} {xs:List V} {d:PyData} {ds:List PyData}:DOf K H x d→DAll K H xs ds→DAll K H (x::xs) (d::ds)
end
section
variable {X:Cx} {pins:List (Addr×Obj)} {σ:St} {H:Hp} {s:Shared}
theorem DOf.reads (I:Inv X pins σ H s) {x:V} {d:PyData} {u:Value} (h:DOf X.K H x d) (r:RelV x u):∃as,Reads s.heap u d as:=DOf.rec (motive_1:=fun x d _=>∀{u:Value},RelV x u→∃as,Reads s.heap u d as) (motive_2:=fun xs ds _=>∀{us:List Value},Vals xs us→∃as,ReadsAll s.heap us ds as)
    (fun r=>by cases r;exact ⟨_,Reads.none⟩) (fun b _ r=>by cases r;exact ⟨_,Reads.bool b⟩) (fun i _ r=>by obtain ⟨t,rfl⟩:=r;exact ⟨_,Reads.int i t⟩) (fun x _ r=>by obtain ⟨t,rfl⟩:=r;exact ⟨_,Reads.str x t⟩)
    (fun hq _ ih _ r=>by
      cases r
      obtain ⟨its,rv,⟨o,n,e,c,_,d⟩,_⟩:=I.list hq
      obtain ⟨as,q⟩:=ih rv
      exact ⟨_,reads_list_at e c d (by simpa using q)⟩)
    (fun hq _ ih _ r=>by
      cases r
      obtain ⟨its,rv,⟨o,e,c,n,d⟩,_⟩:=I.tuple hq
      obtain ⟨as,q⟩:=ih rv
      exact ⟨_,reads_tuple_at e c d (by simpa using q)⟩)
    (fun r=>by cases r;exact ⟨_,ReadsAll.nil⟩)
    (fun _ _ a b _ r=>by
      cases r with
      | cons r rt=>
        obtain ⟨as,q⟩:=a r
        obtain ⟨bs,p⟩:=b rt
        exact ⟨_,ReadsAll.cons q p⟩) h r
end
def Bx (K:PySem.W.Frag):R2:=fun x y H Q=>∃d e,DOf K H x d∧DOf K H y e∧SeqAt.shaped d=true∧SeqAt.shaped e=true∧Q (.bl (PyData.eqv d e)) H
def By (K:PySem.W.Frag):R2:=fun x y H Q=>∃d e,DOf K H x d∧DOf K H y e∧SeqAt.shaped d=true∧SeqAt.shaped e=true∧Q (.bl (!PyData.eqv d e)) H
theorem u6 {X:Cx} (hu:X.A.units+64 < cLine):OpR X (compareOp .Eq) (Bx X.K):=by
  intro pins s σ H x y v u Q I rx ry h
  obtain ⟨d,e,hd,he,s1,s2,q⟩:=h
  obtain ⟨as,ra⟩:=hd.reads I rx
  obtain ⟨bs,rb⟩:=he.reads I ry
  exact eq_dataH ra rb s1 s2 hu ⟨.bl _,H,I,rfl,q⟩
theorem u7 {X:Cx} (hu:X.A.units+64 < cLine):OpR X (compareOp .NotEq) (By X.K):=by
  intro pins s σ H x y v u Q I rx ry h
  obtain ⟨d,e,hd,he,s1,s2,q⟩:=h
  obtain ⟨as,ra⟩:=hd.reads I rx
  obtain ⟨bs,rb⟩:=he.reads I ry
  exact ne_dataH ra rb s1 s2 hu ⟨.bl _,H,I,rfl,q⟩
def CY (K:PySem.W.Frag) (a:Addr) (xs:List V):It:=
  ⟨fun i H=>SqL K H a xs∧i < xs.length,fun i H x H'=>H'=H∧xs.reverse[i]? =some x,fun i H=>SqL K H a xs∧i=xs.length⟩
theorem u8 {P:Program} {w:World} {K:PySem.W.Frag} {tg:Expr} (a it:Addr) (xs:List V):Turn P w K tg (CY K a xs) [it] it (fun i h=>h.IsRevIter it a ((xs.length:Int) - 1 - (i:Int))) where
  mem:=by simp
  obj:=fun i h st b hb=>by
    have e:b=it:=by simpa using hb
    subst e
    obtain ⟨o,e,c,d⟩:=st
    exact ⟨o,e,fun v z=>by rw [d] at z;cases z⟩
  keep:=fun i h h' st k=>st.at fun o e=>k it (by simp) o e
  item:=by
    intro X hP hw hK hc i pins s σ H E I hf st hg
    subst hP hw hK
    obtain ⟨hq,hx⟩:=hg
    obtain ⟨its,rv,p,hz⟩:=I.list hq
    have hlen:=rv.length
    have e0:(xs.length:Int) - 1 - (i:Int)=((xs.length - 1 - i:Nat):Int):=by omega
    have hget:xs.reverse[i]? =xs[xs.length - 1 - i]? :=List.getElem?_reverse hx
    obtain ⟨x,hx'⟩:∃x,xs[xs.length - 1 - i]? =some x:=⟨xs[xs.length - 1 - i]'(by omega),List.getElem?_eq_getElem (by omega)⟩
    obtain ⟨u,hu,ru⟩:=rv.get hx'
    obtain ⟨f0,f1,f2,f3,f4,f5⟩:=hf it (by simp)
    have st1:s.heap.IsRevIter it a ((xs.length - 1 - i:Nat):Int):=by rw [←e0];exact st
    refine wpAny_pyNext_rev_item st1 p.isList (x:=u) (by simpa using hu) fun h' st' sb=>?_
    have I1:Inv X pins σ H {s with heap:=h'}:=I.turned (t':=s.toks) (fun b o hb e=>(sb.2 b hb).trans e) f0 f1 f3 f4 f5
    have e1:((xs.length - 1 - i:Nat):Int) - 1=(xs.length:Int) - 1 - ((i+1:Nat):Int):=by omega
    have st2:h'.IsRevIter it a ((xs.length:Int) - 1 - ((i+1:Nat):Int)):=by rw [←e1];exact st'
    obtain ⟨o,e,c,d⟩:=id st'
    exact ⟨u,rfl,o_ (s:={s with heap:=h'}) e c d (by decide) ⟨x,H,I1,ru,⟨rfl,hget.trans hx'⟩,st2,fun b hb=>(hf b hb).1⟩⟩
  done:=by
    intro X hP hw hK hc i pins s σ H E I hf st hg
    subst hP hw hK
    obtain ⟨hq,hx⟩:=hg
    obtain ⟨f0,f1,f2,f3,f4,f5⟩:=hf it (by simp)
    have e0:(xs.length:Int) - 1 - (i:Int)= -1:=by omega
    have st1:s.heap.IsRevIter it a (-1):=by rw [←e0];exact st
    exact wpAny_pyNext_rev_end (I.ok.hd hc) st1 fun h' eb=>⟨rfl,I.turned (t':=s.toks) (fun b o hb e=>eb b o hb e) f0 f1 f3 f4 f5⟩
  self:=fun _ _ _ _ _ st h=>wpAny_pyIter_revIter st h
section
variable {X:Cx} {tg:Expr}
def CZ (K:PySem.W.Frag) (tl:TA):TI:=fun σ H R=>tl σ H fun vs H1=>∃a xs,vs=[.ref a]∧SqL K H1 a xs∧R (CY K a xs) H1
theorem zN {l:Expr} {tl:TA} {p pos:Pos} (hg:Gl X "reversed") (hm:X.mg "reversed"=none) (ha:PA X [l] tl) (hs:starEach [l] X.env=[(false,eval l X.env)]:=by rfl):PI X tg (.Call (.Name "reversed" p) [l] [] pos) (CZ X.K tl):=by
  intro pins s σ H R I h
  refine Call_ (jV I hg hm boot_reversed (PyProof.Rows.callWith_type1 (cE (ha pos pins s σ H _ I h) fun us s1 ⟨vs,H1,I1,r1,q1⟩=>?_) hs rfl))
  obtain ⟨a,xs,e,hq,q⟩:=q1
  subst e
  cases r1 with
  | cons r rr=>
    cases rr
    cases r
    obtain ⟨its,rv,p,hz⟩:=I1.list hq
    have hlen:=rv.length
    refine call_reversed_list p.isList ?_
    have hit:(s1.heap.push (revObj a (((its.toArray).size:Int) - 1))).IsRevIter s1.heap.objs.size a ((xs.length:Int) - 1 - ((0:Nat):Int)):=by
      refine ⟨_,Heap.get?_push_size _ rfl,rfl,?_⟩
      have e1:((its.toArray.size:Nat):Int) - 1=(xs.length:Int) - 1 - ((0:Nat):Int):=by rw [List.size_toArray];omega
      show Data.fields #[.ref a,rawInt ((its.toArray.size:Int) - 1)]=_
      rw [e1]
    have I2:Inv X pins σ H1 {s1 with heap:=s1.heap.push (revObj a (((its.toArray).size:Int) - 1))}:=I1.kept (t':=s1.toks) fun b o e=>Heap.get?_push_of_some _ e
    refine wpAny_pyIter_revIter hit ?_
    refine ⟨s1.heap.objs.size,[s1.heap.objs.size],_,_,H1,rfl,I2,u8 a _ xs,hit,fun b hb=>?_,q⟩
    have e:b=s1.heap.objs.size:=by simpa using hb
    subst e
    have f:=I1.fpOk (H':=H1) (Nat.le_refl _) (I1.hok.fresh (Nat.le_refl _))
    exact f
end
end L2
namespace L2
open PySem PySem.Spec PyProof.Rows
section
variable {prog:Program} {w:World} {A:Around} {R:Result→Shared→Prop} {s:Shared}
theorem nY {elt target iter:Expr} {ifs:List Expr} {scope:Scope} {pos:Pos} {it acc:Value} {env:Env} (I:Nat→Shared→Prop)
    (turn:∀n s,I n s→wpAny (model prog w) A (pyNext it) (fun r s₁=>match r with
      | none=>R (.ok .next) s₁
      | some v=>wpAny (model prog w) A (letOwnedTupleGo target it v) (fun _ s₁'=>wpAny (model prog w) A (assign target env v) (fun _ s₂=>
          wpAny (model prog w) A (forIn ifs true fun c r=>if r=true then do let ok ←isTrue c env (eval c env);pure (ForInStep.yield ok) else pure (ForInStep.yield r)) (fun ok s₃=>
            if ok=true then wpAny (model prog w) A (eval elt env) (fun x s₄=>
              wpAny (model prog w) A (call (.builtin "list.append") [acc,x]) (fun _ s₅=>∃m,m < n∧I m s₅) (fun _ _=>False) s₄) (fun _ _=>False) s₃
            else ∃m,m < n∧I m s₃) (fun _ _=>False) s₂) (fun _ _=>False) s₁') (fun _ _=>False) s₁) (fun _ _=>False) s)
    (n:Nat) (h:I n s):
    codeAny (model prog w) A (.compLoop (.ListComp elt [⟨target,iter,ifs,0⟩] scope pos) 0 it acc env) R s:=by
  refine codeAny_loop rfl I (fun n s hI=>?_) n h
  show wpAny _ A ((compTurn (.ListComp elt [⟨target,iter,ifs,0⟩] scope pos) 0 it acc env).onRaise (fun x=>do noteFrame x env;theTreesLotGoes x)) _ _ s
  refine wpAny_noted ?_
  rw [compTurn_list]
  refine wpAny_bind (wpAny_standAt (wpAny_bind (wpAny_mono (turn n s hI) (fun r s₁ h₁=>?_) fun _ _ h'=>h'.elim)))
  cases r with
  | none=>exact wpAny_pure h₁
  | some v=>
    refine wpAny_bind (wpAny_mono h₁ (fun _ s₁' h₁'=>?_) fun _ _ h'=>h'.elim)
    refine wpAny_bind (wpAny_mono h₁' (fun _ s₂ h₂=>wpAny_bind (wpAny_mono h₂ (fun ok s₃ h₃=>?_) fun _ _ h'=>h'.elim)) fun _ _ h'=>h'.elim)
    cases ok with
    | false=>exact wpAny_pure ⟨rfl,h₃⟩
    | true=>
      exact wpAny_bind (wpAny_bind (wpAny_mono h₃ (fun x s₄ h₄=>wpAny_bind (wpAny_mono h₄ (fun _ s₅ h₅=>wpAny_pure (wpAny_pure ⟨rfl,h₅⟩)) fun _ _ h'=>h'.elim)) fun _ _ h'=>h'.elim))
end
def Cx.comp (X:Cx) (sc:Scope) (cl:List (Str×Addr)) (N:List Str) (C:Addr) (s₀:Shared) (H₀:Hp) (fp:List Addr):Cx:=
  ⟨X.prog,X.w,X.K,X.mg,X.base,X.A,N,s₀,H₀,⟨sc,C,X.env.globals,cl,X.env.qual,none,X.env.code,X.env.frame,X.env.builtins⟩,X.stack,X.stack,fp,fun _=>false,X.calm,[],fun _ _=>False⟩
def C3 (X:Cx) (ifs:List Expr) (t:TT):Prop:=
  ∀(pins:List (Addr×Obj)) (s:Shared) (σ:St) (H:Hp) (Q:Bool→Hp→Prop),Inv X pins σ H s→t σ H Q→
    wpAny (model X.prog X.w) X.A (forIn ifs true fun c r=>if r=true then do let ok ←isTrue c X.env (eval c X.env);pure (ForInStep.yield ok) else pure (ForInStep.yield r)) (TP X pins σ Q) X.xe s
def u9:TT:=fun _ H Q=>Q true H
theorem rH {X:Cx}:C3 X [] u9:=fun _ _ _ H _ I h=>wpAny_tests_nil ⟨H,I,h⟩
def slots (js:List (Option Nat)) (σ:St):St:=js.map fun j=>j.bind fun j=>(σ[j]?).join
def rJ (js:List (Option Nat)) (wi:TI) (g:TG) (tt:TT) (te:TE):TE:=fun σ H Q=>wi σ H fun J H1=>∀l,H1 l=none→∃W:Nat→Nat→St→Hp→Prop,(∃m,W 0 m (slots js σ) (upd H1 l (.lst [])))∧
  ∀i m σ' H',W i m σ' H'→(J.stop i H'∧Q (.ref l) H')∨(J.go i H'∧∃N:St→Hp→Prop,(∀σ' H',N σ' H'→∃m',m' < m∧W (i+1) m' σ' H')∧∀x H2,J.yld i H' x H2→g x σ' H2 fun σ3 H3=>tt σ3 H3 fun b H4=>
    if b=true then te σ3 H4 fun y H5=>∃ys,H5 l=some (.lst ys)∧ys.length < sizeLine∧N σ3 (upd H5 l (.lst (ys++[y]))) else N σ3 H4)
section
variable {X:Cx} {elt target iter:Expr} {ifs:List Expr} {scope sc:Scope} {cl:List (Str×Addr)} {N:List Str} {pos:Pos} {wi:TI} {g:TG} {tt:TT} {te:TE} {js:List (Option Nat)}
structure CompOk (X:Cx) (scope sc:Scope) (cl:List (Str×Addr)) (N:List Str) (js:List (Option Nat)):Prop where
  clos:closureFor scope X.env=pure cl
  rel:relabel scope X.env=sc
  nocell:∀y∈scope.names,y.2≠ .cell
  kind:scope.kind= .function
  names:∀y∈scope.names,y.2= .local→scope.names.lookup y.1=some .local
  same:∀x c,cl.lookup x=some c→X.env.cells.lookup x=some c
  has:∀x,(sc.names.lookup x=some .cell∨sc.names.lookup x=some .free)→∃c,cl.lookup x=some c
  len:js.length=N.length
  from_:∀(i j:Nat),js[i]? =some (some j)→∃x,N[i]? =some x∧X.N[j]? =some x∧(sc.names.lookup x=some .cell∨sc.names.lookup x=some .free)∧(X.env.kindOf x=some .cell∨X.env.kindOf x=some .free)
theorem u_ {use:Option (Value→Sem Unit)} {Qv:Value→Shared→Prop} (K:CompOk X scope sc cl N js) (hc:X.calm=true) (hi:PI X target iter wi)
    (hgg:∀C s₀ H₀ fp,PG (X.comp sc cl N C s₀ H₀ fp) target g) (htt:∀C s₀ H₀ fp,C3 (X.comp sc cl N C s₀ H₀ fp) ifs tt) (hee:∀C s₀ H₀ fp,PE (X.comp sc cl N C s₀ H₀ fp) elt te)
    (hs:∀x,foldedSetIterable iter X.env x=pure x) (pins:List (Addr×Obj)) (s:Shared) (σ:St) (H:Hp) (Q:VK) (I:Inv X pins σ H s) (h:rJ js wi g tt te σ H Q)
    (hend:∀(D C:Addr) (H4:Hp) (s5:Shared) (m:Str→Option Value),Inv X pins σ H4 s5→s5.heap.Ns C m→H4 C=none→C≠X.env.locals→C∉X.fs→X.s₀.heap.objs.size≤C→(∀x c,X.env.cells.lookup x=some c→c≠C)→(∀p∈X.pn++pins,p.1≠C)→Q (.ref D) H4→
      compPost (model X.prog X.w) X.A X.xe use Qv (.ref D) C (.ok .next) s5):
    wpAny (model X.prog X.w) X.A (comprehension (.ListComp elt [⟨target,iter,ifs,0⟩] scope pos) scope X.env (firstIterPos [⟨target,iter,ifs,0⟩] pos) (newList []) false (firstIter [⟨target,iter,ifs,0⟩] X.env) use) Qv X.xe s:=by
  refine wpAny_comprehension_free (use:=use) rfl hs K.clos K.kind K.names (cE (hi pins s σ H _ I h) fun v s1 h1=>cE h1 fun itv s2 h2=>?_)
  obtain ⟨it,fp,tn,J,H2,e,I2,T,st2,f2,R⟩:=h2
  subst e
  refine wpAny_newObj_type (wpAny_newFunctionEnv K.nocell (by intro y hy;simp at hy) (fun h₁ hns₁ hsb₁=>?_) K.kind)
  dsimp only at hns₁ hsb₁ ⊢
  have I3:Inv X pins σ (upd H2 s2.heap.objs.size (.lst [])) {s2 with heap:=s2.heap.push {cls:= .type "list",dict:=none,data:= .seq ([]:List Value).toArray}}:=
    I2.lnew (t':=s2.toks) (its:=[]) .nil (Nat.zero_le _)
  obtain ⟨W,⟨m0,w0⟩,turn⟩:=R s2.heap.objs.size (I2.hok.fresh (Nat.le_refl _))
  generalize hP:s2.heap.push {cls:= .type "list",dict:=none,data:= .seq ([]:List Value).toArray}=h3 at hns₁ hsb₁ I3 ⊢
  generalize hD:s2.heap.objs.size=D at w0 turn I3 ⊢
  have hsz3:h3.objs.size=D+1:=by rw [←hP,Heap.size_push,hD]
  have old3:∀b o,s2.heap.get? b=some o→h3.get? b=some o:=fun b o e=>by rw [←hP];exact Heap.get?_push_of_some _ e
  have old:∀b o,h3.get? b=some o→h₁.get? b=some o:=fun b o e=>hsb₁.extBut b o (Nat.ne_of_lt (Heap.lt_size e)) (Heap.get?_push_of_some _ e)
  have fpD:∀b∈fp,b < D:=fun b hb=>by
    obtain ⟨o,e,_⟩:=T.obj _ _ st2 b hb
    rw [←hD];exact Heap.lt_size e
  have frD:∀b∈fp,(upd H2 D (.lst [])) b=none:=fun b hb=>by rw [av (Nat.ne_of_lt (fpD b hb))];exact (f2 b hb).1
  have f3:∀b∈fp,mf X pins (upd H2 D (.lst [])) b:=fun b hb=>⟨frD b hb,(f2 b hb).2⟩
  have Hfresh:∀a,h3.objs.size≤a→(upd H2 D (.lst [])) a=none:=fun a ha=>I3.hok.fresh ha
  have cellC:∀x c,X.env.cells.lookup x=some c→c < h3.objs.size:=fun x c e=>by
    obtain ⟨v,q⟩:=I3.cell x c e
    exact q.lt
  have YOk:(X.comp sc cl N h3.objs.size {s2 with heap:=h3} (upd H2 D (.lst [])) fp).Ok:=by
    refine ⟨I3.ok.mod,?_,I3.ok.glob,I3.ok.blt,Nat.le_refl _,fun x y c e1 e2=>I3.ok.inj x y c (K.same x c e1) (K.same y c e2),fun x hx=>K.has x hx,fun x c hf _=>absurd hf (by intro z;cases z),I3.ok.hd,I3.ok.frames, .inl rfl,fun b hb=>⟨?_,fun x c e=>(f2 b hb).2.2.2.2.1 x c (K.same x c e)⟩,
      I3.bs,Nat.le_trans I3.ok.bsz I3.sz,fun b o e hb=>?_,fun b hb hm=>?_,I3.stack,I3.stkFree,I3.tab⟩
    · rw [←K.rel];exact K.kind
    · exact Nat.ne_of_lt (by rw [hsz3];exact Nat.lt_succ_of_lt (fpD b hb))
    · rcases (f2 b hb).2.2.2.1 with z | z
      · exact I3.ok.noex b o e z
      · exact absurd (Nat.lt_of_lt_of_le (Heap.lt_size (I3.ok.bs b o e).1) z) (Nat.lt_irrefl _)
    · rcases List.mem_cons.mp (I3.stkSub b hm) with z | z
      · exact (f2 b hb).2.1 z
      · exact (f2 b hb).2.2.1 z
  have IY:Inv (X.comp sc cl N h3.objs.size {s2 with heap:=h3} (upd H2 D (.lst [])) fp) [] (slots js σ) (upd H2 D (.lst [])) {s2 with heap:=h₁,toks:=s2.toks+([]:List (Str×Value)).length}:=by
    refine ⟨YOk,rfl,I3.bare,Un.kept old,⟨_,hns₁,fun i x v e1 e2 e3=>?_⟩,fun x c e=>?_,Hfresh _ (Nat.le_refl _),fun x c e=>I3.freeC x c (K.same x c e),fun p hp=>absurd (show p∈([]:List (Addr×Obj)) from hp) (by simp),I3.hok.kept old,?_⟩
    · unfold slots at e2
      rw [List.getElem?_map] at e2
      cases ej:js[i]? with
      | none=>rw [ej] at e2;cases e2
      | some jo=>
        rw [ej] at e2
        cases jo with
        | none=>cases e2
        | some j=>
          obtain ⟨y,n1,n2,k1,k2⟩:=K.from_ i j ej
          have exy:y=x:=Option.some.inj (n1.symm.trans e1)
          subst exy
          have e2':(σ[j]?).join=some v:=Option.some.inj e2
          have e4:σ[j]? =some (some v):=by
            cases es:σ[j]? with
            | none=>rw [es] at e2';cases e2'
            | some w=>rw [es] at e2';exact congrArg some e2'
          obtain ⟨m,_,hl⟩:=I3.loc
          obtain ⟨u,ru,lk⟩:=hl j y v n2 e4 (by
            rcases k2 with z | z
            · exact .inr (.inl z)
            · exact .inr (.inr z))
          refine ⟨u,ru, .inr ⟨k1,?_⟩⟩
          obtain ⟨c,hcl⟩:=K.has y k1
          refine ⟨c,hcl,?_⟩
          rcases lk with ⟨z,_⟩ | ⟨_,c',e5,ic⟩
          · rcases k2 with q | q
            · rw [q] at z;cases z
            · rw [q] at z;cases z
          · have:c'=c:=Option.some.inj (e5.symm.trans (K.same y c hcl))
            subst this
            obtain ⟨o,ho,hd⟩:=ic
            exact ⟨o,old _ _ ho,hd⟩
    · obtain ⟨v,o,ho,hd⟩:=I3.cell x c (K.same x c e)
      exact ⟨v,o,old _ _ ho,hd⟩
    · unfold slots;rw [List.length_map];exact K.len
  have loop:∀s₃:Shared,s₃={s2 with heap:=h₁,toks:=s2.toks+([]:List (Str×Value)).length}→
      codeAny (model X.prog X.w) X.A (.compLoop (.ListComp elt [⟨target,iter,ifs,0⟩] scope pos) 0 (.ref it) (.ref D) (X.comp sc cl N h3.objs.size {s2 with heap:=h3} (upd H2 D (.lst [])) fp).env)
        (compPost (model X.prog X.w) X.A X.xe use Qv (.ref D) h3.objs.size) s₃:=by
    rintro s₃ rfl
    refine nY (fun n s'=>∃i σ' H',Inv (X.comp sc cl N h3.objs.size {s2 with heap:=h3} (upd H2 D (.lst [])) fp) [] σ' H' s'∧tn i s'.heap∧(∀b∈fp,H' b=none)∧W i n σ' H') ?_ m0
      ⟨0,_,_,IY,T.keep _ _ _ st2 (fun b hb o e=>old b o (old3 b o e)),frD,w0⟩
    rintro n s4 ⟨i,σ4,H4,I4,st4,fr4,w4⟩
    have ff:∀{H':Hp},(∀b∈fp,H' b=none)→∀b∈fp,mf (X.comp sc cl N h3.objs.size {s2 with heap:=h3} (upd H2 D (.lst [])) fp) [] H' b:=fun hn b hb=>
      ⟨hn b hb,(YOk.exf b hb).1,YOk.exfs b hb, .inl hb,(YOk.exf b hb).2,fun p hp=>absurd (show p∈([]:List (Addr×Obj)) from hp) (by simp)⟩
    have hg:=hgg h3.objs.size {s2 with heap:=h3} (upd H2 D (.lst [])) fp
    have ht:=htt h3.objs.size {s2 with heap:=h3} (upd H2 D (.lst [])) fp
    have he:=hee h3.objs.size {s2 with heap:=h3} (upd H2 D (.lst [])) fp
    rcases turn i n σ4 H4 w4 with ⟨stop,qn⟩ | ⟨go,Nx,hN,step⟩
    · refine cE (T.done (X.comp sc cl N h3.objs.size {s2 with heap:=h3} (upd H2 D (.lst [])) fp) rfl rfl rfl hc i [] s4 σ4 H4 _ I4 (ff fr4) st4 stop) fun r s5 ⟨hr,I5⟩=>?_
      subst hr
      obtain ⟨m,hn,_⟩:=I5.loc
      have IX:Inv X pins σ H4 s5:=I3.call' (ch:=fp) I5.os I5.base I5.hok I5.bare fun b hb=>⟨(f3 b hb).2.2.2.1,(f3 b hb).2.1,(f3 b hb).2.2.2.2.1,(f3 b hb).2.2.2.2.2⟩
      exact hend D h3.objs.size H4 s5 m IX hn I5.free (Ne.symm (Nat.ne_of_lt I3.lt)) (I3.nofs (Nat.le_refl _)) I3.sz (fun x c e=>Nat.ne_of_lt (cellC x c e)) (fun p hp=>Nat.ne_of_lt (Heap.lt_size (I3.pin p hp).1)) qn
    · refine cE (T.item (X.comp sc cl N h3.objs.size {s2 with heap:=h3} (upd H2 D (.lst [])) fp) rfl rfl rfl hc i [] s4 σ4 H4 _ I4 (ff fr4) st4 go) fun r s5 ⟨u,hr,h5⟩=>?_
      subst hr
      refine cE h5 fun _ s6 ⟨x,H6,I6,r6,y6,st6,fr6⟩=>?_
      have I6':=I6.pinned (ff fr6) (T.obj _ _ st6)
      have back:∀{σ7:St} {H7:Hp} {s7:Shared},Inv (X.comp sc cl N h3.objs.size {s2 with heap:=h3} (upd H2 D (.lst [])) fp) ([]++kX fp s6.heap) σ7 H7 s7→
          Inv (X.comp sc cl N h3.objs.size {s2 with heap:=h3} (upd H2 D (.lst [])) fp) [] σ7 H7 s7∧tn (i+1) s7.heap∧∀b∈fp,H7 b=none:=fun {σ7 H7 s7} I7=>
        ⟨I7.unpinned,T.keep _ _ _ st6 fun b hb o e=>(I7.pin (b,o) (List.mem_append_right _ (List.mem_append_right _ (gQ hb e)))).1,fun b hb=>by
          obtain ⟨o,e,d⟩:=T.obj _ _ st6 b hb
          exact (I7.pin (b,o) (List.mem_append_right _ (List.mem_append_right _ (gQ hb e)))).2.1⟩
      refine cE (hg _ s6 σ4 H6 x u _ I6' r6 (step x H6 y6)) fun _ s7 ⟨σ7,H7,I7,q7⟩=>?_
      refine cE (ht _ s7 σ7 H7 _ I7 q7) fun b s8 ⟨H8,I8,q8⟩=>?_
      cases b with
      | false=>
        obtain ⟨m',hm,w8⟩:=hN σ7 H8 q8
        obtain ⟨J1,J2,J3⟩:=back I8
        exact ⟨m',hm,i+1,σ7,H8,J1,J2,J3,w8⟩
      | true=>
        refine cE (he _ s8 σ7 H8 _ I8 q8) fun yv s9 ⟨y,H9,I9,r9,ys,hl,hz,n9⟩=>?_
        obtain ⟨m',hm,w9⟩:=hN _ _ n9
        refine cE (nr _ s9 σ7 H9 (.ref D) [y] (.ref D) [yv] (fun v H'=>v= .non∧H'=upd H9 D (.lst (ys++[y]))) I9 rfl (.cons r9 .nil) ⟨D,ys,y,rfl,rfl,hl,hz,rfl,rfl⟩) fun _ sA ⟨_,HA,IA,_,_,eA⟩=>?_
        subst eA
        obtain ⟨J1,J2,J3⟩:=back IA
        exact ⟨m',hm,i+1,σ7,_,J1,J2,J3,w9⟩
  rw [K.rel]
  exact codeAny_compStart_list (loop _ rfl) (T.self _ 0 _ _ _ (T.keep _ _ _ st2 (fun b hb o e=>old b o (old3 b o e))) (loop _ rfl))
theorem rK (K:CompOk X scope sc cl N js) (hc:X.calm=true) (hi:PI X target iter wi)
    (hgg:∀C s₀ H₀ fp,PG (X.comp sc cl N C s₀ H₀ fp) target g) (htt:∀C s₀ H₀ fp,C3 (X.comp sc cl N C s₀ H₀ fp) ifs tt) (hee:∀C s₀ H₀ fp,PE (X.comp sc cl N C s₀ H₀ fp) elt te)
    (hs:∀x,foldedSetIterable iter X.env x=pure x:=by intro _;rfl):PE X (.ListComp elt [⟨target,iter,ifs,0⟩] scope pos) (rJ js wi g tt te):=by
  intro pins s σ H Q I h
  rw [eval_ListComp]
  refine u_ (use:=none) K hc hi hgg htt hee hs pins s σ H Q I h fun D C H4 s5 m IX hn fC nL _ sz nc np qn=>?_
  exact ⟨m,hn,fun h' hs'=>⟨.ref D,H4,IX.turned (t':=s5.toks) (it:=C) (fun b o hb e=>(hs'.2 b hb).trans e) fC nL (.inr sz) nc np,rfl,qn⟩⟩
end
end L2
namespace L2
open PySem PySem.Spec PyProof.Rows
theorem gS {X:Cx} {scope:Scope} {N:List Str} {js:List (Option Nat)} (hf:∀x∈scope.names,x.2≠ .free:=by decide+kernel) (hcell:∀x∈scope.names,x.2≠ .cell:=by decide+kernel)
    (hk:scope.kind= .function:=by rfl) (hn:∀y∈scope.names,y.2= .local→scope.names.lookup y.1=some .local:=by decide+kernel) (hl:js.length=N.length:=by rfl) (hj:∀j∈js,j=none:=by decide):CompOk X scope scope [] N js where
  clos:=closureFor_none hf
  rel:=by
    unfold relabel
    have e:(scope.names.map fun (x:Str×NameKind)=>match x with | (n,k)=>if (k == .free&&X.env.scope.kind == .function&&X.env.kindOf n == some .cell) then (n,NameKind.cell) else (n,k))=scope.names:=by
      refine map_eq_self fun x hx=>?_
      obtain ⟨n,k⟩:=x
      have:(k == NameKind.free)=false:=by simpa using hf _ hx
      simp [this]
    rw [e]
  nocell:=hcell
  kind:=hk
  names:=hn
  same:=fun x c e=>by simp at e
  has:=fun x h=>by
    rcases h with h | h
    · exact absurd rfl (hcell _ (PySem.mem_of_lookup h))
    · exact absurd rfl (hf _ (PySem.mem_of_lookup h))
  len:=hl
  from_:=fun i j h=>by
    have:=hj _ (List.mem_of_getElem? h)
    cases this
theorem xo {σ:St} {H:Hp} {A B:Bool→Hp→Prop} (h:A true H):u9 σ H (fun b H4=>if b=true then A b H4 else B b H4):=by
  show (if true=true then A true H else B true H)
  rw [if_pos rfl]
  exact h
theorem sW {i:Nat} {x:V} {σ:St} {H:Hp} {A B:St→Bool→Hp→Prop} (h:A (σ.set i (some x)) true H):o9 i x σ H (fun σ3 H3=>u9 σ3 H3 fun b H4=>if b=true then A σ3 b H4 else B σ3 b H4):=
  xo (σ:=σ.set i (some x)) (A:=A (σ.set i (some x))) (B:=B (σ.set i (some x))) h
structure Own (P:Program) (w:World) (K:PySem.W.Frag) (mg:Str→Option Value) (base:Heap) (k:Nat) (x:Str) (ps:List Str) (sp:Sp):Prop where
  ex:∃(f:Addr) (fd:FuncData),FnOk P w K mg base iu k f fd ps sp∧Binds K fd ps []∧mg x=some (.ref f)∧PySem.W.keepIn K (.ref f)=true
theorem va {X:Cx} {k:Nat} {x:Str} {ps:List Str} {sp:Sp} {p pos:Pos} {e:Expr} {es:List Expr} {t:TA} (D:Own X.prog X.w X.K X.mg X.base k x ps sp) (hr:Room k X.A) (hg:Gl X x) (ha:PA X (e::es) t)
    (hdb:(x == ("__debug__":Str))=false:=by decide) (he:starEach (e::es) X.env=(false,eval e X.env)::starEach es X.env:=by rfl) (hpl:(backTo pos (starEach es X.env)).any (·.1)=false:=by rfl):
    PE X (.Call (.Name x p) (e::es) [] pos) (uW sp [] E0 t):=by
  obtain ⟨f,fd,F,b,m,kp⟩:=D.ex
  exact xa F hr hg m kp b .nil rE ha hdb he hpl
structure Def (K:PySem.W.Frag) (mg:Str→Option Value) (x:Str) (st:Stmt) (ps:List Str):Prop where
  ex:∃(f:Addr) (fd:FuncData),Fun K x x st f fd∧mg x=some (.ref f)∧Binds K fd ps []
theorem Def.own {P:Program} {w:World} {K:PySem.W.Frag} {mg:Str→Option Value} {base:Heap} {x:Str} {st:Stmt} {N ps:List Str} {k:Nat} {sp:Sp} (D:Def K mg x st ps) (S:FnScope N ps (ai st))
    (len:∀vs H Q E,sp vs H Q E→vs.length=ps.length)
    (hbody:∀(f:Addr) (cdv:Value) (A:Around) (outer:List Env) (s:Shared) (H:Hp) (vs:List V) (Q:VK) (E:XK),Room k (A.deeper (envOfC x (ai st) s.heap.objs.size f cdv))→sp vs H Q E→
      ∃t,PSs (gR iu P w K mg base N x (ai st) f cdv A outer s H E).nox (bE st) t∧t {nx:=fun _ H'=>Q .non H',rt:=Q} (cy N vs) H):Own P w K mg base (k+1) x ps sp:=by
  obtain ⟨f,fd,F,m,b⟩:=D.ex
  exact ⟨f,fd,F.ok S len (hbody f),b,m,F.kp⟩
theorem zO {K:PySem.W.Frag} {h:Heap} {mg:Str→Option Value} {x:Str} {st:Stmt} {ps:List Str} {f:Addr} {oc:Value} {od an:Option Addr} {osl:Array (Option Value)} {kV doc pm cdv ct:Value} (X:K.In h) (G:h.Ns mainGlobals mg)
    (a:PySem.W.nsIn K mainGlobals x=some (some (.ref f))) (l:K.lookup f=some ⟨oc,od, .func (PySem.W.fnOf x x (cJ st) (bE st) (ai st) .none kV doc pm an cdv ct),osl⟩)
    (c:PySem.W.codeIn K cdv x=true) (k:PySem.W.keepIn K (.ref f)=true)
    (b:∀(kV doc pm:Value) (an:Option Addr) (cdv ct:Value) (us:List Value),us.length=ps.length→bindArgs (PySem.W.fnOf x x (cJ st) (bE st) (ai st) .none kV doc pm an cdv ct) ⟨us,[]⟩=pure (ps.zip us)):Def K mg x st ps:=
  ⟨f,_,jY l c k,PySem.W.mg_of X G a,(jY (st:=st) l c k).binds b⟩
end L2
namespace Nh
open PySem L2
section
variable {α β:Type} {F:α→β→Prop}
theorem iS:∀{a:List α} {b:List β} {c:List α} {d:List β},Paired F a b→Paired F c d→Paired F (a++c) (b++d)
  | _,_,_,_, .nil,s=>s
  | _,_,_,_, .cons r t,s=> .cons r (iS t s)
theorem rL:∀{a:List α} {b:List β} (n:Nat),Paired F a b→Paired F (a.take n) (b.take n)
  | _,_,0,_=> .nil
  | _,_,_+1, .nil=> .nil
  | _,_,n+1, .cons r t=> .cons r (rL n t)
theorem rM:∀{a:List α} {b:List β} (n:Nat),Paired F a b→Paired F (a.drop n) (b.drop n)
  | _,_,0,r=>r
  | _,_,_+1, .nil=> .nil
  | _,_,n+1, .cons _ t=>rM n t
theorem i_:∀{a:List α} {b:List β},Paired F a b→Paired F a.reverse b.reverse
  | _,_, .nil=> .nil
  | _,_, .cons r t=>by
    rw [List.reverse_cons,List.reverse_cons]
    exact iS (i_ t) (.cons r .nil)
theorem vb:∀{a:List α} {b:List β} {i:Nat} {x:α},Paired F a b→a[i]? =some x→∃y,b[i]? =some y∧F x y
  | _,_,_,_, .nil,e=>by simp at e
  | _,_,0,_, .cons r _,e=>by simp at e;subst e;exact ⟨_,rfl,r⟩
  | _,_,i+1,x, .cons _ t,e=>by
    obtain ⟨u,h1,h2⟩:=vb (i:=i) (x:=x) t (by simpa using e)
    exact ⟨u,by simpa using h1,h2⟩
theorem rN:∀{a:List α} {b:List β} {i:Nat} {y:β},Paired F a b→b[i]? =some y→∃x,a[i]? =some x∧F x y
  | _,_,_,_, .nil,e=>by simp at e
  | _,_,0,_, .cons r _,e=>by simp at e;subst e;exact ⟨_,rfl,r⟩
  | _,_,i+1,x, .cons _ t,e=>by
    obtain ⟨u,h1,h2⟩:=rN (i:=i) (y:=x) t (by simpa using e)
    exact ⟨u,by simpa using h1,h2⟩
theorem vd {a:List α} {b:List β} (h:Paired F a b):∀k:Nat,Paired F (List.replicate k a).flatten (List.replicate k b).flatten
  | 0=> .nil
  | k+1=>by
    rw [List.replicate_succ,List.replicate_succ,List.flatten_cons,List.flatten_cons]
    exact iS h (vd h k)
end
abbrev Pc:=Nat×Int
def tv (p:Pc):List V:=[.str ⟨#[p.1]⟩, .int p.2]
def C4 (H:Hp) (v:V) (p:Pc):Prop:=∃t,v= .ref t∧H t=some (.tup (tv p))
abbrev PAll (H:Hp):List V→List Pc→Prop:=Paired (C4 H)
section
variable {H H':Hp} {l:Addr} {xs ys:List V} {c:List Pc}
theorem PAll.same (s:Same H H') (h:PAll H xs c):PAll H' xs c:=Paired.mapP h fun _ _ ⟨t,e,q⟩=>⟨t,e,s _ _ q⟩
theorem PAll.len (h:PAll H xs c):xs.length=c.length:=Paired.length h
end
def Cord (H:Hp) (a:Addr) (c:List Pc):Prop:=∃xs,H a=some (.lst xs)∧PAll H xs c
section
variable {H H':Hp} {a:Addr} {c d:List Pc}
theorem Cord.same (s:Same H H') (h:Cord H a c):Cord H' a c:=let ⟨xs,e,p⟩:=h;⟨xs,s _ _ e,p.same s⟩
end
def bh (p:Pc):PyData:= .tuple [.str ⟨#[p.1]⟩, .int p.2]
def Bz (c:List Pc):PyData:= .list (c.map bh)
def NailsOk (c:List Pc):Prop:=∀p∈c,p.1 < 128
theorem nu {K:PySem.W.Frag} {H:Hp}:∀{xs:List V} {c:List Pc},PAll H xs c→DAll K H xs (c.map bh)
  | _,_, .nil=> .nil
  | _,_, .cons ⟨t,e,q⟩ r=>by
    subst e
    exact .cons (.tup (SqT.of q) (.cons (.str _) (.cons (.int _) .nil))) (nu r)
theorem Cord.data {K:PySem.W.Frag} {H:Hp} {a:Addr} {c:List Pc} (h:Cord H a c):DOf K H (.ref a) (Bz c):=
  let ⟨_,e,p⟩:=h; .lst (SqL.of e) (nu p)
theorem BA {p:Pc} (h:p.1 < 128):(bh p).canLay0=true:=by
  have:p.1 < 1114112:=by omega
  simp [bh,PyData.canLay0,PyData.canLayAll0,PyData.strOk,this]
theorem zP (p q:Pc):PyData.eqv (bh p) (bh q)=decide (p=q):=by
  obtain ⟨n,a⟩:=p
  obtain ⟨m,b⟩:=q
  simp only [bh,PyData.eqv,PyData.eqvAll,Bool.and_true]
  rw [Bool.eq_iff_iff]
  simp
end Nh
namespace PL
open PySem PySem.Spec PyProof.Rows L2 Nh
def C5:eP→PyData
  | .inl i=> .int i
  | .inr x=> .str x
def fv (a C:Addr):Heap→Prop:=fun h=>∃o,h.get? a=some o∧o.cls= .ref C
def kl:List Str:=["pieces","cord","made","text"]
def sX:PyData×PyData→Bool
  | (.none, .tuple [.str _])=>true
  | _=>false
abbrev eO (cn:Str) (kvs:List (PyData×PyData)):PyData:= .dict ((.none, .tuple [.str cn])::kvs)
mutual
inductive Rp (K:PySem.W.Frag) (H:Hp):V→PyData→Prop
  | non:Rp K H .non .none
  | bl (b:Bool):Rp K H (.bl b) (.bool b)
  | int (i:Int):Rp K H (.int i) (.int i)
  | str (x:Str):Rp K H (.str x) (.str x)
  | lst {a:Addr} {xs:List V} {ds:List PyData}:SqL K H a xs→RpA K H xs ds→Rp K H (.ref a) (.list ds)
  | tup {a:Addr} {xs:List V} {ds:List PyData}:SqT K H a xs→RpA K H xs ds→Rp K H (.ref a) (.tuple ds)
  | dct {a:Addr} {us:List (eP×V)} {kvs:List (PyData×PyData)}:Rd H a (.dK us)→RpK K H us kvs→Rp K H (.ref a) (.dict kvs)
  | obj {a C dx:Addr} {cn:Str} {fs:List (Str×V)} {kvs:List (PyData×PyData)}:PySem.W.nsIn K mainGlobals cn=some (some (.ref C))→H a=some (.ins C dx fs)→(∀m∈kl,fs.lookup m=none)→RpN K H fs kvs→Rp K H (.ref a) (.dict ((.none, .tuple [.str cn])::kvs))
  | exc {a C:Addr} {n:Str} {o:Obj}:H a=some (.frz o (.ext (fv a C)))→PySem.W.nsIn K mainGlobals n=some (some (.ref C))→Rp K H (.ref a) (.dict [(.none, .str n)])
inductive RpA (K:PySem.W.Frag) (H:Hp):List V→List PyData→Prop
  | nil:RpA K H [] []
  | cons {x:V} {xs:List V} {d:PyData} {ds:List PyData}:Rp K H x d→RpA K H xs ds→RpA K H (x::xs) (d::ds)
inductive RpK (K:PySem.W.Frag) (H:Hp):List (eP×V)→List (PyData×PyData)→Prop
  | nil:RpK K H [] []
  | cons {k:eP} {x:V} {us:List (eP×V)} {d:PyData} {kvs:List (PyData×PyData)}:Rp K H x d→RpK K H us kvs→RpK K H ((k,x)::us) ((C5 k,d)::kvs)
inductive RpN (K:PySem.W.Frag) (H:Hp):List (Str×V)→List (PyData×PyData)→Prop
  | nil {fs:List (Str×V)}:RpN K H fs []
  | cons {fs:List (Str×V)} {f:Str} {x:V} {d:PyData} {kvs:List (PyData×PyData)}:fs.lookup f=some x→Rp K H x d→RpN K H fs kvs→RpN K H fs ((.str f,d)::kvs)
end
mutual
def aN:PyData→Bool
  | .none=>true
  | .bool _=>true
  | .int _=>true
  | .str _=>true
  | .list _=>false
  | .tuple xs=>a_ xs
  | .dict kvs=>nv kvs
def a_:List PyData→Bool
  | []=>true
  | d::ds=>aN d&&a_ ds
def ph:PyData×PyData→Bool
  | (_,d)=>aN d
def lf:List (PyData×PyData)→Bool
  | []=>true
  | p::r=>ph p&&lf r
def nv:List (PyData×PyData)→Bool
  | []=>false
  | p::r=>sX p&&lf r
end
def yJ:HO→Bool
  | .tup _=>true
  | .frz _ _=>true
  | .ins _ _ _=>true
  | _=>false
def tups (H:Hp):Hp:=fun b=>(H b).filter yJ
theorem jZ (H:Hp):Same (tups H) H:=fun b o h=>(Option.filter_eq_some_iff.mp h).1
theorem fA {H:Hp} {b:Addr} {o:HO} (h:H b=some o) (c:yJ o=true):tups H b=some o:=Option.filter_eq_some_iff.mpr ⟨h,c⟩
theorem lh {H:Hp} {l:Addr} {xs ys:List V} (h:H l=some (.lst xs)):tups (upd H l (.lst ys))=tups H:=by
  funext b
  unfold tups
  by_cases e:b=l
  · subst e
    rw [upd_same,h]
    rfl
  · rw [av e]
section
variable {K:PySem.W.Frag} {H H':Hp}
theorem RpK.hot {us:List (eP×V)} {kvs:List (PyData×PyData)} (h:RpK K H us kvs):aN (.dict kvs)=false:=by
  cases h with
  | nil=>rfl
  | @cons k x us d kvs a b=>cases k <;> rfl
theorem ve {a:Addr} {xs:List V} (h:SqT K H a xs):SqT K (tups H) a xs:=by
  rcases h with (h | ⟨o,h⟩) | h
  · exact .inl (.inl (fA h rfl))
  · exact .inl (.inr ⟨o,fA h rfl⟩)
  · exact .inr h
theorem xp {a:Addr} {u:HO} (s:Same H H') (h:Rd H a u):Rd H' a u:=by
  rcases h with h | ⟨o,h⟩
  · exact .inl (s _ _ h)
  · exact .inr ⟨o,s _ _ h⟩
mutual
theorem Rp.same (s:Same H H'):∀{v:V} {d:PyData},Rp K H v d→Rp K H' v d
  | _,_, .non=> .non
  | _,_, .bl b=> .bl b
  | _,_, .int i=> .int i
  | _,_, .str x=> .str x
  | _,_, .lst h r=> .lst (s.seq h) (RpA.same s r)
  | _,_, .tup h r=> .tup (s.tup h) (RpA.same s r)
  | _,_, .dct h r=> .dct (xp s h) (RpK.same s r)
  | _,_, .obj c h n r=> .obj c (s _ _ h) n (RpN.same s r)
  | _,_, .exc h r=> .exc (s _ _ h) r
theorem RpA.same (s:Same H H'):∀{v:List V} {d:List PyData},RpA K H v d→RpA K H' v d
  | _,_, .nil=> .nil
  | _,_, .cons h r=> .cons (Rp.same s h) (RpA.same s r)
theorem RpK.same (s:Same H H'):∀{v:List (eP×V)} {d:List (PyData×PyData)},RpK K H v d→RpK K H' v d
  | _,_, .nil=> .nil
  | _,_, .cons h r=> .cons (Rp.same s h) (RpK.same s r)
theorem RpN.same (s:Same H H'):∀{v:List (Str×V)} {d:List (PyData×PyData)},RpN K H v d→RpN K H' v d
  | _,_, .nil=> .nil
  | _,_, .cons l h r=> .cons l (Rp.same s h) (RpN.same s r)
end
mutual
theorem Rp.cold:∀{v:V} {d:PyData},Rp K H v d→aN d=true→Rp K (tups H) v d
  | _,_, .non,_=> .non
  | _,_, .bl b,_=> .bl b
  | _,_, .int i,_=> .int i
  | _,_, .str x,_=> .str x
  | _,_, .lst h r,e=>by simp [aN] at e
  | _,_, .dct h r,e=>by rw [r.hot] at e;cases e
  | _,_, .obj c h n r,e=> .obj c (fA h rfl) n (RpN.cold r (by simpa [aN,nv,sX] using e))
  | _,_, .exc h r,e=>by simp [aN,nv,sX] at e
  | _,_, .tup h r,e=> .tup (ve h) (RpA.cold r (by simpa [aN] using e))
theorem RpA.cold:∀{v:List V} {d:List PyData},RpA K H v d→a_ d=true→RpA K (tups H) v d
  | _,_, .nil,_=> .nil
  | _,_, .cons h r,e=>by
    simp only [a_,Bool.and_eq_true] at e
    exact .cons (Rp.cold h e.1) (RpA.cold r e.2)
theorem RpN.cold:∀{v:List (Str×V)} {d:List (PyData×PyData)},RpN K H v d→lf d=true→RpN K (tups H) v d
  | _,_, .nil,_=> .nil
  | _,_, .cons l h r,e=>by
    simp only [lf,ph,Bool.and_eq_true] at e
    exact .cons l (Rp.cold h e.1) (RpN.cold r e.2)
end
mutual
theorem Rp.dof':∀{v:V} {d:PyData},Rp K H v d→d.canLay0=true→DOf K H v d
  | _,_, .non,_=> .non
  | _,_, .bl b,_=> .bl b
  | _,_, .int i,_=> .int i
  | _,_, .str x,_=> .str x
  | _,_, .lst h r,e=> .lst h (RpA.dof' r (by simpa [PyData.canLay0] using e))
  | _,_, .tup h r,e=> .tup h (RpA.dof' r (by simpa [PyData.canLay0] using e))
  | _,_, .dct h r,e=>by simp [PyData.canLay0] at e
  | _,_, .obj c h n r,e=>by simp [PyData.canLay0] at e
  | _,_, .exc h r,e=>by simp [PyData.canLay0] at e
theorem RpA.dof':∀{v:List V} {d:List PyData},RpA K H v d→PyData.canLayAll0 d=true→DAll K H v d
  | _,_, .nil,_=> .nil
  | _,_, .cons h r,e=>by
    simp only [PyData.canLayAll0,Bool.and_eq_true] at e
    exact .cons (Rp.dof' h e.1) (RpA.dof' r e.2)
end
theorem Rp.dof {v:V} {d:PyData} (h:Rp K H v d) (e:SeqAt.shaped d=true):DOf K H v d:=h.dof' (SeqAt.canLay_of_shaped e)
theorem RpA.pr:∀{vs:List V} {ds:List PyData},RpA K H vs ds→Paired (Rp K H) vs ds
  | _,_, .nil=> .nil
  | _,_, .cons h r=> .cons h (RpA.pr r)
theorem RpA.of {vs:List V} {ds:List PyData} (h:Paired (Rp K H) vs ds):RpA K H vs ds:=by
  induction h with
  | nil=>exact .nil
  | cons a _ b=>exact .cons a b
theorem RpA.len {vs:List V} {ds:List PyData} (h:RpA K H vs ds):vs.length=ds.length:=Paired.length h.pr
theorem RpA.append {vs us:List V} {ds es:List PyData} (h:RpA K H vs ds) (k:RpA K H us es):RpA K H (vs++us) (ds++es):= .of (iS h.pr k.pr)
theorem RpA.take {vs:List V} {ds:List PyData} (n:Nat) (h:RpA K H vs ds):RpA K H (vs.take n) (ds.take n):= .of (rL n h.pr)
theorem RpA.drop {vs:List V} {ds:List PyData} (n:Nat) (h:RpA K H vs ds):RpA K H (vs.drop n) (ds.drop n):= .of (rM n h.pr)
theorem RpA.rev {vs:List V} {ds:List PyData} (h:RpA K H vs ds):RpA K H vs.reverse ds.reverse:= .of (i_ h.pr)
theorem RpA.rep {vs:List V} {ds:List PyData} (n:Nat) (h:RpA K H vs ds):RpA K H (List.replicate n vs).flatten (List.replicate n ds).flatten:= .of (vd h.pr n)
theorem RpA.get {vs:List V} {ds:List PyData} {i:Nat} {d:PyData} (h:RpA K H vs ds) (e:ds[i]? =some d):∃v,vs[i]? =some v∧Rp K H v d:=rN h.pr e
theorem RpA.getV {vs:List V} {ds:List PyData} {i:Nat} {v:V} (h:RpA K H vs ds) (e:vs[i]? =some v):∃d,ds[i]? =some d∧Rp K H v d:=vb h.pr e
theorem RpA.set:∀{vs:List V} {ds:List PyData} {v:V} {d:PyData} (i:Nat),RpA K H vs ds→Rp K H v d→RpA K H (vs.set i v) (ds.set i d)
  | _,_,_,_,_, .nil,_=> .nil
  | _,_,_,_,0, .cons _ r,h=> .cons h r
  | _,_,_,_,i+1, .cons q r,h=> .cons q (RpA.set i r h)
theorem RpA.dropLast {vs:List V} {ds:List PyData} (h:RpA K H vs ds):RpA K H vs.dropLast ds.dropLast:=by
  rw [List.dropLast_eq_take,List.dropLast_eq_take,h.len]
  exact h.take _
theorem RpA.snoc {vs:List V} {ds:List PyData} {v:V} {d:PyData} (h:RpA K H vs ds) (k:Rp K H v d):RpA K H (vs++[v]) (ds++[d]):=h.append (.cons k .nil)
end
inductive Pt where
  | fl (d:PyData) | ol (ds:List PyData)
def Pt.val:Pt→PyData
  | .fl d=>d
  | .ol ds=> .list ds
inductive Sl where
  /-- nothing is known -/
  | no
  /-- never written again -/
  | sh (d:PyData)
  /-- a list of one's own -/
  | ow (ds:List PyData)
  /-- a dict of one's own,its values lists of one's own -/
  | od (kvs:List (eP×List PyData))
  /-- a tuple with lists of one's own -/
  | tx (ps:List Pt)
  /-- (a part of an expression) the value of a name -/
  | al (i:Nat)
  /-- (a part of an expression) as it stands just now -/
  | br (d:PyData)
def PtsOk (K:PySem.W.Frag) (F H:Hp):List V→List Pt→List Addr→Prop
  | [],[],A=>A=[]
  | v::vs, .fl d::ps,A=>Rp K F v d∧PtsOk K F H vs ps A
  | v::vs, .ol ds::ps,A=>∃l us A',v= .ref l∧A=l::A'∧H l=some (.lst us)∧RpA K F us ds∧PtsOk K F H vs ps A'
  | _,_,_=>False
def DlOk (K:PySem.W.Frag) (F H:Hp):List (eP×V)→List (eP×List PyData)→List Addr→Prop
  | [],[],A=>A=[]
  | p::us,q::kvs,A=>∃l vs A',p=(q.1, .ref l)∧A=l::A'∧H l=some (.lst vs)∧RpA K F vs q.2∧DlOk K F H us kvs A'
  | _,_,_=>False
def SlOk (K:PySem.W.Frag) (F H:Hp) (σ:L2.St) (o:Option V):Sl→List Addr→Prop
  | .no,A=>A=[]
  | .sh d,A=>A=[]∧∃v,o=some v∧Rp K F v d
  | .ow ds,A=>∃l vs,o=some (.ref l)∧A=[l]∧H l=some (.lst vs)∧RpA K F vs ds
  | .od kvs,A=>∃l us A',o=some (.ref l)∧A=l::A'∧H l=some (.dK us)∧DlOk K F H us kvs A'
  | .tx ps,A=>∃t vs,o=some (.ref t)∧F t=some (.tup vs)∧PtsOk K F H vs ps A
  | .al i,A=>A=[]∧∃v,o=some v∧σ[i]? =some (some v)
  | .br d,A=>A=[]∧∃v,o=some v∧Rp K H v d
def Sl.isBr:Sl→Bool
  | .br _=>true
  | _=>false
def Sl.isAl:Sl→Bool
  | .al _=>true
  | .br _=>true
  | _=>false
section
variable {K:PySem.W.Frag} {F F' H H':Hp} {σ σ':L2.St}
theorem PtsOk.stay (s:Same F F'):∀{vs:List V} {ps:List Pt} {A:List Addr},(∀b∈A,H' b=H b)→PtsOk K F H vs ps A→PtsOk K F' H' vs ps A
  | [],[],A,_,h=>h
  | v::vs, .fl d::ps,A,e,h=>⟨h.1.same s,PtsOk.stay s e h.2⟩
  | v::vs, .ol ds::ps,A,e,h=>by
    obtain ⟨l,us,A',rfl,rfl,hl,hr,q⟩:=h
    exact ⟨l,us,A',rfl,rfl,(e l (List.mem_cons_self ..)).trans hl,hr.same s,q.stay s fun b hb=>e b (List.mem_cons_of_mem _ hb)⟩
  | [],_::_,_,_,h=>False.elim h
  | _::_,[],_,_,h=>False.elim h
theorem DlOk.stay (s:Same F F'):∀{us:List (eP×V)} {kvs:List (eP×List PyData)} {A:List Addr},(∀b∈A,H' b=H b)→DlOk K F H us kvs A→DlOk K F' H' us kvs A
  | [],[],A,_,h=>h
  | p::us,q::kvs,A,e,h=>by
    obtain ⟨l,vs,A',rfl,rfl,hl,hr,k⟩:=h
    exact ⟨l,vs,A',rfl,rfl,(e l (List.mem_cons_self ..)).trans hl,hr.same s,k.stay s fun b hb=>e b (List.mem_cons_of_mem _ hb)⟩
  | [],_::_,_,_,h=>False.elim h
  | _::_,[],_,_,h=>False.elim h
theorem DlOk.some:∀{us:List (eP×V)} {kvs:List (eP×List PyData)} {A:List Addr},DlOk K F H us kvs A→∀a∈A,∃vs,H a=some (.lst vs)
  | [],[],A,h,a,ha=>by rw [show A=[] from h] at ha;cases ha
  | p::us,q::kvs,A,h,a,ha=>by
    obtain ⟨l,vs,A',rfl,rfl,hl,hr,k⟩:=h
    rcases List.mem_cons.mp ha with e | e
    · subst e;exact ⟨vs,hl⟩
    · exact k.some a e
  | [],_::_,_,h,_,_=>False.elim h
  | _::_,[],_,h,_,_=>False.elim h
theorem PtsOk.some:∀{vs:List V} {ps:List Pt} {A:List Addr},PtsOk K F H vs ps A→∀a∈A,∃us,H a=some (.lst us)
  | [],[],A,h,a,ha=>by rw [show A=[] from h] at ha;cases ha
  | v::vs, .fl d::ps,A,h,a,ha=>PtsOk.some h.2 a ha
  | v::vs, .ol ds::ps,A,h,a,ha=>by
    obtain ⟨l,us,A',rfl,rfl,hl,hr,q⟩:=h
    rcases List.mem_cons.mp ha with e | e
    · subst e;exact ⟨us,hl⟩
    · exact q.some a e
  | [],_::_,_,h,_,_=>False.elim h
  | _::_,[],_,h,_,_=>False.elim h
theorem PtsOk.rp (s:Same F H):∀{vs:List V} {ps:List Pt} {A:List Addr},PtsOk K F H vs ps A→RpA K H vs (ps.map Pt.val)
  | [],[],A,_=> .nil
  | v::vs, .fl d::ps,A,h=> .cons (h.1.same s) (PtsOk.rp s h.2)
  | v::vs, .ol ds::ps,A,h=>by
    obtain ⟨l,us,A',rfl,rfl,hl,hr,q⟩:=h
    exact .cons (.lst (SqL.of hl) (hr.same s)) (q.rp s)
  | [],_::_,_,h=>False.elim h
  | _::_,[],_,h=>False.elim h
theorem SlOk.stay {o:Option V} {s:Sl} {A:List Addr} (hF:Same F F') (e:∀b∈A,H' b=H b) (hb:s.isBr=true→Same H H') (h:SlOk K F H σ o s A):SlOk K F' H' σ o s A:=by
  cases s with
  | no=>exact h
  | sh d=>obtain ⟨rfl,v,rfl,r⟩:=h;exact ⟨rfl,v,rfl,r.same hF⟩
  | ow ds=>obtain ⟨l,vs,rfl,rfl,hl,r⟩:=h;exact ⟨l,vs,rfl,rfl,(e l (by simp)).trans hl,r.same hF⟩
  | od kvs=>obtain ⟨l,us,A',rfl,rfl,hl,r⟩:=h;exact ⟨l,us,A',rfl,rfl,(e l (by simp)).trans hl,r.stay hF fun b hb=>e b (List.mem_cons_of_mem _ hb)⟩
  | tx ps=>obtain ⟨t,vs,rfl,ht,r⟩:=h;exact ⟨t,vs,rfl,hF _ _ ht,r.stay hF e⟩
  | al i=>exact h
  | br d=>obtain ⟨rfl,v,rfl,r⟩:=h;exact ⟨rfl,v,rfl,r.same (hb rfl)⟩
theorem SlOk.mut {o:Option V} {s:Sl} {A:List Addr} (h:SlOk K F H σ o s A):∀a∈A,(∃us,H a=some (.lst us))∨∃us,H a=some (.dK us):=by
  cases s with
  | no=>intro a ha;rw [show A=[] from h] at ha;cases ha
  | sh d=>obtain ⟨rfl,_⟩:=h;intro a ha;cases ha
  | ow ds=>obtain ⟨l,vs,rfl,rfl,hl,r⟩:=h;intro a ha;rw [List.mem_singleton.mp ha];exact .inl ⟨_,hl⟩
  | od kvs=>
    obtain ⟨l,vs,A',rfl,rfl,hl,r⟩:=h
    intro a ha
    rcases List.mem_cons.mp ha with z | z
    · rw [z];exact .inr ⟨_,hl⟩
    · exact .inl (r.some a z)
  | tx ps=>obtain ⟨t,vs,rfl,ht,r⟩:=h;exact fun a ha=> .inl (r.some a ha)
  | al i=>obtain ⟨rfl,_⟩:=h;intro a ha;cases ha
  | br d=>obtain ⟨rfl,_⟩:=h;intro a ha;cases ha
end
inductive SAll (P:Option V→Sl→List Addr→Prop):List (Option V)→List Sl→List Addr→Prop
  | nil:SAll P [] [] []
  | cons {o:Option V} {s:Sl} {A:List Addr} {os:List (Option V)} {ss:List Sl} {B:List Addr}:P o s A→SAll P os ss B→SAll P (o::os) (s::ss) (A++B)
section
variable {P P':Option V→Sl→List Addr→Prop}
theorem SAll.len {os:List (Option V)} {ss:List Sl} {A:List Addr} (h:SAll P os ss A):os.length=ss.length:=by
  induction h with
  | nil=>rfl
  | cons _ _ b=>exact congrArg (· +1) b
theorem SAll.mono {os:List (Option V)} {ss:List Sl} {A:List Addr} (h:SAll P os ss A):(∀o s B,s∈ss→(∀b∈B,b∈A)→P o s B→P' o s B)→SAll P' os ss A:=by
  induction h with
  | nil=>exact fun _=> .nil
  | cons h _ r=>exact fun f=> .cons (f _ _ _ (List.mem_cons_self ..) (fun b hb=>List.mem_append_left _ hb) h) (r fun o s B hs hB q=>f o s B (List.mem_cons_of_mem _ hs) (fun b hb=>List.mem_append_right _ (hB b hb)) q)
theorem SAll.all {R:Addr→Prop} (hR:∀o s B,P o s B→∀b∈B,R b) {os:List (Option V)} {ss:List Sl} {A:List Addr} (h:SAll P os ss A):∀a∈A,R a:=by
  induction h with
  | nil=>exact fun _ ha=>nomatch ha
  | cons h _ r=>exact fun a ha=>(List.mem_append.mp ha).elim (hR _ _ _ h a) (r a)
theorem SAll.at:∀{os:List (Option V)} {ss:List Sl} {A:List Addr} {k:Nat} {s:Sl},SAll P os ss A→ss[k]? =some s→
    ∃o A0 A1 A2,A=A0++(A1++A2)∧os[k]? =some o∧P o s A1∧∀(P':Option V→Sl→List Addr→Prop) (o':Option V) (s':Sl) (A1':List Addr),P' o' s' A1'→
      (∀o s B,s∈ss→(∀b∈B,b∈A0∨b∈A2)→P o s B→P' o s B)→SAll P' (os.set k o') (ss.set k s') (A0++(A1'++A2))
  | _,_,_,_,_, .nil,e=>by simp at e
  | _,_,_,0,s, .cons (o:=o) (A:=A) (B:=B) h r,e=>by
    simp at e;subst e
    refine ⟨o,[],A,B,by simp,rfl,h,fun P' o' s' A1' h' f=>?_⟩
    have z:SAll P' _ _ (A1'++B):= .cons h' (r.mono (P':=P') fun o s B hs hB q=>f o s B (List.mem_cons_of_mem _ hs) (fun b hb=> .inr (hB b hb)) q)
    exact z
  | _,_,_,k+1,s, .cons (o:=o) (A:=A) (B:=B) h r,e=>by
    obtain ⟨o2,A0,A1,A2,eA,eo,hp,f⟩:=r.at (k:=k) (s:=s) (by simpa using e)
    subst eA
    refine ⟨o2,A++A0,A1,A2,by simp,by simpa using eo,hp,fun P' o' s' A1' h' g=>?_⟩
    have z:=f P' o' s' A1' h' fun o s B hs hB q=>g o s B (List.mem_cons_of_mem _ hs) (fun b hb=>(hB b hb).imp (fun x=>List.mem_append_right _ x) id) q
    rw [List.append_assoc]
    exact .cons (g _ _ _ (List.mem_cons_self ..) (fun b hb=> .inl (List.mem_append_left _ hb)) h) z
end
end PL
namespace PL
open PySem L2 Nh
abbrev Sg:=L2.St
structure FrF (K:PySem.W.Frag) (B F:Hp) (A:List Addr) (σ:Sg) (H:Hp) (E:List Sl) (xs:List V) (Xs:List Sl):Prop where
  bf:Same B F
  fh:Same F H
  tf:Same (tups H) F
  sl:SAll (SlOk K F H σ) (xs.map some++σ) (Xs++E) A
  nd:A.Nodup
  fr:∀a∈A,F a=none
  len:xs.length=Xs.length
  pl:∀s∈E,s.isAl=false
def Frm (K:PySem.W.Frag) (B:Hp) (σ:Sg) (H:Hp) (E:List Sl) (xs:List V) (Xs:List Sl):Prop:=∃F A,FrF K B F A σ H E xs Xs
def Sl.val:Sl→Option PyData
  | .sh d=>some d
  | .ow ds=>some (.list ds)
  | .tx ps=>some (.tuple (ps.map Pt.val))
  | .br d=>some d
  | _=>none
def look (E:List Sl):Sl→Option PyData
  | .al i=>(E[i]?).bind Sl.val
  | s=>s.val
def aX:Sl→Bool
  | .br _=>true
  | .tx _=>true
  | _=>false
def hot (E:List Sl):Sl→Bool
  | .al i=>(E[i]?).any aX
  | s=>aX s
def RpF (K:PySem.W.Frag) (F H:Hp) (v:V):PyData→Prop
  | .list ds=>∃a vs,v= .ref a∧SqL K H a vs∧RpA K F vs ds
  | d=>Rp K F v d
def pi (F H:Hp) (A:List Addr):Hp:=fun b=>if b∈A then H b else F b
theorem nZ {F H:Hp} {A:List Addr} {b:Addr} (h:b∈A):pi F H A b=H b:=if_pos h
theorem li {F H:Hp} {A:List Addr} {b:Addr} (h:b∉A):pi F H A b=F b:=if_neg h
section
variable {K:PySem.W.Frag} {B F:Hp} {A:List Addr} {σ:Sg} {H:Hp} {E:List Sl} {xs:List V} {Xs:List Sl} {v:V} {s:Sl} {d:PyData}
theorem RpF.of (h:Rp K F v d) (s:Same F H):RpF K F H v d:=by
  cases h with
  | lst h r=>exact ⟨_,_,rfl,s.seq h,r⟩
  | non=>exact .non
  | bl b=>exact .bl b
  | int i=>exact .int i
  | str x=>exact .str x
  | tup h r=>exact .tup h r
  | dct h r=>exact .dct h r
  | obj c h n r=>exact .obj c h n r
  | exc h r=>exact .exc h r
theorem SlOk.val {o:Option V} {A1:List Addr} (h:SlOk K F H σ o s A1) (hF:Same F H) (e:s.val=some d):∃v,o=some v∧Rp K H v d∧(aX s=false→RpF K F H v d):=by
  cases s with
  | no=>cases e
  | sh d'=>
    obtain ⟨rfl,v,rfl,r⟩:=h
    cases e
    exact ⟨v,rfl,r.same hF,fun _=>RpF.of r hF⟩
  | ow ds=>
    obtain ⟨l,vs,rfl,rfl,hl,r⟩:=h
    cases e
    exact ⟨_,rfl, .lst (SqL.of hl) (r.same hF),fun _=>⟨_,_,rfl,SqL.of hl,r⟩⟩
  | od kvs=>cases e
  | tx ps=>
    obtain ⟨t,vs,rfl,ht,r⟩:=h
    cases e
    exact ⟨_,rfl, .tup (SqT.of (hF _ _ ht)) (r.rp hF),fun z=>by cases z⟩
  | al i=>cases e
  | br d'=>
    obtain ⟨rfl,v,rfl,r⟩:=h
    cases e
    exact ⟨v,rfl,r,fun z=>by cases z⟩
theorem FrF.slen (h:FrF K B F A σ H E xs Xs):σ.length=E.length:=by
  have e:=h.sl.len
  have:=h.len
  simp only [List.length_append,List.length_map] at e
  omega
theorem FrF.var {i:Nat} (h:FrF K B F A σ H E xs Xs) (e:E[i]? =some s):∃o A1,σ[i]? =some o∧SlOk K F H σ o s A1:=by
  obtain ⟨o,A0,A1,A2,eA,eo,hp,_⟩:=h.sl.at (k:=Xs.length+i) (s:=s) (by rw [List.getElem?_append_right (by omega)];simpa using e)
  rw [List.getElem?_append_right (by rw [List.length_map,h.len];omega),List.length_map,h.len,Nat.add_sub_cancel_left] at eo
  exact ⟨o,A1,eo,hp⟩
theorem FrF.ext {k:Nat} (h:FrF K B F A σ H E xs Xs) (e:Xs[k]? =some s):∃v A1,xs[k]? =some v∧SlOk K F H σ (some v) s A1:=by
  have hk:k < Xs.length:=(List.getElem?_eq_some_iff.mp e).1
  obtain ⟨o,A0,A1,A2,eA,eo,hp,_⟩:=h.sl.at (k:=k) (s:=s) (by rw [List.getElem?_append_left hk];exact e)
  rw [List.getElem?_append_left (by rw [List.length_map,h.len];omega),List.getElem?_map] at eo
  cases q:xs[k]? with
  | none=>rw [q] at eo;cases eo
  | some v=>rw [q] at eo;cases eo;exact ⟨v,A1,rfl,hp⟩
theorem FrF.look {k:Nat} (h:FrF K B F A σ H E xs Xs) (e:Xs[k]? =some s) (q:look E s=some d):∃v,xs[k]? =some v∧Rp K H v d∧(hot E s=false→RpF K F H v d):=by
  obtain ⟨v,A1,ev,hs⟩:=h.ext e
  cases s with
  | al i=>
    obtain ⟨rfl,w,ew,hw⟩:=hs
    cases ew
    cases ei:E[i]? with
    | none=>simp [PL.look,ei] at q
    | some t=>
      obtain ⟨o,A2,eo,ht⟩:=h.var ei
      rw [hw] at eo
      cases eo
      obtain ⟨v',e',r,c⟩:=ht.val h.fh (d:=d) (by simpa [PL.look,ei] using q)
      cases e'
      exact ⟨v,ev,r,fun z=>c (by simpa [hot,ei] using z)⟩
  | no=>cases q
  | od kvs=>cases q
  | sh d'=>obtain ⟨v',e',r,c⟩:=hs.val h.fh q;cases e';exact ⟨v,ev,r,c⟩
  | ow ds=>obtain ⟨v',e',r,c⟩:=hs.val h.fh q;cases e';exact ⟨v,ev,r,c⟩
  | tx ps=>obtain ⟨v',e',r,c⟩:=hs.val h.fh q;cases e';exact ⟨v,ev,r,c⟩
  | br d'=>obtain ⟨v',e',r,c⟩:=hs.val h.fh q;cases e';exact ⟨v,ev,r,c⟩
theorem FrF.look0 (h:FrF K B F A σ H E (v::xs) (s::Xs)) (q:PL.look E s=some d):Rp K H v d∧(hot E s=false→RpF K F H v d):=by
  obtain ⟨v',e,r⟩:=h.look (k:=0) rfl q
  cases e
  exact r
theorem FrF.look1 {w:V} {t:Sl} (h:FrF K B F A σ H E (w::v::xs) (t::s::Xs)) (q:PL.look E s=some d):Rp K H v d∧(hot E s=false→RpF K F H v d):=by
  obtain ⟨v',e,r⟩:=h.look (k:=1) rfl q
  cases e
  exact r
theorem FrF.mutA (h:FrF K B F A σ H E xs Xs):∀a∈A,(∃us,H a=some (.lst us))∨∃us,H a=some (.dK us):=
  SAll.all (R:=fun a=>(∃us,H a=some (.lst us))∨∃us,H a=some (.dK us)) (fun _ _ _ q=>q.mut) h.sl
theorem FrF.newA {p:Addr} (h:FrF K B F A σ H E xs Xs) (hp:H p=none):p∉A:=fun hm=>by
  rcases h.mutA p hm with ⟨_,z⟩ | ⟨_,z⟩ <;> rw [hp] at z <;> cases z
theorem FrF.cold {u:V} {e:PyData} (h:FrF K B F A σ H E xs Xs) (r:Rp K H u e) (f:aN e=true):Rp K F u e:=(r.cold f).same h.tf
theorem FrF.coldA {us:List V} {es:List PyData} (h:FrF K B F A σ H E xs Xs) (r:RpA K H us es) (f:a_ es=true):RpA K F us es:=(r.cold f).same h.tf
theorem FrF.push (h:FrF K B F A σ H E xs Xs) (q:SlOk K F H σ (some v) s []):FrF K B F A σ H E (v::xs) (s::Xs):=
  ⟨h.bf,h.fh,h.tf, .cons (A:=[]) q h.sl,h.nd,h.fr,by simp [h.len],h.pl⟩
theorem FrF.pop (h:FrF K B F A σ H E (v::xs) (s::Xs)):∃A',FrF K B F A' σ H E xs Xs:=by
  obtain ⟨bf,fh,tf,sl,nd,fr,len,pl⟩:=h
  generalize hT:List.map some (v::xs)++σ=T at sl
  generalize hS:(s::Xs)++E=S at sl
  cases sl with
  | nil=>cases hS
  | cons q r=>
    injection hT with _ hT
    injection hS with _ hS
    subst hT hS
    exact ⟨_,bf,fh,tf,r,(List.nodup_append.mp nd).2.1,fun a ha=>fr a (List.mem_append_right _ ha),by simpa using len,pl⟩
theorem FrF.grow {H':Hp} (h:FrF K B F A σ H E xs Xs) (g:Same H H'):FrF K B (fun b=>if b∈A then none else H' b) A σ H' E xs Xs:=by
  have nF:∀b o,F b=some o→b∉A:=fun b o e hb=>by rw [h.fr b hb] at e;cases e
  have FF:Same F (fun b=>if b∈A then none else H' b):=fun b o e=>by
    show (if b∈A then none else H' b)=some o
    rw [if_neg (nF b o e)]
    exact g _ _ (h.fh _ _ e)
  have hA:∀b∈A,H' b=H b:=fun b hb=>by
    rcases h.mutA b hb with ⟨_,z⟩ | ⟨_,z⟩ <;> rw [z,g _ _ z]
  refine ⟨h.bf.trans FF,fun b o e=>?_,fun b o e=>?_,h.sl.mono fun o s C _ hC q=>q.stay FF (fun b hb=>hA b (hC b hb)) fun _=>g,h.nd,fun a ha=>if_pos ha,h.len,h.pl⟩
  · by_cases hb:b∈A
    · rw [if_pos hb] at e;cases e
    · rw [if_neg hb] at e;exact e
  · obtain ⟨e1,e2⟩:=Option.filter_eq_some_iff.mp e
    show (if b∈A then none else H' b)=some o
    by_cases hb:b∈A
    · rw [hA b hb] at e1
      rcases h.mutA b hb with ⟨_,z⟩ | ⟨_,z⟩ <;> rw [z] at e1 <;> cases e1 <;> cases e2
    · rw [if_neg hb];exact e1
theorem FrF.newl {p:Addr} {vs:List V} {ds:List PyData} (h:FrF K B F A σ H E xs Xs) (r:RpA K F vs ds) (hp:H p=none):FrF K B F (p::A) σ (upd H p (.lst vs)) E (.ref p::xs) (.ow ds::Xs):=by
  have g:Same H (upd H p (.lst vs)):=gJ hp _
  have nA:=h.newA hp
  refine ⟨h.bf,h.fh.trans g,fun b o e=>?_, .cons (A:=[p]) ⟨p,vs,rfl,rfl,upd_same,r⟩ (h.sl.mono fun o s C _ hC q=>q.stay (Same.refl _) (fun b hb=>av fun z=>nA (z▸hC b hb)) fun _=>g),List.nodup_cons.mpr ⟨nA,h.nd⟩,fun a ha=>?_,by simp [h.len],h.pl⟩
  · obtain ⟨e1,e2⟩:=Option.filter_eq_some_iff.mp e
    by_cases hb:b=p
    · subst hb;rw [upd_same] at e1;cases e1;cases e2
    · rw [av hb] at e1;exact h.tf b o (fA e1 e2)
  · rcases List.mem_cons.mp ha with z | z
    · subst z;exact h.fh.free hp
    · exact h.fr a z
theorem FrF.newt {p:Addr} {vs:List V} {ds:List PyData} (h:FrF K B F A σ H E xs Xs) (r:RpA K F vs ds) (hp:H p=none):FrF K B (upd F p (.tup vs)) A σ (upd H p (.tup vs)) E (.ref p::xs) (.sh (.tuple ds)::Xs):=by
  have g:Same H (upd H p (.tup vs)):=gJ hp _
  have nA:=h.newA hp
  have gF:Same F (upd F p (.tup vs)):=gJ (h.fh.free hp) _
  refine ⟨h.bf.trans gF,fun b o e=>?_,fun b o e=>?_, .cons (A:=[]) ⟨rfl,_,rfl, .tup (.inl (.inl upd_same)) (r.same gF)⟩ (h.sl.mono fun o s C _ hC q=>q.stay gF (fun b hb=>av fun z=>nA (z▸hC b hb)) fun _=>g),h.nd,fun a ha=>?_,by simp [h.len],h.pl⟩
  · by_cases hb:b=p
    · subst hb;rw [upd_same] at e ⊢;exact e
    · rw [av hb] at e ⊢;exact h.fh _ _ e
  · obtain ⟨e1,e2⟩:=Option.filter_eq_some_iff.mp e
    by_cases hb:b=p
    · subst hb;rw [upd_same] at e1 ⊢;exact e1
    · rw [av hb] at e1 ⊢;exact h.tf b o (fA e1 e2)
  · have ne:a≠p:=fun z=>nA (z▸ha)
    rw [av ne];exact h.fr a ha
theorem FrF.mut {i:Nat} {ds:List PyData} (h:FrF K B F A σ H E xs Xs) (e:E[i]? =some (.ow ds)) (c:∀s∈Xs,s.isBr=false):
    ∃l vs,σ[i]? =some (some (.ref l))∧H l=some (.lst vs)∧RpA K F vs ds∧∀vs' ds',RpA K F vs' ds'→FrF K B F A σ (upd H l (.lst vs')) (E.set i (.ow ds')) xs Xs:=by
  obtain ⟨o,A0,A1,A2,eA,eo,hp,put⟩:=h.sl.at (k:=Xs.length+i) (s:= .ow ds) (by rw [List.getElem?_append_right (by omega)];simpa using e)
  rw [List.getElem?_append_right (by rw [List.length_map,h.len];omega),List.length_map,h.len,Nat.add_sub_cancel_left] at eo
  obtain ⟨l,vs,rfl,rfl,hl,r⟩:=hp
  refine ⟨l,vs,eo,hl,r,fun vs' ds' r'=>?_⟩
  have hlA:l∈A:=by rw [eA];simp
  have nl:∀b,b∈A0∨b∈A2→b≠l:=fun b hb z=>by
    subst z
    have nd:=h.nd
    rw [eA] at nd
    rcases hb with hb | hb
    · exact (List.nodup_append.mp nd).2.2 b hb b (by simp) rfl
    · exact (List.nodup_append.mp (List.nodup_append.mp nd).2.1).2.2 b (by simp) b hb rfl
  have lF:F l=none:=h.fr l hlA
  have z:=put (SlOk K F (upd H l (.lst vs')) σ) (some (.ref l)) (.ow ds') [l] ⟨l,vs',rfl,rfl,upd_same,r'⟩ fun o s C hs hC q=>q.stay (Same.refl _) (fun b hb=>av (nl b (hC b hb))) fun z=>by
    rcases List.mem_append.mp hs with hs | hs
    · rw [c s hs] at z;cases z
    · have:=h.pl s hs
      cases s <;> simp [Sl.isAl,Sl.isBr] at this z
  have e3:(Xs++E).set (Xs.length+i) (.ow ds')=Xs++E.set i (.ow ds'):=by
    rw [List.set_append_right _ _ (by omega),Nat.add_sub_cancel_left]
  have e2:(List.map some xs++σ).set (Xs.length+i) (some (V.ref l))=List.map some xs++σ:=by
    rw [←h.len,List.set_append_right _ _ (by rw [List.length_map];omega),List.length_map,Nat.add_sub_cancel_left]
    congr 1
    exact List.ext_getElem? fun j=>by
      by_cases hj:i=j
      · subst hj
        rw [List.getElem?_set_self',eo];rfl
      · rw [List.getElem?_set_ne hj]
  rw [e2,e3,←eA] at z
  refine ⟨h.bf,fun b o q=>?_,?_,z,h.nd,h.fr,h.len,fun s hs=>?_⟩
  · rw [av (fun z=>by rw [z,lF] at q;cases q)]
    exact h.fh _ _ q
  · rw [lh hl];exact h.tf
  · rcases List.mem_or_eq_of_mem_set hs with hs | hs
    · exact h.pl s hs
    · subst hs;rfl
theorem FrF.frzAt {k:Nat} (h:FrF K B F A σ H E xs Xs) (e:(Xs++E)[k]? =some s) (q:s.val=some d) (c:s.isAl=false):
    ∃F' A' v,(xs.map some++σ)[k]? =some (some v)∧Rp K F' v d∧Same B F'∧Same F' H∧Same (tups H) F'∧SAll (SlOk K F' H σ) (xs.map some++σ) ((Xs++E).set k (.sh d)) A'∧A'.Nodup∧∀a∈A',F' a=none:=by
  obtain ⟨o,A0,A1,A2,eA,eo,hp,put⟩:=h.sl.at e
  have nd:=h.nd
  rw [eA] at nd
  have nA1:∀b o,F b=some o→b∉A1:=fun b o e hb=>by
    have:=h.fr b (by rw [eA];simp [hb])
    rw [this] at e;cases e
  have FF:Same F (pi F H A1):=fun b o e=>by rw [li (nA1 b o e)];exact e
  obtain ⟨v,rfl,r⟩:∃v,o=some v∧Rp K (pi F H A1) v d:=by
    cases s with
    | no=>cases q
    | od kvs=>cases q
    | al i=>cases c
    | br d'=>cases c
    | sh d'=>
      obtain ⟨rfl,v,rfl,r⟩:=hp
      cases q
      exact ⟨v,rfl,r.same FF⟩
    | ow ds=>
      obtain ⟨l,vs,rfl,rfl,hl,r⟩:=hp
      cases q
      exact ⟨_,rfl, .lst (SqL.of ((nZ (by simp)).trans hl)) (r.same FF)⟩
    | tx ps=>
      obtain ⟨t,vs,rfl,ht,r⟩:=hp
      cases q
      refine ⟨_,rfl, .tup (SqT.of (FF _ _ ht)) ?_⟩
      have r':PtsOk K (pi F H A1) (pi F H A1) vs ps A1:=r.stay FF fun b hb=>nZ hb
      exact r'.rp (Same.refl _)
  have e2:(List.map some xs++σ).set k (some v)=List.map some xs++σ:=List.ext_getElem? fun j=>by
    by_cases hj:k=j
    · subst hj
      rw [List.getElem?_set_self',eo];rfl
    · rw [List.getElem?_set_ne hj]
  have z:=put (SlOk K (pi F H A1) H σ) (some v) (.sh d) [] ⟨rfl,v,rfl,r⟩ fun o s C _ hC q=>q.stay FF (fun b _=>rfl) fun _=>Same.refl _
  rw [e2] at z
  refine ⟨pi F H A1,A0++A2,v,eo,r,h.bf.trans FF,fun b o e=>?_,fun b o e=>FF _ _ (h.tf _ _ e),by simpa using z,?_,fun a ha=>?_⟩
  · by_cases hb:b∈A1
    · rw [nZ hb] at e;exact e
    · rw [li hb] at e;exact h.fh _ _ e
  · exact List.Nodup.sublist (List.Sublist.append (List.Sublist.refl _) (List.sublist_append_right _ _)) nd
  · have hn:a∉A1:=fun hm=>by
      rcases List.mem_append.mp ha with z | z
      · exact (List.nodup_append.mp nd).2.2 a z a (by simp [hm]) rfl
      · exact (List.nodup_append.mp (List.nodup_append.mp nd).2.1).2.2 a hm a z rfl
    rw [li hn]
    exact h.fr a (by rw [eA];rcases List.mem_append.mp ha with z | z <;> simp [z])
end
def frz (E:List Sl):Sl→Option (PyData×List Sl)
  | .sh d=>some (d,E)
  | .ow ds=>some (.list ds,E)
  | .tx ps=>some (.tuple (ps.map Pt.val),E)
  | .br d=>if aN d then some (d,E) else none
  | .al i=>match E[i]? with
    | some (.sh d)=>some (d,E)
    | some (.ow ds)=>some (.list ds,E.set i (.sh (.list ds)))
    | some (.tx ps)=>some (.tuple (ps.map Pt.val),E.set i (.sh (.tuple (ps.map Pt.val))))
    | _=>none
  | _=>none
section
variable {K:PySem.W.Frag} {B F:Hp} {A:List Addr} {σ:Sg} {H:Hp} {E E':List Sl} {xs:List V} {Xs:List Sl} {v:V} {s:Sl} {d:PyData}
theorem FrF.frzVar {i:Nat} (h:FrF K B F A σ H E xs Xs) (e:E[i]? =some s) (q:s.val=some d):∃F' A' v,σ[i]? =some (some v)∧Rp K F' v d∧FrF K B F' A' σ H (E.set i (.sh d)) xs Xs:=by
  obtain ⟨F',A',v,ev,r,b1,b2,b3,sl,nd,fr⟩:=h.frzAt (k:=Xs.length+i) (by rw [List.getElem?_append_right (by omega)];simpa using e) q (h.pl s (List.mem_of_getElem? e))
  rw [List.getElem?_append_right (by rw [List.length_map,h.len];omega),List.length_map,h.len,Nat.add_sub_cancel_left] at ev
  have e3:(Xs++E).set (Xs.length+i) (.sh d)=Xs++E.set i (.sh d):=by
    rw [List.set_append_right _ _ (by omega),Nat.add_sub_cancel_left]
  rw [e3] at sl
  refine ⟨F',A',v,ev,r,b1,b2,b3,sl,nd,fr,h.len,fun s hs=>?_⟩
  rcases List.mem_or_eq_of_mem_set hs with hs | hs
  · exact h.pl s hs
  · subst hs;rfl
theorem FrF.frz0 (h:FrF K B F A σ H E (v::xs) (s::Xs)) (q:PL.frz E s=some (d,E')):∃F' A',FrF K B F' A' σ H E' (v::xs) (.sh d::Xs):=by
  have key:s.val=some d→s.isAl=false→E=E'→∃F' A',FrF K B F' A' σ H E' (v::xs) (.sh d::Xs):=fun q' c e=>by
    subst e
    obtain ⟨F',A',v',ev,r,b1,b2,b3,sl,nd,fr⟩:=h.frzAt (k:=0) rfl q' c
    exact ⟨F',A',b1,b2,b3,sl,nd,fr,by simpa using h.len,h.pl⟩
  have al:∀i t,s= .al i→E[i]? =some t→t.val=some d→E'=E.set i (.sh d)→∃F' A',FrF K B F' A' σ H E' (v::xs) (.sh d::Xs):=fun i t es ei qt eE=>by
    subst es eE
    obtain ⟨v',A1,ev,hs⟩:=h.ext (k:=0) rfl
    cases ev
    obtain ⟨rfl,w,ew,hw⟩:=hs
    cases ew
    obtain ⟨F',A',w,ew,r,h'⟩:=h.frzVar ei qt
    rw [hw] at ew
    cases ew
    obtain ⟨A2,h2⟩:=h'.pop
    exact ⟨F',A2,h2.push ⟨rfl,_,rfl,r⟩⟩
  cases s with
  | no=>cases q
  | od kvs=>cases q
  | sh d'=>cases q;exact key rfl rfl rfl
  | ow ds=>cases q;exact key rfl rfl rfl
  | tx ps=>cases q;exact key rfl rfl rfl
  | br d'=>
    simp only [PL.frz] at q
    split at q
    · rename_i hf
      cases q
      obtain ⟨r,_⟩:=h.look0 (d:=d) rfl
      obtain ⟨A2,h2⟩:=h.pop
      exact ⟨F,A2,h2.push ⟨rfl,_,rfl,h.cold r hf⟩⟩
    · cases q
  | al i=>
    simp only [PL.frz] at q
    split at q
    · rename_i d' ei
      cases q
      refine al i _ rfl ei rfl ?_
      exact List.ext_getElem? fun j=>by
        by_cases hj:i=j
        · subst hj;rw [List.getElem?_set_self',ei];rfl
        · rw [List.getElem?_set_ne hj]
    · rename_i ds ei
      cases q
      exact al i _ rfl ei rfl rfl
    · rename_i ps ei
      cases q
      exact al i _ rfl ei rfl rfl
    · cases q
theorem FrF.store {i:Nat} (h:FrF K B F A σ H E (v::xs) (s::Xs)) (c:s.isAl=false) (cx:∀s∈Xs,s.isAl=false) (hi:i < E.length):∃A',FrF K B F A' (σ.set i (some v)) H (E.set i s) xs Xs:=by
  have hlen:=h.len
  have hsl:=h.slen
  obtain ⟨bf,fh,tf,sl,nd,fr,len,pl⟩:=h
  generalize hT:List.map some (v::xs)++σ=T at sl
  generalize hS:(s::Xs)++E=S at sl
  cases sl with
  | nil=>cases hS
  | cons q r=>
    rename_i A1 _ _ A2
    injection hT with h1 hT
    injection hS with h2 hS
    subst h1 h2 hT hS
    have len':xs.length=Xs.length:=by simpa using len
    have r:SAll (SlOk K F H σ) (List.map some xs++σ) (Xs++E) A2:=r
    obtain ⟨t,et⟩:∃t,E[i]? =some t:=⟨E[i],List.getElem?_eq_getElem hi⟩
    obtain ⟨o,C0,C1,C2,eA,eo,hp,put⟩:=r.at (k:=Xs.length+i) (s:=t) (by rw [List.getElem?_append_right (by omega)];simpa using et)
    have all:∀s'∈Xs++E,s'.isAl=false:=fun s' hs=>(List.mem_append.mp hs).elim (cx s') (pl s')
    have chg:∀(o:Option V) (s':Sl) (C:List Addr),s'.isAl=false→SlOk K F H σ o s' C→SlOk K F H (σ.set i (some v)) o s' C:=fun o s' C hc z=>by
      cases s' <;> first | exact z | cases hc
    have z:=put (SlOk K F H (σ.set i (some v))) (some v) s A1 (chg _ _ _ c q) fun o s' C hs _ z=>chg o s' C (all s' hs) z
    have e3:(Xs++E).set (Xs.length+i) s=Xs++E.set i s:=by
      rw [List.set_append_right _ _ (by omega),Nat.add_sub_cancel_left]
    have e2:(List.map some xs++σ).set (Xs.length+i) (some v)=List.map some xs++σ.set i (some v):=by
      rw [←len',List.set_append_right _ _ (by rw [List.length_map];omega),List.length_map,Nat.add_sub_cancel_left]
    rw [e2,e3] at z
    refine ⟨_,bf,fh,tf,z,?_,fun a ha=>fr a ?_,len',fun s' hs=>?_⟩
    · rw [eA] at nd
      have p:(C0++(A1++C2)).Perm (A1++(C0++C2)):=by
        rw [←List.append_assoc,←List.append_assoc]
        exact List.Perm.append_right _ List.perm_append_comm
      refine p.nodup_iff.mpr (List.Nodup.sublist ?_ nd)
      exact List.Sublist.append (List.Sublist.refl _) (List.Sublist.append (List.Sublist.refl _) (List.sublist_append_right _ _))
    · rw [eA]
      simp only [List.mem_append] at ha ⊢
      rcases ha with z | z | z
      · exact .inr (.inl z)
      · exact .inl z
      · exact .inr (.inr (.inr z))
    · rcases List.mem_or_eq_of_mem_set hs with hs | hs
      · exact pl s' hs
      · subst hs;exact c
end
end PL
namespace PL
open PySem L2 Nh
abbrev b_:=List Sl→Option (Sl×List Sl)
abbrev jq:=List Sl→Option (Bool×List Sl)
abbrev me:=List Sl→Option (List Sl×List Sl)
abbrev lj:=List Sl→Option (List PyData×List Sl)
inductive Fl where
  | nx | bk | ct | rt (r:Sl)
abbrev bU:=List Sl→Option (List Sl×Fl)
abbrev Calm (Xs:List Sl):Prop:=∀s∈Xs,s.isBr=false
abbrev Still (Xs:List Sl):Prop:=∀s∈Xs,s.isAl=false
theorem Still.calm {Xs:List Sl} (h:Still Xs):Calm Xs:=fun s hs=>by
  have:=h s hs
  cases s <;> simp [Sl.isAl,Sl.isBr] at this ⊢
theorem Still.nil {Xs:List Sl} (h:Xs=[]):Still Xs:=fun s hs=>by subst h;cases hs
theorem Calm.nil {Xs:List Sl} (h:Xs=[]):Calm Xs:=(Still.nil h).calm
theorem Calm.cons {Xs:List Sl} {s:Sl} (h:Calm Xs) (hs:s.isBr=false):Calm (s::Xs):=fun t ht=>(List.mem_cons.mp ht).elim (fun e=>e▸hs) (h t)
def rd (K:PySem.W.Frag) (m:Bool) (f:b_):TE:=fun σ H Q=>∃B E xs Xs r E',Frm K B σ H E xs Xs∧(m=true→Calm Xs)∧f E=some (r,E')∧∀v H',Frm K B σ H' E' (v::xs) (r::Xs)→Q v H'
def rt (K:PySem.W.Frag) (m:Bool) (f:jq):TT:=fun σ H Q=>∃B E xs Xs b E',Frm K B σ H E xs Xs∧(m=true→Calm Xs)∧f E=some (b,E')∧∀H',Frm K B σ H' E' xs Xs→Q b H'
def ra (K:PySem.W.Frag) (m:Bool) (f:me):TA:=fun σ H Q=>∃B E xs Xs rs E',Frm K B σ H E xs Xs∧(m=true→Calm Xs)∧f E=some (rs,E')∧∀vs H',vs.length=rs.length→Frm K B σ H' E' (vs.reverse++xs) (rs.reverse++Xs)→Q vs H'
def DK (K:PySem.W.Frag) (m:Bool) (f:lj):TA:=fun σ H Q=>∃B E xs Xs ds E',Frm K B σ H E xs Xs∧(m=true→Calm Xs)∧f E=some (ds,E')∧∀vs H',vs.length=ds.length→Frm K B σ H' E' (vs.reverse++xs) (ds.reverse.map .sh++Xs)→Q vs H'
def rs (K:PySem.W.Frag) (g:bU):TS:=fun D σ H=>∃B E xs Xs E' fl,Frm K B σ H E xs Xs∧Xs=[]∧g E=some (E',fl)∧match fl with
  | .nx=>∀σ' H',Frm K B σ' H' E' xs Xs→D.nx σ' H'
  | .bk=>∀σ' H',Frm K B σ' H' E' xs Xs→D.bk σ' H'
  | .ct=>∀σ' H',Frm K B σ' H' E' xs Xs→D.ct σ' H'
  | .rt r=>∀σ' v H',Frm K B σ' H' E' (v::xs) (r::Xs)→D.rt v H'
def EX (X:Cx) (e:Expr) (m:Bool) (f:b_):Prop:=PE X e (rd X.K m f)
def TX (X:Cx) (e:Expr) (m:Bool) (f:jq):Prop:=PT X e (rt X.K m f)
def WX (X:Cx) (e:Expr) (m:Bool) (f:jq):Prop:=PW X e (rt X.K m f)
def AX (X:Cx) (es:List Expr) (m:Bool) (f:me):Prop:=PA X es (ra X.K m f)
def DX (X:Cx) (es:List Expr) (m:Bool) (f:lj):Prop:=PA X es (DK X.K m f)
def SX (X:Cx) (s:Stmt) (g:bU):Prop:=PS X s (rs X.K g)
def qx (X:Cx) (s:List Stmt) (g:bU):Prop:=PSs X s (rs X.K g)
section
variable {X:Cx}
theorem bi {e:Expr} {t t':TE} (h:PE X e t) (k:∀σ H Q,t' σ H Q→t σ H Q):PE X e t':=fun pins s σ H Q I q=>h pins s σ H Q I (k σ H Q q)
theorem n4 {e:Expr} {t t':TT} (h:PT X e t) (k:∀σ H Q,t' σ H Q→t σ H Q):PT X e t':=fun pins s σ H Q I q=>h pins s σ H Q I (k σ H Q q)
theorem vf {e:Expr} {t t':TT} (h:PW X e t) (k:∀σ H Q,t' σ H Q→t σ H Q):PW X e t':=fun whole pins s σ H Q I q=>h whole pins s σ H Q I (k σ H Q q)
theorem j0 {es:List Expr} {t t':TA} (h:PA X es t) (k:∀σ H Q,t' σ H Q→t σ H Q):PA X es t':=fun pos pins s σ H Q I q=>h pos pins s σ H Q I (k σ H Q q)
theorem iw {st:Stmt} {t t':TS} (h:PS X st t) (k:∀D σ H,t' D σ H→t D σ H):PS X st t':=fun pins s σ H D I q=>h pins s σ H D I (k D σ H q)
theorem rO {st:List Stmt} {t t':TS} (h:PSs X st t) (k:∀D σ H,t' D σ H→t D σ H):PSs X st t':=fun pins s σ H D I q=>h pins s σ H D I (k D σ H q)
end
def yK:PyData→Option V
  | .none=>some .non
  | .bool b=>some (.bl b)
  | .int i=>some (.int i)
  | .str x=>some (.str x)
  | _=>none
theorem lq {K:PySem.W.Frag} {H:Hp} {d:PyData} {v:V} (h:yK d=some v):Rp K H v d:=by
  cases d <;> simp [yK] at h <;> subst h <;> constructor
def ad (i:Nat):b_:=fun E=>match E[i]? with
  | some (.sh d)=>some (.sh d,E)
  | some (.ow _)=>some (.al i,E)
  | some (.od _)=>some (.al i,E)
  | some (.tx _)=>some (.al i,E)
  | _=>none
def pC (d:PyData):b_:=fun E=>some (.sh d,E)
section
variable {X:Cx} {K:PySem.W.Frag}
theorem aa (i:Nat) {x:Str} {pos:Pos} (hN:X.N[i]? =some x:=by rfl) (hv:yB X.env.scope x:=by first | exact Or.inl rfl | exact Or.inr (Or.inl rfl) | exact Or.inr (Or.inr rfl)) (hd:(x == ("__debug__":Str))=false:=by decide)
    (hcd:(x == ("__classdict__":Str))=false:=by decide):EX X (.Name x pos) false (ad i):=by
  refine bi (jT hN hv hd hcd) fun σ H Q h=>?_
  obtain ⟨B,E,xs,Xs,r,E',⟨F,A,fr⟩,_,e,q⟩:=h
  unfold ad at e
  split at e
  · rename_i d ei
    cases e
    obtain ⟨o,A1,eo,rfl,v,rfl,rp⟩:=fr.var ei
    exact ⟨v,eo,q v H ⟨F,A,fr.push ⟨rfl,v,rfl,rp⟩⟩⟩
  · rename_i ds ei
    cases e
    obtain ⟨o,A1,eo,l,vs,rfl,_⟩:=fr.var ei
    exact ⟨_,eo,q _ H ⟨F,A,fr.push ⟨rfl,_,rfl,eo⟩⟩⟩
  · rename_i ds ei
    cases e
    obtain ⟨o,A1,eo,l,vs,A2,rfl,_⟩:=fr.var ei
    exact ⟨_,eo,q _ H ⟨F,A,fr.push ⟨rfl,_,rfl,eo⟩⟩⟩
  · rename_i ds ei
    cases e
    obtain ⟨o,A1,eo,l,vs,rfl,_⟩:=fr.var ei
    exact ⟨_,eo,q _ H ⟨F,A,fr.push ⟨rfl,_,rfl,eo⟩⟩⟩
  · cases e
theorem zQ {e:Expr} {v:V} (d:PyData) (h:PE X e (tC v)) (hd:yK d=some v:=by rfl):EX X e false (pC d):=by
  refine bi h fun σ H Q h=>?_
  obtain ⟨B,E,xs,Xs,r,E',⟨F,A,fr⟩,_,e,q⟩:=h
  cases e
  exact q v H ⟨F,A,fr.push ⟨rfl,v,rfl,lq hd⟩⟩
theorem ah {i j pos}:EX X (.Constant (.int i) j pos) false (pC (.int i)):=zQ _ jU
theorem jv {b j pos}:EX X (.Constant (.bool b) j pos) false (pC (.bool b)):=zQ _ AW
theorem bu {x j pos}:EX X (.Constant (.str x) j pos) false (pC (.str x)):=zQ _ qh
end
abbrev P2:=List Sl→Sl→Sl→Option (Sl×List Sl)
def ig (K:PySem.W.Frag) (r:R2) (p:P2):Prop:=∀{B F:Hp} {A:List Addr} {σ:Sg} {H:Hp} {E:List Sl} {xs:List V} {Xs:List Sl} {v1 v2:V} {s1 s2 res:Sl} {E':List Sl} {Q:VK},
  FrF K B F A σ H E (v2::v1::xs) (s2::s1::Xs)→p E s1 s2=some (res,E')→(∀v H',Frm K B σ H' E' (v::xs) (res::Xs)→Q v H')→r v1 v2 H Q
def ag (p:P2) (m2:Bool) (f g:b_):b_:=fun E=>(f E).bind fun a=>if m2&&a.1.isBr then none else (g a.2).bind fun b=>p b.2 a.1 b.1
theorem n5 {K:PySem.W.Frag} {r:R2} {p:P2} (hp:ig K r p) {m1 m2:Bool} {f g:b_} {σ:Sg} {H:Hp} {Q:VK} (h:rd K (m1||m2) (ag p m2 f g) σ H Q):yD r (rd K m1 f) (rd K m2 g) σ H Q:=by
  obtain ⟨B,E,xs,Xs,res,E',fr,c,e,q⟩:=h
  obtain ⟨⟨s1,E1⟩,e1,e⟩:=Option.bind_eq_some_iff.mp e
  by_cases hb:(m2&&s1.isBr)=true
  · rw [if_pos hb] at e;cases e
  rw [if_neg hb] at e
  obtain ⟨⟨s2,E2⟩,e2,e⟩:=Option.bind_eq_some_iff.mp e
  refine ⟨B,E,xs,Xs,s1,E1,fr,fun z=>c (by simp [z]),e1,fun v1 H1 fr1=>?_⟩
  refine ⟨B,E1,v1::xs,s1::Xs,s2,E2,fr1,fun z=>?_,e2,fun v2 H2 fr2=>?_⟩
  · refine Calm.cons (c (by simp [z])) ?_
    cases hs:s1.isBr with
    | false=>rfl
    | true=>exact absurd (by simp [z,hs]) hb
  · obtain ⟨F,A,fr2⟩:=fr2
    exact hp fr2 e q
def bR (op:PyData→PyData→Option PyData):P2:=fun E s1 s2=>(look E s1).bind fun d1=>(look E s2).bind fun d2=>(op d1 d2).map fun d=>(.sh d,E)
theorem FrF.res2 {K:PySem.W.Frag} {B F:Hp} {A:List Addr} {σ:Sg} {H:Hp} {E:List Sl} {xs:List V} {Xs:List Sl} {v1 v2 v:V} {s1 s2 s:Sl} (h:FrF K B F A σ H E (v2::v1::xs) (s2::s1::Xs)) (q:SlOk K F H σ (some v) s []):Frm K B σ H E (v::xs) (s::Xs):=by
  obtain ⟨A1,h⟩:=h.pop
  obtain ⟨A2,h⟩:=h.pop
  exact ⟨F,A2,h.push q⟩
theorem ja {K:PySem.W.Frag} {r:R2} {op:PyData→PyData→Option PyData} (h:∀(d1 d2 d:PyData) (v1 v2:V) (H:Hp) (Q:VK),op d1 d2=some d→Rp K H v1 d1→Rp K H v2 d2→∃v,yK d=some v∧(Q v H→r v1 v2 H Q)):ig K r (bR op):=by
  intro B F A σ H E xs Xs v1 v2 s1 s2 res E' Q fr e q
  obtain ⟨d1,e1,e⟩:=Option.bind_eq_some_iff.mp e
  obtain ⟨d2,e2,e⟩:=Option.bind_eq_some_iff.mp e
  obtain ⟨d,e3,e⟩:=Option.map_eq_some_iff.mp e
  cases e
  obtain ⟨v,hv,k⟩:=h d1 d2 d v1 v2 H Q e3 (fr.look1 e1).1 (fr.look0 e2).1
  exact k (q v H (fr.res2 ⟨rfl,v,rfl,lq hv⟩))
section
variable {X:Cx} {a b:Expr} {m1 m2:Bool} {f g:b_} {pos:Pos}
theorem ls {op:Operator} {r:R2} {p:P2} (ho:OpR X (binaryOp op) r) (hp:ig X.K r p) (ha:EX X a m1 f) (hb:EX X b m2 g):EX X (.BinOp a op b pos) (m1||m2) (ag p m2 f g):=bi (m_ ho ha hb) fun _ _ _ h=>n5 hp h
theorem qy {op:CmpOp} {r:R2} {p:P2} (ho:OpR X (compareOp op) r) (hp:ig X.K r p) (ha:EX X a m1 f) (hb:EX X b m2 g) (hm:behindInMarks op b=false):EX X (.Compare a [op] [b] pos) (m1||m2) (ag p m2 f g):=bi (wY ho ha hb hm) fun _ _ _ h=>n5 hp h
def bD (f:b_):jq:=fun E=>(f E).bind fun a=>match a.1 with
  | .sh (.bool b)=>some (b,a.2)
  | _=>none
theorem vg {K:PySem.W.Frag} {m:Bool} {f:b_} {σ:Sg} {H:Hp} {Q:Bool→Hp→Prop} (h:rt K m (bD f) σ H Q):rd K m f σ H (fun x H'=>∃k,x= .bl k∧Q k H'):=by
  obtain ⟨B,E,xs,Xs,b,E',fr,c,e,q⟩:=h
  obtain ⟨⟨s,E1⟩,e1,e⟩:=Option.bind_eq_some_iff.mp e
  refine ⟨B,E,xs,Xs,s,E1,fr,c,e1,fun v H' ⟨F,A,fr'⟩=>?_⟩
  simp only at e
  split at e
  · cases e
    obtain ⟨r,_⟩:=fr'.look0 (d:= .bool b) rfl
    cases r
    obtain ⟨A',fr2⟩:=fr'.pop
    exact ⟨b,rfl,q H' ⟨F,A',fr2⟩⟩
  · cases e
theorem n6 {op:CmpOp} {r:R2} {p:P2} (ho:OpR X (compareOp op) r) (hp:ig X.K r p) (ha:EX X a m1 f) (hb:EX X b m2 g) (hm:behindInMarks op b=false):TX X (.Compare a [op] [b] pos) (m1||m2) (bD (ag p m2 f g)):=by
  refine n4 (wZ ho ha hb hm) fun σ H Q h=>?_
  exact n5 hp (vg h)
end
def sY:Int:=2 ^ 20000
def b7 (i j:Int):Bool:=decide (-(2 ^ 64) < i∧i < 2 ^ 64)||decide (-(2 ^ 64) < j∧j < 2 ^ 64)||decide (-sY < i∧i < sY∧ -sY < j∧j < sY)
def fZ (j:Int):Bool:=decide (0 < j∧j < 2 ^ 400)
def gT (C:Int→Int→Bool) (g:Int→Int→PyData):PyData→PyData→Option PyData
  | .int i, .int j=>if C i j then some (g i j) else none
  | _,_=>none
abbrev AQ (C:Int→Int→Bool) (g:Int→Int→V):R2:=rI (fun i j=>C i j=true) g
theorem n8 {K:PySem.W.Frag} {C:Int→Int→Bool} {g:Int→Int→PyData} {g':Int→Int→V} (hg:∀i j,yK (g i j)=some (g' i j)):ig K (AQ C g') (bR (gT C g)):=by
  refine ja fun d1 d2 d v1 v2 H Q e r1 r2=>?_
  unfold gT at e
  split at e
  · split at e
    · cases e
      cases r1
      cases r2
      rename_i hC
      exact ⟨_,hg _ _,fun q=>⟨_,_,rfl,rfl,hC,q⟩⟩
    · cases e
  · cases e
section
variable {X:Cx}
theorem km {i:Int} (h1: -sY < i) (h2:i < sY):Builtin.Int.intBits i≤2 ^ 20:=by
  unfold sY at h1 h2
  have h:i.natAbs < 2 ^ 20000:=by
    have e:((2 ^ 20000:Nat):Int)=2 ^ 20000:=Int.natCast_pow 2 20000
    generalize (2 ^ 20000:Int)=z at h1 h2 e
    generalize (2 ^ 20000:Nat)=y at e ⊢
    omega
  unfold Builtin.Int.intBits
  split
  · exact Nat.zero_le _
  · rename_i hz
    have hz':i≠0:=by simpa using hz
    have:i.natAbs.log2 < 20000:=(Nat.log2_lt (by omega)).mpr h
    omega
theorem vh {i j:Int} (h:b7 i j=true):PySem.IntMulOk i j:=by
  unfold b7 at h
  simp only [Bool.or_eq_true,decide_eq_true_eq] at h
  rcases h with (h | h) | h
  · exact CMul.ok (.inl h)
  · exact CMul.ok (.inr h)
  · exact PySem.IntMulOk.of_bits (km h.1 h.2.1) (km h.2.2.1 h.2.2.2)
end
end PL
namespace PL
open PySem L2 Nh PyProof.Rows
abbrev jw:=L2.St
section
variable {X:Cx}
theorem OpR.or {f:Value→Value→Sem Value} {r r':R2} (h:OpR X f r) (h':OpR X f r'):OpR X f (fun x y H Q=>r x y H Q∨r' x y H Q):=by
  intro pins s σ H x y v u Q I rx ry q
  rcases q with q | q
  · exact h pins s σ H x y v u Q I rx ry q
  · exact h' pins s σ H x y v u Q I rx ry q
theorem OpR.imp {f:Value→Value→Sem Value} {r r':R2} (h:OpR X f r) (k:∀x y H Q,r' x y H Q→r x y H Q):OpR X f r':=fun pins s σ H x y v u Q I rx ry q=>h pins s σ H x y v u Q I rx ry (k _ _ _ _ q)
def yL (K:PySem.W.Frag):R2:=fun x y H Q=>∃l b xs zs,x= .ref l∧y= .ref b∧SqL K H l xs∧SqL K H b zs∧xs.length+zs.length≤sizeLine∧∀p,H p=none→Q (.ref p) (upd H p (.lst (xs++zs)))
theorem xq:OpR X (binaryOp .Add) (yL X.K):=by
  intro pins s σ H x y v u Q I rx ry h
  obtain ⟨l,b,xs,zs,rfl,rfl,hH,hB,hz,q⟩:=h
  cases rx
  cases ry
  obtain ⟨its,r,p1,z1⟩:=I.list hH
  obtain ⟨its2,r2,p2,z2⟩:=I.list hB
  obtain ⟨⟨cls,dd,data,sl⟩,ho,hc,n,hd⟩:=p1.isList
  obtain ⟨⟨cls2,dd2,data2,sl2⟩,ho2,hc2,n2,nX⟩:=p2.isList
  simp only at hc hd hc2 nX
  subst hc hd hc2 nX
  have l1:=r.length
  have l2:=r2.length
  refine concat_meets ⟨_,ho,rfl⟩ ⟨_,ho2,rfl⟩ noFill_list_add seq_list_add PySem.F.slot_list_add PySem.F.entry_list_add (PySem.F.args_list_add_2 _ _) (list_addW l b its.toArray its2.toArray n n2 dd dd2 sl sl2 (by simp only [List.size_toArray];omega)) ⟨ho,ho2,?_⟩
  have ea:its.toArray++its2.toArray=(its++its2).toArray:=by simp
  rw [ea]
  exact ⟨.ref _,_,I.lnew (t':=s.toks) (r.append r2) (by rw [List.length_append];omega),rfl,q _ I.fresh⟩
def yM (K:PySem.W.Frag):R2:=fun x y H Q=>∃l k xs,x= .ref l∧y= .int k∧SqL K H l xs∧ -(2 ^ 63)≤k∧k < 2 ^ 63∧xs.length*k.toNat≤sizeLine∧
  ∀p,H p=none→Q (.ref p) (upd H p (.lst (List.replicate k.toNat xs).flatten))
theorem xr:OpR X (binaryOp .Mult) (yM X.K):=by
  intro pins s σ H x y v u Q I rx ry h
  obtain ⟨l,k,xs,rfl,rfl,hH,h1,h2,hz,q⟩:=h
  cases rx
  obtain ⟨t,rfl⟩:=ry
  obtain ⟨its,r,p1,z1⟩:=I.list hH
  obtain ⟨⟨cls,d,data,sl⟩,ho,hcl,n,hd⟩:=p1.isList
  simp only at hcl hd
  subst hcl hd
  have l1:=r.length
  have hsz:its.toArray.size*k.toNat≤2 ^ 24:=by rw [List.size_toArray,←l1];exact hz
  refine wpAny_binaryOp_repeat_ref (T:="list") (U:="int") (by decide) ⟨_,ho,rfl⟩ (fun s'=>typeIs_int s' k t) noFill_list_mul F.fills_int_mul F.slot_int_rmul repeat_list F.slot_int_index.lookup
    (call_meets F.slot_int_rmul (typeIs_int s k t) F.entry_int_rmul (F.args_int_rmul_2 _ _) (lm_int_rmul_list_any k t l its.toArray n d sl)
      ⟨ho,rfl,⟨_,ho,rfl⟩,call_meets F.slot_list_mul ⟨_,ho,rfl⟩ F.entry_list_mul (F.args_list_mul_2 _ _)
        (lm_list_mul_any l its.toArray n d sl k t (by simp [Builtin.List.listFitsIndex];omega) (by omega) (by simp [Builtin.List.listTooLong,sizeLine];omega))
        ⟨ho,?_⟩⟩)
  rw [listMul_foldl_if]
  exact ⟨.ref _,_,I.lnew (t':=s.toks) (r.rep k.toNat) (by rw [xn,Nat.mul_comm];exact hz),rfl,q _ I.fresh⟩
end
def aH:P2:=fun E s1 s2=>(look E s1).bind fun d1=>(look E s2).bind fun d2=>match d1,d2 with
  | .int i, .int j=>some (.sh (.int (i+j)),E)
  | .str a, .str b=>if a.length+b.length≤1000000 then some (.sh (.str (a++b)),E) else none
  | .list a, .list b=>if decide (a.length+b.length≤1000000)&&(!hot E s1||a_ a)&&(!hot E s2||a_ b) then some (.ow (a++b),E) else none
  | _,_=>none
theorem rP {n:Nat} (h:n≤1000000):n < sizeLine:=Nat.lt_of_le_of_lt h (by rw [sizeLine_eq];decide)
theorem f8 {n:Nat} (h:n≤1000000):n≤sizeLine:=Nat.le_of_lt (rP h)
section
variable {K:PySem.W.Frag} {B F:Hp} {A:List Addr} {σ:jw} {H:Hp} {E:List Sl} {xs:List V} {Xs:List Sl} {v:V} {s:Sl} {ds:List PyData}
theorem FrF.items {k:Nat} (h:FrF K B F A σ H E xs Xs) (e:Xs[k]? =some s) (q:PL.look E s=some (.list ds)) (c:(!hot E s||a_ ds)=true):∃a vs,xs[k]? =some (.ref a)∧SqL K H a vs∧RpA K F vs ds:=by
  obtain ⟨v,ev,r,f⟩:=h.look e q
  cases hh:hot E s with
  | false=>
    obtain ⟨a,vs,rfl,h1,h2⟩:=f hh
    exact ⟨a,vs,ev,h1,h2⟩
  | true=>
    rw [hh] at c
    cases r with
    | lst h1 h2=>exact ⟨_,_,ev,h1,h.coldA h2 (by simpa using c)⟩
theorem FrF.res2l {v1 v2:V} {s1 s2:Sl} {vs:List V} (h:FrF K B F A σ H E (v2::v1::xs) (s2::s1::Xs)) (r:RpA K F vs ds) {p:Addr} (hp:H p=none):Frm K B σ (upd H p (.lst vs)) E (.ref p::xs) (.ow ds::Xs):=by
  obtain ⟨A1,h⟩:=h.pop
  obtain ⟨A2,h⟩:=h.pop
  exact ⟨F,_,h.newl r hp⟩
end
abbrev yN (K:PySem.W.Frag):R2:=fun x y H Q=>(∃i j,x= .int i∧y= .int j∧Q (.int (i+j)) H)∨(∃i j,x= .str i∧y= .str j∧i.length+j.length≤sizeLine∧Q (.str (i++j)) H)∨yL K x y H Q
theorem xu {X:Cx}:OpR X (binaryOp .Add) (yN X.K):=OpR.or uL (OpR.or qm xq)
theorem xv {K:PySem.W.Frag}:ig K (yN K) aH:=by
  intro B F A σ H E xs Xs v1 v2 s1 s2 res E' Q fr e q
  obtain ⟨d1,e1,e⟩:=Option.bind_eq_some_iff.mp e
  obtain ⟨d2,e2,e⟩:=Option.bind_eq_some_iff.mp e
  have r1:=(fr.look1 e1).1
  have r2:=(fr.look0 e2).1
  split at e
  · cases e;cases r1;cases r2
    exact .inl ⟨_,_,rfl,rfl,q _ _ (fr.res2 ⟨rfl,_,rfl, .int _⟩)⟩
  · split at e
    · rename_i hl
      cases e;cases r1;cases r2
      exact .inr (.inl ⟨_,_,rfl,rfl,f8 hl,q _ _ (fr.res2 ⟨rfl,_,rfl, .str _⟩)⟩)
    · cases e
  · split at e
    · rename_i hc
      cases e
      simp only [Bool.and_eq_true,decide_eq_true_eq] at hc
      obtain ⟨a1,u1,x1,q1,i1⟩:=fr.items (k:=1) rfl e1 hc.1.2
      obtain ⟨a2,u2,x2,q2,i2⟩:=fr.items (k:=0) rfl e2 hc.2
      cases x1;cases x2
      have l1:=i1.len
      have l2:=i2.len
      exact .inr (.inr ⟨_,_,_,_,rfl,rfl,q1,q2,f8 (by omega),fun p hp=>q _ _ (fr.res2l (i1.append i2) hp)⟩)
    · cases e
  · cases e
def gh:P2:=bR (gT (fun _ _=>true) fun i j=> .int (i - j))
def cG:P2:=bR (gT (fun _ j=>fZ j) fun i j=> .int (i / j))
def cu:P2:=bR (gT (fun _ j=>decide (0 < j)) fun i j=> .int (i % j))
def jx:P2:=bR (gT (fun i j=>decide (0≤j∧j≤1000000∧ -(2 ^ 64) < i∧i < 2 ^ 64)) fun i j=> .int (i ^ j.toNat))
section
variable {X:Cx}
theorem xw:OpR X (binaryOp .Sub) (AQ (fun _ _=>true) fun i j=> .int (i - j)):=OpR.imp zA fun x y H Q ⟨i,j,a,b,_,q⟩=>⟨i,j,a,b,q⟩
theorem pj:OpR X (binaryOp .FloorDiv) (AQ (fun _ j=>fZ j) fun i j=> .int (i / j)):=Cj fun i j _ _ _ _ _ hc q=>by
  obtain ⟨h1,h2⟩:=of_decide_eq_true hc
  have h3:j.natAbs.log2 < 9000:=by
    have:j.natAbs < 2 ^ 400:=by omega
    have:=(Nat.log2_lt (n:=j.natAbs) (k:=400) (by omega)).mpr this
    omega
  exact floordiv_int (by omega) (by rw [Int.fdiv_eq_ediv_of_nonneg i (by omega)];exact q) (.inl (PyProof.noPylong_of_log2 h3))
theorem xx:OpR X (binaryOp .Mod) (AQ (fun _ j=>decide (0 < j)) fun i j=> .int (i % j)):=OpR.imp uM fun x y H Q ⟨i,j,a,b,c,q⟩=>⟨i,j,a,b,of_decide_eq_true c,q⟩
theorem xy {i j:Int} (c:0≤j∧j≤1000000∧ -(2 ^ 64) < i∧i < 2 ^ 64):Bi i j:=⟨c.1,c.2.1,by omega⟩
theorem xz:OpR X (binaryOp .Pow) (AQ (fun i j=>decide (0≤j∧j≤1000000∧ -(2 ^ 64) < i∧i < 2 ^ 64)) fun i j=> .int (i ^ j.toNat)):=OpR.imp zB fun x y H Q ⟨i,j,a,b,c,q⟩=>⟨i,j,a,b,xy (of_decide_eq_true c),q⟩
end
def cm:P2:=fun E s1 s2=>(look E s1).bind fun d1=>(look E s2).bind fun d2=>match d1,d2 with
  | .int i, .int j=>if b7 i j then some (.sh (.int (i*j)),E) else none
  | .list a, .int k=>if decide (a.length*k.toNat≤1000000∧ -1000000≤k∧k≤1000000)&&(!hot E s1||a_ a) then some (.ow (List.replicate k.toNat a).flatten,E) else none
  | _,_=>none
abbrev rQ (K:PySem.W.Frag):R2:=fun x y H Q=>AQ b7 (fun i j=> .int (i*j)) x y H Q∨yM K x y H Q
theorem n_ {X:Cx}:OpR X (binaryOp .Mult) (rQ X.K):=OpR.or (Cj fun _ _ _ _ _ _ _ hc q=>mul_int q (vh hc)) xr
theorem xA {K:PySem.W.Frag}:ig K (rQ K) cm:=by
  intro B F A σ H E xs Xs v1 v2 s1 s2 res E' Q fr e q
  obtain ⟨d1,e1,e⟩:=Option.bind_eq_some_iff.mp e
  obtain ⟨d2,e2,e⟩:=Option.bind_eq_some_iff.mp e
  have r1:=(fr.look1 e1).1
  have r2:=(fr.look0 e2).1
  split at e
  · split at e
    · rename_i hm
      cases e;cases r1;cases r2
      exact .inl ⟨_,_,rfl,rfl,hm,q _ _ (fr.res2 ⟨rfl,_,rfl, .int _⟩)⟩
    · cases e
  · split at e
    · rename_i hc
      cases e
      simp only [Bool.and_eq_true,decide_eq_true_eq] at hc
      obtain ⟨a1,u1,x1,q1,i1⟩:=fr.items (k:=1) rfl e1 hc.2
      cases x1;cases r2
      have l1:=i1.len
      exact .inr ⟨_,_,_,rfl,rfl,q1,by omega,by omega,f8 (by rw [l1];exact hc.1.1),fun p hp=>q _ _ (fr.res2l (i1.rep _) hp)⟩
    · cases e
  · cases e
section
variable {X:Cx} {a b:Expr} {m1 m2:Bool} {f g:b_} {pos:Pos}
theorem aG (ha:EX X a m1 f) (hb:EX X b m2 g):EX X (.BinOp a .Add b pos) (m1||m2) (ag aH m2 f g):=ls xu xv ha hb
theorem oa (ha:EX X a m1 f) (hb:EX X b m2 g):EX X (.BinOp a .Sub b pos) (m1||m2) (ag gh m2 f g):=ls xw (n8 fun _ _=>rfl) ha hb
theorem cK (ha:EX X a m1 f) (hb:EX X b m2 g):EX X (.BinOp a .Mult b pos) (m1||m2) (ag cm m2 f g):=ls n_ xA ha hb
theorem eS (ha:EX X a m1 f) (hb:EX X b m2 g):EX X (.BinOp a .FloorDiv b pos) (m1||m2) (ag cG m2 f g):=ls pj (n8 fun _ _=>rfl) ha hb
theorem dR (ha:EX X a m1 f) (hb:EX X b m2 g):EX X (.BinOp a .Mod b pos) (m1||m2) (ag cu m2 f g):=ls xx (n8 fun _ _=>rfl) ha hb
theorem qz (ha:EX X a m1 f) (hb:EX X b m2 g):EX X (.BinOp a .Pow b pos) (m1||m2) (ag jx m2 f g):=ls xz (n8 fun _ _=>rfl) ha hb
end
def C6 (K:PySem.W.Frag) (r:V→Hp→VK→Prop) (op:PyData→Option PyData):Prop:=∀(d1 d:PyData) (v1:V) (H:Hp) (Q:VK),op d1=some d→Rp K H v1 d1→∃v,yK d=some v∧(Q v H→r v1 H Q)
def dB (op:PyData→Option PyData) (f:b_):b_:=fun E=>(f E).bind fun a=>(look a.2 a.1).bind fun d1=>(op d1).map fun d=>(.sh d,a.2)
theorem BB {K:PySem.W.Frag} {r:V→Hp→VK→Prop} {op:PyData→Option PyData} (hp:C6 K r op) {m:Bool} {f:b_} {σ:jw} {H:Hp} {Q:VK} (h:rd K m (dB op f) σ H Q):rd K m f σ H (fun x H1=>r x H1 Q):=by
  obtain ⟨B,E,xs,Xs,res,E',fr,c,e,q⟩:=h
  obtain ⟨⟨s1,E1⟩,e1,e⟩:=Option.bind_eq_some_iff.mp e
  obtain ⟨d1,e2,e⟩:=Option.bind_eq_some_iff.mp e
  obtain ⟨d,e3,e⟩:=Option.map_eq_some_iff.mp e
  cases e
  refine ⟨B,E,xs,Xs,s1,E1,fr,c,e1,fun v1 H1 ⟨F,A,fr1⟩=>?_⟩
  obtain ⟨v,hv,k⟩:=hp d1 d v1 H1 Q e3 (fr1.look0 e2).1
  obtain ⟨A',fr2⟩:=fr1.pop
  exact k (q v H1 ⟨F,A',fr2.push ⟨rfl,v,rfl,lq hv⟩⟩)
def eQ:PyData→Option PyData
  | .int i=>some (.int (-i))
  | _=>none
section
variable {X:Cx} {a b c:Expr} {m1 m2 m3:Bool} {f g h:b_} {pos:Pos}
theorem jb (ha:EX X a m1 f):EX X (.UnaryOp .USub a pos) m1 (dB eQ f):=bi (Bf zC ha) fun σ H Q h=>BB (r:=rU fun i=> .int (-i)) (fun d1 d v1 H Q e r=>by
  cases d1 <;> simp [eQ] at e
  cases e;cases r
  exact ⟨_,rfl,fun q=>⟨_,rfl,q⟩⟩) h
end
def qd (d1 d2:PyData):Option Bool:=match d1,d2 with
  | .int i, .int j=>some (decide (i=j))
  | .str a, .str b=>some (decide (a=b))
  | .bool a, .bool b=>some (decide (a=b))
  | .none, .none=>some true
  | .none, .str _=>some false
  | .str _, .none=>some false
  | d1,d2=>if SeqAt.shaped d1&&SeqAt.shaped d2 then some (PyData.eqv d1 d2) else none
def d_:P2:=bR fun d1 d2=>(qd d1 d2).map fun b=> .bool b
def mn:P2:=bR fun d1 d2=>(qd d1 d2).map fun b=> .bool (!b)
abbrev C7 (K:PySem.W.Frag):R2:=fun x y H Q=>Dt x y H Q∨Bx K x y H Q
abbrev C8 (K:PySem.W.Frag):R2:=fun x y H Q=>Du x y H Q∨By K x y H Q
theorem vi {K:PySem.W.Frag} {H:Hp} {v1 v2:V} {d1 d2:PyData} {b:Bool} (e:qd d1 d2=some b) (r1:Rp K H v1 d1) (r2:Rp K H v2 d2):
    (zD v1 v2=true∧decide (v1=v2)=b)∨(DOf K H v1 d1∧DOf K H v2 d2∧SeqAt.shaped d1=true∧SeqAt.shaped d2=true∧PyData.eqv d1 d2=b):=by
  unfold qd at e
  split at e
  · cases e;cases r1;cases r2;exact .inl ⟨rfl,by simp⟩
  · cases e;cases r1;cases r2;exact .inl ⟨rfl,by simp⟩
  · cases e;cases r1;cases r2;exact .inl ⟨rfl,by simp⟩
  · cases e;cases r1;cases r2;exact .inl ⟨rfl,rfl⟩
  · cases e;cases r1;cases r2;exact .inl ⟨rfl,rfl⟩
  · cases e;cases r1;cases r2;exact .inl ⟨rfl,rfl⟩
  · split at e
    · rename_i hs
      cases e
      simp only [Bool.and_eq_true] at hs
      exact .inr ⟨r1.dof hs.1,r2.dof hs.2,hs.1,hs.2,rfl⟩
    · cases e
theorem vj {K:PySem.W.Frag}:ig K (C7 K) d_:=ja fun d1 d2 d v1 v2 H Q e r1 r2=>by
  obtain ⟨b,e',rfl⟩:=Option.map_eq_some_iff.mp e
  refine ⟨_,rfl,fun q=>?_⟩
  rcases vi e' r1 r2 with ⟨a,rfl⟩ | ⟨a1,a2,a3,a4,rfl⟩
  · exact .inl ⟨a,q⟩
  · exact .inr ⟨_,_,a1,a2,a3,a4,q⟩
theorem vk {K:PySem.W.Frag}:ig K (C8 K) mn:=ja fun d1 d2 d v1 v2 H Q e r1 r2=>by
  obtain ⟨b,e',rfl⟩:=Option.map_eq_some_iff.mp e
  refine ⟨_,rfl,fun q=>?_⟩
  rcases vi e' r1 r2 with ⟨a,rfl⟩ | ⟨a1,a2,a3,a4,rfl⟩
  · exact .inl ⟨a,q⟩
  · exact .inr ⟨_,_,a1,a2,a3,a4,q⟩
def og (K:PySem.W.Frag) (r:R2) (op:PyData→PyData→Option PyData):Prop:=∀(d1 d2 d:PyData) (v1 v2:V) (H:Hp) (Q:VK),op d1 d2=some d→Rp K H v1 d1→Rp K H v2 d2→∃v,yK d=some v∧(Q v H→r v1 v2 H Q)
def a9 (op op':PyData→PyData→Option PyData) (m2 m3:Bool) (f g h:b_):b_:=fun E=>(f E).bind fun a=>if (m2||m3)&&a.1.isBr then none else (g a.2).bind fun b=>if m3&&b.1.isBr then none else
  (look b.2 a.1).bind fun d1=>(look b.2 b.1).bind fun d2=>match op d1 d2 with
    | some (.bool true)=>(h b.2).bind fun c=>(look c.2 b.1).bind fun d2=>(look c.2 c.1).bind fun d3=>(op' d2 d3).map fun d=>(.sh d,c.2)
    | some (.bool false)=>some (.sh (.bool false),b.2)
    | _=>none
section
variable {X:Cx} {a b c:Expr} {m1 m2 m3:Bool} {f g h:b_} {pos:Pos}
theorem rR (hu:X.A.units+64 < cLine) (ha:EX X a m1 f) (hb:EX X b m2 g):EX X (.Compare a [.Eq] [b] pos) (m1||m2) (ag d_ m2 f g):=qy (OpR.or yE (u6 hu)) vj ha hb (kY _)
theorem yO (hu:X.A.units+64 < cLine) (ha:EX X a m1 f) (hb:EX X b m2 g):EX X (.Compare a [.NotEq] [b] pos) (m1||m2) (ag mn m2 f g):=qy (OpR.or yF (u7 hu)) vk ha hb (kY _)
theorem ii (hu:X.A.units+64 < cLine) (ha:EX X a m1 f) (hb:EX X b m2 g):TX X (.Compare a [.Eq] [b] pos) (m1||m2) (bD (ag d_ m2 f g)):=n6 (OpR.or yE (u6 hu)) vj ha hb (kY _)
theorem pk (hu:X.A.units+64 < cLine) (ha:EX X a m1 f) (hb:EX X b m2 g):TX X (.Compare a [.NotEq] [b] pos) (m1||m2) (bD (ag mn m2 f g)):=n6 (OpR.or yF (u7 hu)) vk ha hb (kY _)
theorem pq {K:PySem.W.Frag} {r r':R2} {op op':PyData→PyData→Option PyData} (k:og K r op) (k':og K r' op') {σ:jw} {H:Hp} {Q:VK} (z:rd K (m1||(m2||m3)) (a9 op op' m2 m3 f g h) σ H Q):qk r r' (rd K m1 f) (rd K m2 g) (rd K m3 h) σ H Q:=by
  obtain ⟨B,E,xs,Xs,res,E',fr,cl,e,q⟩:=z
  obtain ⟨⟨s1,E1⟩,e1,e⟩:=Option.bind_eq_some_iff.mp e
  by_cases hb:((m2||m3)&&s1.isBr)=true
  · rw [if_pos hb] at e;cases e
  rw [if_neg hb] at e
  obtain ⟨⟨s2,E2⟩,e2,e⟩:=Option.bind_eq_some_iff.mp e
  by_cases hb2:(m3&&s2.isBr)=true
  · rw [if_pos hb2] at e;cases e
  rw [if_neg hb2] at e
  obtain ⟨d1,l1,e⟩:=Option.bind_eq_some_iff.mp e
  obtain ⟨d2,l2,e⟩:=Option.bind_eq_some_iff.mp e
  have n1:(m2||m3)=true→s1.isBr=false:=fun z=>by
    cases hs:s1.isBr with
    | false=>rfl
    | true=>exact absurd (by rw [z,hs];rfl) hb
  have n2:m3=true→s2.isBr=false:=fun z=>by
    cases hs:s2.isBr with
    | false=>rfl
    | true=>exact absurd (by rw [z,hs];rfl) hb2
  refine ⟨B,E,xs,Xs,s1,E1,fr,fun z=>cl (by simp [z]),e1,fun v1 H1 fr1=>?_⟩
  refine ⟨B,E1,v1::xs,s1::Xs,s2,E2,fr1,fun z=>Calm.cons (cl (by simp [z])) (n1 (by simp [z])),e2,fun v2 H2 ⟨F,A,fr2⟩=>?_⟩
  cases ho:op d1 d2 with
  | none=>rw [ho] at e;cases e
  | some d=>
    rw [ho] at e
    obtain ⟨v,hv,kk⟩:=k d1 d2 d v1 v2 H2 (fun z H3=>∃k,z= .bl k∧(if k=true then rd K m3 h σ H3 fun w' H4=>r' v2 w' H4 Q else Q (.bl false) H3)) ho (fr2.look1 l1).1 (fr2.look0 l2).1
    cases d with
    | bool t=>
      cases hv
      refine kk ⟨t,rfl,?_⟩
      cases t with
      | true=>
        rw [if_pos rfl]
        obtain ⟨⟨s3,E3⟩,e3,e⟩:=Option.bind_eq_some_iff.mp e
        obtain ⟨d2',l2',e⟩:=Option.bind_eq_some_iff.mp e
        obtain ⟨d3,l3,e⟩:=Option.bind_eq_some_iff.mp e
        obtain ⟨d,ho',e⟩:=Option.map_eq_some_iff.mp e
        cases e
        refine ⟨B,E2,v2::v1::xs,s2::s1::Xs,s3,E3,⟨F,A,fr2⟩,fun z=>Calm.cons (Calm.cons (cl (by simp [z])) (n1 (by simp [z]))) (n2 z),e3,fun v3 H3 ⟨F3,A3,fr3⟩=>?_⟩
        obtain ⟨v,hv,kk⟩:=k' d2' d3 d v2 v3 H3 Q ho' (fr3.look1 l2').1 (fr3.look0 l3).1
        obtain ⟨A4,fr4⟩:=fr3.pop
        exact kk (q v H3 (fr4.res2 ⟨rfl,v,rfl,lq hv⟩))
      | false=>
        rw [if_neg (by decide)]
        cases e
        exact q _ _ (fr2.res2 ⟨rfl,_,rfl, .bl _⟩)
    | none=>cases e
    | int i=>cases e
    | str x=>cases e
    | list xs=>cases e
    | tuple xs=>cases e
    | dict kvs=>cases e
theorem vm {o1 o2:CmpOp} {r r':R2} {op op':PyData→PyData→Option PyData} (ho:OpR X (compareOp o1) r) (ho':OpR X (compareOp o2) r') (k:og X.K r op) (k':og X.K r' op') (ha:EX X a m1 f) (hb:EX X b m2 g) (hc:EX X c m3 h)
    (hm:lastMarks [o1,o2] [b,c]=false:=by with_unfolding_all rfl):EX X (.Compare a [o1,o2] [b,c] pos) (m1||(m2||m3)) (a9 op op' m2 m3 f g h):=bi (uO ho ho' ha hb hc hm) fun _ _ _ z=>pq k k' z
end
end PL
namespace PL
open PySem L2 Nh
def dU (f g:b_):b_:=fun E=>(f E).bind fun a=>match a.1 with
  | .sh (.bool true)=>g a.2
  | .sh (.bool false)=>some (.sh (.bool false),a.2)
  | _=>none
def jy (f g:jq):jq:=fun E=>(f E).bind fun a=>if a.1 then g a.2 else some (false,a.2)
def cF (f g:jq):jq:=fun E=>(f E).bind fun a=>if a.1 then some (true,a.2) else g a.2
def b8 (f:jq):jq:=fun E=>(f E).map fun a=>(!a.1,a.2)
def nw (c:jq) (f g:b_):b_:=fun E=>(c E).bind fun a=>if a.1 then f a.2 else g a.2
def f9:PyData→Option Bool
  | .none=>some false
  | .bool b=>some b
  | .int i=>some (i != 0)
  | .str x=>if x.length≤1000000 then some ((x.length:Int) != 0) else none
  | .list xs=>some (!xs.isEmpty)
  | .tuple xs=>some (!xs.isEmpty)
  | .dict _=>none
def de (f:b_):jq:=fun E=>(f E).bind fun a=>match a.1 with
  | .al i=>match a.2[i]? with
    | some (.od kvs)=>some (!kvs.isEmpty,a.2)
    | some s=>(s.val.bind f9).map fun b=>(b,a.2)
    | none=>none
  | s=>(s.val.bind f9).map fun b=>(b,a.2)
section
variable {X:Cx} {a b c:Expr} {bK:List Expr} {m1 m2 m3:Bool} {f g h:b_} {t u:jq} {pos:Pos} {K:PySem.W.Frag}
theorem oh {op} (h:EX X a m1 f):EX X (.BoolOp op [a] pos) m1 f:=zm h
theorem ix (ha:EX X a m1 f) (hb:EX X (.BoolOp .And (b::bK) pos) m2 g):EX X (.BoolOp .And (a::b::bK) pos) (m1||m2) (dU f g):=by
  refine bi (zo ha hb) fun σ H Q z=>?_
  obtain ⟨B,E,xs,Xs,res,E',fr,cl,e,q⟩:=z
  obtain ⟨⟨s1,E1⟩,e1,e⟩:=Option.bind_eq_some_iff.mp e
  refine ⟨B,E,xs,Xs,s1,E1,fr,fun z=>cl (by simp [z]),e1,fun v1 H1 ⟨F,A,fr1⟩=>?_⟩
  simp only at e
  split at e
  · obtain ⟨r,_⟩:=fr1.look0 (d:= .bool true) rfl
    cases r
    obtain ⟨A',fr2⟩:=fr1.pop
    exact ⟨true,rfl,(if_pos rfl).mpr ⟨B,E1,xs,Xs,res,E',⟨F,A',fr2⟩,fun z=>cl (by simp [z]),e,q⟩⟩
  · cases e
    obtain ⟨r,_⟩:=fr1.look0 (d:= .bool false) rfl
    cases r
    exact ⟨false,rfl,(if_neg (by decide)).mpr (q _ _ ⟨F,A,fr1⟩)⟩
  · cases e
theorem rS (ha:TX X a m1 t):WX X (.BoolOp .And [a] pos) m1 t:=wR ha
theorem iz (ha:TX X a m1 t):WX X (.BoolOp .Or [a] pos) m1 t:=zi ha
theorem vn (ha:TX X a m1 t) (hb:WX X (.BoolOp .And (b::bK) pos) m2 u):WX X (.BoolOp .And (a::b::bK) pos) (m1||m2) (jy t u):=by
  refine vf (zj ha hb) fun σ H Q z=>?_
  obtain ⟨B,E,xs,Xs,res,E',fr,cl,e,q⟩:=z
  obtain ⟨⟨b1,E1⟩,e1,e⟩:=Option.bind_eq_some_iff.mp e
  refine ⟨B,E,xs,Xs,b1,E1,fr,fun z=>cl (by simp [z]),e1,fun H1 fr1=>?_⟩
  cases b1 with
  | true=>exact (if_pos rfl).mpr ⟨B,E1,xs,Xs,res,E',fr1,fun z=>cl (by simp [z]),e,q⟩
  | false=>cases e;exact (if_neg (by decide)).mpr (q _ fr1)
theorem iA (ha:TX X a m1 t) (hb:WX X (.BoolOp .Or (b::bK) pos) m2 u):WX X (.BoolOp .Or (a::b::bK) pos) (m1||m2) (cF t u):=by
  refine vf (AY ha hb) fun σ H Q z=>?_
  obtain ⟨B,E,xs,Xs,res,E',fr,cl,e,q⟩:=z
  obtain ⟨⟨b1,E1⟩,e1,e⟩:=Option.bind_eq_some_iff.mp e
  refine ⟨B,E,xs,Xs,b1,E1,fr,fun z=>cl (by simp [z]),e1,fun H1 fr1=>?_⟩
  cases b1 with
  | true=>cases e;exact (if_pos rfl).mpr (q _ fr1)
  | false=>exact (if_neg (by decide)).mpr ⟨B,E1,xs,Xs,res,E',fr1,fun z=>cl (by simp [z]),e,q⟩
theorem mq (h:WX X a m1 t):TX X a m1 t:=PW.pt h
theorem gw (ha:TX X a m1 t):TX X (.UnaryOp .Not a pos) m1 (b8 t):=by
  refine n4 (zk ha) fun σ H Q z=>?_
  obtain ⟨B,E,xs,Xs,res,E',fr,cl,e,q⟩:=z
  obtain ⟨⟨b1,E1⟩,e1,e⟩:=Option.map_eq_some_iff.mp e
  cases e
  exact ⟨B,E,xs,Xs,b1,E1,fr,cl,e1,fun H1 fr1=>q _ fr1⟩
theorem pw (hc:TX X c m1 t) (ha:EX X a m2 f) (hb:EX X b m3 g):EX X (.IfExp c a b pos) (m1||(m2||m3)) (nw t f g):=by
  refine bi (uD hc ha hb) fun σ H Q z=>?_
  obtain ⟨B,E,xs,Xs,res,E',fr,cl,e,q⟩:=z
  obtain ⟨⟨b1,E1⟩,e1,e⟩:=Option.bind_eq_some_iff.mp e
  refine ⟨B,E,xs,Xs,b1,E1,fr,fun z=>cl (by simp [z]),e1,fun H1 fr1=>?_⟩
  cases b1 with
  | true=>exact (if_pos rfl).mpr ⟨B,E1,xs,Xs,res,E',fr1,fun z=>cl (by simp [z]),e,q⟩
  | false=>exact (if_neg (by decide)).mpr ⟨B,E1,xs,Xs,res,E',fr1,fun z=>cl (by simp [z]),e,q⟩
theorem zR {H:Hp} {v:V} {d:PyData} {b:Bool} (r:Rp K H v d) (e:f9 d=some b):uQ K v H b:=by
  cases r with
  | non=>cases e;rfl
  | bl b=>cases e;rfl
  | int i=>cases e;rfl
  | str x=>
    simp only [f9] at e
    split at e
    · rename_i hl
      cases e
      exact ⟨f8 hl,rfl⟩
    · cases e
  | lst h r=>cases e;exact .inl ⟨_,h,by cases r <;> rfl⟩
  | tup h r=>cases e;exact .inr (.inl ⟨_,h,by cases r <;> rfl⟩)
  | dct h r=>cases e
  | exc h r=>cases e
  | obj c h n r=>cases e
theorem ef (ha:EX X a m1 f) (he:∀whole,isTrue a X.env whole=(do let v ←whole;standAt a.pos;holding [v] (truthy v)):=by exact fun _=>rfl):TX X a m1 (de f):=by
  refine n4 (uR ha he) fun σ H Q z=>?_
  obtain ⟨B,E,xs,Xs,res,E',fr,cl,e,q⟩:=z
  obtain ⟨⟨s,E1⟩,e1,e⟩:=Option.bind_eq_some_iff.mp e
  refine ⟨B,E,xs,Xs,s,E1,fr,cl,e1,fun v1 H1 ⟨F,A,fr1⟩=>?_⟩
  have key:∀d,look E1 s=some d→(f9 d).map (fun b=>(b,E1))=some (res,E')→∃k,uQ X.K v1 H1 k∧Q k H1:=fun d l e=>by
    obtain ⟨b,e',z⟩:=Option.map_eq_some_iff.mp e
    cases z
    obtain ⟨A',fr2⟩:=fr1.pop
    exact ⟨_,zR (fr1.look0 l).1 e',q _ ⟨F,A',fr2⟩⟩
  have kv:(s.val.bind f9).map (fun b=>(b,E1))=some (res,E')→(∀i,s≠ .al i)→∃k,uQ X.K v1 H1 k∧Q k H1:=fun e na=>by
    obtain ⟨b,e',z⟩:=Option.map_eq_some_iff.mp e
    obtain ⟨d,e1,e2⟩:=Option.bind_eq_some_iff.mp e'
    refine key d ?_ (by rw [e2];exact congrArg some z)
    cases s <;> first | exact e1 | exact absurd rfl (na _)
  simp only at e
  split at e
  · rename_i i
    split at e
    · rename_i kvs ei
      cases e
      obtain ⟨v',A1,ev,rfl,w,ew,hw⟩:=fr1.ext (k:=0) rfl
      cases ev;cases ew
      obtain ⟨o,A1,eo,l,us,A2,rfl,_,hl,r⟩:=fr1.var ei
      rw [hw] at eo
      cases eo
      obtain ⟨A',fr2⟩:=fr1.pop
      exact ⟨_, .inr (.inr ⟨_,hl,by cases us <;> cases kvs <;> first | rfl | exact False.elim r⟩),q _ ⟨F,A',fr2⟩⟩
    · rename_i s' _ ei
      obtain ⟨b,e',z⟩:=Option.map_eq_some_iff.mp e
      obtain ⟨d,e1,e2⟩:=Option.bind_eq_some_iff.mp e'
      exact key d (by simp [look,ei,e1]) (by rw [e2];exact congrArg some z)
    · cases e
  · rename_i na
    exact kv e na
end
theorem vo {X:Cx} {a b c:Expr} {m1 m2 m3:Bool} {f g h:b_} {pos:Pos} {o1 o2:CmpOp} {r r':R2} {op op':PyData→PyData→Option PyData} (ho:OpR X (compareOp o1) r) (ho':OpR X (compareOp o2) r') (k:og X.K r op) (k':og X.K r' op') (ha:EX X a m1 f) (hb:EX X b m2 g) (hc:EX X c m3 h)
    (hm:lastMarks [o1,o2] [b,c]=false:=by with_unfolding_all rfl):TX X (.Compare a [o1,o2] [b,c] pos) (m1||(m2||m3)) (bD (a9 op op' m2 m3 f g h)):=n4 (uP ho ho' ha hb hc hm) fun _ _ _ z=>pq k k' (vg z)
def ap:me:=fun E=>some ([],E)
def ae (m2:Bool) (f:b_) (g:me):me:=fun E=>(f E).bind fun a=>if m2&&a.1.isBr then none else (g a.2).map fun b=>(a.1::b.1,b.2)
def bL:lj:=fun E=>some ([],E)
def aV (f:b_) (g:lj):lj:=fun E=>(f E).bind fun a=>(frz a.2 a.1).bind fun b=>(g b.2).map fun c=>(b.1::c.1,c.2)
def ip (f:lj):b_:=fun E=>(f E).bind fun a=>if a.1.length≤1000000 then some (.sh (.tuple a.1),a.2) else none
def cz (f:lj):b_:=fun E=>(f E).bind fun a=>if a.1.length≤1000000 then some (.ow a.1,a.2) else none
section
variable {X:Cx} {e:Expr} {es:List Expr} {m1 m2:Bool} {f:b_} {g:me} {d:lj} {pos:Pos} {K:PySem.W.Frag}
theorem au:AX X [] false ap:=by
  refine j0 dy fun σ H Q z=>?_
  obtain ⟨B,E,xs,Xs,res,E',fr,cl,e,q⟩:=z
  cases e
  exact q [] H rfl fr
theorem af (ha:EX X e m1 f) (hr:AX X es m2 g) (hs:starEach (e::es) X.env=(false,eval e X.env)::starEach es X.env:=by rfl):AX X (e::es) (m1||m2) (ae m2 f g):=by
  refine j0 (bG ha hr hs) fun σ H Q z=>?_
  obtain ⟨B,E,xs,Xs,res,E',fr,cl,e,q⟩:=z
  obtain ⟨⟨s,E1⟩,e1,e⟩:=Option.bind_eq_some_iff.mp e
  by_cases hb:(m2&&s.isBr)=true
  · rw [if_pos hb] at e;cases e
  rw [if_neg hb] at e
  obtain ⟨⟨rs,E2⟩,e2,e⟩:=Option.map_eq_some_iff.mp e
  cases e
  refine ⟨B,E,xs,Xs,s,E1,fr,fun z=>cl (by simp [z]),e1,fun v1 H1 fr1=>?_⟩
  refine ⟨B,E1,v1::xs,s::Xs,rs,E2,fr1,fun z=>Calm.cons (cl (by simp [z])) ?_,e2,fun vs H2 hl fr2=>?_⟩
  · cases hs:s.isBr with
    | false=>rfl
    | true=>exact absurd (by simp [z,hs]) hb
  · exact q (v1::vs) H2 (by simp [hl]) (by simpa using fr2)
theorem zS:DX X [] false bL:=by
  refine j0 dy fun σ H Q z=>?_
  obtain ⟨B,E,xs,Xs,res,E',fr,cl,e,q⟩:=z
  cases e
  exact q [] H rfl fr
theorem xB (ha:EX X e m1 f) (hr:DX X es m2 d) (hs:starEach (e::es) X.env=(false,eval e X.env)::starEach es X.env:=by rfl):DX X (e::es) (m1||m2) (aV f d):=by
  refine j0 (bG ha hr hs) fun σ H Q z=>?_
  obtain ⟨B,E,xs,Xs,res,E',fr,cl,e,q⟩:=z
  obtain ⟨⟨s,E1⟩,e1,e⟩:=Option.bind_eq_some_iff.mp e
  obtain ⟨⟨d1,E2⟩,e2,e⟩:=Option.bind_eq_some_iff.mp e
  obtain ⟨⟨rs,E3⟩,e3,e⟩:=Option.map_eq_some_iff.mp e
  cases e
  refine ⟨B,E,xs,Xs,s,E1,fr,fun z=>cl (by simp [z]),e1,fun v1 H1 ⟨F,A,fr1⟩=>?_⟩
  obtain ⟨F2,A2,fr2⟩:=fr1.frz0 e2
  refine ⟨B,E2,v1::xs, .sh d1::Xs,rs,E3,⟨F2,A2,fr2⟩,fun z=>Calm.cons (cl (by simp [z])) rfl,e3,fun vs H2 hl fr2=>?_⟩
  exact q (v1::vs) H2 (by simp [hl]) (by simpa using fr2)
theorem FrF.shsR {B F:Hp} {σ:jw} {H:Hp} {E:List Sl} {xs:List V} {Xs:List Sl}:∀{us:List V} {es:List PyData} {A:List Addr},us.length=es.length→FrF K B F A σ H E (us++xs) (es.map .sh++Xs)→RpA K F us es∧∃A',FrF K B F A' σ H E xs Xs
  | [],[],A,_,h=>⟨.nil,A,h⟩
  | u::us,e::es,A,hl,h=>by
    obtain ⟨v,A1,ev,rfl,w,ew,r⟩:=h.ext (k:=0) rfl
    cases ev;cases ew
    obtain ⟨A',h'⟩:=FrF.pop (xs:=us++xs) (Xs:=es.map .sh++Xs) h
    obtain ⟨r',q⟩:=FrF.shsR (by simpa using hl) h'
    exact ⟨.cons r r',q⟩
  | [],_::_,_,e,_=>by cases e
  | _::_,[],_,e,_=>by cases e
theorem FrF.shs {B F:Hp} {σ:jw} {H:Hp} {E:List Sl} {xs:List V} {Xs:List Sl} {us:List V} {es:List PyData} {A:List Addr} (hl:us.length=es.length) (h:FrF K B F A σ H E (us.reverse++xs) (es.reverse.map .sh++Xs)):RpA K F us es∧∃A',FrF K B F A' σ H E xs Xs:=by
  obtain ⟨r,q⟩:=FrF.shsR (by simpa using hl) h
  have:=r.rev
  rw [List.reverse_reverse,List.reverse_reverse] at this
  exact ⟨this,q⟩
theorem zT {x1} (h:DX X es m1 d):EX X (.Tuple es x1 pos) m1 (ip d):=by
  refine bi (uV h) fun σ H Q z=>?_
  obtain ⟨B,E,xs,Xs,res,E',fr,cl,e,q⟩:=z
  obtain ⟨⟨ds,E1⟩,e1,e⟩:=Option.bind_eq_some_iff.mp e
  simp only at e
  split at e
  · rename_i hl
    cases e
    refine ⟨B,E,xs,Xs,ds,_,fr,cl,e1,fun vs H1 hv ⟨F,A,fr1⟩=>?_⟩
    obtain ⟨r,A',fr2⟩:=fr1.shs hv
    exact ⟨f8 (by omega),fun p hp=>q _ _ ⟨_,_,fr2.newt r hp⟩⟩
  · cases e
theorem zU (h:DX X es m1 d):EX X (.List es pos) m1 (cz d):=by
  refine bi (zG h) fun σ H Q z=>?_
  obtain ⟨B,E,xs,Xs,res,E',fr,cl,e,q⟩:=z
  obtain ⟨⟨ds,E1⟩,e1,e⟩:=Option.bind_eq_some_iff.mp e
  simp only at e
  split at e
  · rename_i hl
    cases e
    refine ⟨B,E,xs,Xs,ds,_,fr,cl,e1,fun vs H1 hv ⟨F,A,fr1⟩=>?_⟩
    obtain ⟨r,A',fr2⟩:=fr1.shs hv
    exact ⟨f8 (by omega),fun p hp=>q _ _ ⟨_,_,fr2.newl r hp⟩⟩
  · cases e
end
def sZ (ds:List PyData) (lo hi:Option Int):List PyData:=(ds.drop (HT.k9 ds.length 0 lo)).take (HT.k9 ds.length ds.length hi - HT.k9 ds.length 0 lo)
def dO:P2:=fun E s1 s2=>(look E s1).bind fun d1=>(look E s2).bind fun d2=>match d2 with
  | .int i=>match d1 with
    | .list ds=>(atI ds i).map fun d=>(if hot E s1&& !aN d then .br d else .sh d,E)
    | .tuple ds=>(atI ds i).map fun d=>(if hot E s1&& !aN d then .br d else .sh d,E)
    | .str z=>if z.length≤1000000 then (atI z.cps.toList i).map fun c=>(.sh (.str ⟨#[c]⟩),E) else none
    | _=>none
  | _=>none
section
variable {K:PySem.W.Frag} {H:Hp}
theorem RpA.atI {vs:List V} {ds:List PyData} {i:Int} {d:PyData} (h:RpA K H vs ds) (e:L2.atI ds i=some d):∃v,L2.atI vs i=some v∧Rp K H v d:=by
  unfold L2.atI at e ⊢
  obtain ⟨j,e1,e2⟩:=Option.bind_eq_some_iff.mp e
  obtain ⟨v,ev,r⟩:=h.get e2
  exact ⟨v,by rw [h.len,e1];exact ev,r⟩
theorem FrF.item {B F:Hp} {A:List Addr} {σ:jw} {E:List Sl} {xs:List V} {Xs:List Sl} {v1 v2 v:V} {s1 s2:Sl} {d:PyData} (fr:FrF K B F A σ H E (v2::v1::xs) (s2::s1::Xs)) (r:Rp K H v d) (f:hot E s1=false→Rp K F v d):
    Frm K B σ H E (v::xs) ((if hot E s1&& !aN d then .br d else .sh d)::Xs):=by
  by_cases hc:(hot E s1&& !aN d)=true
  · rw [if_pos hc]
    exact fr.res2 ⟨rfl,v,rfl,r⟩
  · rw [if_neg hc]
    refine fr.res2 ⟨rfl,v,rfl,?_⟩
    cases hh:hot E s1 with
    | false=>exact f hh
    | true=>
      rw [hh] at hc
      exact fr.cold r (by simpa using hc)
theorem zV:ig K (Dv K) dO:=by
  intro B F A σ H E xs Xs v1 v2 s1 s2 res E' Q fr e q
  obtain ⟨d1,e1,e⟩:=Option.bind_eq_some_iff.mp e
  obtain ⟨d2,e2,e⟩:=Option.bind_eq_some_iff.mp e
  obtain ⟨r1,f1⟩:=fr.look1 e1
  have r2:=(fr.look0 e2).1
  split at e
  · cases r2
    split at e
    · obtain ⟨d,ed,e⟩:=Option.map_eq_some_iff.mp e
      cases e
      cases hh:hot E s1 with
      | false=>
        obtain ⟨a,vs,rfl,h1,h2⟩:=f1 hh
        obtain ⟨v,ev,rv⟩:=h2.atI ed
        have z:=fr.item (rv.same fr.fh) fun _=>rv
        rw [hh] at z q
        exact .inl ⟨_,_,_,v,rfl,rfl,h1,ev,q _ _ z⟩
      | true=>
        cases r1 with
        | lst h1 h2=>
          obtain ⟨v,ev,rv⟩:=h2.atI ed
          have z:=fr.item rv fun h=>absurd (hh.symm.trans h) (by decide)
          rw [hh] at z q
          exact .inl ⟨_,_,_,v,rfl,rfl,h1,ev,q _ _ z⟩
    · obtain ⟨d,ed,e⟩:=Option.map_eq_some_iff.mp e
      cases e
      cases hh:hot E s1 with
      | false=>
        have h0:Rp K F v1 _:=f1 hh
        cases h0 with
        | tup h1 h2=>
          obtain ⟨v,ev,rv⟩:=h2.atI ed
          have z:=fr.item (rv.same fr.fh) fun _=>rv
          rw [hh] at z q
          exact .inr (.inl ⟨_,_,_,v,rfl,rfl,fr.fh.tup h1,ev,q _ _ z⟩)
      | true=>
        cases r1 with
        | tup h1 h2=>
          obtain ⟨v,ev,rv⟩:=h2.atI ed
          have z:=fr.item rv fun h=>absurd (hh.symm.trans h) (by decide)
          rw [hh] at z q
          exact .inr (.inl ⟨_,_,_,v,rfl,rfl,h1,ev,q _ _ z⟩)
    · split at e
      · rename_i hl
        obtain ⟨c,ec,e⟩:=Option.map_eq_some_iff.mp e
        cases e;cases r1
        exact .inr (.inr ⟨_,_,c,rfl,rfl,f8 hl,ec,q _ _ (fr.res2 ⟨rfl,_,rfl, .str _⟩)⟩)
      · cases e
    · cases e
  · cases e
end
end PL
namespace L2
open PySem PySem.Spec PyProof.Rows
section
variable {κ:Type} [DecidableEq κ]
def kE (kvs:List (κ×V)) (k:κ):Option V:=(kvs.find? fun kv=>decide (kv.1=k)).map (·.2)
def px (kvs:List (κ×V)) (k:κ) (v:V):List (κ×V):=
  if (kvs.any fun kv=>decide (kv.1=k))=true then kvs.map (fun kv=>if kv.1=k then (kv.1,v) else kv) else kvs++[(k,v)]
def yP (kvs:List (κ×V)) (k:κ):List (κ×V):=kvs.filter fun kv=>decide (kv.1≠k)
theorem lv {p:κ×V} {r:List (κ×V)} {k:κ} (e:p.1=k):kE (p::r) k=some p.2:=by simp [kE,List.find?_cons,e]
theorem lx {p:κ×V} {r:List (κ×V)} {k:κ} (e:¬p.1=k):kE (p::r) k=kE r k:=by simp [kE,List.find?_cons,e]
theorem py (k:κ):∀kvs:List (κ×V),(kvs.any fun kv=>decide (kv.1=k))=(kE kvs k).isSome
  | []=>rfl
  | p::r=>by
    rw [List.any_cons]
    by_cases e:p.1=k
    · simp only [lv e,decide_eq_true e,Bool.true_or,Option.isSome_some]
    · rw [lx e,decide_eq_false e,Bool.false_or];exact py k r
theorem RelO.isSome_eq {o:Option V} {u:Option Value} (r:RelO o u):o.isSome=u.isSome:=by
  cases o with
  | none=>cases u with
    | none=>rfl
    | some _=>exact (show False from r).elim
  | some _=>cases u with
    | none=>exact (show False from r).elim
    | some _=>rfl
theorem RelO.getD {o:Option V} {u:Option Value} {d:V} {d':Value} (r:RelO o u) (rd:RelV d d'):RelV (o.getD d) (u.getD d'):=by
  cases o with
  | none=>cases u with
    | none=>exact rd
    | some _=>exact (show False from r).elim
  | some _=>cases u with
    | none=>exact (show False from r).elim
    | some _=>exact r
theorem KV.val {kvs:List (κ×V)} {vs:List (κ×Value)} (r:KV kvs vs) (k:κ):RelO (kE kvs k) (valueAt vs k):=by
  unfold KV at r
  induction r with
  | nil=>exact True.intro
  | @cons p q ps qs h t ih=>
    obtain ⟨h1,h2⟩:=h
    by_cases e:p.1=k
    · have e':q.1=k:=h1.symm.trans e
      have b:valueAt (q::qs) k=some q.2:=by simp [valueAt,List.find?_cons,e']
      rw [lv e,b];exact h2
    · have e':¬q.1=k:=fun z=>e (h1.trans z)
      have b:valueAt (q::qs) k=valueAt qs k:=by simp [valueAt,List.find?_cons,e']
      rw [lx e,b];exact ih
theorem KV.any {kvs:List (κ×V)} {vs:List (κ×Value)} (r:KV kvs vs) (k:κ):(kvs.any fun kv=>decide (kv.1=k))=vs.any fun kv=>decide (kv.1=k):=by
  unfold KV at r
  induction r with
  | nil=>rfl
  | cons h t ih=>rw [List.any_cons,List.any_cons,ih,h.1]
theorem KV.repl {kvs:List (κ×V)} {vs:List (κ×Value)} (r:KV kvs vs) (k:κ) {y:V} {u:Value} (ry:RelV y u):
    KV (kvs.map fun kv=>if kv.1=k then (kv.1,y) else kv) (vs.map fun kv=>if kv.1=k then (kv.1,u) else kv):=by
  unfold KV at r ⊢
  induction r with
  | nil=>exact .nil
  | @cons p q ps qs h t ih=>
    rw [List.map_cons,List.map_cons]
    refine .cons ?_ ih
    obtain ⟨h1,h2⟩:=h
    by_cases e:p.1=k
    · rw [if_pos e,if_pos (h1.symm.trans e)];exact ⟨h1,ry⟩
    · rw [if_neg e,if_neg (fun z=>e (h1.trans z))];exact ⟨h1,h2⟩
theorem KV.put {kvs:List (κ×V)} {vs:List (κ×Value)} (r:KV kvs vs) (k:κ) {y:V} {u:Value} (ry:RelV y u):KV (px kvs k y) (stored vs k u):=by
  unfold px stored
  rw [r.any k]
  by_cases e:(vs.any fun kv=>decide (kv.1=k))=true
  · rw [if_pos e,if_pos e];exact r.repl k ry
  · rw [if_neg e,if_neg e];exact Paired.snoc r ⟨rfl,ry⟩
theorem KV.drop {kvs:List (κ×V)} {vs:List (κ×Value)} (r:KV kvs vs) (k:κ):KV (yP kvs k) (without vs k):=by
  unfold KV at r ⊢
  unfold yP without
  induction r with
  | nil=>exact .nil
  | @cons p q ps qs h t ih=>
    obtain ⟨h1,h2⟩:=h
    rw [List.filter_cons,List.filter_cons]
    by_cases e:p.1=k
    · have a:¬decide (p.1≠k)=true:=by simp [e]
      have b:¬decide (q.1≠k)=true:=by simp [h1.symm.trans e]
      rw [if_neg a,if_neg b];exact ih
    · have e':¬q.1=k:=fun z=>e (h1.trans z)
      have a:decide (p.1≠k)=true:=by simp [e]
      have b:decide (q.1≠k)=true:=by simp [e']
      rw [if_pos a,if_pos b];exact .cons ⟨h1,h2⟩ ih
theorem KV.keys {kvs:List (κ×V)} {vs:List (κ×Value)} (r:KV kvs vs):kvs.map (·.1)=vs.map (·.1):=by
  unfold KV at r
  induction r with
  | nil=>rfl
  | cons h t ih=>rw [List.map_cons,List.map_cons,ih,h.1]
theorem KV.length {kvs:List (κ×V)} {vs:List (κ×Value)} (r:KV kvs vs):kvs.length=vs.length:=Paired.length r
end
abbrev KT (H:Hp):List (List eP×V)→List (List eP×Addr×Value)→Prop:=Paired fun p q=>p.1=q.1∧H q.2.1=some (.tup (p.1.map kV))∧RelV p.2 q.2.2
theorem KT.val {H:Hp} {kvs:List (List eP×V)} {xs:List (List eP×Addr×Value)} (r:KT H kvs xs) (k:List eP):RelO (kE kvs k) ((atKey xs k).map (·.2)):=by
  induction r with
  | nil=>exact True.intro
  | @cons p q ps qs h t ih=>
    obtain ⟨h1,_,h2⟩:=h
    by_cases e:p.1=k
    · have e':q.1=k:=h1.symm.trans e
      have b:atKey (q::qs) k=some q.2:=by simp [atKey,List.find?_cons,e']
      rw [lv e,b];exact h2
    · have e':¬q.1=k:=fun z=>e (h1.trans z)
      have b:atKey (q::qs) k=atKey qs k:=by simp [atKey,List.find?_cons,e']
      rw [lx e,b];exact ih
theorem KT.repl {H:Hp} {kvs:List (List eP×V)} {xs:List (List eP×Addr×Value)} (r:KT H kvs xs) (k:List eP) {y:V} {u:Value} (ry:RelV y u):
    KT H (kvs.map fun kv=>if kv.1=k then (kv.1,y) else kv) (xs.map (putAt k u)):=by
  induction r with
  | nil=>exact .nil
  | @cons p q ps qs h t ih=>
    rw [List.map_cons,List.map_cons]
    refine .cons ?_ ih
    obtain ⟨h1,h2,h3⟩:=h
    unfold putAt
    by_cases e:p.1=k
    · rw [if_pos e,if_pos (h1.symm.trans e)];exact ⟨h1,h2,ry⟩
    · rw [if_neg e,if_neg (fun z=>e (h1.trans z))];exact ⟨h1,h2,h3⟩
theorem KT.put {H:Hp} {kvs:List (List eP×V)} {xs:List (List eP×Addr×Value)} (r:KT H kvs xs) (k:List eP) {b:Addr} {y:V} {u:Value} (hb:H b=some (.tup (k.map kV))) (ry:RelV y u):
    KT H (px kvs k y) (storedH xs k b u):=by
  have e:(kvs.any fun kv=>decide (kv.1=k))=(atKey xs k).isSome:=by
    rw [py,(r.val k).isSome_eq,Option.isSome_map]
  unfold px storedH
  rw [e]
  by_cases q:(atKey xs k).isSome=true
  · rw [if_pos q,if_pos q];exact r.repl k ry
  · rw [if_neg q,if_neg q];exact Paired.snoc r ⟨rfl,hb,ry⟩
theorem KT.keeps {H H':Hp} {kvs:List (List eP×V)} {xs:List (List eP×Addr×Value)} (r:KT H kvs xs) (ht:∀b ys,H b=some (.tup ys)→H' b=some (.tup ys)):KT H' kvs xs:=
  Paired.mapP r fun _ _ z=>⟨z.1,ht _ _ z.2.1,z.2.2⟩
section
variable {P:Program} {w:World} {H:Hp} {h:Heap} {a:Addr}
theorem BC {u:HO} (ok:HOk P w H h) (e:Rd H a u):ObjOk P w H h a u:=e.ok ok
theorem BD {kvs:List (eP×V)} (ok:HOk P w H h) (e:Rd H a (.dK kvs)):kvs.length≤sizeLine∧(a == sysModules)=false∧∃vs,KV kvs vs∧h.DictOf (kL P w) a vs:=
  show ObjOk P w H h a (.dK kvs) from BC ok e
end
def DGet (H:Hp) (a:Addr) (y:V) (r:Option V):Prop:=
  (∃kvs k,Rd H a (.dK kvs)∧y=kV k∧r=kE kvs k)∨∃kvs k b,Rd H a (.dT kvs)∧y= .ref b∧H b=some (.tup (k.map kV))∧r=kE kvs k
def DPut (H:Hp) (a:Addr) (y v:V) (H':Hp):Prop:=
  (∃kvs k,H a=some (.dK kvs)∧y=kV k∧kvs.length < sizeLine∧H'=upd H a (.dK (px kvs k v)))∨
  ∃kvs k b,H a=some (.dT kvs)∧y= .ref b∧H b=some (.tup (k.map kV))∧kvs.length < sizeLine∧H'=upd H a (.dT (px kvs k v))
theorem DGet.k {H:Hp} {a:Addr} {kvs:List (eP×V)} {k:eP} (e:H a=some (.dK kvs)):DGet H a (kV k) (kE kvs k):= .inl ⟨kvs,k, .inl e,rfl,rfl⟩
theorem DGet.t {H:Hp} {a b:Addr} {kvs:List (List eP×V)} {k:List eP} (e:H a=some (.dT kvs)) (eb:H b=some (.tup (k.map kV))):DGet H a (.ref b) (kE kvs k):= .inr ⟨kvs,k,b, .inl e,rfl,eb,rfl⟩
theorem DPut.k {H:Hp} {a:Addr} {kvs:List (eP×V)} {k:eP} {v:V} (e:H a=some (.dK kvs)) (hl:kvs.length < sizeLine):DPut H a (kV k) v (upd H a (.dK (px kvs k v))):= .inl ⟨kvs,k,e,rfl,hl,rfl⟩
theorem DPut.t {H:Hp} {a b:Addr} {kvs:List (List eP×V)} {k:List eP} {v:V} (e:H a=some (.dT kvs)) (eb:H b=some (.tup (k.map kV))) (hl:kvs.length < sizeLine):
    DPut H a (.ref b) v (upd H a (.dT (px kvs k v))):= .inr ⟨kvs,k,b,e,rfl,eb,hl,rfl⟩
section
variable {X:Cx} {pins:List (Addr×Obj)} {σ:St} {H:Hp} {s:Shared} {a:Addr} {y v:V} {u r:Value} {o:Option V} {A:Around} {E:Value→Shared→Prop}
theorem Inv.big (I:Inv X pins σ H s):sysModules < s.heap.objs.size:=by
  have h:mainGlobals < s.heap.objs.size:=(I.mod.glob.keeps I.bk).lt
  exact Nat.lt_trans (by decide) h
end
end L2
namespace PL
open PySem L2 Nh
theorem bW {X:Cx} {a b:Expr} {m1 m2:Bool} {f g:b_} {pos:Pos} (ha:EX X a m1 f) (hb:EX X b m2 g) (hs:rC b:=by exact fun _ _=>rfl):EX X (.Subscript a b pos) (m1||m2) (ag dO m2 f g):=bi (uZ zK ha hb hs) fun _ _ _ h=>n5 zV h
abbrev zW:=List Sl→Option (Option Int×List Sl)
def ro (K:PySem.W.Frag) (m:Bool) (f:zW):TO:=fun σ H Q=>∃B E xs Xs o E',Frm K B σ H E xs Xs∧(m=true→Calm Xs)∧f E=some (o,E')∧∀H',Frm K B σ H' E' xs Xs→Q o H'
def OX (X:Cx) (e:Option Expr) (m:Bool) (f:zW):Prop:=PO X e (ro X.K m f)
def lz:zW:=fun E=>some (none,E)
def iB (f:b_):zW:=fun E=>(f E).bind fun a=>match look a.2 a.1 with
  | some (.int i)=>some (some i,a.2)
  | _=>none
section
variable {X:Cx} {e:Expr} {lo hi:Option Expr} {m1 m2 m3:Bool} {f:b_} {g h:zW} {pos p2:Pos} {K:PySem.W.Frag}
theorem vp {e:Option Expr} {t t':TO} (h:PO X e t) (k:∀σ H Q,t' σ H Q→t σ H Q):PO X e t':=fun pins s σ H Q I q=>h pins s σ H Q I (k σ H Q q)
theorem rT:OX X none false lz:=vp xg fun σ H Q z=>by
  obtain ⟨B,E,xs,Xs,res,E',fr,cl,e,q⟩:=z
  cases e
  exact q _ fr
theorem kM (he:EX X e m1 f):OX X (some e) m1 (iB f):=vp (xh he) fun σ H Q z=>by
  obtain ⟨B,E,xs,Xs,res,E',fr,cl,e,q⟩:=z
  obtain ⟨⟨s,E1⟩,e1,e⟩:=Option.bind_eq_some_iff.mp e
  refine ⟨B,E,xs,Xs,s,E1,fr,cl,e1,fun v1 H1 ⟨F,A,fr1⟩=>?_⟩
  simp only at e
  split at e
  · rename_i i l
    cases e
    have r:=(fr1.look0 l).1
    cases r
    obtain ⟨A',fr2⟩:=fr1.pop
    exact ⟨i,rfl,q _ ⟨F,A',fr2⟩⟩
  · cases e
theorem RpA.cut {F:Hp} {vs:List V} {ds:List PyData} (h:RpA K F vs ds) (lo hi:Option Int):RpA K F (sS vs lo hi) (sZ ds lo hi):=by
  unfold sS sZ
  rw [h.len]
  exact (h.drop _).take _
end
def ax (E:List Sl):List Sl→Option (List PyData)
  | []=>some []
  | s::ss=>(look E s).bind fun d=>(ax E ss).map fun ds=>d::ds
theorem lookA_iff {E:List Sl}:∀{ss:List Sl} {ds:List PyData},ax E ss=some ds↔Paired (fun s d=>look E s=some d) ss ds
  | [],ds=>⟨fun h=>by cases h;exact .nil,fun h=>by cases h;rfl⟩
  | s::ss,ds=>by
    constructor
    · intro h
      obtain ⟨d,h1,h⟩:=Option.bind_eq_some_iff.mp h
      obtain ⟨es,h2,h⟩:=Option.map_eq_some_iff.mp h
      cases h
      exact .cons h1 (lookA_iff.mp h2)
    · intro h
      cases h with
      | cons h1 h2=>simp [ax,h1,lookA_iff.mpr h2]
theorem s_ {E:List Sl} {ss:List Sl} {ds:List PyData} (h:ax E ss=some ds):ax E ss.reverse=some ds.reverse:=lookA_iff.mpr (i_ (lookA_iff.mp h))
section
variable {X:Cx} {K:PySem.W.Frag} {B F:Hp} {σ:jw} {H:Hp} {E:List Sl} {xs:List V} {Xs:List Sl}
theorem FrF.looksR:∀{us:List V} {ts:List Sl} {es:List PyData} {A:List Addr},us.length=ts.length→FrF K B F A σ H E (us++xs) (ts++Xs)→ax E ts=some es→RpA K H us es∧∃A',FrF K B F A' σ H E xs Xs
  | [],[],es,A,_,h,e=>by cases e;exact ⟨.nil,A,h⟩
  | u::us,t::ts,es,A,hl,h,e=>by
    obtain ⟨d,h1,e⟩:=Option.bind_eq_some_iff.mp e
    obtain ⟨es',h2,e⟩:=Option.map_eq_some_iff.mp e
    cases e
    have r:=(FrF.look0 (xs:=us++xs) (Xs:=ts++Xs) h h1).1
    obtain ⟨A',h'⟩:=FrF.pop (xs:=us++xs) (Xs:=ts++Xs) h
    obtain ⟨r',q⟩:=FrF.looksR (by simpa using hl) h' h2
    exact ⟨.cons r r',q⟩
  | [],_::_,_,_,e,_,_=>by cases e
  | _::_,[],_,_,e,_,_=>by cases e
theorem FrF.looks {us:List V} {ts:List Sl} {es:List PyData} {A:List Addr} (hl:us.length=ts.length) (h:FrF K B F A σ H E (us.reverse++xs) (ts.reverse++Xs)) (e:ax E ts=some es):RpA K H us es∧∃A',FrF K B F A' σ H E xs Xs:=by
  obtain ⟨r,q⟩:=FrF.looksR (by simpa using hl) h (s_ e)
  have:=r.rev
  rw [List.reverse_reverse,List.reverse_reverse] at this
  exact ⟨this,q⟩
end
def zX (K:PySem.W.Frag) (r:List V→Hp→VK→Prop) (op:List PyData→Option PyData):Prop:=∀(ds:List PyData) (d:PyData) (vs:List V) (H:Hp) (Q:VK),op ds=some d→RpA K H vs ds→∃v,yK d=some v∧(Q v H→r vs H Q)
def aW (op:List PyData→Option PyData) (g:me):b_:=fun E=>(g E).bind fun a=>(ax a.2 a.1).bind fun ds=>(op ds).map fun d=>(.sh d,a.2)
theorem oi {K:PySem.W.Frag} {r:List V→Hp→VK→Prop} {op:List PyData→Option PyData} (hp:zX K r op) {m:Bool} {g:me} {σ:jw} {H:Hp} {Q:VK} (h:rd K m (aW op g) σ H Q):zH r (ra K m g) σ H Q:=by
  obtain ⟨B,E,xs,Xs,res,E',fr,cl,e,q⟩:=h
  obtain ⟨⟨rs,E1⟩,e1,e⟩:=Option.bind_eq_some_iff.mp e
  obtain ⟨ds,e2,e⟩:=Option.bind_eq_some_iff.mp e
  obtain ⟨d,e3,e⟩:=Option.map_eq_some_iff.mp e
  cases e
  refine ⟨B,E,xs,Xs,rs,E1,fr,cl,e1,fun vs H1 hl ⟨F,A,fr1⟩=>?_⟩
  obtain ⟨r1,A',fr2⟩:=fr1.looks hl e2
  obtain ⟨v,hv,k⟩:=hp ds d vs H1 Q e3 r1
  exact k (q v H1 ⟨F,A',fr2.push ⟨rfl,v,rfl,lq hv⟩⟩)
def dz:List PyData→Option PyData
  | [.list xs]=>some (.int xs.length)
  | [.tuple xs]=>some (.int xs.length)
  | [.str z]=>if z.length≤1000000 then some (.int z.length) else none
  | _=>none
def iZ:List PyData→Option PyData
  | [.int i]=>some (.int (if i < 0 then -i else i))
  | _=>none
def mr:List PyData→Option PyData
  | [.int i, .int j]=>some (.int (if j > i then j else i))
  | _=>none
theorem RpA.one {K:PySem.W.Frag} {H:Hp} {vs:List V} {d:PyData} (h:RpA K H vs [d]):∃v,vs=[v]∧Rp K H v d:=by
  cases h with
  | cons h t=>cases t;exact ⟨_,rfl,h⟩
theorem RpA.two {K:PySem.W.Frag} {H:Hp} {vs:List V} {d e:PyData} (h:RpA K H vs [d,e]):∃v u,vs=[v,u]∧Rp K H v d∧Rp K H u e:=by
  cases h with
  | cons h t=>
    obtain ⟨u,rfl,r⟩:=t.one
    exact ⟨_,_,rfl,h,r⟩
section
variable {X:Cx} {e:Expr} {es:List Expr} {m1:Bool} {g:me} {p pos:Pos} {K:PySem.W.Frag}
abbrev BE (K:PySem.W.Frag):List V→Hp→VK→Prop:=fun xs H Q=>(∃p ys,xs=[.ref p]∧(SqL K H p ys∨SqT K H p ys)∧Q (.int ys.length) H)∨(∃z,xs=[.str z]∧z.length≤sizeLine∧Q (.int z.length) H)
theorem xC:zX K (BE K) dz:=fun ds d vs H Q e r=>by
  unfold dz at e
  split at e
  · cases e
    obtain ⟨v,rfl,r'⟩:=r.one
    cases r' with
    | lst h1 h2=>exact ⟨_,rfl,fun q=> .inl ⟨_,_,rfl, .inl h1,by rw [h2.len];exact q⟩⟩
  · cases e
    obtain ⟨v,rfl,r'⟩:=r.one
    cases r' with
    | tup h1 h2=>exact ⟨_,rfl,fun q=> .inl ⟨_,_,rfl, .inr h1,by rw [h2.len];exact q⟩⟩
  · split at e
    · rename_i hl
      cases e
      obtain ⟨v,rfl,r'⟩:=r.one
      cases r'
      exact ⟨_,rfl,fun q=> .inr ⟨_,rfl,f8 hl,q⟩⟩
    · cases e
  · cases e
theorem lC {x:Str} {id:String} {r:List V→Hp→VK→Prop} {op:List PyData→Option PyData} (hp:zX X.K r op) (hc:CallR X (.builtin id) r) (hg:Gl X x) (hm:X.mg x=none) (hv:bootBuiltins x=some (.builtin id)) (ha:AX X (e::es) m1 g) (hn:x≠"__name__":=by decide) (hdb:(x == ("__debug__":Str))=false:=by decide)
    (he:starEach (e::es) X.env=(false,eval e X.env)::starEach es X.env:=by rfl) (hpl:(backTo pos (starEach es X.env)).any (·.1)=false:=by rfl):EX X (.Call (.Name x p) (e::es) [] pos) m1 (aW op g):=
  bi (gE hc hg hm hv ha hn hdb he hpl) fun _ _ _ h=>oi hp h
theorem fk (hg:Gl X "len") (hm:X.mg "len"=none) (ha:AX X [e] m1 g) (he:starEach [e] X.env=[(false,eval e X.env)]:=by rfl):EX X (.Call (.Name "len" p) [e] [] pos) m1 (aW dz g):=lC xC (CallR.or nU nV) hg hm PySem.boot_len ha (by decide) (by decide) he rfl
theorem qA (hg:Gl X "abs") (hm:X.mg "abs"=none) (ha:AX X [e] m1 g) (he:starEach [e] X.env=[(false,eval e X.env)]:=by rfl):EX X (.Call (.Name "abs" p) [e] [] pos) m1 (aW iZ g):=lC (fun ds d vs H Q e r=>by
  unfold iZ at e
  split at e
  · cases e
    obtain ⟨v,rfl,r'⟩:=r.one
    cases r'
    exact ⟨_,rfl,fun q=>⟨_,rfl,q⟩⟩
  · cases e) pb hg hm PyProof.Rows.boot_abs ha (by decide) (by decide) he rfl
theorem zY {e2:Expr} (hc:X.calm=true) (hg:Gl X "max") (hm:X.mg "max"=none) (ha:AX X [e,e2] m1 g) (he:starEach [e,e2] X.env=(false,eval e X.env)::starEach [e2] X.env:=by rfl) (hpl:(backTo pos (starEach [e2] X.env)).any (·.1)=false:=by rfl):EX X (.Call (.Name "max" p) [e,e2] [] pos) m1 (aW mr g):=lC (fun ds d vs H Q e r=>by
  unfold mr at e
  split at e
  · cases e
    obtain ⟨v,u,rfl,r',r2⟩:=r.two
    cases r';cases r2
    exact ⟨_,rfl,fun q=>⟨_,_,rfl,q⟩⟩
  · cases e) (sN hc) hg hm PyProof.Rows.boot_max ha (by decide) (by decide) he hpl
end
inductive Ty where
  | non | bool | int | str | list | tuple | dict
def Ty.name:Ty→String
  | .non=>"NoneType"
  | .bool=>"bool"
  | .int=>"int"
  | .str=>"str"
  | .list=>"list"
  | .tuple=>"tuple"
  | .dict=>"dict"
def Ty.is:Ty→Ty→Bool
  | .non, .non=>true
  | .bool, .bool=>true
  | .bool, .int=>true
  | .int, .int=>true
  | .str, .str=>true
  | .list, .list=>true
  | .tuple, .tuple=>true
  | .dict, .dict=>true
  | _,_=>false
def vq:PyData→Ty
  | .none=> .non
  | .bool _=> .bool
  | .int _=> .int
  | .str _=> .str
  | .list _=> .list
  | .tuple _=> .tuple
  | .dict _=> .dict
theorem BF (K:PySem.W.Frag) (t n:Ty):PySem.W.kitOne K (.type t.name) (.type n.name)=some (t.is n):=by cases t <;> cases n <;> rfl
def gx (n:Ty):PyData→Option PyData
  | .dict ((.none,_)::_)=>none
  | d=>some (.bool ((vq d).is n))
section
variable {X:Cx} {e:Expr} {m1:Bool} {f:b_} {p p2 pos:Pos}
theorem tj {pins:List (Addr×Obj)} {s:Shared} {σ:jw} {H:Hp} {x:V} {u:Value} {d r:PyData} {n:Ty} {A:Around} {E:Value→Shared→Prop} {Q:Value→Shared→Prop} (I:Inv X pins σ H s) (rx:RelV x u) (rp:Rp X.K H x d) (hd:gx n d=some r) (h:∀tk b,r= .bool b→Q (.bool b) {s with toks:=tk}):
    wpAny (model X.prog X.w) A (call (.builtin "isinstance") [u, .type n.name]) Q E s:=by
  have e:=BF X.K (vq d) n
  have h:∀tk,r= .bool ((vq d).is n)→Q (.bool ((vq d).is n)) {s with toks:=tk}:=fun tk z=>h tk _ z
  cases rp with
  | non=>cases hd;exact iR I rx .non e fun tk=>h tk rfl
  | bl b=>cases hd;exact iR I rx (.bl b) e fun tk=>h tk rfl
  | int i=>cases hd;exact iR I rx (.int i) e fun tk=>h tk rfl
  | str y=>cases hd;exact iR I rx (.str y) e fun tk=>h tk rfl
  | lst h1 _=>
    cases hd
    cases rx
    obtain ⟨its,rv,⟨o,n',e1,c,_,d⟩,_⟩:=I.list h1
    exact PySem.W.kia_one PySem.W.kitx_list I.kIn ⟨_,e1,c⟩ e (fun z=>nomatch z) fun tk=>h tk rfl
  | tup h1 _=>
    cases hd
    cases rx
    obtain ⟨its,rv,⟨o,e1,c,n',d⟩,_⟩:=I.tuple h1
    exact PySem.W.kia_one PySem.W.kitx_tuple I.kIn ⟨_,e1,c⟩ e (fun z=>nomatch z) fun tk=>h tk rfl
  | dct h1 hk=>
    cases rx
    obtain ⟨_,_,vs,_,ob,es,ep,e1,c,_⟩:=BD I.hok h1
    refine PySem.W.kia_one PySem.W.kitx_dict I.kIn ⟨_,e1,c.1⟩ e (fun z=>nomatch z) fun tk=>h tk ?_
    cases hk with
    | nil=>cases hd;rfl
    | @cons k x us d kvs a b=>cases k <;> (cases hd;rfl)
  | exc h1 h2=>cases hd
  | obj c h n r=>cases hd
theorem tm (n:Ty):CallR X (.builtin "isinstance") (fun xs H Q=>∃x d r,xs=[x, .ty n.name]∧Rp X.K H x d∧gx n d=some r∧∀b,r= .bool b→Q (.bl b) H):=by
  intro pins s σ H xs us Q I r h
  obtain ⟨x,d,r',rfl,rp,hd,q⟩:=h
  obtain ⟨u,w',rfl,ru,rw'⟩:=r.two
  cases (show w'=Value.type n.name from rw')
  exact tj I ru rp hd fun tk b z=>⟨.bl _,H,I.tok _,rfl,q b z⟩
theorem gU (n:Ty) (hg:Gl X "isinstance") (hm:X.mg "isinstance"=none) (ha:EX X e m1 f) {x:Str} (hgx:Gl X x) (hmx:X.mg x=none) (hbx:bootBuiltins x=some (.type n.name)) (hnx:x≠"__name__":=by decide) (hdx:(x == ("__debug__":Str))=false:=by decide)
    (he:starEach [e, .Name x p2] X.env=(false,eval e X.env)::starEach [.Name x p2] X.env:=by rfl) (he2:starEach [.Name x p2] X.env=[(false,eval (.Name x p2) X.env)]:=by rfl) (hpl:(backTo pos (starEach [.Name x p2] X.env)).any (·.1)=false:=by rfl):
    EX X (.Call (.Name "isinstance" p) [e, .Name x p2] [] pos) m1 (dB (gx n) f):=by
  have h2:PE X (.Name x p2) (tC (.ty n.name)):=rk (v:= .ty n.name) hgx hmx hbx rfl hnx hdx
  refine bi (gE (tm n) hg hm PyProof.Rows.boot_isinstance (bG ha (bG h2 dy he2) he) (by decide) (by decide) he hpl) fun σ H Q z=>?_
  obtain ⟨B,E,xs,Xs,res,E',fr,cl,e,q⟩:=z
  obtain ⟨⟨s,E1⟩,e1,e⟩:=Option.bind_eq_some_iff.mp e
  obtain ⟨d1,e2,e⟩:=Option.bind_eq_some_iff.mp e
  obtain ⟨d2,e3,e⟩:=Option.map_eq_some_iff.mp e
  cases e
  refine ⟨B,E,xs,Xs,s,E1,fr,cl,e1,fun v1 H1 ⟨F,A,fr1⟩=>?_⟩
  obtain ⟨A',fr2⟩:=fr1.pop
  exact ⟨v1,d1,d2,rfl,(fr1.look0 e2).1,e3,fun b z=>q _ _ ⟨F,A',fr2.push ⟨rfl,_,rfl,z▸ .bl b⟩⟩⟩
end
end PL
namespace PL
open PySem L2 Nh
def ko (K:PySem.W.Frag) (H H':Hp) (v:V):Sl→Prop
  | .sh d=>Rp K (tups H') v d
  | .ow ds=>∃l vs,v= .ref l∧H l=none∧H' l=some (.lst vs)∧RpA K (tups H') vs ds
  | .tx ps=>∃t vs A,v= .ref t∧tups H' t=some (.tup vs)∧A.Nodup∧(∀a∈A,H a=none)∧PtsOk K (tups H') H' vs ps A
  | .od kvs=>∃l us A,v= .ref l∧(l::A).Nodup∧(∀a∈l::A,H a=none)∧H' l=some (.dK us)∧DlOk K (tups H') H' us kvs A
  | .br d=>Rp K H' v d
  | _=>False
def bV (K:PySem.W.Frag) (c:List PyData→Option Sl):Sp:=fun vs H Q _=>∃ds r,c ds=some r∧RpA K H vs ds∧∀v H',Same H H'→ko K H H' v r→Q v H'
section
variable {K:PySem.W.Frag} {B F:Hp} {A N:List Addr} {σ:jw} {H H':Hp} {E:List Sl} {xs:List V} {Xs:List Sl} {v:V} {s:Sl}
theorem FrF.growN (h:FrF K B F A σ H E xs Xs) (g:Same H H') (hN:∀a∈N,H a=none∧((∃us,H' a=some (.lst us))∨∃us,H' a=some (.dK us))):FrF K B (fun b=>if b∈N then none else if b∈A then none else H' b) A σ H' E xs Xs:=by
  have h1:=h.grow g
  have nF:∀b o,F b=some o→b∉N:=fun b o e hb=>by
    have:=h.fh.free (hN b hb).1
    rw [this] at e;cases e
  have FF:Same F (fun b=>if b∈N then none else if b∈A then none else H' b):=fun b o e=>by
    have nA:b∉A:=fun hb=>by rw [h.fr b hb] at e;cases e
    show (if b∈N then none else if b∈A then none else H' b)=some o
    rw [if_neg (nF b o e),if_neg nA]
    exact g _ _ (h.fh _ _ e)
  have hA:∀b∈A,H' b=H b:=fun b hb=>by
    rcases h.mutA b hb with ⟨_,z⟩ | ⟨_,z⟩ <;> rw [z,g _ _ z]
  refine ⟨h.bf.trans FF,fun b o e=>?_,fun b o e=>?_,h.sl.mono fun o s C _ hC q=>q.stay FF (fun b hb=>hA b (hC b hb)) fun _=>g,h.nd,fun a ha=>?_,h.len,h.pl⟩
  · by_cases hb:b∈N
    · rw [if_pos hb] at e;cases e
    · rw [if_neg hb] at e;exact h1.fh _ _ e
  · show (if b∈N then none else if b∈A then none else H' b)=some o
    by_cases hb:b∈N
    · obtain ⟨e1,e2⟩:=Option.filter_eq_some_iff.mp e
      rcases (hN b hb).2 with ⟨us,z⟩ | ⟨us,z⟩ <;> rw [z] at e1 <;> cases e1 <;> cases e2
    · rw [if_neg hb];exact h1.tf _ _ e
  · show (if a∈N then none else if a∈A then none else H' a)=none
    by_cases hb:a∈N
    · rw [if_pos hb]
    · rw [if_neg hb,if_pos ha]
theorem FrF.pushR (h:FrF K B F A σ H E xs Xs) (q:SlOk K F H σ (some v) s N) (nd:N.Nodup) (dj:∀a∈N,a∉A) (fr:∀a∈N,F a=none):FrF K B F (N++A) σ H E (v::xs) (s::Xs):=
  ⟨h.bf,h.fh,h.tf, .cons q h.sl,List.nodup_append.mpr ⟨nd,h.nd,fun a ha b hb e=>dj a ha (e▸hb)⟩,fun a ha=>(List.mem_append.mp ha).elim (fr a) (h.fr a),by simp [h.len],h.pl⟩
theorem FrF.told (h:FrF K B F A σ H E xs Xs) (g:Same H H') (q:ko K H H' v s):Frm K B σ H' E (v::xs) (s::Xs):=by
  cases s with
  | sh d=>
    have h1:=h.grow g
    exact ⟨_,_,h1.push ⟨rfl,v,rfl,Rp.same h1.tf q⟩⟩
  | ow ds=>
    obtain ⟨l,vs,rfl,hl,hl',r⟩:=q
    have h1:=h.growN (N:=[l]) g fun a ha=>by rw [List.mem_singleton.mp ha];exact ⟨hl, .inl ⟨vs,hl'⟩⟩
    exact ⟨_,_,h1.pushR (N:=[l]) ⟨l,vs,rfl,rfl,hl',r.same h1.tf⟩ (by simp) (fun a ha=>by rw [List.mem_singleton.mp ha];exact h.newA hl) fun a ha=>if_pos ha⟩
  | tx ps=>
    obtain ⟨t,vs,N,rfl,ht,nd,hN,r⟩:=q
    have h1:=h.growN (N:=N) g fun a ha=>⟨hN a ha, .inl (r.some a ha)⟩
    exact ⟨_,_,h1.pushR (N:=N) ⟨t,vs,rfl,h1.tf _ _ ht,r.stay h1.tf fun _ _=>rfl⟩ nd (fun a ha=>h.newA (hN a ha)) fun a ha=>if_pos ha⟩
  | no=>exact False.elim q
  | od kvs=>
    obtain ⟨l,us,N,rfl,nd,hN,hl,r⟩:=q
    have h1:=h.growN (N:=l::N) g fun a ha=>⟨hN a ha,(List.mem_cons.mp ha).elim (fun z=> .inr ⟨us,z▸hl⟩) fun z=> .inl (r.some a z)⟩
    exact ⟨_,_,h1.pushR (N:=l::N) ⟨l,us,N,rfl,rfl,hl,r.stay h1.tf fun _ _=>rfl⟩ nd (fun a ha=>h.newA (hN a ha)) fun a ha=>if_pos ha⟩
  | al i=>exact False.elim q
  | br d=>
    have h1:=h.grow g
    exact ⟨_,_,h1.push ⟨rfl,v,rfl,q⟩⟩
end
def ar (c:List PyData→Option Sl) (g:me):b_:=fun E=>(g E).bind fun a=>(ax a.2 a.1).bind fun ds=>(c ds).map fun r=>(r,a.2)
theorem aI {X:Cx} {k:Nat} {x:Str} {ps:List Str} {c:List PyData→Option Sl} {p pos:Pos} {e:Expr} {es:List Expr} {m:Bool} {g:me} (D:Own X.prog X.w X.K X.mg X.base k x ps (bV X.K c)) (hr:Room k X.A) (hg:Gl X x) (ha:AX X (e::es) m g)
    (hdb:(x == ("__debug__":Str))=false:=by decide) (he:starEach (e::es) X.env=(false,eval e X.env)::starEach es X.env:=by rfl) (hpl:(backTo pos (starEach es X.env)).any (·.1)=false:=by rfl):
    EX X (.Call (.Name x p) (e::es) [] pos) m (ar c g):=by
  refine bi (va D hr hg ha hdb he hpl) fun σ H Q z=>?_
  obtain ⟨B,E,xs,Xs,res,E',fr,cl,e,q⟩:=z
  obtain ⟨⟨rs,E1⟩,e1,e⟩:=Option.bind_eq_some_iff.mp e
  obtain ⟨ds,e2,e⟩:=Option.bind_eq_some_iff.mp e
  obtain ⟨r,e3,e⟩:=Option.map_eq_some_iff.mp e
  cases e
  refine ⟨B,E,xs,Xs,rs,E1,fr,cl,e1,fun vs H1 hl ⟨F,A,fr1⟩=>?_⟩
  obtain ⟨r1,A',fr2⟩:=fr1.looks hl e2
  exact ⟨ds,res,e3,by rw [List.append_nil];exact r1,fun v H' g q'=>q v H' (fr2.told g q')⟩
def gi (i:Nat) (f:b_):b_:=fun E=>match E[i]? with
  | some (.ow _)=>(f E).bind fun a=>(frz a.2 a.1).bind fun b=>match b.2[i]? with
    | some (.ow ds)=>if ds.length < 1000000 then some (.sh .none,b.2.set i (.ow (ds++[b.1]))) else none
    | _=>none
  | _=>none
section
variable {X:Cx} {e:Expr} {m1:Bool} {f:b_} {x:Str} {p apos cpos:Pos}
theorem j1 (i:Nat) (he:EX X e m1 f) (hN:X.N[i]? =some x:=by rfl) (hv:yB X.env.scope x:=by first | exact Or.inl rfl | exact Or.inr (Or.inl rfl) | exact Or.inr (Or.inr rfl)) (hd:(x == ("__debug__":Str))=false:=by decide) (hcd:(x == ("__classdict__":Str))=false:=by decide)
    (hs:starEach [e] X.env=[(false,eval e X.env)]:=by rfl) (hbase:attributeBase (.Name x p) "append" X.env (eval (.Name x p) X.env)=eval (.Name x p) X.env:=by rfl)
    (hfew:((backTo cpos (starEach [e] X.env)).all (fun x=> !x.1)&&(backToKw cpos (keywordEach [] X.env)).all (fun x=>x.1.isSome)
      &&decide (([e]:List Expr).length+([]:List Keyword).length+(if ([]:List Keyword).isEmpty then 0 else 1) < 30))=true:=by rfl) (hline:(apos.endLine == cpos.line)=true:=by rfl):
    EX X (.Call (.Attribute (.Name x p) "append" apos) [e] [] cpos) true (gi i f):=by
  refine bi (rD PySem.F.plainAttrs_list PySem.F.slot_list_append PySem.F.type_list_append nr (jT hN hv hd hcd) (bG he dy hs) hbase hfew hline hs rfl) fun σ H Q z=>?_
  obtain ⟨B,E,xs,Xs,res,E',⟨F,A,fr⟩,cl,e,q⟩:=z
  unfold gi at e
  split at e
  · rename_i ds0 ei
    obtain ⟨⟨s,E1⟩,e1,e⟩:=Option.bind_eq_some_iff.mp e
    obtain ⟨⟨d,E2⟩,e2,e⟩:=Option.bind_eq_some_iff.mp e
    simp only at e
    split at e
    · rename_i ds ei2
      split at e
      · rename_i hl
        cases e
        obtain ⟨o,A1,eo,l,vs,rfl,rfl,hl0,_⟩:=fr.var ei
        refine ⟨_,eo, .inl ⟨rfl,_,SqL.of hl0⟩,B,E,xs,Xs,s,E1,⟨F,A,fr⟩,fun _=>cl rfl,e1,fun v H1 ⟨F1,A1,fr1⟩=>?_⟩
        obtain ⟨F2,A2,fr2⟩:=fr1.frz0 e2
        obtain ⟨v',A3,ev,rfl,w,ew,rv⟩:=fr2.ext (k:=0) rfl
        cases ev;cases ew
        obtain ⟨A4,fr3⟩:=fr2.pop
        obtain ⟨l',vs',eo',hl',r',put⟩:=fr3.mut ei2 (cl rfl)
        rw [eo] at eo'
        cases eo'
        have ll:=r'.len
        have fr4:=put (vs'++[v]) (ds++[d]) (r'.snoc rv)
        exact ⟨l,vs',v,rfl,rfl,hl',rP (by omega),q _ _ ⟨_,_,fr4.push ⟨rfl,_,rfl, .non⟩⟩⟩
      · cases e
    · cases e
  · cases e
end
def vt (s:Sl):Sl:=match s.val with
  | some d=> .sh d
  | none=> .no
def frzAll (E:List Sl):List Sl:=E.map vt
def settle (E:List Sl):Sl→Option (Sl×List Sl)
  | .al i=>(frz E (.al i)).map fun a=>(.sh a.1,a.2)
  | .br d=>if aN d then some (.sh d,E) else some (.sh d,frzAll E)
  | s=>some (s,E)
def aw (g h:bU):bU:=fun E=>(g E).bind fun a=>match a.2 with
  | .nx=>h a.1
  | fl=>some (a.1,fl)
def az:bU:=fun E=>some (E, .nx)
def i4 (f:b_):bU:=fun E=>(f E).map fun a=>(a.2, .nx)
def aA (f:b_):bU:=fun E=>(f E).bind fun a=>match a.1 with
  | .al i=>(a.2[i]?).map fun s=>(a.2.set i .no, .rt s)
  | s=>some (a.2, .rt s)
def aP (c:jq) (g h:bU):bU:=fun E=>(c E).bind fun a=>if a.1 then g a.2 else h a.2
def aF (i:Nat) (f:b_):bU:=fun E=>(f E).bind fun a=>(settle a.2 a.1).bind fun b=>if i < b.2.length then some (b.2.set i b.1, .nx) else none
section
variable {K:PySem.W.Frag} {B F:Hp} {A:List Addr} {σ:jw} {H:Hp} {E E':List Sl} {xs:List V} {Xs:List Sl} {v:V} {s s':Sl} {d:PyData}
theorem FrF.frzAll (h:FrF K B F A σ H E xs Xs) (hX:Xs=[]):FrF K B H [] σ H (PL.frzAll E) [] []:=by
  subst hX
  have hx:xs=[]:=by simpa using h.len
  subst hx
  refine ⟨h.bf.trans h.fh,Same.refl _,jZ H,?_,List.nodup_nil,fun a ha=>(by cases ha),rfl,fun s hs=>?_⟩
  · have key:∀{os:List (Option V)} {ss:List Sl} {C:List Addr},SAll (SlOk K F H σ) os ss C→SAll (SlOk K H H σ) os (PL.frzAll ss) []:=fun {os ss C} r=>by
      induction r with
      | nil=>exact .nil
      | cons q _ ih=>
        refine .cons (A:=[]) ?_ ih
        unfold vt
        split
        · rename_i d e
          obtain ⟨v,rfl,r,_⟩:=q.val h.fh e
          exact ⟨rfl,v,rfl,r⟩
        · exact rfl
    exact key h.sl
  · obtain ⟨t,_,rfl⟩:=List.mem_map.mp hs
    unfold vt
    split <;> rfl
theorem FrF.settle (h:FrF K B F A σ H E (v::xs) (s::Xs)) (hX:Xs=[]) (q:PL.settle E s=some (s',E')):s'.isAl=false∧Frm K B σ H E' (v::xs) (s'::Xs):=by
  cases s with
  | al i=>
    obtain ⟨⟨d,E2⟩,e,z⟩:=Option.map_eq_some_iff.mp (show (frz E (.al i)).map (fun a=>(Sl.sh a.1,a.2))=some (s',E') from q)
    cases z
    obtain ⟨F',A',h'⟩:=h.frz0 e
    exact ⟨rfl,F',A',h'⟩
  | br d=>
    have r:=(h.look0 (d:=d) rfl).1
    obtain ⟨A',h'⟩:=h.pop
    simp only [PL.settle] at q
    split at q
    · rename_i hf
      cases q
      exact ⟨rfl,F,A',h'.push ⟨rfl,v,rfl,h.cold r hf⟩⟩
    · cases q
      have h2:=h'.frzAll hX
      have hl:=h'.len
      subst hX
      have hx:xs=[]:=by simpa using hl
      subst hx
      exact ⟨rfl,H,[],h2.push ⟨rfl,v,rfl,r⟩⟩
  | no=>cases q;exact ⟨rfl,F,A,h⟩
  | sh d=>cases q;exact ⟨rfl,F,A,h⟩
  | ow ds=>cases q;exact ⟨rfl,F,A,h⟩
  | od kvs=>cases q;exact ⟨rfl,F,A,h⟩
  | tx ps=>cases q;exact ⟨rfl,F,A,h⟩
theorem FrF.move {i:Nat} (h:FrF K B F A σ H E (v::xs) (.al i::Xs)) (e:E[i]? =some s):Frm K B σ H (E.set i .no) (v::xs) (s::Xs):=by
  obtain ⟨v',A1,ev,rfl,w,ew,hw⟩:=h.ext (k:=0) rfl
  cases ev;cases ew
  obtain ⟨A',h'⟩:=h.pop
  obtain ⟨o,A0,A1,A2,eA,eo,hp,put⟩:=h'.sl.at (k:=Xs.length+i) (s:=s) (by rw [List.getElem?_append_right (by omega)];simpa using e)
  have z:=put (SlOk K F H σ) o .no [] rfl fun _ _ _ _ _ q=>q
  have e3:(Xs++E).set (Xs.length+i) .no=Xs++E.set i .no:=by
    rw [List.set_append_right _ _ (by omega),Nat.add_sub_cancel_left]
  have e2:(List.map some xs++σ).set (Xs.length+i) o=List.map some xs++σ:=List.ext_getElem? fun j=>by
    by_cases hj:Xs.length+i=j
    · subst hj
      rw [List.getElem?_set_self',eo];rfl
    · rw [List.getElem?_set_ne hj]
  rw [e2,e3] at z
  rw [List.getElem?_append_right (by rw [List.length_map,h'.len];omega),List.length_map,h'.len,Nat.add_sub_cancel_left,hw] at eo
  cases eo
  have nd:=h'.nd
  rw [eA] at nd
  refine ⟨F,A1++(A0++([]++A2)),h.bf,h.fh,h.tf, .cons hp z,?_,fun a ha=>h'.fr a ?_,h.len,fun s' hs=>?_⟩
  · have p:(A1++(A0++([]++A2))).Perm (A0++(A1++A2)):=by
      rw [List.nil_append,←List.append_assoc,←List.append_assoc]
      exact List.Perm.append_right _ List.perm_append_comm
    exact p.nodup_iff.mpr nd
  · rw [eA]
    simp only [List.mem_append,List.nil_append] at ha ⊢
    rcases ha with z | z | z
    · exact .inr (.inl z)
    · exact .inl z
    · exact .inr (.inr z)
  · rcases List.mem_or_eq_of_mem_set hs with hs | hs
    · exact h.pl s' hs
    · subst hs;rfl
end
section
variable {X:Cx} {st:Stmt} {bK a b:List Stmt} {g h:bU} {e c:Expr} {m:Bool} {f:b_} {t:jq} {pos:Pos}
theorem aY:qx X [] az:=rO wS fun D σ H z=>by
  obtain ⟨B,E,xs,Xs,E',fl,fr,cl,e,q⟩:=z
  cases e
  exact q _ _ fr
theorem ao (h1:SX X st g):qx X [st] g:=iQ h1
theorem zZ {K:PySem.W.Frag} {D:Ends} {σ:jw} {H:Hp} (z:rs K (aw g h) D σ H):rs K g {D with nx:=rs K h D} σ H:=by
  obtain ⟨B,E,xs,Xs,E',fl,fr,cl,e,q⟩:=z
  obtain ⟨⟨E1,f1⟩,e1,e⟩:=Option.bind_eq_some_iff.mp e
  refine ⟨B,E,xs,Xs,E1,f1,fr,cl,e1,?_⟩
  cases f1 with
  | nx=>exact fun σ' H' fr'=>⟨B,E1,xs,Xs,E',fl,fr',cl,e,q⟩
  | bk=>cases e;exact q
  | ct=>cases e;exact q
  | rt r=>cases e;exact q
theorem aj (h1:SX X st g) (h2:qx X bK h):qx X (st::bK) (aw g h):=rO (c_ h1 h2) fun D σ H z=>zZ z
theorem jz (he:EX X e m f) (hs:swapsWith e none pos.line X.env=pure false:=by rfl):SX X (.Expr e pos) (i4 f):=iw (wT he hs) fun D σ H z=>by
  obtain ⟨B,E,xs,Xs,E',fl,fr,cl,e,q⟩:=z
  obtain ⟨⟨s,E1⟩,e1,e⟩:=Option.map_eq_some_iff.mp e
  cases e
  refine ⟨B,E,xs,Xs,s,E1,fr,fun _=>Calm.nil cl,e1,fun v H1 ⟨F,A,fr1⟩=>?_⟩
  obtain ⟨A',fr2⟩:=fr1.pop
  exact q _ _ ⟨F,A',fr2⟩
theorem aD (he:EX X e m f):SX X (.Return (some e) pos) (aA f):=iw (uE he) fun D σ H z=>by
  obtain ⟨B,E,xs,Xs,E',fl,fr,cl,e,q⟩:=z
  obtain ⟨⟨s,E1⟩,e1,e⟩:=Option.bind_eq_some_iff.mp e
  refine ⟨B,E,xs,Xs,s,E1,fr,fun _=>Calm.nil cl,e1,fun v H1 ⟨F,A,fr1⟩=>?_⟩
  simp only at e
  split at e
  · obtain ⟨s',es,e⟩:=Option.map_eq_some_iff.mp e
    cases e
    exact q σ _ _ (fr1.move es)
  · cases e
    exact q σ _ _ ⟨F,A,fr1⟩
theorem cp (hc:TX X c m t) (ha:qx X a g) (hb:qx X b h):SX X (.If c a b pos) (aP t g h):=iw (A_ hc ha hb) fun D σ H z=>by
  obtain ⟨B,E,xs,Xs,E',fl,fr,cl,e,q⟩:=z
  obtain ⟨⟨b1,E1⟩,e1,e⟩:=Option.bind_eq_some_iff.mp e
  refine ⟨B,E,xs,Xs,b1,E1,fr,fun _=>Calm.nil cl,e1,fun H1 fr1=>?_⟩
  cases b1 with
  | true=>exact (if_pos rfl).mpr ⟨B,E1,xs,Xs,E',fl,fr1,cl,e,q⟩
  | false=>exact (if_neg (by decide)).mpr ⟨B,E1,xs,Xs,E',fl,fr1,cl,e,q⟩
theorem aS (i:Nat) {x:Str} {pos':Pos} (hN:X.N.Nodup) (he:EX X e m f) (hi:X.N[i]? =some x:=by rfl) (hx:AN X.env.scope x:=by first | exact Or.inl rfl | exact Or.inr rfl) (hs:swapsWith e (some (.Name x pos')) pos.line X.env=pure false:=by rfl) (hf:X.fn x=true∨X.env.scope.names.lookup x=some .local:=by first | exact .inl rfl | exact .inr rfl | assumption):
    SX X (.Assign [.Name x pos'] e pos) (aF i f):=iw (uI hN hi hx he hs hf) fun D σ H z=>by
  obtain ⟨B,E,xs,Xs,E',fl,fr,cl,e,q⟩:=z
  obtain ⟨⟨s,E1⟩,e1,e⟩:=Option.bind_eq_some_iff.mp e
  obtain ⟨⟨s',E2⟩,e2,e⟩:=Option.bind_eq_some_iff.mp e
  refine ⟨B,E,xs,Xs,s,E1,fr,fun _=>Calm.nil cl,e1,fun v H1 ⟨F,A,fr1⟩=>?_⟩
  obtain ⟨c1,F2,A2,fr2⟩:=fr1.settle cl e2
  simp only at e
  split at e
  · rename_i hi
    cases e
    obtain ⟨A3,fr3⟩:=fr2.store c1 (Still.nil cl) hi
    exact q _ _ ⟨F2,A3,fr3⟩
  · cases e
end
end PL
namespace PL
open PySem L2 Nh
abbrev kF:=PyData→List Sl→Option (List Sl)
abbrev pz:=List PyData→List Sl→Option (List Sl)
def rg (K:PySem.W.Frag) (h:kF):TG:=fun v σ H Q=>∃B E xs Xs d E',Frm K B σ H E (v::xs) (.sh d::Xs)∧Still Xs∧h d E=some E'∧∀σ' H',Frm K B σ' H' E' xs Xs→Q σ' H'
def DN (K:PySem.W.Frag) (h:pz):wU:=fun vs σ H Q=>∃B E xs Xs ds E',vs.length=ds.length∧Frm K B σ H E (vs++xs) (ds.map .sh++Xs)∧Still Xs∧h ds E=some E'∧∀σ' H',Frm K B σ' H' E' xs Xs→Q σ' H'
def GX (X:Cx) (e:Expr) (h:kF):Prop:=PG X e (rg X.K h)
def Cl (X:Cx) (es:List Expr) (h:pz):Prop:=zq X es (DN X.K h)
def bM (i:Nat):kF:=fun d E=>if i < E.length then some (E.set i (.sh d)) else none
def ij:pz:=fun ds E=>if ds.isEmpty then some E else none
def df (h:kF) (hs:pz):pz:=fun ds E=>match ds with
  | d::ds=>(h d E).bind (hs ds)
  | []=>none
def ik (n:Nat) (hs:pz):kF:=fun d E=>match d with
  | .tuple ds=>if ds.length=n then hs ds E else none
  | _=>none
section
variable {X:Cx}
theorem vv {e:Expr} {t t':TG} (h:PG X e t) (k:∀v σ H Q,t' v σ H Q→t v σ H Q):PG X e t':=fun pins s σ H v u Q I r q=>h pins s σ H v u Q I r (k v σ H Q q)
theorem rV {es:List Expr} {t t':wU} (h:zq X es t) (k:∀v σ H Q,t' v σ H Q→t v σ H Q):zq X es t':=fun pins s σ H v u Q I r q=>h pins s σ H v u Q I r (k v σ H Q q)
theorem cL (i:Nat) {x:Str} {pos:Pos} (hN:X.N.Nodup) (hi:X.N[i]? =some x:=by rfl) (hx:AN X.env.scope x:=by first | exact Or.inl rfl | exact Or.inr rfl) (hf:X.fn x=true∨X.env.scope.names.lookup x=some .local:=by first | exact .inl rfl | exact .inr rfl | assumption):GX X (.Name x pos) (bM i):=vv (rl hN hi hx hf) fun v σ H Q z=>by
  obtain ⟨B,E,xs,Xs,d,E',⟨F,A,fr⟩,cl,e,q⟩:=z
  unfold bM at e
  split at e
  · rename_i hi
    cases e
    obtain ⟨A',fr'⟩:=fr.store rfl cl hi
    exact q _ _ ⟨F,A',fr'⟩
  · cases e
theorem jA:Cl X [] ij:=rV wV fun v σ H Q z=>by
  obtain ⟨B,E,xs,Xs,ds,E',hl,fr,cl,e,q⟩:=z
  unfold ij at e
  split at e
  · rename_i hd
    cases e
    have:ds=[]:=by simpa using hd
    subst this
    have hv:v=[]:=by simpa using hl
    subst hv
    exact ⟨rfl,q _ _ fr⟩
  · cases e
theorem dC {e:Expr} {es:List Expr} {h:kF} {hs:pz} (h1:GX X e h) (h2:Cl X es hs) (hst:(assignEach (e::es) X.env).map (·.2)=assign e X.env::(assignEach es X.env).map (·.2):=by rfl):Cl X (e::es) (df h hs):=rV (uG h1 h2 hst) fun v σ H Q z=>by
  obtain ⟨B,E,xs,Xs,ds,E',hl,fr,cl,e,q⟩:=z
  cases ds with
  | nil=>cases e
  | cons d ds=>
    cases v with
    | nil=>cases hl
    | cons v vs=>
      obtain ⟨E1,e1,e2⟩:=Option.bind_eq_some_iff.mp e
      refine ⟨v,vs,rfl,B,E,vs++xs,ds.map Sl.sh++Xs,d,E1,fr,fun s hs=>?_,e1,fun σ1 H1 fr1=>⟨B,E1,xs,Xs,ds,E',by simpa using hl,fr1,cl,e2,q⟩⟩
      rcases List.mem_append.mp hs with hs | hs
      · obtain ⟨d',_,rfl⟩:=List.mem_map.mp hs
        rfl
      · exact cl s hs
theorem lD {es:List Expr} {k:Nat} {pos:Pos} {hs:pz} {n:Nat} (hc:X.calm=true) (h:Cl X es hs) (hn:(assignEach es X.env).length=n:=by rfl) (hst:(assignEach es X.env).findIdx? (·.1)=none:=by rfl):GX X (.Tuple es k pos) (ik n hs):=vv (zt hc h hn hst) fun v σ H Q z=>by
  obtain ⟨B,E,xs,Xs,d,E',⟨F,A,fr⟩,cl,e,q⟩:=z
  unfold ik at e
  split at e
  · rename_i ds
    split at e
    · rename_i hl
      obtain ⟨v',A1,ev,rfl,w,ew,r⟩:=fr.ext (k:=0) rfl
      cases ev;cases ew
      cases r with
      | tup h1 h2=>
        obtain ⟨A',fr'⟩:=fr.pop
        have key:∀{us:List V} {es:List PyData},RpA X.K F us es→FrF X.K B F A' σ H E (us++xs) (es.map .sh++Xs):=fun {us es} r=>by
          induction us generalizing es with
          | nil=>cases r;exact fr'
          | cons u us ih=>
            cases r with
            | cons r1 r2=>exact (ih r2).push ⟨rfl,_,rfl,r1⟩
        exact ⟨_,_,rfl,fr.fh.tup h1,by rw [h2.len];exact hl,B,E,xs,Xs,ds,E',h2.len,⟨F,A',key h2⟩,cl,e,q⟩
    · cases e
  · cases e
end
def xD (f:b_) (h:kF):bU:=fun E=>(f E).bind fun a=>(frz a.2 a.1).bind fun b=>(h b.1 b.2).map fun E'=>(E', .nx)
theorem z_ {X:Cx} {tg e:Expr} {m:Bool} {f:b_} {h:kF} {pos:Pos} (he:EX X e m f) (hg:GX X tg h) (hs:swapsWithSole [tg] e pos.line X.env=pure false:=by rfl) (hw:swappedStores [tg] e X.env=pure none:=by rfl) (h1:(assignEach [tg] X.env).map (·.2)=[assign tg X.env]:=by rfl):SX X (.Assign [tg] e pos) (xD f h):=iw (uH he hg hs hw h1) fun D σ H z=>by
  obtain ⟨B,E,xs,Xs,E',fl,fr,cl,e,q⟩:=z
  obtain ⟨⟨s,E1⟩,e1,e⟩:=Option.bind_eq_some_iff.mp e
  obtain ⟨⟨d,E2⟩,e2,e⟩:=Option.bind_eq_some_iff.mp e
  obtain ⟨E3,e3,e⟩:=Option.map_eq_some_iff.mp e
  cases e
  refine ⟨B,E,xs,Xs,s,E1,fr,fun _=>Calm.nil cl,e1,fun v H1 ⟨F,A,fr1⟩=>?_⟩
  obtain ⟨F2,A2,fr2⟩:=fr1.frz0 e2
  exact ⟨B,E2,xs,Xs,d,E',⟨F2,A2,fr2⟩,Still.nil cl,e3,q⟩
def pA (K:PySem.W.Frag) (B0:Hp) (J:It) (ds:List PyData):Prop:=∀{B F:Hp} {A:List Addr} {σ:jw} {H:Hp} {E:List Sl} {xs:List V} {Xs:List Sl} (i:Nat),Same B0 B→FrF K B F A σ H E xs Xs→
  (∀d,ds[i]? =some d→J.go i H∧∀x H2,J.yld i H x H2→Frm K B σ H2 E (x::xs) (.sh d::Xs))∧(i=ds.length→J.stop i H)
def ri (K:PySem.W.Frag) (m:Bool) (f:lj):TI:=fun σ H R=>∃B E xs Xs ds E',Frm K B σ H E xs Xs∧(m=true→Calm Xs)∧f E=some (ds,E')∧∀B' J H',Same B B'→Frm K B' σ H' E' xs Xs→pA K B' J ds→R J H'
def IX (X:Cx) (tg e:Expr) (m:Bool) (f:lj):Prop:=PI X tg e (ri X.K m f)
theorem FrF.base {K:PySem.W.Frag} {B B' F:Hp} {A:List Addr} {σ:jw} {H:Hp} {E:List Sl} {xs:List V} {Xs:List Sl} (h:FrF K B' F A σ H E xs Xs) (s:Same B B'):FrF K B F A σ H E xs Xs:=⟨s.trans h.bf,h.fh,h.tf,h.sl,h.nd,h.fr,h.len,h.pl⟩
theorem Frm.base {K:PySem.W.Frag} {B B':Hp} {σ:jw} {H:Hp} {E:List Sl} {xs:List V} {Xs:List Sl} (h:Frm K B' σ H E xs Xs) (s:Same B B'):Frm K B σ H E xs Xs:=let ⟨F,A,h⟩:=h;⟨F,A,h.base s⟩
theorem FrF.raise {K:PySem.W.Frag} {B F:Hp} {A:List Addr} {σ:jw} {H:Hp} {E:List Sl} {xs:List V} {Xs:List Sl} (h:FrF K B F A σ H E xs Xs):FrF K F F A σ H E xs Xs:=⟨Same.refl _,h.fh,h.tf,h.sl,h.nd,h.fr,h.len,h.pl⟩
def j2 (lo:Int) (n:Nat):List PyData:=(List.range n).map fun (k:Nat)=> .int (lo+(k:Int))
def gV (g:me):lj:=fun E=>(g E).bind fun a=>match ax a.2 a.1 with
  | some [.int j]=>if -1000000≤j∧j≤1000000 then some (j2 0 j.toNat,a.2) else none
  | _=>none
def pB (f:b_):lj:=fun E=>(f E).bind fun a=>(frz a.2 a.1).bind fun b=>match b.1 with
  | .list ds=>some (ds.reverse,b.2)
  | _=>none
section
variable {X:Cx} {tg e e2:Expr} {m:Bool} {f:b_} {g:me} {p pos:Pos} {K:PySem.W.Frag} {B:Hp}
theorem oj {t t':TI} (h:PI X tg e t) (k:∀σ H Q,t' σ H Q→t σ H Q):PI X tg e t':=fun pins s σ H R I q=>h pins s σ H R I (k σ H R q)
theorem tz {a:Addr} {vs:List V} {ds:List PyData} (h:SqL K B a vs) (r:RpA K B vs ds):pA K B (AO K a) ds:=fun {B' F A σ H E xs Xs} i sB fr=>by
  have hH:=fr.fh.seq (fr.bf.seq (sB.seq h))
  refine ⟨fun d ed=>?_,fun e=>⟨vs,hH,by rw [e,r.len];exact Nat.le_refl _⟩⟩
  obtain ⟨v,ev,rv⟩:=r.get ed
  refine ⟨⟨vs,v,hH,ev⟩,fun x H2 ⟨e2,y⟩=>?_⟩
  subst e2
  have:=y vs hH
  rw [ev] at this
  cases this
  exact ⟨F,A,fr.push ⟨rfl,_,rfl,rv.same (sB.trans fr.bf)⟩⟩
theorem vw {a:Addr} {vs:List V} {ds:List PyData} (h:SqL K B a vs) (r:RpA K B vs ds):pA K B (CY K a vs) ds.reverse:=fun {B' F A σ H E xs Xs} i sB fr=>by
  have hH:=fr.fh.seq (fr.bf.seq (sB.seq h))
  refine ⟨fun d ed=>?_,fun e=>⟨hH,by rw [e,List.length_reverse,r.len]⟩⟩
  obtain ⟨v,ev,rv⟩:=r.rev.get ed
  have hi:i < vs.length:=by
    have:=(List.getElem?_eq_some_iff.mp ev).1
    simpa using this
  refine ⟨⟨hH,hi⟩,fun x H2 ⟨e2,y⟩=>?_⟩
  subst e2
  rw [ev] at y
  cases y
  exact ⟨F,A,fr.push ⟨rfl,_,rfl,rv.same (sB.trans fr.bf)⟩⟩
theorem qB {lo:Int} {n:Nat}:pA K B (Ci lo n) (j2 lo n):=fun {B' F A σ H E xs Xs} i sB fr=>by
  have hl:(j2 lo n).length=n:=by simp [j2]
  refine ⟨fun d ed=>?_,fun e=>?_⟩
  · have hi:i < n:=by have:=(List.getElem?_eq_some_iff.mp ed).1;omega
    refine ⟨hi,fun x H2 ⟨e2,y⟩=>?_⟩
    subst e2 y
    have:d= .int (lo+i):=by
      unfold j2 at ed
      rw [List.getElem?_map,List.getElem?_range hi] at ed
      exact (Option.some.inj ed).symm
    subst this
    exact ⟨F,A,fr.push ⟨rfl,_,rfl, .int _⟩⟩
  · show n≤i
    omega
theorem vx (hg:Gl X "reversed") (hm:X.mg "reversed"=none) (he:EX X e m f) (hs:starEach [e] X.env=[(false,eval e X.env)]:=by rfl):IX X tg (.Call (.Name "reversed" p) [e] [] pos) m (pB f):=oj (zN hg hm (bG he dy hs) hs) fun σ H R z=>by
  obtain ⟨B,E,xs,Xs,ds,E',fr,cl,e,q⟩:=z
  obtain ⟨⟨s,E1⟩,e1,e⟩:=Option.bind_eq_some_iff.mp e
  obtain ⟨⟨d,E2⟩,e2,e⟩:=Option.bind_eq_some_iff.mp e
  refine ⟨B,E,xs,Xs,s,E1,fr,cl,e1,fun v H1 ⟨F,A,fr1⟩=>?_⟩
  obtain ⟨F2,A2,fr2⟩:=fr1.frz0 e2
  simp only at e
  split at e
  · cases e
    obtain ⟨v',A1,ev,rfl,w,ew,r⟩:=fr2.ext (k:=0) rfl
    cases ev;cases ew
    cases r with
    | lst h1 h2=>
      obtain ⟨A3,fr3⟩:=fr2.pop
      exact ⟨_,_,rfl,fr2.fh.seq h1,q F2 _ _ fr2.bf ⟨F2,A3,fr3.raise⟩ (vw h1 h2)⟩
  · cases e
theorem j3 (hg:Gl X "range") (hm:X.mg "range"=none) (ha:AX X [e] m g) (hs:starEach [e] X.env=[(false,eval e X.env)]:=by rfl):IX X tg (.Call (.Name "range" p) [e] [] pos) m (gV g):=oj (sK hg hm ha hs) fun σ H R z=>by
  obtain ⟨B,E,xs,Xs,ds,E',fr,cl,e,q⟩:=z
  obtain ⟨⟨rs,E1⟩,e1,e⟩:=Option.bind_eq_some_iff.mp e
  refine ⟨B,E,xs,Xs,rs,E1,fr,cl,e1,fun vs H1 hl ⟨F,A,fr1⟩=>?_⟩
  simp only at e
  split at e
  · rename_i j ld
    split at e
    · rename_i hj
      cases e
      obtain ⟨r,A',fr2⟩:=fr1.looks hl ld
      obtain ⟨v,rfl,r'⟩:=r.one
      cases r'
      exact ⟨j,rfl,by omega,by omega,q B _ _ (Same.refl _) ⟨F,A',fr2⟩ qB⟩
    · cases e
  · cases e
end
def dD (tg:kF) (body:bU):List PyData→bU
  | [],E=>some (E, .nx)
  | d::ds,E=>((tg d E).bind body).bind fun a=>match a.2 with
    | .nx=>dD tg body ds a.1
    | .ct=>dD tg body ds a.1
    | .bk=>some (a.1, .nx)
    | .rt r=>some (a.1, .rt r)
def jc (it:lj) (tg:kF) (body:bU):bU:=fun E=>(it E).bind fun a=>dD tg body a.1 a.2
theorem j4 {X:Cx} {tg iter:Expr} {body:List Stmt} {m:Bool} {it:lj} {g:kF} {b:bU} {pos:Pos} (hp:PassesOwn (model X.prog X.w) X.A X.env X.xe) (hc:X.calm=true) (hi:IX X tg iter m it) (hg:GX X tg g) (hb:qx X body b)
    (hs:∀x,foldedSetIterable iter X.env x=pure x:=by intro _;rfl):SX X (.For tg iter body [] pos) (jc it g b):=iw (zx hp hc hi hg hb hs) fun D σ H z=>by
  obtain ⟨B,E,xs,Xs,E',fl,fr,cl,e,q⟩:=z
  obtain ⟨⟨ds,E1⟩,e1,e⟩:=Option.bind_eq_some_iff.mp e
  refine ⟨B,E,xs,Xs,ds,E1,fr,fun _=>Calm.nil cl,e1,fun B' J H1 hB fr1 ok=>?_⟩
  refine ⟨fun i mm σ' H'=>mm=ds.length - i∧i≤ds.length∧∃Ei,dD g b (ds.drop i) Ei=some (E',fl)∧Frm X.K B' σ' H' Ei xs Xs,⟨ds.length,by simp,Nat.zero_le _,E1,by simpa using e,fr1⟩,?_⟩
  rintro i mm σ' H' ⟨rfl,hi,Ei,ei,F,A,fri⟩
  obtain ⟨go,stop⟩:=ok i (Same.refl _) fri
  by_cases hlt:i < ds.length
  · obtain ⟨d,ed⟩:∃d,ds[i]? =some d:=⟨ds[i],List.getElem?_eq_getElem hlt⟩
    obtain ⟨g1,yl⟩:=go d ed
    have edr:ds.drop i=d::ds.drop (i+1):=by
      rw [List.drop_eq_getElem_cons hlt]
      congr 1
      exact Option.some.inj ((List.getElem?_eq_getElem hlt).symm.trans ed)
    rw [edr] at ei
    obtain ⟨⟨E2,f2⟩,e2,ei⟩:=Option.bind_eq_some_iff.mp ei
    obtain ⟨E3,e3,e2⟩:=Option.bind_eq_some_iff.mp e2
    refine .inr ⟨g1,fun σ2 H2=>∃Ej,dD g b (ds.drop (i+1)) Ej=some (E',fl)∧Frm X.K B' σ2 H2 Ej xs Xs,fun σ2 H2 ⟨Ej,ej,frj⟩=>⟨ds.length - (i+1),by omega,rfl,hlt,Ej,ej,frj⟩,fun x H2 y=>?_⟩
    refine ⟨B',Ei,xs,Xs,d,E3,yl x H2 y,Still.nil cl,e3,fun σ3 H3 fr3=>?_⟩
    refine ⟨B',E3,xs,Xs,E2,f2,fr3,cl,e2,?_⟩
    cases f2 with
    | nx=>exact fun σ4 H4 fr4=>⟨E2,ei,fr4⟩
    | ct=>exact fun σ4 H4 fr4=>⟨E2,ei,fr4⟩
    | bk=>cases ei;exact fun σ4 H4 fr4=>q _ _ (fr4.base hB)
    | rt r=>cases ei;exact fun σ4 v H4 fr4=>q _ _ _ (fr4.base hB)
  · have e0:i=ds.length:=by omega
    refine .inl ⟨stop e0,?_⟩
    rw [e0,List.drop_length] at ei
    cases ei
    exact q _ _ (Frm.base ⟨F,A,fri⟩ hB)
def aO:Sl→Bool
  | .sh d=>aN d
  | .ow ds=>a_ ds
  | .tx ps=>ps.all fun p=>match p with | .fl d=>aN d | .ol ds=>a_ ds
  | .od kvs=>kvs.all fun p=>a_ p.2
  | _=>false
def ay (n:Nat) (ds:List PyData):List Sl:=ds.map .sh++List.replicate (n - ds.length) .no
def bv (r:Sl):Option Sl:=if aO r then some r else match r with
  | .sh d=>some (.br d)
  | .ow ds=>some (.br (.list ds))
  | .tx ps=>some (.br (.tuple (ps.map Pt.val)))
  | .br d=>some (if aN d then .sh d else .br d)
  | _=>none
def bF (n:Nat) (g:bU):List PyData→Option Sl:=fun ds=>(g (ay n ds)).bind fun a=>match a.2 with
  | .rt r=>bv r
  | .nx=>some (.sh .none)
  | _=>none
section
variable {K:PySem.W.Frag} {B F:Hp} {A:List Addr} {σ:jw} {H:Hp} {E:List Sl} {v:V} {r:Sl}
theorem DlOk.cold {F H:Hp} (sF:Same F H):∀{us:List (eP×V)} {kvs:List (eP×List PyData)} {A:List Addr},(∀p∈kvs,a_ p.2=true)→DlOk K F H us kvs A→DlOk K (tups H) H us kvs A
  | [],[],A,_,h=>h
  | p::us,q::kvs,A,c,h=>by
    obtain ⟨l,vs,A',rfl,rfl,hl,hr,k⟩:=h
    exact ⟨l,vs,A',rfl,rfl,hl,(hr.same sF).cold (c q (List.mem_cons_self ..)),DlOk.cold sF (fun p hp=>c p (List.mem_cons_of_mem _ hp)) k⟩
  | [],_::_,_,_,h=>False.elim h
  | _::_,[],_,_,h=>False.elim h
theorem PtsOk.cold {F H G:Hp} (sF:Same F H) (tG:∀{v:V} {d:PyData},Rp K F v d→aN d=true→Rp K G v d):∀{vs:List V} {ps:List Pt} {A:List Addr},(∀p∈ps,(match p with | .fl d=>aN d | .ol ds=>a_ ds)=true)→PtsOk K F H vs ps A→PtsOk K G H vs ps A
  | [],[],A,_,h=>h
  | v::vs, .fl d::ps,A,c,h=>⟨tG h.1 (c (.fl d) (List.mem_cons_self ..)),PtsOk.cold sF tG (fun p hp=>c p (List.mem_cons_of_mem _ hp)) h.2⟩
  | v::vs, .ol ds::ps,A,c,h=>by
    obtain ⟨l,us,A',rfl,rfl,hl,hr,q⟩:=h
    refine ⟨l,us,A',rfl,rfl,hl,?_,q.cold sF tG fun p hp=>c p (List.mem_cons_of_mem _ hp)⟩
    have cd:a_ ds=true:=c (.ol ds) (List.mem_cons_self ..)
    have key:∀{us:List V} {ds:List PyData},RpA K F us ds→a_ ds=true→RpA K G us ds:=fun {us ds} r c=>by
      induction us generalizing ds with
      | nil=>cases r;exact .nil
      | cons u us ih=>
        cases r with
        | cons r1 r2=>
          simp only [a_,Bool.and_eq_true] at c
          exact .cons (tG r1 c.1) (ih r2 c.2)
    exact key hr cd
  | [],_::_,_,_,h=>False.elim h
  | _::_,[],_,_,h=>False.elim h
theorem FrF.result (h:FrF K B F A σ H E [v] [r]) (c:aO r=true):Same B H∧ko K B H v r:=by
  refine ⟨h.bf.trans h.fh,?_⟩
  have nB:∀a,F a=none→B a=none:=fun a e=>h.bf.free e
  have cold:∀{v:V} {d:PyData},Rp K F v d→aN d=true→Rp K (tups H) v d:=fun r f=>(r.same h.fh).cold f
  obtain ⟨v',A1,ev,hs⟩:=h.ext (k:=0) rfl
  cases ev
  obtain ⟨o,C0,C1,C2,eA,eo,hp,_⟩:=h.sl.at (k:=0) (s:=r) rfl
  cases eo
  have sub:∀a∈C1,F a=none:=fun a ha=>h.fr a (by rw [eA];simp [ha])
  have nd:C1.Nodup:=by
    have:=h.nd
    rw [eA] at this
    exact (List.nodup_append.mp (List.nodup_append.mp this).2.1).1
  cases r with
  | sh d=>obtain ⟨_,w,ew,r⟩:=hp;cases ew;exact cold r c
  | ow ds=>
    obtain ⟨l,vs,el,rfl,hl,r⟩:=hp
    cases el
    exact ⟨l,vs,rfl,nB l (sub l (by simp)),hl,(r.same h.fh).cold c⟩
  | tx ps=>
    obtain ⟨t,vs,et,ht,r⟩:=hp
    cases et
    exact ⟨t,vs,C1,rfl,fA (h.fh _ _ ht) rfl,nd,fun a ha=>nB a (sub a ha),r.cold h.fh cold (by simpa [aO,List.all_eq_true] using c)⟩
  | no=>cases c
  | od kvs=>
    obtain ⟨l,us,A',el,rfl,hl,r⟩:=hp
    cases el
    exact ⟨l,us,A',rfl,nd,fun a ha=>nB a (sub a ha),hl,r.cold h.fh (by simpa [aO,List.all_eq_true] using c)⟩
  | al i=>cases c
  | br d=>cases c
theorem FrF.resultO {r':Sl} (h:FrF K B F A σ H E [v] [r]) (c:bv r=some r'):Same B H∧ko K B H v r':=by
  unfold bv at c
  split at c
  · rename_i hc
    cases c
    exact h.result hc
  · refine ⟨h.bf.trans h.fh,?_⟩
    cases r with
    | sh d=>cases c;exact (h.look0 (d:=d) rfl).1
    | ow ds=>cases c;exact (h.look0 (d:= .list ds) rfl).1
    | tx ps=>cases c;exact (h.look0 (d:= .tuple (ps.map Pt.val)) rfl).1
    | br d=>
      have r:=(h.look0 (d:=d) rfl).1
      simp only at c
      split at c
      · rename_i hf
        cases c
        exact r.cold hf
      · cases c
        exact r
    | no=>cases c
    | od kvs=>cases c
    | al i=>cases c
theorem jB {N:List Str} {vs:List V} {ds:List PyData} (r:RpA K H vs ds) (hn:ds.length≤N.length):FrF K H H [] (L2.cy N vs) H (ay N.length ds) [] []:=by
  refine ⟨Same.refl _,Same.refl _,jZ H,?_,List.nodup_nil,fun a ha=>(by cases ha),rfl,?_⟩
  · have l:=r.len
    unfold L2.cy ay
    rw [l]
    generalize N.length - ds.length=k
    have base:∀τ:jw,SAll (SlOk K H H τ) (List.replicate k none) (List.replicate k .no) []:=fun τ=>by
      induction k with
      | zero=>exact .nil
      | succ k ih=>exact .cons (A:=[]) rfl ih
    have key:∀(τ:jw) {us:List V} {es:List PyData},RpA K H us es→SAll (SlOk K H H τ) (us.map some++List.replicate k none) (es.map .sh++List.replicate k .no) []:=fun τ us es r=>by
      induction us generalizing es with
      | nil=>cases r;exact base τ
      | cons u us ih=>
        cases r with
        | cons r1 r2=>exact .cons (A:=[]) ⟨rfl,_,rfl,r1⟩ (ih _ r2)
    exact key _ r
  · intro s hs
    unfold ay at hs
    rcases List.mem_append.mp hs with hs | hs
    · obtain ⟨d,_,rfl⟩:=List.mem_map.mp hs
      rfl
    · rw [(List.mem_replicate.mp hs).2]
      rfl
end
def bS (k n:Nat) (g:bU):List PyData→Option Sl:=fun ds=>if ds.length=k then bF n g ds else none
theorem fm {P:Program} {w:World} {K:PySem.W.Frag} {mg:Str→Option Value} {base:Heap} {x:Str} {st:Stmt} {N ps:List Str} {k a n:Nat} {g:bU} (D:Def K mg x st ps) (S:FnScope N ps (ai st)) (hpa:ps.length=a) (hNn:N.length=n) (hps:a≤n)
    (hbody:∀(f:Addr) (cdv:Value) (A:Around) (outer:List Env) (s:Shared) (H:Hp) (E:XK),Room k (A.deeper (PyProof.Rows.envOfC x (ai st) s.heap.objs.size f cdv))→
      qx (gR iu P w K mg base N x (ai st) f cdv A outer s H E).nox (bE st) g):Own P w K mg base (k+1) x ps (bV K (bS a n g)):=by
  subst hpa hNn
  refine D.own S (fun vs H Q E h=>?_) (fun f cdv A outer s H vs Q E hr h=>?_)
  · obtain ⟨ds,r,e,rp,_⟩:=h
    unfold bS at e
    split at e
    · rename_i hl
      rw [rp.len];exact hl
    · cases e
  obtain ⟨ds,r,e,rp,q⟩:=h
  unfold bS at e
  split at e
  · rename_i hl
    refine ⟨_,hbody f cdv A outer s H E hr,?_⟩
    obtain ⟨⟨E',fl⟩,e1,e⟩:=Option.bind_eq_some_iff.mp e
    refine ⟨H,ay N.length ds,[],[],E',fl,⟨H,[],jB rp (by omega)⟩,rfl,e1,?_⟩
    cases fl with
    | nx=>
      cases e
      rintro σ' H' ⟨F',A',fr'⟩
      exact q _ _ (fr'.bf.trans fr'.fh) .non
    | bk=>cases e
    | ct=>cases e
    | rt r'=>
      rintro σ' v H' ⟨F',A',fr'⟩
      obtain ⟨s1,s2⟩:=fr'.resultO e
      exact q v H' s1 s2
  · cases e
theorem DO {P:Program} {w:World} {K:PySem.W.Frag} {mg:Str→Option Value} {base:Heap} {x:Str} {st:Stmt} {N ps:List Str} {k a n:Nat} {g:bU} {f0:Addr} {fd:FuncData} (D:Fun K x x st f0 fd) (S:FnScope N ps (ai st)) (hpa:ps.length=a) (hNn:N.length=n) (hps:a≤n)
    (hbody:∀(cdv:Value) (A:Around) (outer:List Env) (s:Shared) (H:Hp) (E:XK),Room k (A.deeper (PyProof.Rows.envOfC x (ai st) s.heap.objs.size f0 cdv))→
      qx (gR iu P w K mg base N x (ai st) f0 cdv A outer s H E).nox (bE st) g):FnOk P w K mg base iu (k+1) f0 fd ps (bV K (bS a n g)):=by
  subst hpa hNn
  refine D.ok S (fun vs H Q E h=>?_) (fun cdv A outer s H vs Q E hr h=>?_)
  · obtain ⟨ds,r,e,rp,_⟩:=h
    unfold bS at e
    split at e
    · rename_i hl
      rw [rp.len];exact hl
    · cases e
  obtain ⟨ds,r,e,rp,q⟩:=h
  unfold bS at e
  split at e
  · rename_i hl
    refine ⟨_,hbody cdv A outer s H E hr,?_⟩
    obtain ⟨⟨E',fl⟩,e1,e⟩:=Option.bind_eq_some_iff.mp e
    refine ⟨H,ay N.length ds,[],[],E',fl,⟨H,[],jB rp (by omega)⟩,rfl,e1,?_⟩
    cases fl with
    | nx=>
      cases e
      rintro σ' H' ⟨F',A',fr'⟩
      exact q _ _ (fr'.bf.trans fr'.fh) .non
    | bk=>cases e
    | ct=>cases e
    | rt r'=>
      rintro σ' v H' ⟨F',A',fr'⟩
      obtain ⟨s1,s2⟩:=fr'.resultO e
      exact q v H' s1 s2
  · cases e
theorem ny {K:PySem.W.Frag} {H:Hp}:∀ns:List Int,RpA K H (ns.map V.int) (ns.map PyData.int)
  | []=> .nil
  | n::ns=> .cons (.int n) (ny ns)
theorem Aa {K:PySem.W.Frag} {H:Hp} {a:Addr} {ns:List Int} {c:List PyData→Option Sl} (e:c [.list (ns.map .int)]=some (.sh (.bool true))) (h:SqL K H a (ns.map V.int)):bV K c [.ref a] H (fun v _=>v= .bl true) fun _ _ _=>False:=
  ⟨_,_,e, .cons (.lst h (ny ns)) .nil,fun v H' _ r=>by
    have r':Rp K (tups H') v (.bool true):=r
    cases r'
    rfl⟩
end PL
namespace PL
open PySem L2 Nh
def rW (E:List Sl):Option Nat→Sl
  | none=> .no
  | some j=>match (E[j]?).bind Sl.val with
    | some d=> .sh d
    | none=> .no
def j5 (js:List (Option Nat)) (E:List Sl):List Sl:=js.map (rW E)
def kq:jq:=fun E=>some (true,E)
def i5 (tg:kF) (cond:jq) (elt:b_):List PyData→List Sl→Option (List PyData)
  | [],_=>some []
  | d::ds,E=>(tg d E).bind fun E1=>(cond E1).bind fun b=>if b.1 then (elt b.2).bind fun c=>(frz c.2 c.1).bind fun e=>(i5 tg cond elt ds e.2).map fun r=>e.1::r else i5 tg cond elt ds b.2
def lE (js:List (Option Nat)) (it:lj) (tg:kF) (cond:jq) (elt:b_):b_:=fun E=>(it E).bind fun a=>(i5 tg cond elt a.1 (j5 js a.2)).bind fun ds=>if a_ ds&&decide (ds.length≤1000000) then some (.ow ds,a.2) else none
section
variable {X:Cx} {elt target iter:Expr} {ifs:List Expr} {scope sc:Scope} {cl:List (Str×Addr)} {N:List Str} {pos:Pos} {js:List (Option Nat)} {K:PySem.W.Frag}
theorem vy {B F:Hp} {A:List Addr} {σ:jw} {H:Hp} {E:List Sl} {xs:List V} {Xs:List Sl} (fr:FrF K B F A σ H E xs Xs) (js:List (Option Nat)):FrF K H H [] (slots js σ) H (j5 js E) [] []:=by
  refine ⟨Same.refl _,Same.refl _,jZ H,?_,List.nodup_nil,fun a ha=>(by cases ha),rfl,fun s hs=>?_⟩
  · have key:∀(τ:jw) (ks:List (Option Nat)),SAll (SlOk K H H τ) (slots ks σ) (j5 ks E) []:=fun τ ks=>by
      induction ks with
      | nil=>exact .nil
      | cons j ks ih=>
        refine .cons (A:=[]) ?_ ih
        cases j with
        | none=>exact rfl
        | some j=>
          show SlOk K H H τ _ (match (E[j]?).bind Sl.val with | some d=> .sh d | none=> .no) []
          cases ej:E[j]? with
          | none=>exact rfl
          | some s=>
            cases ev:s.val with
            | none=>simp only [Option.bind_some,ev];exact rfl
            | some d=>
              simp only [Option.bind_some,ev]
              obtain ⟨o,A1,eo,hs⟩:=fr.var ej
              obtain ⟨v,rfl,r,_⟩:=hs.val fr.fh ev
              refine ⟨rfl,v,?_,r⟩
              show (σ[j]?).join=some v
              rw [eo]
              rfl
    exact key _ js
  · obtain ⟨j,_,rfl⟩:=List.mem_map.mp hs
    cases j with
    | none=>rfl
    | some j=>
      simp only [rW]
      split <;> rfl
theorem tB {m2 m3:Bool} {tg:kF} {cond:jq} {el:b_} {tt:TT} (htt:∀σ H Q,rt K m2 cond σ H Q→tt σ H Q) {B B' F:Hp} {A:List Addr} {σ:jw} {H1:Hp} {E1:List Sl} {xs:List V} {Xs:List Sl} {ds rs:List PyData} {J:It} {Q:VK}
    (fr1:FrF K B F A σ H1 E1 xs Xs) (B2:Same B' H1) (ok:pA K B' J ds) (e2:i5 tg cond el ds (j5 js E1)=some rs) (hc:a_ rs=true∧rs.length≤1000000) (q:∀v H',Frm K B σ H' E1 (v::xs) (.ow rs::Xs)→Q v H') (l:Addr) (hl:H1 l=none):
    ∃W:Nat→Nat→jw→Hp→Prop,(∃m,W 0 m (slots js σ) (upd H1 l (.lst [])))∧
  ∀i m σ' H',W i m σ' H'→(J.stop i H'∧Q (.ref l) H')∨(J.go i H'∧∃N:jw→Hp→Prop,(∀σ' H',N σ' H'→∃m',m' < m∧W (i+1) m' σ' H')∧∀x H2,J.yld i H' x H2→rg K tg x σ' H2 fun σ3 H3=>tt σ3 H3 fun b H4=>
    if b=true then rd K m3 el σ3 H4 fun y H5=>∃ys,H5 l=some (.lst ys)∧ys.length < sizeLine∧N σ3 (upd H5 l (.lst (ys++[y]))) else N σ3 H4):=by
  have fr0:=(vy fr1 js).newl (ds:=[]) .nil hl
  refine ⟨fun i mm σ' H'=>mm=ds.length - i∧i≤ds.length∧∃Ei acc bK,i5 tg cond el (ds.drop i) Ei=some bK∧rs=acc++bK∧Frm K H1 σ' H' Ei [.ref l] [.ow acc],⟨ds.length,by simp,Nat.zero_le _,_,[],rs,by simpa using e2,rfl,⟨_,_,fr0⟩⟩,?_⟩
  rintro i mm σ' H' ⟨rfl,hi,Ei,acc,bK,ei,er,F',A',fri⟩
  obtain ⟨go,stop⟩:=ok i B2 fri
  by_cases hlt:i < ds.length
  · obtain ⟨d,ed⟩:∃d,ds[i]? =some d:=⟨ds[i],List.getElem?_eq_getElem hlt⟩
    obtain ⟨g1,yl⟩:=go d ed
    have edr:ds.drop i=d::ds.drop (i+1):=by
      rw [List.drop_eq_getElem_cons hlt]
      congr 1
      exact Option.some.inj ((List.getElem?_eq_getElem hlt).symm.trans ed)
    rw [edr] at ei
    obtain ⟨E3,e3,ei⟩:=Option.bind_eq_some_iff.mp ei
    obtain ⟨⟨b,E4⟩,e4,ei⟩:=Option.bind_eq_some_iff.mp ei
    refine .inr ⟨g1,fun σ2 H2=>∃Ej acc bK,i5 tg cond el (ds.drop (i+1)) Ej=some bK∧rs=acc++bK∧Frm K H1 σ2 H2 Ej [.ref l] [.ow acc],fun σ2 H2 ⟨Ej,ac,rt,ej,er,frj⟩=>⟨ds.length - (i+1),by omega,rfl,hlt,Ej,ac,rt,ej,er,frj⟩,fun x H2 y=>?_⟩
    have clm:Calm [Sl.ow acc]:=Calm.cons (fun s hs=>absurd hs (by simp)) rfl
    refine ⟨H1,Ei,[.ref l],[.ow acc],d,E3,yl x H2 y,(fun s hs=>by rw [List.mem_singleton.mp hs];rfl),e3,fun σ3 H3 fr3=>htt _ _ _ ?_⟩
    refine ⟨H1,E3,[.ref l],[.ow acc],b,E4,fr3,fun _=>clm,e4,fun H4 fr4=>?_⟩
    cases b with
    | false=>
      rw [if_neg (by decide)]
      exact ⟨E4,acc,bK,ei,er,fr4⟩
    | true=>
      rw [if_pos rfl]
      obtain ⟨⟨s5,E5⟩,e5,ei⟩:=Option.bind_eq_some_iff.mp ei
      obtain ⟨⟨d6,E6⟩,e6,ei⟩:=Option.bind_eq_some_iff.mp ei
      obtain ⟨rest',e7,ei⟩:=Option.map_eq_some_iff.mp ei
      subst ei
      refine ⟨H1,E4,[.ref l],[.ow acc],s5,E5,fr4,fun _=>clm,e5,fun y5 H5 ⟨F5,A5,fr5⟩=>?_⟩
      obtain ⟨F6,A6,fr6⟩:=fr5.frz0 e6
      obtain ⟨v',C1,ev,rfl,w,ew,ry⟩:=fr6.ext (k:=0) rfl
      cases ev;cases ew
      obtain ⟨A7,fr7⟩:=fr6.pop
      -- the list under way is the one part that owns
      obtain ⟨bf,fh,tf,sl,nd,frn,len,pl⟩:=fr7
      generalize hT:List.map some [V.ref l]++σ3=T at sl
      generalize hS:[Sl.ow acc]++E6=S at sl
      cases sl with
      | nil=>cases hS
      | cons q0 r0=>
        injection hT with h1 hT
        injection hS with h2 hS
        subst h1 h2 hT hS
        obtain ⟨l',us,el,rfl,hl5,ru⟩:=q0
        cases el
        have lu:=ru.len
        refine ⟨us,hl5,rP (by rw [er] at hc;simp at hc;omega),E6,acc++[d6],rest',e7,by rw [er];simp,F6,_,bf,fun b o qb=>?_,?_, .cons (A:=[l]) ⟨l,us++[y5],rfl,rfl,upd_same,ru.snoc ry⟩ (r0.mono fun o s C hs hC qq=>qq.stay (Same.refl _) (fun b hb=>av fun z=>?_) fun z=>?_),nd,frn,rfl,pl⟩
        · have lF:F6 l=none:=frn l (by simp)
          rw [av (fun z=>by rw [z,lF] at qb;cases qb)]
          exact fh _ _ qb
        · rw [lh hl5];exact tf
        · have:=hC b hb
          rw [z] at this
          exact (List.nodup_cons.mp nd).1 this
        · have:=pl s hs
          cases s <;> simp [Sl.isAl,Sl.isBr] at this z
  · have e0:i=ds.length:=by omega
    refine .inl ⟨stop e0,?_⟩
    rw [e0,List.drop_length] at ei
    cases ei
    rw [List.append_nil] at er
    subst er
    obtain ⟨g1,g2⟩:=fri.result hc.1
    exact q _ _ (fr1.told g1 g2)
theorem xE {m m2 m3:Bool} {it:lj} {tg:kF} {cond:jq} {el:b_} {tt:TT} (htt:∀σ H Q,rt K m2 cond σ H Q→tt σ H Q) {σ:jw} {H:Hp} {Q:VK} (z:rd K m (lE js it tg cond el) σ H Q):rJ js (ri K m it) (rg K tg) tt (rd K m3 el) σ H Q:=by
  obtain ⟨B,E,xs,Xs,res,E',fr,cl,e,q⟩:=z
  obtain ⟨⟨ds,E1⟩,e1,e⟩:=Option.bind_eq_some_iff.mp e
  obtain ⟨rs,e2,e⟩:=Option.bind_eq_some_iff.mp e
  simp only at e
  split at e
  · rename_i hc
    cases e
    simp only [Bool.and_eq_true,decide_eq_true_eq] at hc
    exact ⟨B,E,xs,Xs,ds,_,fr,cl,e1,fun B' J H1 hB ⟨F,A,fr1⟩ ok l hl=>tB htt (fr1.base hB) (fr1.bf.trans fr1.fh) ok e2 hc q l hl⟩
  · cases e
theorem lG {m m3:Bool} {it:lj} {tg:kF} {el:b_} (C:CompOk X scope sc cl N js) (hc:X.calm=true) (hi:IX X target iter m it) (hg:∀C s₀ H₀ fp,GX (X.comp sc cl N C s₀ H₀ fp) target tg) (he:∀C s₀ H₀ fp,EX (X.comp sc cl N C s₀ H₀ fp) elt m3 el)
    (hs:∀x,foldedSetIterable iter X.env x=pure x:=by intro _;rfl):EX X (.ListComp elt [⟨target,iter,[],0⟩] scope pos) m (lE js it tg kq el):=
  bi (rK (g:=rg X.K tg) (te:=rd X.K m3 el) C hc hi hg (fun _ _ _ _=>rH) he hs) fun σ H Q z=>xE (m2:=false) (fun σ H Q z=>by
    obtain ⟨B,E,xs,Xs,b,E',fr,cl,e,q⟩:=z
    cases e
    exact q _ fr) z
end
end PL
namespace PL
open PySem L2 Nh
section
variable {X:Cx} {elt target iter:Expr} {ifs:List Expr} {scope sc:Scope} {cl:List (Str×Addr)} {N:List Str} {pos:Pos} {js:List (Option Nat)} {K:PySem.W.Frag}
theorem SAll.split {P:Option V→Sl→List Addr→Prop}:∀{os os':List (Option V)} {ss ss':List Sl} {A:List Addr},os.length=ss.length→SAll P (os++os') (ss++ss') A→∃A1 A2,A=A1++A2∧SAll P os ss A1∧SAll P os' ss' A2
  | [],_,[],_,A,_,h=>⟨[],A,rfl, .nil,h⟩
  | o::os,_,s::ss,_,_,l, .cons h r=>by
    obtain ⟨A1,A2,rfl,h1,h2⟩:=SAll.split (os:=os) (ss:=ss) (by simpa using l) r
    exact ⟨_,A2,by rw [List.append_assoc], .cons h h1,h2⟩
  | [],_,_::_,_,_,l,_=>by simp at l
  | _::_,_,[],_,_,l,_=>by simp at l
end
end PL
namespace PL
open PySem L2 Nh
theorem cB {α:Type} (xs:List α) (k:Nat):atI xs (k:Int)=xs[k]? :=by
  unfold atI zI
  rw [if_pos (by omega)]
  split
  · simp
  · rw [List.getElem?_eq_none (by omega)];rfl
theorem nz {α:Type} (a:α) (l:List α):atI (a::l) 0=some a:=cB (a::l) 0
theorem nC {α:Type} (a b:α) (l:List α):atI (a::b::l) 1=some b:=cB (a::b::l) 1
theorem nD:∀{a:List PyData},(∀d∈a,aN d=true)→a_ a=true
  | [],_=>rfl
  | x::a,h=>by simp [a_,h x (List.mem_cons_self ..),nD fun d hd=>h d (List.mem_cons_of_mem _ hd)]
theorem tD {α:Type} {f:α→PyData} (h:∀a,aN (f a)=true) (l:List α):a_ (l.map f)=true:=nD fun d hd=>by
  obtain ⟨a,_,rfl⟩:=List.mem_map.mp hd
  exact h a
theorem xF (p:Pc):aN (bh p)=true:=rfl
theorem bw (c:List Pc):a_ (c.map bh)=true:=tD xF c
def cutL {α:Type} (l:List α) (lo hi:Option Int):List α:=(l.drop (HT.k9 l.length 0 lo)).take (HT.k9 l.length l.length hi - HT.k9 l.length 0 lo)
theorem pD {α:Type} (f:α→PyData) (l:List α) (lo hi:Option Int):sZ (l.map f) lo hi=(cutL l lo hi).map f:=by
  unfold sZ cutL
  rw [List.length_map,List.map_take,List.map_drop]
theorem tE {α:Type} (l:List α) {m:Int} (h:0≤m):((cutL l none (some m)).length:Int)≤m:=by
  unfold cutL
  have e:m=((m.toNat:Nat):Int):=by omega
  have z:HT.k9 l.length l.length (some m)≤m.toNat:=by
    rw [e,HT.xc,Int.toNat_natCast]
    exact Nat.min_le_left _ _
  rw [List.length_take,List.length_drop]
  omega
theorem lH {α:Type} {l:List α} {lo hi:Option Int} {x:α} (h:x∈cutL l lo hi):x∈l:=List.mem_of_mem_drop (List.mem_of_mem_take h)
theorem kN {α β:Type} (f:α→β) (k:Nat) (l:List α):(List.replicate k (l.map f)).flatten=((List.replicate k l).flatten).map f:=by
  induction k with
  | zero=>rfl
  | succ k ih=>rw [List.replicate_succ,List.replicate_succ,List.flatten_cons,List.flatten_cons,List.map_append,ih]
theorem iT (lo:Int) (n:Nat):j2 lo (n+1)= .int lo::j2 (lo+1) n:=by
  unfold j2
  rw [List.range_succ_eq_map,List.map_cons,List.map_map]
  simp only [Int.natCast_zero,Int.add_zero]
  congr 1
  refine List.map_congr_left fun k _=>?_
  show PyData.int (lo+((k+1:Nat):Int))=PyData.int (lo+1+(k:Int))
  congr 1
  omega
end PL
namespace L2
open PySem PySem.Spec PyProof.Rows
section
variable {X:Cx} {pins:List (Addr×Obj)} {σ:L2.St} {H:Hp} {s:Shared} {h':Heap}
theorem Inv.turnedL {t':Nat} {fp:List Addr} (I:Inv X pins σ H s) (k:∀b o,b∉fp→s.heap.get? b=some o→h'.get? b=some o) (hf:∀b∈fp,mf X pins H b):Inv X pins σ H {s with heap:=h',toks:=t'}:=by
  have nit:∀b u,H b=some u→b∉fp:=fun b u e z=>by rw [(hf b z).1] at e;cases e
  refine I.step (g':=s.gens) (d':=s.drawn) (ch:=fp) (fun b hb=>?_) (fun b o _ _ hc e _=>k b o hc e) (fun b o _ _ hc e _=>⟨o.slots,k b o hc e⟩) (fun _ _ _ _ n=>n)
    (fun b o hc e=>⟨o,k b o hc e⟩) (fun _ _ e=>e) (fun _ _ _ e=>e) (fun _ _ e=>e) (fun m hm=>?_) (fun b u e=>?_) I.bare
  · obtain ⟨f0,f1,f2,f3,f4,f5⟩:=hf b hb
    exact ⟨f3,f1,f4,f5⟩
  · obtain ⟨o,es,ep,ho,r⟩:=hm
    exact ⟨o,es,ep,k _ o (fun z=>(hf _ z).2.1 rfl) ho,r⟩
  · refine (I.hok b u e).stay (fun c v hc q=>k c v ?_ q) (fun _ q=>q) fun _ _ q=>q
    rcases hc with z | z
    · rw [z];exact nit b u e
    · exact nit c _ z
theorem qC {h:Heap} {o o':Obj} {c:Addr} (hc:c≠h.objs.size) (e:(h.push o').get? c=some o):h.get? c=some o:=(Heap.get?_push_cases e).elim (fun z=>absurd z.1 hc) id
theorem vz {t':Nat} {us:List Value} {vs:List V} (I:Inv X pins σ H s) (r:Vals vs us) (hz:vs.length≤sizeLine):
    Inv X pins σ (upd H s.heap.objs.size (.tup vs)) {s with heap:=s.heap.push {cls:= .type "tuple",data:= .seq us.toArray},toks:=t'}:=
  I.laid (fun b u e=>Heap.get?_push_of_some _ e) (Nat.le_refl _) ⟨hz,us,r,⟨_,Heap.get?_push_size _ rfl,rfl,_,rfl⟩⟩
end
def C9 (K:PySem.W.Frag) (a b:Addr) (xs ys:List V):It:=
  ⟨fun i H=>SqL K H a xs∧SqL K H b ys∧i < xs.length∧i < ys.length,fun i H x H'=>∃T u v,H T=none∧xs[i]? =some u∧ys[i]? =some v∧x= .ref T∧H'=upd H T (.tup [u,v]),
   fun i H=>SqL K H a xs∧SqL K H b ys∧i=min xs.length ys.length⟩
theorem vA {P:Program} {w:World} {K:PySem.W.Frag} {pE:List Expr} {k:Nat} {pos:Pos} {z TI TO i1 i2 a b:Addr} (D:ZipApart z TI TO i1 i2 a b) (xs ys:List V):Turn P w K (.Tuple pE k pos) (C9 K a b xs ys) [z,TI,TO,i1,i2] z
    (fun i h=>IsZip h z TI TO .none∧IsPair h TI (.ref i1) (.ref i2)∧(∃a b,IsPair h TO a b)∧h.IsListIter i1 a i∧h.IsListIter i2 b i) where
  mem:=by simp
  obj:=fun i h st c hc=>by
    obtain ⟨h1,h2,⟨x,y,h3⟩,⟨o4,h4,_,d4⟩,⟨o5,h5,_,d5⟩⟩:=st
    simp only [List.mem_cons,List.not_mem_nil,or_false] at hc
    rcases hc with rfl | rfl | rfl | rfl | rfl
    · exact ⟨_,h1,fun v z=>by cases z⟩
    · exact ⟨_,h2,fun v z=>by cases z⟩
    · exact ⟨_,h3,fun v z=>by cases z⟩
    · exact ⟨_,h4,fun v z=>by rw [d4] at z;cases z⟩
    · exact ⟨_,h5,fun v z=>by rw [d5] at z;cases z⟩
  keep:=fun i h h' st kk=>by
    obtain ⟨h1,h2,⟨x,y,h3⟩,h4,h5⟩:=st
    exact ⟨kk z (by simp) _ h1,kk TI (by simp) _ h2,⟨x,y,kk TO (by simp) _ h3⟩,h4.at fun o e=>kk i1 (by simp) o e,h5.at fun o e=>kk i2 (by simp) o e⟩
  item:=by
    intro X hP hw hK hc i pins s σ H E I hf st hg
    subst hP hw hK
    obtain ⟨h1,h2,⟨x,y,h3⟩,h4,h5⟩:=st
    obtain ⟨q1,q2,l1,l2⟩:=hg
    obtain ⟨its,rv,p,hz⟩:=I.list q1
    obtain ⟨its2,rv2,p2,hz2⟩:=I.list q2
    obtain ⟨u,hu⟩:∃u,xs[i]? =some u:=⟨xs[i],List.getElem?_eq_getElem l1⟩
    obtain ⟨v,hv⟩:∃v,ys[i]? =some v:=⟨ys[i],List.getElem?_eq_getElem l2⟩
    obtain ⟨u',hu',ru⟩:=rv.get hu
    obtain ⟨v',hv',rv'⟩:=rv2.get hv
    refine wpAny_pyNext_zip_item D h1 h2 h3 h4 h5 p.isList p2.isList (by simpa using hu') (by simpa using hv') fun h' a1 a2 a3 a4 a5 a6 hk=>?_
    have I0:=vz (t':=s.toks) I (us:=[u',v']) (vs:=[u,v]) (.cons ru (.cons rv' .nil)) (by show 2≤sizeLine;decide)
    have hT:∀c∈[z,TI,TO,i1,i2],c≠s.heap.objs.size:=fun c hc ZE=>by
      have:c < s.heap.objs.size:=by
        simp only [List.mem_cons,List.not_mem_nil,or_false] at hc
        rcases hc with rfl | rfl | rfl | rfl | rfl
        · exact Heap.lt_size h1
        · exact Heap.lt_size h2
        · exact Heap.lt_size h3
        · obtain ⟨o,q,_⟩:=h4;exact Heap.lt_size q
        · obtain ⟨o,q,_⟩:=h5;exact Heap.lt_size q
      rw [ZE] at this;exact Nat.lt_irrefl _ this
    have hf2:∀c∈[z,TI,TO,i1,i2],mf X pins (upd H s.heap.objs.size (.tup [u,v])) c:=fun c hc=>by
      obtain ⟨f0,f⟩:=hf c hc
      exact ⟨by rw [av (hT c hc)];exact f0,f⟩
    have I1:=I0.turnedL (h':=h') (t':=s.toks) (fp:=[z,TI,TO,i1,i2]) (fun c o hc e=>by
      simp only [List.mem_cons,List.not_mem_nil,or_false,not_or] at hc
      by_cases ec:c=s.heap.objs.size
      · subst ec
        rw [Heap.get?_push_size _ rfl] at e
        cases e
        exact a5
      · have e':s.heap.get? c=some o:=by
          exact qC ec e
        exact hk c o hc.1 hc.2.2.1 hc.2.2.2.1 hc.2.2.2.2 e') hf2
    refine ⟨_,rfl,wpAny_letOwnedTupleGo_zip (s:={s with heap:=h'}) a1 fun h'' z'' s''=>?_⟩
    have I2:=I1.turnedL (h':=h'') (t':=s.toks) (fp:=[z,TI,TO,i1,i2]) (fun c o hc e=>(s''.2 c fun e'=>hc (by simp [e'])).trans e) hf2
    refine ⟨.ref s.heap.objs.size,_,I2,rfl,⟨_,u,v,I.hok.fresh (Nat.le_refl _),hu,hv,rfl,rfl⟩,⟨z'',?_,⟨_,_,s''.extBut _ _ D.TOz a2⟩,a3.extBut s''.extBut D.i1z,a4.extBut s''.extBut D.i2z⟩,fun c hc=>(hf2 c hc).1⟩
    exact s''.extBut _ _ D.TIz (hk _ _ D.TIz D.TITO D.TIi1 D.TIi2 h2)
  done:=by
    intro X hP hw hK hc i pins s σ H E I hf st hg
    subst hP hw hK
    obtain ⟨h1,h2,⟨x,y,h3⟩,h4,h5⟩:=st
    obtain ⟨q1,q2,hi⟩:=hg
    obtain ⟨its,rv,p,hz⟩:=I.list q1
    obtain ⟨its2,rv2,p2,hz2⟩:=I.list q2
    have n1:=rv.length
    have n2:=rv2.length
    refine wpAny_pyNext_zip_end (I.ok.hd hc) D h1 h2 h3 h4 h5 p.isList p2.isList ?_ fun h' hk=>⟨rfl,I.turnedL (t':=s.toks) (fp:=[z,TI,TO,i1,i2]) (fun c o hc e=>?_) hf⟩
    · rcases Nat.le_total xs.length ys.length with h | h
      · exact .inl (Array.getElem?_eq_none (by rw [List.size_toArray];omega))
      · exact .inr (Array.getElem?_eq_none (by rw [List.size_toArray];omega))
    · simp only [List.mem_cons,List.not_mem_nil,or_false,not_or] at hc
      exact hk c o hc.1 hc.2.2.1 hc.2.2.2.1 hc.2.2.2.2 e
  self:=fun _ _ _ _ _ st h=>wpAny_pyIter_zip st.1 h
def C_ (K:PySem.W.Frag) (tl:TA):TI:=fun σ H R=>tl σ H fun vs H1=>∃a b xs ys,vs=[.ref a, .ref b]∧SqL K H1 a xs∧SqL K H1 b ys∧R (C9 K a b xs ys) H1
section
variable {X:Cx} {pE:List Expr} {kt:Nat} {pt:Pos}
theorem Ab {l l2:Expr} {tl:TA} {p pos:Pos} (hg:Gl X "zip") (hm:X.mg "zip"=none) (ha:PA X [l,l2] tl) (hs:starEach [l,l2] X.env=(false,eval l X.env)::starEach [l2] X.env:=by rfl) (hs2:starEach [l2] X.env=[(false,eval l2 X.env)]:=by rfl):PI X (.Tuple pE kt pt) (.Call (.Name "zip" p) [l,l2] [] pos) (C_ X.K tl):=by
  intro pins s σ H R I h
  refine Call_ (jV I hg hm boot_zip (PyProof.Rows.callWith_type1 (cE (ha pos pins s σ H _ I h) fun us s1 ⟨vs,H1,I1,r1,q1⟩=>?_) hs (by rw [hs2];rfl)))
  obtain ⟨a,b,xs,ys,e,hq,hq2,q⟩:=q1
  subst e
  obtain ⟨u,v,rfl,ru,rv⟩:=r1.two
  cases ru;cases rv
  obtain ⟨its,rva,p1,hz⟩:=I1.list hq
  obtain ⟨its2,rvb,p2,hz2⟩:=I1.list hq2
  have la:a < s1.heap.objs.size:=by obtain ⟨_,e,_⟩:=p1.isList;exact Heap.lt_size e
  have lb:b < s1.heap.objs.size:=by obtain ⟨_,e,_⟩:=p2.isList;exact Heap.lt_size e
  refine call_zip_2 p1.isList p2.isList fun h' z1 z2 z3 z4 z5 z6 hk=>?_
  have I2:Inv X pins σ H1 {s1 with heap:=h'}:=I1.kept (t':=s1.toks) hk
  refine wpAny_pyIter_zip (s:={s1 with heap:=h'}) z1 ⟨_,[_,_,_,_,_],_,_,H1,rfl,I2,vA (zipApart_new la lb) xs ys,⟨z1,z2,⟨_,_,z3⟩,z4,z5⟩,fun c hc=>?_,q⟩
  have le:s1.heap.objs.size≤c:=by
    simp only [List.mem_cons,List.not_mem_nil,or_false] at hc
    rcases hc with rfl | rfl | rfl | rfl | rfl
    · exact Nat.le_add_right _ 4
    · exact Nat.le_add_right _ 2
    · exact Nat.le_add_right _ 3
    · exact Nat.le_refl _
    · exact Nat.le_add_right _ 1
  exact I1.fpOk le (I1.hok.fresh le)
end
def Cp (x:Str):It:=⟨fun i _=>i < x.cps.toList.length,fun i H v H'=>H'=H∧∃c,x.cps.toList[i]? =some c∧v= .str ⟨#[c]⟩,fun i _=>i=x.cps.toList.length⟩
theorem vB {P:Program} {w:World} {K:PySem.W.Frag} {tg:Expr} {it:Addr} {T:String} {x:Str} {t:Tok} (hT:T="str_ascii_iterator"∨T="str_iterator"):Turn P w K tg (Cp x) [it] it (fun i h=>h.IsStrIter it T x t i) where
  mem:=by simp
  obj:=fun i h st b hb=>by
    have e:b=it:=by simpa using hb
    subst e
    obtain ⟨o,e,c,d⟩:=st
    exact ⟨o,e,fun v z=>by rw [d] at z;cases z⟩
  keep:=fun i h h' st k=>let ⟨o,ho,r⟩:=st;⟨o,k it (by simp) o ho,r⟩
  item:=by
    intro X hP hw hK hc i pins s σ H E I hf st hg
    subst hP hw hK
    obtain ⟨f0,f1,f2,f3,f4,f5⟩:=hf it (by simp)
    have hi:i < x.cps.toList.length:=hg
    have hx:x.cps[i]? =some (x.cps.toList[i]'hi):=by simp at hi;simp [hi]
    have fin:∀(h':Heap),h'.IsStrIter it T x t (i+1)→Heap.SameBut it s.heap h'→∃u,some (Value.str ⟨#[x.cps.toList[i]'hi]⟩ s.toks)=some u∧
        wpAny (model X.prog X.w) X.A (letOwnedTupleGo tg (.ref it) u) (fun _ s2=>∃v H',Inv X pins σ H' s2∧RelV v u∧(Cp x).yld i H v H'∧s2.heap.IsStrIter it T x t (i+1)∧∀b∈[it],H' b=none) E {s with heap:=h',toks:=s.toks+1}:=fun h' st' sb=>by
      have I1:Inv X pins σ H {s with heap:=h',toks:=s.toks+1}:=I.turned (t':=s.toks+1) (fun b o hb e=>(sb.2 b hb).trans e) f0 f1 f3 f4 f5
      obtain ⟨o,e,c,d⟩:=id st'
      exact ⟨_,rfl,o_ (s:={s with heap:=h',toks:=s.toks+1}) e c d (by rcases hT with rfl | rfl <;> decide) ⟨.str ⟨#[x.cps.toList[i]'hi]⟩,H,I1,⟨_,rfl⟩,⟨rfl,_,List.getElem?_eq_getElem hi,rfl⟩,st',fun b hb=>(hf b hb).1⟩⟩
    rcases hT with rfl | rfl
    · exact wpAny_pyNext_ascii_item st hx fun h' st' sb=>fin h' st' sb
    · exact wpAny_pyNext_wide_item st hx fun h' st' sb=>fin h' st' sb
  done:=by
    intro X hP hw hK hc i pins s σ H E I hf st hg
    subst hP hw hK
    obtain ⟨f0,f1,f2,f3,f4,f5⟩:=hf it (by simp)
    have hi:i=x.cps.toList.length:=hg
    have hx:x.cps[i]? =none:=by simp at hi;simp [hi]
    rcases hT with rfl | rfl
    · exact wpAny_pyNext_ascii_end (I.ok.hd hc) st hx fun h' eb=>⟨rfl,I.turned (t':=s.toks) (fun b o hb e=>eb b o hb e) f0 f1 f3 f4 f5⟩
    · exact wpAny_pyNext_wide_end (I.ok.hd hc) st hx fun h' eb=>⟨rfl,I.turned (t':=s.toks) (fun b o hb e=>eb b o hb e) f0 f1 f3 f4 f5⟩
  self:=fun _ _ _ _ _ st h=>by
    rcases hT with rfl | rfl
    · exact wpAny_pyIter_striter_ascii st h
    · exact wpAny_pyIter_striter_wide st h
def Da (tl:TE):TI:=fun σ H R=>tl σ H fun v H1=>∃x,v= .str x∧R (Cp x) H1
theorem Ac {X:Cx} {tg l:Expr} {tl:TE} (hl:PE X l tl):PI X tg l (Da tl):=by
  intro pins s σ H R I h
  refine cE (hl pins s σ H _ I h) fun v s1 ⟨y,H1,I1,r1,q1⟩=>?_
  obtain ⟨x,e,q⟩:=q1
  subst e
  obtain ⟨t,rfl⟩:=r1
  refine wpAny_pyIter_strU ?_
  refine ⟨s1.heap.objs.size,[s1.heap.objs.size],fun i h=>h.IsStrIter s1.heap.objs.size (strIterType x) x t i,_,H1,rfl,I1.kept (t':=s1.toks) fun b o e=>Heap.get?_push_of_some _ e,vB (t:=t) ?_,⟨_,Heap.get?_push_size _ rfl,rfl,rfl⟩,fun b hb=>?_,q⟩
  · unfold strIterType
    split
    · exact .inl rfl
    · exact .inr rfl
  · have e:b=s1.heap.objs.size:=by simpa using hb
    subst e
    exact I1.fpOk (Nat.le_refl _) (I1.hok.fresh (Nat.le_refl _))
theorem PI.or {X:Cx} {tg l:Expr} {a b:TI} (h1:PI X tg l a) (h2:PI X tg l b):PI X tg l (fun σ H R=>a σ H R∨b σ H R):=by
  intro pins s σ H R I h
  rcases h with h | h
  · exact h1 pins s σ H R I h
  · exact h2 pins s σ H R I h
end L2
namespace PL
open PySem L2 Nh
def jC:List PyData→List PyData→List PyData
  | a::as,b::bs=> .tuple [a,b]::jC as bs
  | _,_=>[]
def vC (f g:b_):lj:=fun E=>(f E).bind fun a=>(frz a.2 a.1).bind fun b=>(g b.2).bind fun c=>(frz c.2 c.1).bind fun d=>match b.1,d.1 with
  | .list xs, .list ys=>some (jC xs ys,d.2)
  | _,_=>none
def om (x:Str):List PyData:=x.cps.toList.map fun c=> .str ⟨#[c]⟩
def tF (f:b_):lj:=fun E=>(f E).bind fun a=>(frz a.2 a.1).bind fun b=>match b.1 with
  | .list ds=>some (ds,b.2)
  | .tuple ds=>some (ds,b.2)
  | .str x=>some (om x,b.2)
  | _=>none
section
variable {X:Cx} {K:PySem.W.Frag} {B:Hp}
theorem pF:∀{as bs:List PyData} {i:Nat} {d:PyData},(jC as bs)[i]? =some d→∃a b,as[i]? =some a∧bs[i]? =some b∧d= .tuple [a,b]
  | a::as,b::bs,0,d,e=>by simp [jC] at e;exact ⟨a,b,rfl,rfl,e.symm⟩
  | a::as,b::bs,i+1,d,e=>by
    obtain ⟨x,y,h1,h2,h3⟩:=pF (as:=as) (bs:=bs) (i:=i) (by simpa [jC] using e)
    exact ⟨x,y,by simpa using h1,by simpa using h2,h3⟩
  | [],_,_,_,e=>by simp [jC] at e
  | _::_,[],_,_,e=>by simp [jC] at e
theorem pG:∀(as bs:List PyData),(jC as bs).length=min as.length bs.length
  | a::as,b::bs=>by simp [jC,pG as bs]
  | [],_=>by simp [jC]
  | _::_,[]=>by simp [jC]
theorem vD {a b:Addr} {vs us:List V} {ds es:List PyData} (h:SqL K B a vs) (r:RpA K B vs ds) (h2:SqL K B b us) (r2:RpA K B us es):pA K B (C9 K a b vs us) (jC ds es):=fun {B' F A σ H E xs Xs} i sB fr=>by
  have hH:=fr.fh.seq (fr.bf.seq (sB.seq h))
  have hH2:=fr.fh.seq (fr.bf.seq (sB.seq h2))
  refine ⟨fun d ed=>?_,fun e=>⟨hH,hH2,by rw [e,pG,r.len,r2.len]⟩⟩
  obtain ⟨x,y,ex,ey,rfl⟩:=pF ed
  obtain ⟨v,ev,rv⟩:=r.get ex
  obtain ⟨u,eu,ru⟩:=r2.get ey
  refine ⟨⟨hH,hH2,(List.getElem?_eq_some_iff.mp ev).1,(List.getElem?_eq_some_iff.mp eu).1⟩,fun z H2 ⟨T,v',u',hT,e1,e2,e3,e4⟩=>?_⟩
  rw [ev] at e1;cases e1
  rw [eu] at e2;cases e2
  subst e3 e4
  have s1:=sB.trans fr.bf
  exact ⟨_,_,fr.newt (.cons (rv.same s1) (.cons (ru.same s1) .nil)) hT⟩
theorem vE {x:Str}:pA K B (Cp x) (om x):=fun {B' F A σ H E xs Xs} i sB fr=>by
  refine ⟨fun d ed=>?_,fun e=>by show i=x.cps.toList.length;rw [e];simp [om]⟩
  unfold om at ed
  rw [List.getElem?_map] at ed
  obtain ⟨c,ec,rfl⟩:=Option.map_eq_some_iff.mp ed
  refine ⟨(List.getElem?_eq_some_iff.mp ec).1,fun z H2 ⟨e1,c',e2,e3⟩=>?_⟩
  rw [ec] at e2;cases e2
  subst e1 e3
  exact ⟨F,A,fr.push ⟨rfl,_,rfl, .str _⟩⟩
theorem vF {a:Addr} {vs:List V} {ds:List PyData} (h:SqT K B a vs) (r:RpA K B vs ds):pA K B (CM K a) ds:=fun {B' F A σ H E xs Xs} i sB fr=>by
  have hH:=fr.fh.tup (fr.bf.tup (sB.tup h))
  refine ⟨fun d ed=>?_,fun e=>⟨vs,hH,by rw [e,r.len];exact Nat.le_refl _⟩⟩
  obtain ⟨v,ev,rv⟩:=r.get ed
  refine ⟨⟨vs,v,hH,ev⟩,fun x H2 ⟨e2,y⟩=>?_⟩
  subst e2
  have:=y vs hH
  rw [ev] at this
  cases this
  exact ⟨F,A,fr.push ⟨rfl,_,rfl,rv.same (sB.trans fr.bf)⟩⟩
theorem qD {tg e:Expr} {m:Bool} {f:b_} (he:EX X e m f):IX X tg e m (tF f):=oj (PI.or (rm he) (PI.or (zw he) (Ac he))) fun σ H R z=>by
  obtain ⟨B,E,xs,Xs,ds,E',fr,cl,e,q⟩:=z
  obtain ⟨⟨s,E1⟩,e1,e⟩:=Option.bind_eq_some_iff.mp e
  obtain ⟨⟨d,E2⟩,e2,e⟩:=Option.bind_eq_some_iff.mp e
  have key:∀(v:V) (H1:Hp),Frm X.K B σ H1 E1 (v::xs) (s::Xs)→∃F2 A2 A3,Rp X.K F2 v d∧Same B F2∧FrF X.K F2 F2 A3 σ H1 E2 xs Xs∧FrF X.K B F2 A2 σ H1 E2 (v::xs) (.sh d::Xs):=fun v H1 ⟨F,A,fr1⟩=>by
    obtain ⟨F2,A2,fr2⟩:=fr1.frz0 e2
    obtain ⟨v',A1,ev,rfl,w,ew,r⟩:=fr2.ext (k:=0) rfl
    cases ev;cases ew
    obtain ⟨A3,fr3⟩:=fr2.pop
    exact ⟨F2,A2,A3,r,fr2.bf,fr3.raise,fr2⟩
  simp only at e
  split at e
  · cases e
    refine .inl ⟨B,E,xs,Xs,s,E1,fr,cl,e1,fun v H1 fr1=>?_⟩
    obtain ⟨F2,A2,A3,r,sb,fr3,fr2⟩:=key v H1 fr1
    cases r with
    | lst h1 h2=>exact ⟨_,rfl,⟨_,fr2.fh.seq h1⟩,q F2 _ _ sb ⟨F2,A3,fr3⟩ (tz h1 h2)⟩
  · cases e
    refine .inr (.inl ⟨B,E,xs,Xs,s,E1,fr,cl,e1,fun v H1 fr1=>?_⟩)
    obtain ⟨F2,A2,A3,r,sb,fr3,fr2⟩:=key v H1 fr1
    cases r with
    | tup h1 h2=>exact ⟨_,rfl,⟨_,fr2.fh.tup h1⟩,q F2 _ _ sb ⟨F2,A3,fr3⟩ (vF h1 h2)⟩
  · cases e
    refine .inr (.inr ⟨B,E,xs,Xs,s,E1,fr,cl,e1,fun v H1 fr1=>?_⟩)
    obtain ⟨F2,A2,A3,r,sb,fr3,fr2⟩:=key v H1 fr1
    cases r
    exact ⟨_,rfl,q F2 _ _ sb ⟨F2,A3,fr3⟩ vE⟩
  · cases e
theorem Ad {pE:List Expr} {kt:Nat} {pt p pos:Pos} {e e2:Expr} {m m2:Bool} {f g:b_} (hg:Gl X "zip") (hm:X.mg "zip"=none) (he:EX X e m f) (he2:EX X e2 m2 g) (hs:starEach [e,e2] X.env=(false,eval e X.env)::starEach [e2] X.env:=by rfl) (hs2:starEach [e2] X.env=[(false,eval e2 X.env)]:=by rfl):IX X (.Tuple pE kt pt) (.Call (.Name "zip" p) [e,e2] [] pos) (m||m2) (vC f g):=oj (Ab hg hm (bG he (bG he2 dy hs2) hs) hs hs2) fun σ H R z=>by
  obtain ⟨B,E,xs,Xs,ds,E',fr,cl,e,q⟩:=z
  obtain ⟨⟨s,E1⟩,e1,e⟩:=Option.bind_eq_some_iff.mp e
  obtain ⟨⟨d,E2⟩,e2,e⟩:=Option.bind_eq_some_iff.mp e
  obtain ⟨⟨s3,E3⟩,e3,e⟩:=Option.bind_eq_some_iff.mp e
  obtain ⟨⟨d4,E4⟩,e4,e⟩:=Option.bind_eq_some_iff.mp e
  refine ⟨B,E,xs,Xs,s,E1,fr,fun z=>cl (by simp [z]),e1,fun v H1 ⟨F,A,fr1⟩=>?_⟩
  obtain ⟨F2,A2,fr2⟩:=fr1.frz0 e2
  refine ⟨B,E2,v::xs, .sh d::Xs,s3,E3,⟨F2,A2,fr2⟩,fun z=>Calm.cons (cl (by simp [z])) rfl,e3,fun v3 H3 ⟨F3,A3,fr3⟩=>?_⟩
  obtain ⟨F4,A4,fr4⟩:=fr3.frz0 e4
  simp only at e
  split at e
  · cases e
    obtain ⟨v',A1,ev,rfl,w,ew,r⟩:=fr4.ext (k:=0) rfl
    cases ev;cases ew
    obtain ⟨v',A1,ev,rfl,w,ew,r2⟩:=fr4.ext (k:=1) rfl
    cases ev;cases ew
    cases r with
    | lst h1 h2=>
      cases r2 with
      | lst h3 h4=>
        obtain ⟨A5,fr5⟩:=fr4.pop
        obtain ⟨A6,fr6⟩:=fr5.pop
        exact ⟨_,_,_,_,rfl,fr4.fh.seq h3,fr4.fh.seq h1,q F4 _ _ fr4.bf ⟨F4,A6,fr6.raise⟩ (vD h3 h4 h1 h2)⟩
  · cases e
end
def b6 (c:jq) (g:bU):Nat→bU
  | 0,_=>none
  | n+1,E=>(c E).bind fun a=>if a.1 then (g a.2).bind fun b=>(match b.2 with
      | .nx=>b6 c g n b.1
      | .ct=>b6 c g n b.1
      | .bk=>some (b.1, .nx)
      | .rt r=>some (b.1, .rt r)) else some (a.2, .nx)
open Classical in
def jd (c:jq) (g:bU):bU:=fun E=>if h:∃n r,b6 c g n E=some r then some h.choose_spec.choose else none
theorem gW (c:jq) (g:bU):∀{n:Nat} {E:List Sl} {r:List Sl×Fl},b6 c g n E=some r→b6 c g (n+1) E=some r
  | n+1,E,r,h=>by
    obtain ⟨a,e1,h⟩:=Option.bind_eq_some_iff.mp h
    rw [b6,e1,Option.bind_some]
    cases ha:a.1 with
    | false=>rw [ha] at h;exact h
    | true=>
      rw [ha] at h
      obtain ⟨b,e2,h⟩:=Option.bind_eq_some_iff.mp h
      rw [if_pos rfl,e2,Option.bind_some]
      cases hb:b.2 with
      | nx=>rw [hb] at h;exact gW c g h
      | ct=>rw [hb] at h;exact gW c g h
      | bk=>rw [hb] at h;exact h
      | rt r=>rw [hb] at h;exact h
theorem lI (c:jq) (g:bU) {n m:Nat} {E:List Sl} {r:List Sl×Fl} (h:b6 c g n E=some r) (hl:n≤m):b6 c g m E=some r:=by
  induction hl with
  | refl=>exact h
  | step _ ih=>exact gW c g ih
theorem nE {c:jq} {g:bU} {n:Nat} {E:List Sl} {r:List Sl×Fl} (h:b6 c g n E=some r):jd c g E=some r:=by
  have ex:∃n r,b6 c g n E=some r:=⟨n,r,h⟩
  unfold jd
  rw [dif_pos ex]
  have e:=ex.choose_spec.choose_spec
  have a:=lI c g e (Nat.le_max_left ex.choose n)
  have b:=lI c g h (Nat.le_max_right ex.choose n)
  rw [a] at b
  exact b
theorem pH {X:Cx} {c:Expr} {body:List Stmt} {m:Bool} {t:jq} {b:bU} {pos:Pos} (hp:PassesOwn (model X.prog X.w) X.A X.env X.xe) (hc:TX X c m t) (hb:qx X body b):SX X (.While c body [] pos) (jd t b):=iw (uJ hp hc hb) fun D σ H z=>by
  obtain ⟨B,E,xs,Xs,E',fl,fr,cl,e,q⟩:=z
  unfold jd at e
  split at e
  · rename_i ex
    have e0:=ex.choose_spec.choose_spec
    rw [Option.some.inj e] at e0
    refine ⟨fun n σ' H'=>∃E1,b6 t b n E1=some (E',fl)∧Frm X.K B σ' H' E1 xs Xs,⟨_,E,e0,fr⟩,?_⟩
    rintro n σ' H' ⟨E1,e1,fr1⟩
    cases n with
    | zero=>cases e1
    | succ n=>
      obtain ⟨⟨b1,E2⟩,e2,e1⟩:=Option.bind_eq_some_iff.mp e1
      refine ⟨B,E1,xs,Xs,b1,E2,fr1,fun _=>Calm.nil cl,e2,fun H2 fr2=>?_⟩
      cases b1 with
      | false=>
        cases e1
        exact (if_neg (by decide)).mpr (q _ _ fr2)
      | true=>
        refine (if_pos rfl).mpr ?_
        obtain ⟨⟨E3,f3⟩,e3,e1⟩:=Option.bind_eq_some_iff.mp e1
        refine ⟨fun σ4 H4=>∃E1,b6 t b n E1=some (E',fl)∧Frm X.K B σ4 H4 E1 xs Xs,fun σ4 H4 z=>⟨n,Nat.lt_succ_self _,z⟩,B,E2,xs,Xs,E3,f3,fr2,cl,e3,?_⟩
        cases f3 with
        | nx=>exact fun σ4 H4 fr4=>⟨E3,e1,fr4⟩
        | ct=>exact fun σ4 H4 fr4=>⟨E3,e1,fr4⟩
        | bk=>cases e1;exact fun σ4 H4 fr4=>q _ _ fr4
        | rt r=>cases e1;exact fun σ4 v H4 fr4=>q _ _ _ fr4
  · cases e
end PL
namespace PL
open PySem L2 Nh
inductive Cm where
  | lt | le | gt | ge
def Cm.op:Cm→CmpOp
  | .lt=> .Lt
  | .le=> .LtE
  | .gt=> .Gt
  | .ge=> .GtE
def Cm.i:Cm→Int→Int→Bool
  | .lt,i,j=>decide (i < j)
  | .le,i,j=>decide (i≤j)
  | .gt,i,j=>decide (j < i)
  | .ge,i,j=>decide (j≤i)
def Cm.s:Cm→List Nat→List Nat→Bool
  | .lt,i,j=>decide (i < j)
  | .le,i,j=> !decide (j < i)
  | .gt,i,j=>decide (j < i)
  | .ge,i,j=> !decide (i < j)
def aQ (c:Cm):PyData→PyData→Option PyData
  | .int i, .int j=>some (.bool (c.i i j))
  | .str x, .str y=>some (.bool (c.s x.cps.toList y.cps.toList))
  | _,_=>none
def Dy (c:Cm):R2:=fun x y H Q=>(∃i j,x= .int i∧y= .int j∧Q (.bl (c.i i j)) H)∨(∃i j,x= .str i∧y= .str j∧Q (.bl (c.s i.cps.toList j.cps.toList)) H)
section
variable {X:Cx} {a b c:Expr} {m1 m2 m3:Bool} {f g h:b_} {pos:Pos} {K:PySem.W.Frag}
theorem pI (c:Cm):OpR X (compareOp c.op) (Dy c):=by
  cases c with
  | lt=>exact OpR.or Bj sM
  | le=>exact OpR.or Bk (fun pins s σ H x y v u Q I rx ry h=>by
      obtain ⟨i,j,rfl,rfl,q⟩:=h
      obtain ⟨t,rfl⟩:=rx
      obtain ⟨t',rfl⟩:=ry
      exact PySem.P.le_str (a8 I q rfl))
  | gt=>exact OpR.or Bl (fun pins s σ H x y v u Q I rx ry h=>by
      obtain ⟨i,j,rfl,rfl,q⟩:=h
      obtain ⟨t,rfl⟩:=rx
      obtain ⟨t',rfl⟩:=ry
      exact PySem.P.gt_str (a8 I q rfl))
  | ge=>exact OpR.or Bm (fun pins s σ H x y v u Q I rx ry h=>by
      obtain ⟨i,j,rfl,rfl,q⟩:=h
      obtain ⟨t,rfl⟩:=rx
      obtain ⟨t',rfl⟩:=ry
      exact PySem.P.ge_str (a8 I q rfl))
theorem pJ (c:Cm):og K (Dy c) (aQ c):=fun d1 d2 d v1 v2 H Q e r1 r2=>by
  unfold aQ at e
  split at e
  · cases e;cases r1;cases r2
    exact ⟨_,rfl,fun q=> .inl ⟨_,_,rfl,rfl,q⟩⟩
  · cases e;cases r1;cases r2
    exact ⟨_,rfl,fun q=> .inr ⟨_,_,rfl,rfl,q⟩⟩
  · cases e
theorem tI (c:Cm) (b:Expr):behindInMarks c.op b=false:=by cases c <;> exact kY _
theorem gj (c:Cm) (ha:EX X a m1 f) (hb:EX X b m2 g):TX X (.Compare a [c.op] [b] pos) (m1||m2) (bD (ag (bR (aQ c)) m2 f g)):=n6 (pI c) (ja (pJ c)) ha hb (tI c b)
theorem BG (c1 c2:Cm) (ha:EX X a m1 f) (hb:EX X b m2 g) (hc:EX X c m3 h) (hm:lastMarks [c1.op,c2.op] [b,c]=false:=by with_unfolding_all rfl):EX X (.Compare a [c1.op,c2.op] [b,c] pos) (m1||(m2||m3)) (a9 (aQ c1) (aQ c2) m2 m3 f g h):=vm (pI c1) (pI c2) (pJ c1) (pJ c2) ha hb hc hm
theorem rX (c1 c2:Cm) (ha:EX X a m1 f) (hb:EX X b m2 g) (hc:EX X c m3 h) (hm:lastMarks [c1.op,c2.op] [b,c]=false:=by with_unfolding_all rfl):TX X (.Compare a [c1.op,c2.op] [b,c] pos) (m1||(m2||m3)) (bD (a9 (aQ c1) (aQ c2) m2 m3 f g h)):=vo (pI c1) (pI c2) (pJ c1) (pJ c2) ha hb hc hm
def isInt:PyData→Option Int
  | .int x=>some x
  | _=>none
def j6:List PyData→Option (List Str)
  | []=>some []
  | .str x::ds=>(j6 ds).map fun xs=>x::xs
  | _::_=>none
def oo:List PyData→Option (List Int)
  | []=>some []
  | .int x::ds=>(oo ds).map fun xs=>x::xs
  | _::_=>none
theorem gK:∀{ds:List PyData} {xs:List Str},j6 ds=some xs→ds=xs.map .str
  | [],xs,h=>by cases h;rfl
  | d::ds,xs,h=>by
    cases d with
    | str x=>
      obtain ⟨ys,e,rfl⟩:=Option.map_eq_some_iff.mp h
      rw [gK e];rfl
    | _=>cases h
theorem j7:∀{ds:List PyData} {xs:List Int},oo ds=some xs→ds=xs.map .int
  | [],xs,h=>by cases h;rfl
  | d::ds,xs,h=>by
    cases d with
    | int x=>
      obtain ⟨ys,e,rfl⟩:=Option.map_eq_some_iff.mp h
      rw [j7 e];rfl
    | _=>cases h
theorem iC {H:Hp}:∀{vs:List V} {xs:List Str},RpA K H vs (xs.map .str)→vs=xs.map .str
  | [],[],_=>rfl
  | v::vs,x::xs, .cons h r=>by cases h;rw [iC r];rfl
theorem lJ {H:Hp}:∀{vs:List V} {xs:List Int},RpA K H vs (xs.map .int)→vs=xs.map .int
  | [],[],_=>rfl
  | v::vs,x::xs, .cons h r=>by cases h;rw [lJ r];rfl
def BH:PyData→PyData→Option Bool
  | .str x, .str y=>some (!(Builtin.Str.occurrences y x 0 y.length 1).isEmpty)
  | .str x, .list ds=>(j6 ds).map fun xs=>xs.contains x
  | .str x, .tuple ds=>(j6 ds).map fun xs=>xs.contains x
  | .int x, .list ds=>(oo ds).map fun xs=>xs.contains x
  | .int x, .tuple ds=>(oo ds).map fun xs=>xs.contains x
  | _,_=>none
def BI (K:PySem.W.Frag) (neg:Bool):R2:=fun x y H Q=>(∃i j,x= .str i∧y= .str j∧Q (.bl (if neg then !(!(Builtin.Str.occurrences j i 0 j.length 1).isEmpty) else !(Builtin.Str.occurrences j i 0 j.length 1).isEmpty)) H)∨CW K neg x y H Q
theorem pK (x:Str) (xs:List Str):yI (.str x) (xs.map .str)=xs.contains x:=by
  induction xs with
  | nil=>rfl
  | cons y xs ih=>
    rw [List.contains_cons,←ih]
    show (u3 (.str y) (.str x)||yI (.str x) (xs.map .str))=_
    congr 1
    show (y == x)=(x == y)
    exact BEq.comm
theorem pL (x:Int) (xs:List Int):yI (.int x) (xs.map .int)=xs.contains x:=by
  induction xs with
  | nil=>rfl
  | cons y xs ih=>
    rw [List.contains_cons,←ih]
    show (u3 (.int y) (.int x)||yI (.int x) (xs.map .int))=_
    congr 1
    show (y == x)=(x == y)
    exact BEq.comm
theorem Ae (neg:Bool):og K (BI K neg) (fun d1 d2=>(BH d1 d2).map fun b=> .bool (if neg then !b else b)):=fun d1 d2 d v1 v2 H Q e r1 r2=>by
  obtain ⟨b,e',rfl⟩:=Option.map_eq_some_iff.mp e
  clear e
  have e:=e'
  clear e'
  refine ⟨_,rfl,fun q=>?_⟩
  have hs:∀xs:List Str,(xs.map V.str).all gH=true:=fun xs=>by simp [List.all_eq_true,gH]
  have hi:∀xs:List Int,(xs.map V.int).all gH=true:=fun xs=>by simp [List.all_eq_true,gH]
  unfold BH at e
  split at e
  · cases e;cases r1;cases r2
    exact .inl ⟨_,_,rfl,rfl,q⟩
  · obtain ⟨xs,ex,rfl⟩:=Option.map_eq_some_iff.mp e
    cases r1
    cases r2 with
    | lst h1 h2=>
      rw [gK ex] at h2
      rw [iC h2] at h1
      exact .inr ⟨_,_,rfl, .inl h1,rfl,hs _,by rw [pK];exact q⟩
  · obtain ⟨xs,ex,rfl⟩:=Option.map_eq_some_iff.mp e
    cases r1
    cases r2 with
    | tup h1 h2=>
      rw [gK ex] at h2
      rw [iC h2] at h1
      exact .inr ⟨_,_,rfl, .inr h1,rfl,hs _,by rw [pK];exact q⟩
  · obtain ⟨xs,ex,rfl⟩:=Option.map_eq_some_iff.mp e
    cases r1
    cases r2 with
    | lst h1 h2=>
      rw [j7 ex] at h2
      rw [lJ h2] at h1
      exact .inr ⟨_,_,rfl, .inl h1,rfl,hi _,by rw [pL];exact q⟩
  · obtain ⟨xs,ex,rfl⟩:=Option.map_eq_some_iff.mp e
    cases r1
    cases r2 with
    | tup h1 h2=>
      rw [j7 ex] at h2
      rw [lJ h2] at h1
      exact .inr ⟨_,_,rfl, .inr h1,rfl,hi _,by rw [pL];exact q⟩
  · cases e
def Cq (neg:Bool):P2:=bR fun d1 d2=>(BH d1 d2).map fun b=> .bool (if neg then !b else b)
theorem tJ:OpR X (compareOp .NotIn) (BI X.K true):=OpR.or nT jt
theorem Af (ha:EX X a m1 f) (hb:EX X b m2 g) (hm:behindInMarks .NotIn b=false:=by with_unfolding_all rfl):TX X (.Compare a [.NotIn] [b] pos) (m1||m2) (bD (ag (Cq true) m2 f g)):=n6 tJ (ja (Ae true)) ha hb hm
end
def oq:List PyData→Option PyData
  | [.int i]=>some (.int i)
  | [.bool b]=>some (.int (if b then 1 else 0))
  | _=>none
def yQ (x:Str):PyData→Option PyData
  | .list ds=>(j6 ds).bind fun ys=>if (ys.map (·.length)).sum+ys.length*x.length≤1000000 then some (.str (Txt.join x ys)) else none
  | .tuple ds=>(j6 ds).bind fun ys=>if (ys.map (·.length)).sum+ys.length*x.length≤1000000 then some (.str (Txt.join x ys)) else none
  | _=>none
theorem nG {ys:List Str}:∀{us:List Value},Vals (ys.map V.str) us→PyProof.Rows.StrsAre us ys:=by
  induction ys with
  | nil=>intro us h;cases h;exact .nil
  | cons y ys ih=>
    intro us h
    cases h with
    | cons h r=>
      obtain ⟨t,rfl⟩:=h
      exact .cons y t (ih r)
def BJ (K:PySem.W.Frag):V→List V→Hp→VK→Prop:=fun x vs H Q=>∃z p ys,x= .str z∧vs=[.ref p]∧(SqL K H p (ys.map .str)∨SqT K H p (ys.map .str))∧(ys.map (·.length)).sum+ys.length*z.length≤16777216∧Q (.str (Txt.join z ys)) H
theorem xG {X:Cx}:MtR X "str.join" (BJ X.K):=by
  intro pins s σ H x vs v us Q I rx rv h
  obtain ⟨z,p,ys,rfl,rfl,hq,hl,q⟩:=h
  obtain ⟨t,rfl⟩:=rx
  obtain ⟨u,rfl,ru⟩:=rv.one
  cases ru
  rcases hq with hq | hq
  · obtain ⟨its,r,pl,_⟩:=I.list hq
    exact PyProof.Rows.join_list pl.isList (by simpa using nG r) hl fun t' k=>⟨.str _,H,I.tok _,⟨_,rfl⟩,q⟩
  · obtain ⟨its,r,pl,_⟩:=I.tuple hq
    exact PyProof.Rows.join_tuple pl (by simpa using nG r) hl fun t' k=>⟨.str _,H,I.tok _,⟨_,rfl⟩,q⟩
section
variable {X:Cx} {e o:Expr} {m1 m2:Bool} {g:me} {f h:b_} {p pos apos cpos:Pos} {K:PySem.W.Frag}
theorem rY (hg:Gl X "int") (hm:X.mg "int"=none) (ha:AX X [e] m1 g) (he:starEach [e] X.env=[(false,eval e X.env)]:=by rfl):EX X (.Call (.Name "int" p) [e] [] pos) m1 (aW oq g):=
  bi (gG sO hg hm PyProof.Rows.boot_int ha (by decide) (by decide) he rfl) fun _ _ _ z=>oi (fun ds d vs H Q e r=>by
    unfold oq at e
    split at e
    · cases e
      obtain ⟨v,rfl,r'⟩:=r.one
      cases r'
      exact ⟨_,rfl,fun q=> .inl ⟨_,rfl,q⟩⟩
    · cases e
      obtain ⟨v,rfl,r'⟩:=r.one
      cases r'
      exact ⟨_,rfl,fun q=> .inr ⟨_,rfl,q⟩⟩
    · cases e) z
def yR (x:Str) (f:b_):b_:=dB (yQ x) f
theorem xH {x:Str} {j:Nat} {sp:Pos} (he:EX X e m1 f) (hs:starEach [e] X.env=[(false,eval e X.env)]:=by rfl) (hbase:attributeBase (.Constant (.str x) j sp) "join" X.env (eval (.Constant (.str x) j sp) X.env)=eval (.Constant (.str x) j sp) X.env:=by rfl)
    (hfew:((backTo cpos (starEach [e] X.env)).all (fun x=> !x.1)&&(backToKw cpos (keywordEach [] X.env)).all (fun x=>x.1.isSome)
      &&decide (([e]:List Expr).length+([]:List Keyword).length+(if ([]:List Keyword).isEmpty then 0 else 1) < 30))=true:=by rfl) (hline:(apos.endLine == cpos.line)=true:=by rfl):
    EX X (.Call (.Attribute (.Constant (.str x) j sp) "join" apos) [e] [] cpos) m1 (yR x f):=by
  refine bi (rD PySem.F.plainAttrs_str PySem.F.slot_str_join PySem.F.type_str_join xG (qh) (bG he dy hs) hbase hfew hline hs rfl) fun σ H Q z=>?_
  obtain ⟨B,E,xs,Xs,res,E',fr,c,e,q⟩:=z
  obtain ⟨⟨s1,E1⟩,e1,e⟩:=Option.bind_eq_some_iff.mp e
  obtain ⟨d1,e2,e⟩:=Option.bind_eq_some_iff.mp e
  obtain ⟨d,e3,e⟩:=Option.map_eq_some_iff.mp e
  cases e
  refine ⟨rfl,B,E,xs,Xs,s1,E1,fr,c,e1,fun v1 H1 ⟨F,A,fr1⟩=>?_⟩
  have r:=(fr1.look0 e2).1
  obtain ⟨A',fr2⟩:=fr1.pop
  unfold yQ at e3
  split at e3
  · obtain ⟨ys,ey,e3⟩:=Option.bind_eq_some_iff.mp e3
    split at e3
    · rename_i hl
      cases e3
      cases r with
      | lst h1 h2=>
        rw [gK ey] at h2
        rw [iC h2] at h1
        exact ⟨x,_,ys,rfl,rfl, .inl h1,by omega,q _ _ ⟨F,A',fr2.push ⟨rfl,_,rfl, .str _⟩⟩⟩
    · cases e3
  · obtain ⟨ys,ey,e3⟩:=Option.bind_eq_some_iff.mp e3
    split at e3
    · rename_i hl
      cases e3
      cases r with
      | tup h1 h2=>
        rw [gK ey] at h2
        rw [iC h2] at h1
        exact ⟨x,_,ys,rfl,rfl, .inr h1,by omega,q _ _ ⟨F,A',fr2.push ⟨rfl,_,rfl, .str _⟩⟩⟩
    · cases e3
  · cases e3
end
theorem gL {X:Cx} {st:Stmt}:SX X st (fun _=>none):=iw uF fun D σ H z=>by
  obtain ⟨B,E,xs,Xs,E',fl,fr,cl,e,q⟩:=z
  cases e
def j8:bU:=fun _=>none
end PL
namespace PL
open PySem L2 Nh
theorem Ag {X:Cx}:SlR X (fun x lo hi H Q=>∃z,x= .str z∧z.length≤sizeLine∧Q (.str (Txt.slice z lo hi)) H):=by
  intro pins s σ H x v vl vu lo hi sl Q I rx hs pl pu h
  obtain ⟨z,rfl,hz,q⟩:=h
  obtain ⟨t,rfl⟩:=rx
  cases pl with
  | none=>
    cases pu with
    | none=>exact ⟨"str",_,PySem.F.slot_str_getitem.lookup,typeIs_str _ _ _,wpAny_getItem_str_slice (l:=none) (u:=none) (st:=none) hs rfl (post_val_or_str ⟨Nat.le_trans (Txt.slice_le z _ _) hz,fun t' k=>⟨.str _,H,I.tok _,⟨_,rfl⟩,q⟩⟩)⟩
    | int j uj=>exact ⟨"str",_,PySem.F.slot_str_getitem.lookup,typeIs_str _ _ _,wpAny_getItem_str_slice (l:=none) (u:=some (j,uj)) (st:=none) hs rfl (post_val_or_str ⟨Nat.le_trans (Txt.slice_le z _ _) hz,fun t' k=>⟨.str _,H,I.tok _,⟨_,rfl⟩,q⟩⟩)⟩
  | int i ui=>
    cases pu with
    | none=>exact ⟨"str",_,PySem.F.slot_str_getitem.lookup,typeIs_str _ _ _,wpAny_getItem_str_slice (l:=some (i,ui)) (u:=none) (st:=none) hs rfl (post_val_or_str ⟨Nat.le_trans (Txt.slice_le z _ _) hz,fun t' k=>⟨.str _,H,I.tok _,⟨_,rfl⟩,q⟩⟩)⟩
    | int j uj=>exact ⟨"str",_,PySem.F.slot_str_getitem.lookup,typeIs_str _ _ _,wpAny_getItem_str_slice (l:=some (i,ui)) (u:=some (j,uj)) (st:=none) hs rfl (post_val_or_str ⟨Nat.le_trans (Txt.slice_le z _ _) hz,fun t' k=>⟨.str _,H,I.tok _,⟨_,rfl⟩,q⟩⟩)⟩
def mv (m2:Bool) (f:b_) (lo hi:zW):b_:=fun E=>(f E).bind fun a=>if m2&&a.1.isBr then none else (lo a.2).bind fun b=>(hi b.2).bind fun c=>match look c.2 a.1 with
  | some (.list ds)=>if !hot c.2 a.1||a_ (sZ ds b.1 c.1) then some (.ow (sZ ds b.1 c.1),c.2) else none
  | some (.str z)=>if z.length≤1000000 then some (.sh (.str (Txt.slice z b.1 c.1)),c.2) else none
  | _=>none
theorem qE {X:Cx} {e:Expr} {lo hi:Option Expr} {m1 m2 m3:Bool} {f:b_} {g h:zW} {pos p2:Pos} (he:EX X e m1 f) (hl:OX X lo m2 g) (hh:OX X hi m3 h):EX X (.Subscript e (.Slice lo hi none p2) pos) (m1||(m2||m3)) (mv (m2||m3) f g h):=by
  refine bi (uY (SlR.or xi Ag) he hl hh) fun σ H Q z=>?_
  obtain ⟨B,E,xs,Xs,res,E',fr,cl,e,q⟩:=z
  obtain ⟨⟨s,E1⟩,e1,e⟩:=Option.bind_eq_some_iff.mp e
  by_cases hb:((m2||m3)&&s.isBr)=true
  · rw [if_pos hb] at e;cases e
  rw [if_neg hb] at e
  have n1:(m2||m3)=true→s.isBr=false:=fun z=>by
    cases hs:s.isBr with
    | false=>rfl
    | true=>exact absurd (by rw [z,hs];rfl) hb
  obtain ⟨⟨l,E2⟩,e2,e⟩:=Option.bind_eq_some_iff.mp e
  obtain ⟨⟨u,E3⟩,e3,e⟩:=Option.bind_eq_some_iff.mp e
  refine ⟨B,E,xs,Xs,s,E1,fr,fun z=>cl (by simp [z]),e1,fun v1 H1 fr1=>?_⟩
  refine ⟨B,E1,v1::xs,s::Xs,l,E2,fr1,fun z=>Calm.cons (cl (by simp [z])) (n1 (by simp [z])),e2,fun H2 fr2=>?_⟩
  refine ⟨B,E2,v1::xs,s::Xs,u,E3,fr2,fun z=>Calm.cons (cl (by simp [z])) (n1 (by simp [z])),e3,fun H3 ⟨F,A,fr3⟩=>?_⟩
  simp only at e
  split at e
  · rename_i ds ld
    split at e
    · rename_i hc
      cases e
      obtain ⟨v,ev,r,f0⟩:=fr3.look (k:=0) rfl ld
      cases ev
      obtain ⟨A',fr4⟩:=fr3.pop
      cases hh:hot E' s with
      | false=>
        obtain ⟨a,vs,rfl,h1,h2⟩:=f0 hh
        exact .inl ⟨a,vs,rfl,h1,fun p hp=>q _ _ ⟨F,_,fr4.newl (h2.cut l u) hp⟩⟩
      | true=>
        rw [hh] at hc
        cases r with
        | lst h1 h2=>exact .inl ⟨_,_,rfl,h1,fun p hp=>q _ _ ⟨F,_,fr4.newl (fr3.coldA (h2.cut l u) (by simpa using hc)) hp⟩⟩
    · cases e
  · rename_i z ld
    split at e
    · rename_i hc
      cases e
      have r:=(fr3.look0 ld).1
      cases r
      obtain ⟨A',fr4⟩:=fr3.pop
      exact .inr ⟨_,rfl,f8 hc,q _ _ ⟨F,A',fr4.push ⟨rfl,_,rfl, .str _⟩⟩⟩
    · cases e
  · cases e
def kO (i:Nat) (f:b_):b_:=fun E=>match E[i]? with
  | some (.ow _)=>(f E).bind fun a=>match a.1,a.2[i]? with
    | .ow es,some (.ow ds)=>if ds.length+es.length≤1000000 then some (.sh .none,a.2.set i (.ow (ds++es))) else none
    | _,_=>none
  | _=>none
section
variable {X:Cx} {e:Expr} {m1:Bool} {f:b_} {x:Str} {p apos cpos:Pos}
theorem tK (i:Nat) (he:EX X e m1 f) (hN:X.N[i]? =some x:=by rfl) (hv:yB X.env.scope x:=by first | exact Or.inl rfl | exact Or.inr (Or.inl rfl) | exact Or.inr (Or.inr rfl)) (hd:(x == ("__debug__":Str))=false:=by decide) (hcd:(x == ("__classdict__":Str))=false:=by decide)
    (hs:starEach [e] X.env=[(false,eval e X.env)]:=by rfl) (hbase:attributeBase (.Name x p) "extend" X.env (eval (.Name x p) X.env)=eval (.Name x p) X.env:=by rfl)
    (hfew:((backTo cpos (starEach [e] X.env)).all (fun x=> !x.1)&&(backToKw cpos (keywordEach [] X.env)).all (fun x=>x.1.isSome)
      &&decide (([e]:List Expr).length+([]:List Keyword).length+(if ([]:List Keyword).isEmpty then 0 else 1) < 30))=true:=by rfl) (hline:(apos.endLine == cpos.line)=true:=by rfl):
    EX X (.Call (.Attribute (.Name x p) "extend" apos) [e] [] cpos) true (kO i f):=by
  refine bi (rD PySem.F.plainAttrs_list PySem.F.slot_list_extend PySem.F.type_list_extend sT (jT hN hv hd hcd) (bG he dy hs) hbase hfew hline hs rfl) fun σ H Q z=>?_
  obtain ⟨B,E,xs,Xs,res,E',⟨F,A,fr⟩,cl,e,q⟩:=z
  unfold kO at e
  split at e
  · rename_i ds0 ei
    obtain ⟨⟨s,E1⟩,e1,e⟩:=Option.bind_eq_some_iff.mp e
    simp only at e
    split at e
    · rename_i s1 es ds ei2
      split at e
      · rename_i hc
        cases e
        obtain ⟨o,A1,eo,l,vs,rfl,rfl,hl0,_⟩:=fr.var ei
        refine ⟨_,eo, .inl ⟨rfl,_,SqL.of hl0⟩,B,E,xs,Xs,_,E1,⟨F,A,fr⟩,fun _=>cl rfl,e1,fun v H1 ⟨F1,A1,fr1⟩=>?_⟩
        obtain ⟨v',A3,ev,l2,us,el,rfl,hl2,ru⟩:=fr1.ext (k:=0) rfl
        cases ev;cases el
        obtain ⟨A4,fr3⟩:=fr1.pop
        obtain ⟨l',vs',eo',hl',r',put⟩:=fr3.mut ei2 (cl rfl)
        rw [eo] at eo'
        cases eo'
        have n1:=r'.len
        have n2:=ru.len
        have fr4:=put (vs'++us) (ds++es) (r'.append ru)
        exact ⟨l,l2,vs',us,rfl,rfl,hl',hl2,f8 (by omega),q _ _ ⟨_,_,fr4.push ⟨rfl,_,rfl, .non⟩⟩⟩
      · cases e
    · cases e
  · cases e
end
def Ah (K:PySem.W.Frag) (c:List PyData→List PyData→Option (Sl×List PyData)):Sp:=fun vs H Q _=>∃l us ds0 bK ds r ds',vs= .ref l::bK∧H l=some (.lst us)∧RpA K (tups H) us ds0∧RpA K H bK ds∧c ds0 ds=some (r,ds')∧
  ∀v H' us',SameBut l H H'→H' l=some (.lst us')→RpA K (tups H') us' ds'→ko K H H' v r→Q v H'
def fB (i:Nat) (c:List PyData→List PyData→Option (Sl×List PyData)) (g:me):b_:=fun E=>match E[i]? with
  | some (.ow _)=>(g E).bind fun a=>match a.2[i]? with
    | some (.ow ds0)=>if a_ ds0 then (ax a.2 a.1).bind fun ds=>(c ds0 ds).map fun r=>(r.1,a.2.set i (.ow r.2)) else none
    | _=>none
  | _=>none
section
variable {K:PySem.W.Frag} {B F:Hp} {A:List Addr} {σ:jw} {H H':Hp} {E:List Sl} {xs:List V} {Xs:List Sl}
theorem FrF.mutGrow {i:Nat} {ds ds':List PyData} {l:Addr} {us us':List V} (h:FrF K B F A σ H E xs Xs) (e:E[i]? =some (.ow ds)) (c:Calm Xs) (el:σ[i]? =some (some (.ref l))) (hl:H l=some (.lst us)) (sb:SameBut l H H') (hl':H' l=some (.lst us')) (r:RpA K (tups H') us' ds'):
    ∃F',FrF K B F' A σ H' (E.set i (.ow ds')) xs Xs:=by
  have g:Same H (upd H' l (.lst us)):=fun b o q=>by
    by_cases eb:b=l
    · subst eb;rw [upd_same,←hl];exact q
    · rw [av eb];exact sb b o eb q
  have h1:=h.grow g
  obtain ⟨l1,us1,el1,hl1,r1,put⟩:=h1.mut e c
  rw [el] at el1
  cases el1
  have r2:RpA K _ us' ds':=RpA.same h1.tf (by rw [lh hl'];exact r)
  have h2:=put us' ds' r2
  have eH:upd (upd H' l (.lst us)) l (.lst us')=H':=by
    rw [nO]
    funext b
    by_cases eb:b=l
    · subst eb;rw [upd_same,hl']
    · rw [av eb]
  rw [eH] at h2
  exact ⟨_,h2⟩
end
theorem FrF.toldIO {K:PySem.W.Frag} {B F:Hp} {A:List Addr} {σ:jw} {H H':Hp} {E:List Sl} {xs:List V} {Xs:List Sl} {v:V} {d:PyData} (h:FrF K B F A σ H' E xs Xs) (q:ko K H H' v (.sh d)):Frm K B σ H' E (v::xs) (.sh d::Xs):=⟨F,A,h.push ⟨rfl,v,rfl,Rp.same h.tf q⟩⟩
theorem vG {X:Cx} (i:Nat) {k:Nat} {x y:Str} {ps:List Str} {c:List PyData→List PyData→Option (Sl×List PyData)} {p p2 pos:Pos} {es:List Expr} {m:Bool} {g:me} (D:Own X.prog X.w X.K X.mg X.base k x ps (Ah X.K c)) (hc:∀ds0 ds r,c ds0 ds=some r→∃d,r.1= .sh d) (hr:Room k X.A) (hg:Gl X x) (ha:AX X es m g)
    (hN:X.N[i]? =some y:=by rfl) (hv:yB X.env.scope y:=by first | exact Or.inl rfl | exact Or.inr (Or.inl rfl) | exact Or.inr (Or.inr rfl)) (hd:(y == ("__debug__":Str))=false:=by decide) (hcd:(y == ("__classdict__":Str))=false:=by decide)
    (hdb:(x == ("__debug__":Str))=false:=by decide) (he:starEach (.Name y p2::es) X.env=(false,eval (.Name y p2) X.env)::starEach es X.env:=by rfl) (hpl:(backTo pos (starEach es X.env)).any (·.1)=false:=by rfl):
    EX X (.Call (.Name x p) (.Name y p2::es) [] pos) true (fB i c g):=by
  refine bi (va D hr hg (bG (jT hN hv hd hcd) ha he) hdb he hpl) fun σ H Q z=>?_
  obtain ⟨B,E,xs,Xs,res,E',⟨F,A,fr⟩,cl,e,q⟩:=z
  unfold fB at e
  split at e
  · rename_i ds0 ei
    obtain ⟨⟨rs,E1⟩,e1,e⟩:=Option.bind_eq_some_iff.mp e
    simp only at e
    split at e
    · rename_i ds1 ei1
      split at e
      · rename_i hf
        obtain ⟨ds,e2,e⟩:=Option.bind_eq_some_iff.mp e
        obtain ⟨⟨r,ds'⟩,e3,e⟩:=Option.map_eq_some_iff.mp e
        obtain ⟨d,ed⟩:=hc _ _ _ e3
        simp only at ed
        subst ed
        cases e
        obtain ⟨o,A1,eo,l,vs,rfl,rfl,hl0,_⟩:=fr.var ei
        refine ⟨_,eo,B,E,xs,Xs,rs,E1,⟨F,A,fr⟩,fun _=>cl rfl,e1,fun us H1 hl ⟨F1,A1,fr1⟩=>?_⟩
        obtain ⟨r1,A',fr2⟩:=fr1.looks hl e2
        obtain ⟨l',vs',eo',hl',r',_⟩:=fr2.mut ei1 (cl rfl)
        rw [eo] at eo'
        cases eo'
        refine ⟨l,vs',ds1,us,ds, .sh d,ds',by rw [List.append_nil],hl',(r'.same fr2.fh).cold hf,r1,e3,fun v H' us' sb h1 h2 h3=>?_⟩
        obtain ⟨F',fr3⟩:=fr2.mutGrow ei1 (cl rfl) eo hl' sb h1 h2
        exact q _ _ (fr3.toldIO h3)
      · cases e
    · cases e
  · cases e
structure Bn (mg:Str→Option Value):Prop where
  len:mg "len"=none
  range:mg "range"=none
  abs:mg "abs"=none
  min:mg "min"=none
  max:mg "max"=none
  reversed:mg "reversed"=none
  enumerate:mg "enumerate"=none
  isinstance:mg "isinstance"=none
  list:mg "list"=none
  tuple:mg "tuple"=none
  str:mg "str"=none
  int:mg "int"=none
  bool:mg "bool"=none
  sorted:mg "sorted"=none
  zip:mg "zip"=none
  sum:mg "sum"=none
  any:mg "any"=none
  all:mg "all"=none
  set:mg "set"=none
  dict:mg "dict"=none
theorem BK {K:PySem.W.Frag} {h:Heap} {mg:Str→Option Value} (X:K.In h) (G:h.Ns mainGlobals mg)
    (z1:PySem.W.nsIn K mainGlobals "len"=some none) (z2:PySem.W.nsIn K mainGlobals "range"=some none) (z3:PySem.W.nsIn K mainGlobals "abs"=some none) (z4:PySem.W.nsIn K mainGlobals "min"=some none) (z5:PySem.W.nsIn K mainGlobals "max"=some none) (z6:PySem.W.nsIn K mainGlobals "reversed"=some none) (z7:PySem.W.nsIn K mainGlobals "enumerate"=some none) (z8:PySem.W.nsIn K mainGlobals "isinstance"=some none) (z9:PySem.W.nsIn K mainGlobals "list"=some none) (z10:PySem.W.nsIn K mainGlobals "tuple"=some none) (z11:PySem.W.nsIn K mainGlobals "str"=some none) (z12:PySem.W.nsIn K mainGlobals "int"=some none) (z13:PySem.W.nsIn K mainGlobals "bool"=some none) (z14:PySem.W.nsIn K mainGlobals "sorted"=some none) (z15:PySem.W.nsIn K mainGlobals "zip"=some none) (z16:PySem.W.nsIn K mainGlobals "sum"=some none) (z17:PySem.W.nsIn K mainGlobals "any"=some none) (z18:PySem.W.nsIn K mainGlobals "all"=some none) (z19:PySem.W.nsIn K mainGlobals "set"=some none) (z20:PySem.W.nsIn K mainGlobals "dict"=some none):Bn mg:=
  ⟨PySem.W.mg_none_of X G z1,PySem.W.mg_none_of X G z2,PySem.W.mg_none_of X G z3,PySem.W.mg_none_of X G z4,PySem.W.mg_none_of X G z5,PySem.W.mg_none_of X G z6,PySem.W.mg_none_of X G z7,PySem.W.mg_none_of X G z8,PySem.W.mg_none_of X G z9,PySem.W.mg_none_of X G z10,PySem.W.mg_none_of X G z11,PySem.W.mg_none_of X G z12,PySem.W.mg_none_of X G z13,PySem.W.mg_none_of X G z14,PySem.W.mg_none_of X G z15,PySem.W.mg_none_of X G z16,PySem.W.mg_none_of X G z17,PySem.W.mg_none_of X G z18,PySem.W.mg_none_of X G z19,PySem.W.mg_none_of X G z20⟩
end PL
namespace PL
open PySem L2 Nh
abbrev D6:=List Sl→Option (List Sl×Bool)
end PL
namespace PL
open PySem L2 Nh
def qF:Pt→Sl
  | .fl d=> .sh d
  | .ol ds=> .ow ds
section
variable {K:PySem.W.Frag} {F H:Hp}
theorem PtsOk.append:∀{us:List V} {ts:List Pt} {A:List Addr} {us':List V} {ts':List Pt} {A':List Addr},PtsOk K F H us ts A→PtsOk K F H us' ts' A'→PtsOk K F H (us++us') (ts++ts') (A++A')
  | [],[],A,_,_,_,h,h'=>by rw [show A=[] from h];exact h'
  | v::vs, .fl d::ps,A,_,_,_,h,h'=>⟨h.1,PtsOk.append h.2 h'⟩
  | v::vs, .ol ds::ps,A,_,_,_,h,h'=>by
    obtain ⟨l,us,A1,rfl,rfl,hl,hr,q⟩:=h
    exact ⟨l,us,_,rfl,rfl,hl,hr,q.append h'⟩
  | [],_::_,_,_,_,_,h,_=>False.elim h
  | _::_,[],_,_,_,_,h,_=>False.elim h
theorem PtsOk.rev:∀{us:List V} {ts:List Pt} {A:List Addr},PtsOk K F H us ts A→PtsOk K F H us.reverse ts.reverse A.reverse
  | [],[],A,h=>by rw [show A=[] from h];exact rfl
  | v::vs, .fl d::ps,A,h=>by
    rw [List.reverse_cons,List.reverse_cons,←List.append_nil A.reverse]
    exact (PtsOk.rev h.2).append (us':=[v]) (ts':=[.fl d]) (A':=[]) ⟨h.1,rfl⟩
  | v::vs, .ol ds::ps,A,h=>by
    obtain ⟨l,us,A1,rfl,rfl,hl,hr,q⟩:=h
    rw [List.reverse_cons,List.reverse_cons,List.reverse_cons]
    exact q.rev.append (us':=[.ref l]) (ts':=[.ol ds]) (A':=[l]) ⟨l,us,[],rfl,rfl,hl,hr,rfl⟩
  | [],_::_,_,h=>False.elim h
  | _::_,[],_,h=>False.elim h
theorem PtsOk.len:∀{us:List V} {ts:List Pt} {A:List Addr},PtsOk K F H us ts A→us.length=ts.length
  | [],[],A,_=>rfl
  | v::vs, .fl d::ps,A,h=>congrArg (· +1) h.2.len
  | v::vs, .ol ds::ps,A,h=>by
    obtain ⟨l,us,A1,rfl,rfl,hl,hr,q⟩:=h
    exact congrArg (· +1) q.len
  | [],_::_,_,h=>False.elim h
  | _::_,[],_,h=>False.elim h
end
section
variable {K:PySem.W.Frag} {B F:Hp} {A:List Addr} {σ:jw} {H:Hp} {E:List Sl} {xs:List V} {Xs:List Sl}
theorem vH:∀{us:List V} {ts:List Pt} {os:List (Option V)} {ss:List Sl} {A:List Addr},us.length=ts.length→SAll (SlOk K F H σ) (us.map some++os) (ts.map qF++ss) A→∃A1 A2,A=A1++A2∧PtsOk K F H us ts A1∧SAll (SlOk K F H σ) os ss A2
  | [],[],os,ss,A,_,h=>⟨[],A,rfl,rfl,h⟩
  | u::us,t::ts,os,ss,A,hl,h=>by
    have h':SAll (SlOk K F H σ) (some u::(us.map some++os)) (qF t::(ts.map qF++ss)) A:=h
    cases h' with
    | cons q r=>
      obtain ⟨A1,A2,rfl,hp,hs⟩:=vH (by simpa using hl) r
      cases t with
      | fl d=>
        obtain ⟨rfl,w,ew,rw'⟩:=q
        cases ew
        exact ⟨A1,A2,rfl,⟨rw',hp⟩,hs⟩
      | ol ds=>
        obtain ⟨l,vs,el,rfl,hl',r'⟩:=q
        cases el
        exact ⟨l::A1,A2,rfl,⟨l,vs,A1,rfl,rfl,hl',r',hp⟩,hs⟩
  | [],_::_,_,_,_,e,_=>by cases e
  | _::_,[],_,_,_,e,_=>by cases e
theorem FrF.newx {p:Addr} {vs:List V} {ps:List Pt} (hl:vs.length=ps.length) (h:FrF K B F A σ H E (vs.reverse++xs) (ps.reverse.map qF++Xs)) (hp:H p=none):Frm K B σ (upd H p (.tup vs)) E (.ref p::xs) (.tx ps::Xs):=by
  have nA:=h.newA hp
  have sl:=h.sl
  rw [List.map_append,List.append_assoc,List.append_assoc] at sl
  obtain ⟨A1,A2,rfl,hpt,hs⟩:=vH (by simpa using hl) sl
  have g:Same H (upd H p (.tup vs)):=gJ hp _
  have gF:Same F (upd F p (.tup vs)):=gJ (h.fh.free hp) _
  have hr:=hpt.rev
  rw [List.reverse_reverse,List.reverse_reverse] at hr
  have n1:∀b∈A1,b≠p:=fun b hb z=>nA (by rw [←z];exact List.mem_append_left _ hb)
  have n2:∀b∈A2,b≠p:=fun b hb z=>nA (by rw [←z];exact List.mem_append_right _ hb)
  refine ⟨upd F p (.tup vs),A1.reverse++A2,h.bf.trans gF,fun b o e=>?_,fun b o e=>?_, .cons ⟨p,vs,rfl,upd_same,hr.stay gF fun b hb=>av (n1 b (List.mem_reverse.mp hb))⟩ (hs.mono fun o s C _ hC q=>q.stay gF (fun b hb=>av (n2 b (hC b hb))) fun _=>g),?_,fun a ha=>?_,?_,h.pl⟩
  · by_cases hb:b=p
    · subst hb;rw [upd_same] at e ⊢;exact e
    · rw [av hb] at e ⊢;exact h.fh _ _ e
  · obtain ⟨e1,e2⟩:=Option.filter_eq_some_iff.mp e
    by_cases hb:b=p
    · subst hb;rw [upd_same] at e1 ⊢;exact e1
    · rw [av hb] at e1 ⊢;exact h.tf b o (fA e1 e2)
  · exact (List.Perm.append_right _ (List.reverse_perm A1)).nodup_iff.mpr h.nd
  · have ne:a≠p:=(List.mem_append.mp ha).elim (fun z=>n1 a (List.mem_reverse.mp z)) (n2 a)
    rw [av ne]
    exact h.fr a ((List.mem_append.mp ha).elim (fun z=>List.mem_append_left _ (List.mem_reverse.mp z)) (fun z=>List.mem_append_right _ z))
  · have:=h.len
    simp only [List.length_append,List.length_reverse,List.length_map] at this
    simp only [List.length_cons]
    omega
end
def takeP (E:List Sl):Sl→Option (Pt×List Sl)
  | .sh d=>some (.fl d,E)
  | .ow ds=>some (.ol ds,E)
  | .br d=>if aN d then some (.fl d,E) else none
  | .al i=>match E[i]? with
    | some (.ow ds)=>some (.ol ds,E.set i .no)
    | some (.sh d)=>some (.fl d,E)
    | _=>none
  | _=>none
abbrev Ai:=List Sl→Option (List Pt×List Sl)
def DQ (K:PySem.W.Frag) (m:Bool) (f:Ai):TA:=fun σ H Q=>∃B E xs Xs ps E',Frm K B σ H E xs Xs∧(m=true→Calm Xs)∧f E=some (ps,E')∧∀vs H',vs.length=ps.length→Frm K B σ H' E' (vs.reverse++xs) (ps.reverse.map qF++Xs)→Q vs H'
def MX (X:Cx) (es:List Expr) (m:Bool) (f:Ai):Prop:=PA X es (DQ X.K m f)
def i0:Ai:=fun E=>some ([],E)
def dh (f:b_) (g:Ai):Ai:=fun E=>(f E).bind fun a=>(takeP a.2 a.1).bind fun b=>(g b.2).map fun c=>(b.1::c.1,c.2)
def fw (f:Ai):b_:=fun E=>(f E).bind fun a=>if a.1.length≤1000000 then some (.tx a.1,a.2) else none
section
variable {X:Cx} {e:Expr} {es:List Expr} {m1 m2:Bool} {f:b_} {g:Ai} {pos:Pos} {K:PySem.W.Frag}
theorem FrF.takeP {B F:Hp} {A:List Addr} {σ:jw} {H:Hp} {E E':List Sl} {xs:List V} {Xs:List Sl} {v:V} {s:Sl} {p:Pt} (h:FrF K B F A σ H E (v::xs) (s::Xs)) (q:PL.takeP E s=some (p,E')):Frm K B σ H E' (v::xs) (qF p::Xs):=by
  cases s with
  | sh d=>cases q;exact ⟨F,A,h⟩
  | ow ds=>cases q;exact ⟨F,A,h⟩
  | br d=>
    simp only [PL.takeP] at q
    split at q
    · rename_i hf
      cases q
      have r:=(h.look0 (d:=d) rfl).1
      obtain ⟨A',h'⟩:=h.pop
      exact ⟨F,A',h'.push ⟨rfl,v,rfl,h.cold r hf⟩⟩
    · cases q
  | al i=>
    simp only [PL.takeP] at q
    split at q
    · rename_i ds ei
      cases q
      exact h.move ei
    · rename_i d ei
      cases q
      obtain ⟨v',A1,ev,rfl,w,ew,hw⟩:=h.ext (k:=0) rfl
      cases ev;cases ew
      obtain ⟨o,A2,eo,rfl,w,ew,r⟩:=h.var ei
      rw [hw] at eo
      cases eo
      cases ew
      obtain ⟨A',h'⟩:=h.pop
      exact ⟨F,A',h'.push ⟨rfl,_,rfl,r⟩⟩
    · cases q
  | no=>cases q
  | od kvs=>cases q
  | tx ps=>cases q
theorem je:MX X [] false i0:=by
  refine j0 dy fun σ H Q z=>?_
  obtain ⟨B,E,xs,Xs,res,E',fr,cl,e,q⟩:=z
  cases e
  exact q [] H rfl fr
theorem cZ (ha:EX X e m1 f) (hr:MX X es m2 g) (hs:starEach (e::es) X.env=(false,eval e X.env)::starEach es X.env:=by rfl):MX X (e::es) (m1||m2) (dh f g):=by
  refine j0 (bG ha hr hs) fun σ H Q z=>?_
  obtain ⟨B,E,xs,Xs,res,E',fr,cl,e,q⟩:=z
  obtain ⟨⟨s,E1⟩,e1,e⟩:=Option.bind_eq_some_iff.mp e
  obtain ⟨⟨p,E2⟩,e2,e⟩:=Option.bind_eq_some_iff.mp e
  obtain ⟨⟨rs,E3⟩,e3,e⟩:=Option.map_eq_some_iff.mp e
  cases e
  refine ⟨B,E,xs,Xs,s,E1,fr,fun z=>cl (by simp [z]),e1,fun v1 H1 ⟨F,A,fr1⟩=>?_⟩
  refine ⟨B,E2,v1::xs,qF p::Xs,rs,E3,fr1.takeP e2,fun z=>Calm.cons (cl (by simp [z])) (by cases p <;> rfl),e3,fun vs H2 hl fr2=>?_⟩
  exact q (v1::vs) H2 (by simp [hl]) (by simpa using fr2)
theorem gX {x1} (h:MX X es m1 g):EX X (.Tuple es x1 pos) m1 (fw g):=by
  refine bi (uV h) fun σ H Q z=>?_
  obtain ⟨B,E,xs,Xs,res,E',fr,cl,e,q⟩:=z
  obtain ⟨⟨ps,E1⟩,e1,e⟩:=Option.bind_eq_some_iff.mp e
  simp only at e
  split at e
  · rename_i hl
    cases e
    refine ⟨B,E,xs,Xs,ps,_,fr,cl,e1,fun vs H1 hv ⟨F,A,fr1⟩=>?_⟩
    exact ⟨f8 (by omega),fun p hp=>q _ _ (fr1.newx hv hp)⟩
  · cases e
end
def ot:Pt→Bool
  | .fl _=>true
  | _=>false
def fz (f:b_):b_:=fun E=>(f E).bind fun a=>match a.1 with
  | .tx ps=>if ps.all ot then some (.sh (.tuple (ps.map Pt.val)),a.2) else some a
  | _=>some a
theorem gY {X:Cx} {e:Expr} {m:Bool} {f:b_} (h:EX X e m f):EX X e m (fz f):=by
  refine bi h fun σ H Q z=>?_
  obtain ⟨B,E,xs,Xs,res,E',fr,cl,e,q⟩:=z
  obtain ⟨⟨s,E1⟩,e1,e⟩:=Option.bind_eq_some_iff.mp e
  refine ⟨B,E,xs,Xs,s,E1,fr,cl,e1,fun v H1 fr1=>?_⟩
  simp only at e
  split at e
  · split at e
    · cases e
      obtain ⟨F,A,fr1⟩:=fr1
      obtain ⟨F2,A2,fr2⟩:=fr1.frz0 (d:= .tuple _) rfl
      exact q _ _ ⟨F2,A2,fr2⟩
    · cases e
      exact q _ _ fr1
  · cases e
    exact q _ _ fr1
end PL
namespace PL
open PySem PySem.Spec L2 Nh PyProof.Rows
def DU (i:Int):Prop:= -1000000≤i∧i≤1000000
instance (i:Int):Decidable (DU i):=inferInstanceAs (Decidable (_∧_))
end PL
namespace PL
open PySem L2 Nh
theorem vI {P:Program} {w:World} {K:PySem.W.Frag} {mg:Str→Option Value} {base:Heap} {x:Str} {st:Stmt} {N ps:List Str} {k:Nat} (D:Def K mg x st ps) (S:FnScope N ps (ai st)):Own P w K mg base (k+1) x ps (bV K fun _=>none):=by
  refine D.own S (fun vs H Q E h=>?_) (fun f cdv A outer s H vs Q E hr h=>?_)
  · obtain ⟨ds,r,e,_⟩:=h
    cases e
  · obtain ⟨ds,r,e,_⟩:=h
    cases e
end PL
namespace PL
open PySem PySem.SeqAt
open AutoSeq1 (wpAny_loadPart')
open MeetsSeq MeetsSeq2 MeetsSeq3 SeqRoads2
def RcLtAt (A:Around) (s:Shared) (y x:Value) (b:Bool):Prop:=
  ∀(prog:Program) (w:World) (E:Value→Shared→Prop) (Q:Value→Shared→Prop),Q (.bool b) s→wpAny (model prog w) A (richCompare .Lt y x) Q E s
def j9 (e r:Nat→Bool) (fin:Bool):List Nat→Bool
  | []=>fin
  | j::js=>if e j then j9 e r fin js else r j
theorem tL (l b:Addr) (items items2:Array Value) (n n2:Nat) (dd dd2:Option Addr) (sl sl2:Array (Option Value)) (e r:Nat→Bool) (k:Nat):
    ∀i:Nat,min items.size items2.size - i=k→Meets (Builtin.«list.__eq__.loop» ⟨[.ref l, .ref b,rawInt i,rawInt 0],[]⟩)
      (fun A R s=>s.heap.get? l=some {cls:= .type "list",dict:=dd,data:= .seq items n,slots:=sl}∧s.heap.get? b=some {cls:= .type "list",dict:=dd2,data:= .seq items2 n2,slots:=sl2}∧
        (∀j (h1:j < items.size) (h2:j < items2.size),EqAt A.in1 s items[j] items2[j] (e j))∧(∀j (h1:j < items.size) (h2:j < items2.size),e j=false→RcLtAt A.in1 s items[j] items2[j] (r j))∧
        R (.ok (.ret (.bool (j9 e r (decide (items.size < items2.size)) ((List.range (min items.size items2.size)).drop i))))) s):=by
  induction k with
  | zero=>
    intro i hk prog w A R s h
    obtain ⟨hp,g,d,tk,os⟩:=s;obtain ⟨hl,hb,he,hr,h⟩:=h
    wp_walk using wpAny_loadPart' hl,wpAny_loadPart' hb
    have hd:(List.range (min items.size items2.size)).drop i=[]:=by simp;omega
    rw [hd] at h
    have hi:items[((i:Nat):Int).toNat]? =none∨items2[((i:Nat):Int).toNat]? =none:=by
      simp
      omega
    have fin:R (.ok (.ret (.bool (decide (items.size < items2.size))))) ⟨hp,g,d,tk,os⟩:=h
    rcases h1:items[((i:Nat):Int).toNat]? with _ | x1
    · wp_walk using wpAny_loadPart' hl,wpAny_loadPart' hb
      exact fin
    · rcases h2:items2[((i:Nat):Int).toNat]? with _ | x2
      · wp_walk using wpAny_loadPart' hl,wpAny_loadPart' hb
        exact fin
      · rw [h1,h2] at hi
        rcases hi with hi | hi <;> cases hi
  | succ k ih=>
    intro i hk prog w A R s h
    obtain ⟨hp,g,d,tk,os⟩:=s;obtain ⟨hl,hb,he,hr,h⟩:=h
    wp_walk using wpAny_loadPart' hl,wpAny_loadPart' hb
    have hm:i < min items.size items2.size:=by omega
    have hlt:i < items.size:=by omega
    have hlt2:i < items2.size:=by omega
    have hi1:items[((i:Nat):Int).toNat]? =some items[i]:=by simp [hlt]
    have hi2:items2[((i:Nat):Int).toNat]? =some items2[i]:=by simp [hlt2]
    have hd:(List.range (min items.size items2.size)).drop i=i::(List.range (min items.size items2.size)).drop (i+1):=by simp [List.drop_eq_getElem_cons,hm]
    have hc:((i:Int)+1)=((i+1:Nat):Int):=by push_cast;rfl
    rw [hd,j9] at h
    rw [hi1,hi2]
    refine wpAny_bind (he i hlt hlt2 prog w _ _ ?_)
    cases hb':e i with
    | true=>
      rw [hb',if_pos rfl] at h
      wp_walk
      rw [hc]
      exact ⟨plainId_quiet plain_eq_loop _,codeAny_builtin entry_eq_loop (by
        rw [Around.under_plainId plain_eq_loop _]
        exact ih (i+1) (by omega) prog w A R _ ⟨hl,hb,he,hr,h⟩)⟩
    | false=>
      rw [hb',if_neg (by decide)] at h
      wp_walk using wpAny_loadPart' hl,wpAny_loadPart' hb
      rw [hi1,hi2]
      refine wpAny_bind (hr i hlt hlt2 hb' prog w _ _ ?_)
      wp_walk
      exact h
theorem tM (l b:Addr) (items items2:Array Value) (n n2:Nat) (dd dd2:Option Addr) (sl sl2:Array (Option Value)) (e r:Nat→Bool):
    Meets (Builtin.«list.__lt__» ⟨[.ref l, .ref b],[]⟩)
      (fun A R s=>s.heap.get? l=some {cls:= .type "list",dict:=dd,data:= .seq items n,slots:=sl}∧s.heap.get? b=some {cls:= .type "list",dict:=dd2,data:= .seq items2 n2,slots:=sl2}∧
        (∀j (h1:j < items.size) (h2:j < items2.size),EqAt A.in1 s items[j] items2[j] (e j))∧(∀j (h1:j < items.size) (h2:j < items2.size),e j=false→RcLtAt A.in1 s items[j] items2[j] (r j))∧
        R (.ok (.ret (.bool (j9 e r (decide (items.size < items2.size)) (List.range (min items.size items2.size)))))) s):=by
  intro prog w A R s h
  obtain ⟨hp,g,d,tk,os⟩:=s;obtain ⟨hl,hb,he,hr,h⟩:=h
  have f3:=AutoSeq1.sub_list_list
  wp_walk using wpAny_loadPart' hl,wpAny_loadPart' hb
  exact ⟨plainId_quiet plain_eq_loop _,codeAny_builtin entry_eq_loop (by
    rw [Around.under_plainId plain_eq_loop _]
    exact tL l b items items2 n n2 dd dd2 sl sl2 e r _ 0 rfl prog w A R _ ⟨hl,hb,he,hr,by simpa using h⟩)⟩
theorem qG (l b:Addr) (items items2:Array Value) (n n2:Nat) (dd dd2:Option Addr) (sl sl2:Array (Option Value)) (e r:Nat→Bool):
    Meets (Builtin.«tuple.__lt__» ⟨[.ref l, .ref b],[]⟩)
      (fun A R s=>s.heap.get? l=some {cls:= .type "tuple",dict:=dd,data:= .seq items n,slots:=sl}∧s.heap.get? b=some {cls:= .type "tuple",dict:=dd2,data:= .seq items2 n2,slots:=sl2}∧
        (∀j (h1:j < items.size) (h2:j < items2.size),EqAt A.in1 s items[j] items2[j] (e j))∧(∀j (h1:j < items.size) (h2:j < items2.size),e j=false→RcLtAt A.in1 s items[j] items2[j] (r j))∧
        R (.ok (.ret (.bool (j9 e r (decide (items.size < items2.size)) (List.range (min items.size items2.size)))))) s):=
  .of_wp fun prog w A R s h=>by
    obtain ⟨hp,g,d,tk,os⟩:=s;obtain ⟨hl,hb,he,hr,h⟩:=h
    have f2:=AutoSeq1.sub_tuple_tuple
    have hZ:(items.toList.zip items2.toList).length=min items.size items2.size:=by simp
    wp_walk using wpAny_loadPart' hl,wpAny_loadPart' hb,wpAny_forIn_list _ (fun bK b s'=>b.1=none∧s'=⟨hp,g,d,tk,os⟩∧∃i,bK=(items.toList.zip items2.toList).drop i∧
      R (.ok (.ret (.bool (j9 e r (decide (items.size < items2.size)) ((List.range (min items.size items2.size)).drop i))))) ⟨hp,g,d,tk,os⟩) _
    case turn=>
      rintro ⟨y,x⟩ bK b s' ⟨hb',rfl,i,hz,hR⟩
      have hlt:i < (items.toList.zip items2.toList).length:=by
        rcases Nat.lt_or_ge i (items.toList.zip items2.toList).length with h' | h'
        · exact h'
        · rw [List.drop_of_length_le h'] at hz;cases hz
      have hm:i < min items.size items2.size:=hZ▸hlt
      have h1:i < items.size:=Nat.lt_of_lt_of_le hm (Nat.min_le_left _ _)
      have h2:i < items2.size:=Nat.lt_of_lt_of_le hm (Nat.min_le_right _ _)
      rw [List.drop_eq_getElem_cons hlt] at hz
      injection hz with hyx hrest
      have hy:y=items[i]:=by have:=congrArg Prod.fst hyx;simpa using this
      have hx:x=items2[i]:=by have:=congrArg Prod.snd hyx;simpa using this
      subst hy hx
      have hd:(List.range (min items.size items2.size)).drop i=i::(List.range (min items.size items2.size)).drop (i+1):=by simp [List.drop_eq_getElem_cons,hm]
      rw [hd,j9] at hR
      refine wpAny_bind (he i h1 h2 prog w _ _ ?_)
      cases hy:e i with
      | true=>
        rw [hy,if_pos rfl] at hR
        wp_walk
        exact ⟨rfl,rfl,i+1,hrest,hR⟩
      | false=>
        rw [hy,if_neg (by decide)] at hR
        rw [show (!false)=true from rfl,if_pos rfl]
        refine wpAny_bind (wpAny_rule (wpAny_bind (hr i h1 h2 hy prog w _ _ ?_)))
        wp_walk
        exact ⟨_,rfl,hR⟩
    case fin=>
      rintro ⟨b1,b2⟩ s' ⟨hb',rfl,i,hz,hR⟩
      simp only at hb'
      subst hb'
      have hge:min items.size items2.size≤i:=by
        rcases Nat.lt_or_ge i (items.toList.zip items2.toList).length with h' | h'
        · rw [List.drop_eq_getElem_cons h'] at hz;cases hz
        · exact hZ▸h'
      rw [List.drop_of_length_le (by simpa using hge)] at hR
      wp_walk
      exact ⟨_,rfl,hR⟩
    case h=>
      exact ⟨rfl,rfl,0,rfl,by simpa using h⟩
section
variable {A:Around} {s:Shared}
theorem RcLtAt.lists {l b:Addr} {items items2:Array Value} {e r:Nat→Bool} (hl:s.heap.IsList l items) (hb:s.heap.IsList b items2) (hu:A.units < cLine)
    (he:∀j (h1:j < items.size) (h2:j < items2.size),EqAt A.in1 s items[j] items2[j] (e j)) (hr:∀j (h1:j < items.size) (h2:j < items2.size),e j=false→RcLtAt A.in1 s items[j] items2[j] (r j)):RcLtAt A s (.ref l) (.ref b) (j9 e r (decide (items.size < items2.size)) (List.range (min items.size items2.size))):=fun prog w E Q h=>by
  obtain ⟨⟨cls,dd,data,sl⟩,ho,hc,n,hd⟩:=id hl
  obtain ⟨⟨cls2,dd2,data2,sl2⟩,ho2,hc2,n2,nX⟩:=id hb
  simp only at hc hd hc2 nX
  subst hc hd hc2 nX
  exact richCompare_meets_room (op:= .Lt) ⟨_,ho,rfl⟩ ⟨_,ho2,rfl⟩ F.slot_list_lt F.entry_list_lt (F.args_list_lt_2 _ _) (tM l b items items2 n n2 dd dd2 sl sl2 e r)
    ⟨ho,ho2,he,hr,show Value.bool _≠Value.notImplemented∧Q (.bool _) s from ⟨(fun x=>nomatch x),h⟩⟩ hu
theorem RcLtAt.tuples {l b:Addr} {items items2:Array Value} {e r:Nat→Bool} (hl:s.heap.IsTuple l items) (hb:s.heap.IsTuple b items2) (hu:A.units < cLine)
    (he:∀j (h1:j < items.size) (h2:j < items2.size),EqAt A.in1 s items[j] items2[j] (e j)) (hr:∀j (h1:j < items.size) (h2:j < items2.size),e j=false→RcLtAt A.in1 s items[j] items2[j] (r j)):RcLtAt A s (.ref l) (.ref b) (j9 e r (decide (items.size < items2.size)) (List.range (min items.size items2.size))):=fun prog w E Q h=>by
  obtain ⟨⟨cls,dd,data,sl⟩,ho,hc,n,hd⟩:=id hl
  obtain ⟨⟨cls2,dd2,data2,sl2⟩,ho2,hc2,n2,nX⟩:=id hb
  simp only at hc hd hc2 nX
  subst hc hd hc2 nX
  exact richCompare_meets_room (op:= .Lt) ⟨_,ho,rfl⟩ ⟨_,ho2,rfl⟩ F.slot_tuple_lt F.entry_tuple_lt (F.args_tuple_lt_2 _ _) (qG l b items items2 n n2 dd dd2 sl sl2 e r)
    ⟨ho,ho2,he,hr,show Value.bool _≠Value.notImplemented∧Q (.bool _) s from ⟨(fun x=>nomatch x),h⟩⟩ hu
theorem RcLtAt.ints (i j:Int) (t u:Tok):RcLtAt A s (.int i t) (.int j u) (decide (i < j)):=fun prog w E Q h=>PyProof.Rows.lt_int h
end
end PL
namespace PL
open PySem PySem.SeqAt L2 Nh
abbrev AR:=PyData→PyData→Option Bool
def Dz:AR
  | .int i, .int j=>some (decide (i < j))
  | .str a, .str b=>some (decide (a.cps.toList < b.cps.toList))
  | _,_=>none
def xI (lt:AR):List PyData→List PyData→Option Bool
  | [],ys=>some (!ys.isEmpty)
  | _::_,[]=>some false
  | x::xs,y::ys=>if PyData.eqv x y then xI lt xs ys else (lt x y).bind fun b=>(xI lt xs ys).map fun _=>b
def DA (lt:AR):AR
  | .list xs, .list ys=>xI lt xs ys
  | .tuple xs, .tuple ys=>xI lt xs ys
  | d,e=>Dz d e
def rF (lt:AR) (xs ys:List PyData) (j:Nat):Bool:=match xs[j]?,ys[j]? with
  | some x,some y=>(lt x y).getD false
  | _,_=>false
def Ck:AR:=DA (DA Dz)
end PL
namespace PL
open PySem L2 Nh
def jD:List PyData→Option (List Bool)
  | []=>some []
  | .bool b::ds=>(jD ds).map (b:: ·)
  | _=>none
theorem pM {K:PySem.W.Frag} {H:Hp}:∀{vs:List V} {ds:List PyData} {bs:List Bool},RpA K H vs ds→jD ds=some bs→vs=bs.map V.bl
  | _,_,bs, .nil,e=>by cases e;rfl
  | _,_,bs, .cons (d:=d) h t,e=>by
    cases d <;> simp [jD] at e
    obtain ⟨cs,e,rfl⟩:=e
    cases h
    rw [pM t e]
    rfl
section
variable {X:Cx} {e:Expr} {es:List Expr} {m1:Bool} {g:me} {p pos:Pos}
def Aj (K:PySem.W.Frag):List V→Hp→VK→Prop:=fun xs H Q=>∃(p:Addr) (ns:List Int),xs=[.ref p]∧SqL K H p (ns.map V.int)∧Q (.int ns.sum) H
theorem gI:∀{ns:List Int} {us:List Value},Vals (ns.map V.int) us→us.length=ns.length∧∀(i:Nat) (v:Value),us[i]? =some v→∃t,v=Value.int (ns.getD i 0) t
  | [],_, .nil=>⟨rfl,fun i v h=>by simp at h⟩
  | n::ns,_, .cons h t=>by
    obtain ⟨tk,rfl⟩:=h
    obtain ⟨h1,h2⟩:=gI t
    refine ⟨by simp [h1],fun i v h=>?_⟩
    cases i with
    | zero=>simp at h;subst h;exact ⟨tk,rfl⟩
    | succ i=>simpa using h2 i v (by simpa using h)
theorem kr (ns:List Int):∀k,k≤ns.length→preSum (fun i=>ns.getD i 0) k=(ns.take k).sum
  | 0,_=>by simp [preSum]
  | k+1,h=>by
    have hk:k < ns.length:=by omega
    rw [preSum,kr ns k (by omega),List.take_add_one,List.getElem?_eq_getElem hk,List.sum_append]
    simp [List.getD_eq_getElem?_getD,hk]
theorem tN (hc:X.calm=true):CallR X (.builtin "sum") (Aj X.K):=by
  intro pins s σ H xs us Q I r h
  obtain ⟨a,ns,rfl,hq,q⟩:=h
  cases r with
  | cons r rr=>
    cases rr
    cases r
    obtain ⟨its,rv,pl,hz⟩:=I.list hq
    obtain ⟨hl,hv⟩:=gI rv
    obtain ⟨o,n,eo,_⟩:=id pl
    have hlt:a < s.heap.objs.size:=Heap.lt_size eo
    refine call_sum_walkG (wpAny_pyIter_list pl.isList ?_)
    refine ⟨s.heap.objs.size,_,_,_,_,_,fun i=>ns.getD i 0,rfl,Walks.list (A:=X.A.in1) (I.ok.hd hc) s.heap.objs.size a (Nat.ne_of_lt hlt) its.toArray,?_,?_,?_,?_⟩
    · exact ⟨⟨_,Heap.get?_push_size _ rfl,rfl,rfl⟩,pl.isList.at fun o e=>Heap.get?_push_of_some _ e⟩
    · intro b hb
      have hsz:∀o,(s.heap.push o).objs.size=s.heap.objs.size+1:=fun o=>by simp [Heap.push]
      show b < (s.heap.push _).objs.size
      rw [hsz]
      rcases List.mem_cons.mp hb with rfl | hb
      · exact Nat.lt_succ_self _
      · have:b=a:=by simpa using hb
        subst this
        exact Nat.lt_succ_of_lt hlt
    · intro i v h
      exact hv i v (by simpa using h)
    · intro h' tk t' hk
      refine ⟨.int _,H,I.kept (t':=tk) fun b o e=>hk b o (fun z=>?_) (Heap.get?_push_of_some _ e),⟨t',rfl⟩,?_⟩
      · have:b=s.heap.objs.size:=by simpa using z
        exact Nat.lt_irrefl _ (this▸Heap.lt_size e)
      · rw [show its.toArray.size=ns.length by simpa using hl,kr ns _ (Nat.le_refl _),List.take_length]
        exact q
end
end PL
namespace PL
open PySem L2 Nh
def lK:PyData→PyData→Option PyData
  | .str a, .int k=>if a.length≤1000∧ -1000≤k∧k≤1000 then some (.str (Txt.mul a k)) else none
  | _,_=>none
def ku:P2:=bR lK
def yS:R2:=fun x y H Q=>∃a k,x= .str a∧y= .int k∧a.length≤1000∧ -1000≤k∧k≤1000∧Q (.str (Txt.mul a k)) H
theorem vJ {a:Str} {k:Int} (h1:a.length≤1000) (h2:k≤1000):(Txt.mul a k).length≤sizeLine:=by
  have e:=PyProof.Rows.len_mul a k
  rw [sizeLine_eq]
  by_cases n:k < 0
  · simp only [n,decide_true,if_true,Int.mul_zero] at e
    omega
  · simp only [n,decide_false,Bool.false_eq_true,if_false] at e
    have:(a.length:Int)*k≤1000*1000:=Int.mul_le_mul (by omega) h2 (by omega) (by omega)
    omega
theorem xJ {X:Cx}:OpR X (binaryOp .Mult) yS:=by
  intro pins s σ H x y v u Q I rx ry h
  obtain ⟨a,k,rfl,rfl,h1,h2,h3,q⟩:=h
  obtain ⟨t,rfl⟩:=rx
  obtain ⟨u,rfl⟩:=ry
  obtain ⟨o1,o2,o3⟩:=PyProof.Rows.mulOk_of (x:=a) (n:=k) 1000 1000 h1 h3 (by omega) (by decide) (by decide)
  refine P.mul_str o1 o2 o3 ?_
  have hz:=vJ h1 h3
  unfold Txt.mul at hz q
  by_cases c1:k < 1
  · rw [if_pos c1] at hz q ⊢
    exact ⟨hz, .str _,H,I.tok _,⟨_,rfl⟩,q⟩
  · rw [if_neg c1] at hz q ⊢
    by_cases c2:(k == 1||a.length == 0)=true
    · rw [if_pos c2] at hz q ⊢
      exact ⟨.str _,H,I,⟨_,rfl⟩,q⟩
    · rw [if_neg c2] at hz q ⊢
      exact ⟨hz, .str _,H,I.tok _,⟨_,rfl⟩,q⟩
section
variable {X:Cx} {K:PySem.W.Frag} {a b:Expr} {m1 m2:Bool} {f g:b_} {pos:Pos}
theorem vK:og K yS lK:=fun d1 d2 d v1 v2 H Q e r1 r2=>by
  unfold lK at e
  split at e
  · split at e
    · rename_i hc
      cases e;cases r1;cases r2
      exact ⟨_,rfl,fun q=>⟨_,_,rfl,rfl,hc.1,hc.2.1,hc.2.2,q⟩⟩
    · cases e
  · cases e
theorem rZ (ha:EX X a m1 f) (hb:EX X b m2 g):EX X (.BinOp a .Mult b pos) (m1||m2) (ag ku m2 f g):=ls xJ (ja vK) ha hb
end
end PL
namespace PL
open PySem L2 Nh
theorem kP {X:Cx} {x:Str} {i:Int} {t:Tok} {pos:Pos} (hg:Gl X x) (hm:X.mg x=some (.int i t)) (hd:(x == ("__debug__":Str))=false:=by decide):EX X (.Name x pos) false (pC (.int i)):=by
  refine bi (rj (v:= .int i) hg hm ⟨t,rfl⟩ hd) fun σ H Q z=>?_
  obtain ⟨B,E,xs,Xs,res,E',⟨F,A,fr⟩,cl,e,q⟩:=z
  cases e
  exact q _ _ ⟨F,A,fr.push ⟨rfl,_,rfl, .int _⟩⟩
end PL
namespace PL
open PySem PySem.SeqAt
open AutoSeq1 (wpAny_loadPart')
open MeetsSeq MeetsSeq2 MeetsSeq3 SeqRoads2
def RcGtAt (A:Around) (s:Shared) (y x:Value) (b:Bool):Prop:=
  ∀(prog:Program) (w:World) (E:Value→Shared→Prop) (Q:Value→Shared→Prop),Q (.bool b) s→wpAny (model prog w) A (richCompare .Gt y x) Q E s
theorem qH (l b:Addr) (items items2:Array Value) (n n2:Nat) (dd dd2:Option Addr) (sl sl2:Array (Option Value)) (e r:Nat→Bool):
    Meets (Builtin.«tuple.__gt__» ⟨[.ref l, .ref b],[]⟩)
      (fun A R s=>s.heap.get? l=some {cls:= .type "tuple",dict:=dd,data:= .seq items n,slots:=sl}∧s.heap.get? b=some {cls:= .type "tuple",dict:=dd2,data:= .seq items2 n2,slots:=sl2}∧
        (∀j (h1:j < items.size) (h2:j < items2.size),EqAt A.in1 s items[j] items2[j] (e j))∧(∀j (h1:j < items.size) (h2:j < items2.size),e j=false→RcGtAt A.in1 s items[j] items2[j] (r j))∧
        R (.ok (.ret (.bool (j9 e r (decide (items2.size < items.size)) (List.range (min items.size items2.size)))))) s):=
  .of_wp fun prog w A R s h=>by
    obtain ⟨hp,g,d,tk,os⟩:=s;obtain ⟨hl,hb,he,hr,h⟩:=h
    have f2:=AutoSeq1.sub_tuple_tuple
    have hZ:(items.toList.zip items2.toList).length=min items.size items2.size:=by simp
    wp_walk using wpAny_loadPart' hl,wpAny_loadPart' hb,wpAny_forIn_list _ (fun bK b s'=>b.1=none∧s'=⟨hp,g,d,tk,os⟩∧∃i,bK=(items.toList.zip items2.toList).drop i∧
      R (.ok (.ret (.bool (j9 e r (decide (items2.size < items.size)) ((List.range (min items.size items2.size)).drop i))))) ⟨hp,g,d,tk,os⟩) _
    case turn=>
      rintro ⟨y,x⟩ bK b s' ⟨hb',rfl,i,hz,hR⟩
      have hlt:i < (items.toList.zip items2.toList).length:=by
        rcases Nat.lt_or_ge i (items.toList.zip items2.toList).length with h' | h'
        · exact h'
        · rw [List.drop_of_length_le h'] at hz;cases hz
      have hm:i < min items.size items2.size:=hZ▸hlt
      have h1:i < items.size:=Nat.lt_of_lt_of_le hm (Nat.min_le_left _ _)
      have h2:i < items2.size:=Nat.lt_of_lt_of_le hm (Nat.min_le_right _ _)
      rw [List.drop_eq_getElem_cons hlt] at hz
      injection hz with hyx hrest
      have hy:y=items[i]:=by have:=congrArg Prod.fst hyx;simpa using this
      have hx:x=items2[i]:=by have:=congrArg Prod.snd hyx;simpa using this
      subst hy hx
      have hd:(List.range (min items.size items2.size)).drop i=i::(List.range (min items.size items2.size)).drop (i+1):=by simp [List.drop_eq_getElem_cons,hm]
      rw [hd,j9] at hR
      refine wpAny_bind (he i h1 h2 prog w _ _ ?_)
      cases hy:e i with
      | true=>
        rw [hy,if_pos rfl] at hR
        wp_walk
        exact ⟨rfl,rfl,i+1,hrest,hR⟩
      | false=>
        rw [hy,if_neg (by decide)] at hR
        rw [show (!false)=true from rfl,if_pos rfl]
        refine wpAny_bind (wpAny_rule (wpAny_bind (hr i h1 h2 hy prog w _ _ ?_)))
        wp_walk
        exact ⟨_,rfl,hR⟩
    case fin=>
      rintro ⟨b1,b2⟩ s' ⟨hb',rfl,i,hz,hR⟩
      simp only at hb'
      subst hb'
      have hge:min items.size items2.size≤i:=by
        rcases Nat.lt_or_ge i (items.toList.zip items2.toList).length with h' | h'
        · rw [List.drop_eq_getElem_cons h'] at hz;cases hz
        · exact hZ▸h'
      rw [List.drop_of_length_le (by simpa using hge)] at hR
      wp_walk
      exact ⟨_,rfl,hR⟩
    case h=>
      exact ⟨rfl,rfl,0,rfl,by simpa using h⟩
section
variable {A:Around} {s:Shared}
theorem RcGtAt.tuples {l b:Addr} {items items2:Array Value} {e r:Nat→Bool} (hl:s.heap.IsTuple l items) (hb:s.heap.IsTuple b items2) (hu:A.units < cLine)
    (he:∀j (h1:j < items.size) (h2:j < items2.size),EqAt A.in1 s items[j] items2[j] (e j)) (hr:∀j (h1:j < items.size) (h2:j < items2.size),e j=false→RcGtAt A.in1 s items[j] items2[j] (r j)):RcGtAt A s (.ref l) (.ref b) (j9 e r (decide (items2.size < items.size)) (List.range (min items.size items2.size))):=fun prog w E Q h=>by
  obtain ⟨⟨cls,dd,data,sl⟩,ho,hc,n,hd⟩:=id hl
  obtain ⟨⟨cls2,dd2,data2,sl2⟩,ho2,hc2,n2,nX⟩:=id hb
  simp only at hc hd hc2 nX
  subst hc hd hc2 nX
  exact richCompare_meets_room (op:= .Gt) ⟨_,ho,rfl⟩ ⟨_,ho2,rfl⟩ F.slot_tuple_gt F.entry_tuple_gt (F.args_tuple_gt_2 _ _) (qH l b items items2 n n2 dd dd2 sl sl2 e r)
    ⟨ho,ho2,he,hr,show Value.bool _≠Value.notImplemented∧Q (.bool _) s from ⟨(fun x=>nomatch x),h⟩⟩ hu
theorem RcGtAt.ints (i j:Int) (t u:Tok):RcGtAt A s (.int i t) (.int j u) (decide (j < i)):=fun prog w E Q h=>PyProof.Rows.gt_int h
end
end PL
namespace Nh
open PySem L2
theorem NailsOk.stp {r:List Pc} {p:Pc} (h:NailsOk r) (hp:p.1 < 128):NailsOk (NH.stp r p):=by
  cases r with
  | nil=>
    show NailsOk (if p.2=0 then [] else [p])
    split
    · exact h
    · intro q hq;rw [List.mem_singleton.mp hq];exact hp
  | cons x r=>
    rw [NH.ju]
    intro q hq
    rcases List.mem_append.mp hq with h1 | h1
    · unfold NH.nX at h1
      split at h1
      · split at h1
        · cases h1
        · rw [List.mem_singleton.mp h1];exact hp
      · split at h1
        · rw [List.mem_singleton.mp h1];exact h x (List.mem_cons_self ..)
        · rcases List.mem_cons.mp h1 with h2 | h2
          · rw [h2];exact hp
          · rw [List.mem_singleton.mp h2];exact h x (List.mem_cons_self ..)
    · exact h q (List.mem_cons_of_mem _ h1)
theorem NailsOk.foldl:∀(c:List Pc) {r:List Pc},NailsOk r→NailsOk c→NailsOk (c.foldl NH.stp r)
  | [],_,h,_=>h
  | p::c,_,h,hc=>NailsOk.foldl c (h.stp (hc p (List.mem_cons_self ..))) fun q hq=>hc q (List.mem_cons_of_mem _ hq)
theorem NailsOk.take {c:List Pc} (h:NailsOk c) (i:Nat):NailsOk (c.take i):=fun p hp=>h p (List.mem_of_mem_take hp)
theorem NailsOk.drop {c:List Pc} (h:NailsOk c) (i:Nat):NailsOk (c.drop i):=fun p hp=>h p (List.mem_of_mem_drop hp)
theorem NailsOk.reverse {c:List Pc} (h:NailsOk c):NailsOk c.reverse:=fun p hp=>h p (List.mem_reverse.mp hp)
theorem NailsOk.append {c d:List Pc} (h:NailsOk c) (h':NailsOk d):NailsOk (c++d):=fun p hp=>(List.mem_append.mp hp).elim (h p) (h' p)
theorem NailsOk.contr {c:List Pc} (h:NailsOk c):NailsOk (NH.contr c):=fun p hp=>by
  obtain ⟨q,hq,e⟩:=List.mem_map.mp hp
  subst e
  exact h q (List.mem_reverse.mp hq)
end Nh
namespace Nh
open PySem L2 PL
theorem NailsOk.rep {c:List Pc} (h:NailsOk c) (k:Nat):NailsOk (List.replicate k c).flatten:=fun p hp=>by
  obtain ⟨l,hl,hpl⟩:=List.mem_flatten.mp hp
  rw [(List.mem_replicate.mp hl).2] at hpl
  exact h p hpl
theorem NailsOk.cutL {c:List Pc} (h:NailsOk c) (lo hi:Option Int):NailsOk (cutL c lo hi):=fun p hp=>h p (lH hp)
def l4 (i:Int):Nat:=[97,98,99,122].getD i.toNat 97
theorem xK {i j:Int} (h1: -(2 ^ 64) < j) (h2:j < 2 ^ 64):b7 i j=true:=by
  simp only [b7,Bool.or_eq_true,decide_eq_true_eq]
  exact .inl (.inr ⟨h1,h2⟩)
theorem iU {i j:Int} (h1: -(2 ^ 64) < i) (h2:i < 2 ^ 64):b7 i j=true:=by
  simp only [b7,Bool.or_eq_true,decide_eq_true_eq]
  exact .inl (.inl ⟨h1,h2⟩)
theorem jE {j:Int} (h1:0 < j) (h2:j < 2 ^ 400):fZ j=true:=decide_eq_true ⟨h1,h2⟩
theorem aR (i j:Int):qd (.int i) (.int j)=some (decide (i=j)):=rfl
end Nh
namespace L2
open PySem PySem.Spec PyProof.Rows
def r8 (K:PySem.W.Frag) (h:Heap):Prop:=∀b q,kT K b=some q→h.get? b=some (PySem.W.tabObj #[])∧(∃c,PySem.W.CodeHd h c b)∧K.lookup b=none
def cW (K:PySem.W.Frag) (a:Addr) (so:Option HO):Hp:=fun b=>match kT K b with
  | some q=>some (.tbl q)
  | none=>if b=a then so else none
theorem qI {K:PySem.W.Frag} {a b:Addr} {so:Option HO} {q:Str} (e:kT K b=some q):cW K a so b=some (.tbl q):=by unfold cW;rw [e]
theorem tO {K:PySem.W.Frag} {a:Addr} {so:Option HO} (e:kT K a=none):cW K a so a=so:=by unfold cW;rw [e];exact if_pos rfl
theorem fb {K:PySem.W.Frag} {a b:Addr} {so:Option HO} {u:HO} (e:cW K a so b=some u):(∃q,kT K b=some q∧u= .tbl q)∨(b=a∧so=some u):=by
  unfold cW at e
  split at e
  · rename_i q h;cases e;exact .inl ⟨q,h,rfl⟩
  · by_cases hb:b=a
    · rw [if_pos hb] at e;exact .inr ⟨hb,e⟩
    · rw [if_neg hb] at e;cases e
section
variable {P:Program} {w:World} {K:PySem.W.Frag} {mg mb:Str→Option Value} {CX:sR} {k:Nat} {fa a:Addr} {fd:FuncData} {x:Str} {sp:Sp} {s₁:Shared} {vs:List Value} {ns:List Int}
theorem xL (KX:K.In s₁.heap) (hns:s₁.heap.Ns mainGlobals mg) (hb:s₁.heap.Ns builtinsNs mb) (hbb:∀x:Str,x≠"__name__"→mb x=bootBuiltins x) (hlim:s₁.heap.NoLimit) (hg:s₁.gens=#[]) (hbm:∃bm ob,mg "__builtins__"=some (.ref bm)∧bm≠builtinsNs∧s₁.heap.get? bm=some ob∧ob.cls= .type "module"∧ob.dict=some builtinsNs∧ob.data= .plain) (hT:r8 K s₁.heap)
    (ha:s₁.heap.get? a=some {cls:= .type "list",data:= .seq vs.toArray}) (hi:IntsAre vs ns) (hl:ns.length≤sizeLine) (hr:Room k callerA)
    (F:∀base:Heap,K.In base→base.Ns mainGlobals mg→FnOk P w K mg base CX k fa fd [x] sp) (hbind:∀(s:Shared) (u:Value),BindsTo s fd ⟨[u],[]⟩ [(x,u)])
    (hsp:∀H:Hp,SqL K H a (ns.map V.int)→sp [.ref a] H (fun v _=>v= .bl true) fun _ _ _=>False)
    (hCX:∀H e s',CX [] H s₁ (fun _ _ _=>False) e s'→False):
    codeAny (model P w) callerA (.call (.ref fa) ⟨[.ref a],[]⟩) (fun r s'=>r= .ok (.ret (.bool true))∧OldK s₁.heap s'.heap∧s'.os=s₁.os∧AllBare s'.gens) s₁:=by
  have rv:=gI hi
  have lenV:=hi.length
  have tabA:kT K a=none:=by
    cases q:kT K a with
    | none=>rfl
    | some z=>
      have e:=(hT a z q).1
      rw [ha] at e
      cases e
  have main:∀so:Option HO,(so=none∨(so=some (.frz {cls:= .type "list",data:= .seq vs.toArray} (.lst (ns.map V.int)))∧K.lookup a=none))→SqL K (cW K a so) a (ns.map V.int)→
      codeAny (model P w) callerA (.call (.ref fa) ⟨[.ref a],[]⟩) (fun r s'=>r= .ok (.ret (.bool true))∧OldK s₁.heap s'.heap∧s'.os=s₁.os∧AllBare s'.gens) s₁:=by
    intro so hso hS
    have hok:HOk P w (cW K a so) s₁.heap:=fun b u e=>by
      rcases fb e with ⟨q,e1,rfl⟩ | ⟨rfl,e1⟩
      · exact ObjOk.tbl0 (hT b q e1).1
      · rcases hso with z | ⟨z,_⟩
        · rw [z] at e1;cases e1
        · rw [z] at e1;cases e1
          exact ⟨ha,by rw [List.length_map];exact hl,vs,_,rv,ha⟩
    have free:∀{b:Addr} {o:Obj} {es:Array DictEntry} {ep:Nat},s₁.heap.get? b=some o→o.data= .dict es ep→cW K a so b=none:=fun {b o es ep} e d=>by
      cases q:cW K a so b with
      | none=>rfl
      | some u=>
        rcases fb q with ⟨z,e1,_⟩ | ⟨rfl,_⟩
        · rw [(hT b z e1).1] at e;cases e;cases d
        · rw [ha] at e;cases e;cases d
    have nsK:∀{b:Addr} {m:Str→Option Value},s₁.heap.Ns b m→(o8 s₁.heap (cW K a so)).Ns b m:=fun {b m} ⟨o,es,ep,e,d,r⟩=>⟨o,es,ep,kS e (free e d),d,r⟩
    have kin:K.In (o8 s₁.heap (cW K a so)):=fun b o e=>kS (KX b o e) (by
      cases q:cW K a so b with
      | none=>rfl
      | some u=>
        rcases fb q with ⟨z,e1,_⟩ | ⟨rfl,e1⟩
        · rw [(hT b z e1).2.2] at e;cases e
        · rcases hso with z | ⟨_,z⟩
          · rw [z] at e1;cases e1
          · rw [z] at e;cases e)
    have bmK:∃bm ob,mg "__builtins__"=some (.ref bm)∧bm≠builtinsNs∧(o8 s₁.heap (cW K a so)).get? bm=some ob∧ob.cls= .type "module"∧ob.dict=some builtinsNs∧ob.data= .plain:=by
      obtain ⟨bm,ob,c1,c2,c3,c4,c5⟩:=hbm
      refine ⟨bm,ob,c1,c2,kS c3 ?_,c4,c5⟩
      cases q:cW K a so bm with
      | none=>rfl
      | some u=>
        rcases fb q with ⟨z,e1,_⟩ | ⟨rfl,_⟩
        · rw [(hT bm z e1).1] at c3;cases c3;cases c4
        · rw [ha] at c3
          cases c3
          injection c4 with c6
          exact absurd c6 (by decide)
    have e0:Env0 P w K mg (o8 s₁.heap (cW K a so)) callerA [] s₁ (cW K a so):=
      ⟨rfl,⟨kin,nsK hns,⟨mb,nsK hb,hbb⟩,let ⟨mc,h1,h2⟩:=hlim;⟨mc,nsK h1,h2⟩,bmK⟩,fun b o e=>wO e,Nat.le_of_eq (sH _ _),trivial,fun b hb=>absurd (show b∈([]:List Addr) from hb) (by simp),hok, .of_eq hg,fun b q e=>qI e⟩
    refine codeAny_mono ((F _ kin (nsK hns)).run callerA [] s₁ _ ⟨[.ref a],[]⟩ [.ref a] [.ref a] _ _ hr e0 (hbind s₁ (.ref a)) (.cons rfl .nil) (hsp _ hS)) fun r s' h=>?_
    cases r with
    | error e=>exact (hCX _ e s' h).elim
    | ok fl=>
      cases fl with
      | next=>exact False.elim h
      | brk=>exact False.elim h
      | cont=>exact False.elim h
      | ret u=>
        obtain ⟨v,H',os,bare,un,hok',r',q⟩:=h
        have q':v= .bl true:=q
        subst q'
        obtain rfl:u=Value.bool true:=r'
        have nofs:∀b,b∉kC ([]:List Env):=fun b z=>absurd (show b∈([]:List Addr) from z) (by simp)
        have step:∀b o,s₁.heap.get? b=some o→asItWas s₁.heap s'.heap b o∧∃o',s'.heap.get? b=some o':=fun b o e=>by
          cases q:cW K a so b with
          | none=>exact ⟨.inl (un.keep b o e q (nofs b) (by simp)),_,un.keep b o e q (nofs b) (by simp)⟩
          | some u=>
            rcases fb q with ⟨z,e1,rfl⟩ | ⟨rfl,e1⟩
            · obtain ⟨t1,⟨c,t2⟩,_⟩:=hT b z e1
              obtain ⟨ps,p1,_⟩:=hok' b _ (un.tbls b z q)
              rw [t1] at e
              cases e
              exact ⟨.inr (.inl ⟨(t2.tab t1).isCodeTable,rfl,#[],ps,rfl,by simpa using p1⟩),_,p1⟩
            · rcases hso with z | ⟨z,_⟩
              · rw [z] at e1;cases e1
              · rw [z] at e1;cases e1
                have z2:=un.frzs b _ _ q
                obtain ⟨e2,_⟩:=hok' b _ z2
                rw [ha] at e;cases e
                exact ⟨.inl e2,_,e2⟩
        exact ⟨rfl,⟨fun b o e=>(step b o e).1,fun b o e=>(step b o e).2⟩,os,bare⟩
  cases hk:K.lookup a with
  | some o=>
    have e:=KX a o hk
    rw [ha] at e
    cases e
    exact main none (.inl rfl) (.inr ⟨_,vs.toArray,_,hk,rfl,rfl,rfl,by rw [List.size_toArray,lenV];exact hl,by simpa using rv⟩)
  | none=>exact main _ (.inr ⟨rfl,hk⟩) (.inl (.inr ⟨_,tO tabA⟩))
end
theorem vL {l:PySem.W.OpenLaw} {n k:Nat} {q:Program} {loose:List Str} {XP:(Str→Option Value)→Heap→Prop} {YP:World→Heap→Prop} {d:DefRec} {K:Params→PySem.W.Frag} {CX:World→sR} {sp:World→Sp} {x:Str}
    (hn:l.most=some n) (hn2:n≤sizeLine) (hdf:d.params.defaults=[]) (hr:Room k callerA)
    (hY:∀(w:World) (h:Heap),YP w h→(K w.params).In h∧r8 (K w.params) h)
    (F:∀(w:World) (mg:Str→Option Value) (fa:Addr) (h:Heap),(K w.params).In h→h.Ns mainGlobals mg→mg d.name=some (.ref fa)→
      ∃fd:FuncData,(∀(s:Shared) (u:Value),BindsTo s fd ⟨[u],[]⟩ [(x,u)])∧
        ∀base:Heap,(K w.params).In base→base.Ns mainGlobals mg→FnOk l.prog w (K w.params) mg base (CX w) k fa fd [x] (sp w))
    (hsp:∀(w:World) (H:Hp) (a:Addr) (ns:List Int),ns.length≤n→SqL (K w.params) H a (ns.map V.int)→sp w [.ref a] H (fun v _=>v= .bl true) fun _ _ _=>False)
    (hCX:∀(w:World) (H:Hp) (s:Shared) (e:Value) (s':Shared),CX w [] H s (fun _ _ _=>False) e s'→False):
    PySem.W.WalkO q loose XP YP l.row.toRowW d [] (fun f vs=>PySem.call f vs):=by
  refine Att.pf hn hdf fun w s₀ s₁ mg mb fa o pm cd doc a vs ns G Y ho hd hcd hmg hobj hints hlen hg=>?_
  obtain ⟨KX,KT⟩:=hY w _ Y
  obtain ⟨fd,hb,hF⟩:=F w mg fa _ KX G.T.g hmg
  exact xL KX G.T.g G.T.b G.T.builtins G.T.nolimit hg G.T.bmain KT hobj hints (Nat.le_trans hlen hn2) hr hF hb (fun H hS=>hsp w H a ns hlen hS) fun H e s'=>hCX w H s₁ e s'
end L2
namespace PL
open PySem L2 Nh PyProof.Rows
structure ClsOk (K:PySem.W.Frag) (mg:Str→Option Value) (cn:Str) (C:Addr):Prop where
  ns:PySem.W.nsIn K mainGlobals cn=some (some (.ref C))
  mg:mg cn=some (.ref C)
  cl:Cls K C
structure OwnM (P:Program) (w:World) (K:PySem.W.Frag) (mg:Str→Option Value) (base:Heap) (k:Nat) (C:Addr) (m:Str) (ps:List Str) (sp:Sp):Prop where
  ex:∃(f:Addr) (fd:FuncData),FnOk P w K mg base iu k f fd ps sp∧Binds K fd ps []∧Meth K C m f
def DispM (P:Program) (w:World) (K:PySem.W.Frag) (mg:Str→Option Value) (base:Heap) (k:Nat) (m:Str) (c:List PyData→Option Sl):Prop:=
  ∀(H:Hp) (v:V) (d:PyData) (r:Sl),c [d]=some r→Rp K H v d→∃(p C dx:Addr) (fs:List (Str×V)),v= .ref p∧H p=some (.ins C dx fs)∧fs.lookup m=none∧Cls K C∧∃c':List PyData→Option Sl,c' [d]=some r∧OwnM P w K mg base k C m ["self"] (bV K c')
theorem lL {K:PySem.W.Frag} {H:Hp} {v:V} {cn:Str} {kvs:List (PyData×PyData)} (r:Rp K H v (eO cn kvs)):∃(p C dx:Addr) (fs:List (Str×V)),v= .ref p∧PySem.W.nsIn K mainGlobals cn=some (some (.ref C))∧H p=some (.ins C dx fs)∧(∀m∈kl,fs.lookup m=none)∧RpN K H fs kvs:=by
  generalize e:eO cn kvs=d at r
  cases r with
  | obj c h n r=>cases e;exact ⟨_,_,_,_,rfl,c,h,n,r⟩
  | dct h1 h2=>
    cases h2 with
    | nil=>cases e
    | @cons k x us d kvs a b=>cases k <;> cases e
  | _=>cases e
def gM (f:Str):List (PyData×PyData)→Option PyData
  | []=>none
  | (.str g,d)::r=>if g=f then some d else gM f r
  | _::r=>gM f r
theorem RpN.look {K:PySem.W.Frag} {H:Hp} {f:Str} {d:PyData} {fs:List (Str×V)}:∀{kvs:List (PyData×PyData)},RpN K H fs kvs→gM f kvs=some d→∃v,fs.lookup f=some v∧Rp K H v d
  | _, .nil,e=>by cases e
  | _, .cons l h r,e=>by
    unfold gM at e
    split at e
    · rename_i z
      cases e;subst z
      exact ⟨_,l,h⟩
    · exact r.look e
def eg (cs:List Str) (f:Str) (g:b_):b_:=fun E=>(g E).bind fun a=>(look a.2 a.1).bind fun d=>match d with
  | .dict ((.none, .tuple [.str cn])::kvs)=>if cs.contains cn then (gM f kvs).bind fun d'=>if !hot a.2 a.1||aN d' then some (.sh d',a.2) else none else none
  | _=>none
def cH (c:List PyData→Option Sl) (g:b_):b_:=fun E=>(g E).bind fun a=>(look a.2 a.1).bind fun d=>(c [d]).map fun r=>(r,a.2)
def jF (cn:Str) (c:List PyData→Option (List (PyData×PyData))) (g:me):b_:=fun E=>(g E).bind fun a=>(ax a.2 a.1).bind fun ds=>(c ds).map fun kvs=>(.sh (eO cn kvs),a.2)
def mw (K:PySem.W.Frag) (C:Addr) (c:List PyData→Option (List (PyData×PyData))):Sp:=fun vs H Q _=>∃x dx vs' ds kvs,vs= .ref x::vs'∧H x=some (.ins C dx [])∧c ds=some kvs∧(∃H0,H0 x=none∧Same H0 H∧RpA K H0 vs' ds)∧
  ∀fs H',(∀b o,b≠x→H b=some o→H' b=some o)→H' x=some (.ins C dx fs)→(∀m∈kl,fs.lookup m=none)→RpN K (tups H') fs kvs→Q .non H'
structure MkOk (P:Program) (w:World) (K:PySem.W.Frag) (mg:Str→Option Value) (base:Heap) (k:Nat) (cn:Str) (ps:List Str) (c:List PyData→Option (List (PyData×PyData))):Prop where
  ex:∃(C f:Addr) (fd:FuncData),ClsOk K mg cn C∧Mk K C f∧FnOk P w K mg base iu k f fd ps (mw K C c)∧Binds K fd ps []
section
variable {X:Cx} {o e:Expr} {es:List Expr} {f m cn x:Str} {p pos apos:Pos} {m1:Bool} {g:b_} {ga:me}
theorem cX {cs:List Str} (hc:∀cn∈cs,∀C,PySem.W.nsIn X.K mainGlobals cn=some (some (.ref C))→Cls X.K C∧NoAttr X.K C f) (he:EX X o m1 g) (hb:attributeBase o f X.env (eval o X.env)=eval o X.env:=by rfl):EX X (.Attribute o f pos) m1 (eg cs f g):=by
  refine bi (zF he hb) fun σ H Q z=>?_
  obtain ⟨B,E,xs,Xs,res,E',fr,cl,e,q⟩:=z
  obtain ⟨⟨s,E1⟩,e1,e⟩:=Option.bind_eq_some_iff.mp e
  obtain ⟨d,e2,e⟩:=Option.bind_eq_some_iff.mp e
  refine ⟨B,E,xs,Xs,s,E1,fr,cl,e1,fun v H1 ⟨F,A,fr1⟩=>?_⟩
  split at e
  rotate_left
  · cases e
  rename_i cn kvs
  split at e
  rotate_left
  · cases e
  rename_i hcn
  obtain ⟨d',e3,e⟩:=Option.bind_eq_some_iff.mp e
  split at e
  rotate_left
  · cases e
  rename_i hh
  cases e
  obtain ⟨r,rf⟩:=fr1.look0 e2
  obtain ⟨p,C,dx,fs,rfl,ns,hp,_,rn⟩:=lL r
  obtain ⟨c1,c2⟩:=hc cn (by simpa using hcn) C ns
  obtain ⟨v',l,rv⟩:=rn.look e3
  refine ⟨p,C,dx,fs,v',rfl,hp,c1,c2,l,q _ _ ?_⟩
  obtain ⟨A',fr2⟩:=fr1.pop
  have rF:Rp X.K F v' d':=by
    rcases Bool.or_eq_true_iff.mp hh with z | z
    · have rr:Rp X.K F (.ref p) (eO cn kvs):=rf (by simpa using z)
      obtain ⟨p2,C2,dx2,fs2,ep,ns2,hp2,_,rn2⟩:=lL rr
      cases ep
      have:=fr1.fh _ _ hp2
      rw [hp] at this
      cases this
      obtain ⟨v2,l2,rv2⟩:=rn2.look e3
      rw [l] at l2
      cases l2
      exact rv2
    · exact fr1.cold rv z
  exact ⟨F,A',fr2.push ⟨rfl,_,rfl,rF⟩⟩
theorem c0 {k:Nat} {c:List PyData→Option Sl} {pl:Sem Bool} (D:DispM X.prog X.w X.K X.mg X.base k m c) (hr:Room k X.A) (he:EX X o m1 g)
    (ht:eval (.Call (.Attribute o m apos) [] [] pos) X.env=(do
      let ov ←eval o X.env
      standAt apos.atName
      let (f,first) ←holding [ov] (getMethod ov m pl)
      callWith pos f first (backTo pos (starEach [] X.env)) (backToKw pos (keywordEach [] X.env))):=by rfl):EX X (.Call (.Attribute o m apos) [] [] pos) m1 (cH c g):=by
  intro pins s σ H Q I z
  obtain ⟨B,E,xs,Xs,res,E',fr,cl,e,q⟩:=z
  obtain ⟨⟨s1,E1⟩,e1,e⟩:=Option.bind_eq_some_iff.mp e
  obtain ⟨d,e2,e⟩:=Option.bind_eq_some_iff.mp e
  obtain ⟨r,e3,e⟩:=Option.map_eq_some_iff.mp e
  cases e
  refine PySem.W.methodCall_KW (pl:=pl) (cE (he pins s σ H (fun v H1=>Frm X.K B σ H1 E1 (v::xs) (s1::Xs)) I ⟨B,E,xs,Xs,s1,E1,fr,cl,e1,fun v H1 f=>f⟩) fun u t1 ⟨v,H1,I1,rv,F,A,fr1⟩=>?_) ht
  have rp:=(fr1.look0 e2).1
  obtain ⟨p,C,dx,fs,rfl,hp,l,c1,c',e3',f0,fd,Fk,b,mt⟩:=D H1 v d res e3 rp
  obtain rfl:u=Value.ref p:=rv
  obtain ⟨A',fr2⟩:=fr1.pop
  refine i9 I1 hp c1 mt l ?_
  exact PySem.W.callWith_K0 (first:=[.ref p]) I1.kIn mt.kp (qv (us:=[.ref p]) (vs:=[.ref p]) Fk hr b .nil rE I1 (.cons rfl .nil) ⟨[d],res,e3', .cons rp .nil,fun v H' gg q'=>q v H' (fr2.told gg q')⟩)
theorem kQ {k:Nat} {ps:List Str} {c:List PyData→Option (List (PyData×PyData))} (M:MkOk X.prog X.w X.K X.mg X.base k cn ps c) (hr:Room (k+1) X.A) (hg:Gl X cn) (ha:AX X (e::es) m1 ga) (hdb:(cn == ("__debug__":Str))=false:=by decide) (he:starEach (e::es) X.env=(false,eval e X.env)::starEach es X.env:=by rfl) (hpl:(backTo pos (starEach es X.env)).any (·.1)=false:=by rfl):
    EX X (.Call (.Name cn p) (e::es) [] pos) m1 (jF cn c ga):=by
  obtain ⟨C,f,fd,ck,mk,Fk,b⟩:=M.ex
  refine bi (xb mk Fk hr hg ck.mg b .nil rE ha hdb he hpl) fun σ H Q z=>?_
  obtain ⟨B,E,xs,Xs,res,E',fr,cl,e,q⟩:=z
  obtain ⟨⟨rs,E1⟩,e1,e⟩:=Option.bind_eq_some_iff.mp e
  obtain ⟨ds,e2,e⟩:=Option.bind_eq_some_iff.mp e
  obtain ⟨kvs,e3,e⟩:=Option.map_eq_some_iff.mp e
  cases e
  refine ⟨B,E,xs,Xs,rs,E1,fr,cl,e1,fun vs H1 hl ⟨F,A,fr1⟩=>fun x dx nx ndx ne=>?_⟩
  obtain ⟨r1,A',fr2⟩:=fr1.looks hl e2
  have g0:Same H1 (upd (upd H1 dx (.own x)) x (.ins C dx [])):=fun b o z=>by
    rw [av (aL z nx),av (aL z ndx)]
    exact z
  refine ⟨x,dx,vs++[],ds,kvs,rfl,upd_same,e3,⟨H1,nx,g0,by rw [List.append_nil];exact r1⟩,fun fs H' k1 k2 k3 k4=>⟨rfl,?_⟩⟩
  have g1:Same H1 H':=fun b o z=>k1 b o (aL z nx) (g0 b o z)
  exact q _ _ (fr2.told g1 (show ko X.K H1 H' (.ref x) (.sh (eO cn kvs)) from .obj ck.ns (fA k2 rfl) k3 k4))
end
theorem wK {P:Program} {w:World} {K:PySem.W.Frag} {mg:Str→Option Value} {base:Heap} {x qn:Str} {st:Stmt} {N ps:List Str} {k a n:Nat} {g:bU} {f0:Addr} {fd:FuncData} (D:Fun K x qn st f0 fd) (S:FnScope N ps (ai st)) (hpa:ps.length=a) (hNn:N.length=n) (hps:a≤n)
    (hbody:∀(cdv:Value) (A:Around) (outer:List Env) (s:Shared) (H:Hp) (E:XK),Room k (A.deeper (PyProof.Rows.envOfC qn (ai st) s.heap.objs.size f0 cdv))→
      qx (gR iu P w K mg base N qn (ai st) f0 cdv A outer s H E).nox (bE st) g):FnOk P w K mg base iu (k+1) f0 fd ps (bV K (bS a n g)):=by
  subst hpa hNn
  refine D.ok S (fun vs H Q E h=>?_) (fun cdv A outer s H vs Q E hr h=>?_)
  · obtain ⟨ds,r,e,rp,_⟩:=h
    unfold bS at e
    split at e
    · rename_i hl
      rw [rp.len];exact hl
    · cases e
  obtain ⟨ds,r,e,rp,q⟩:=h
  unfold bS at e
  split at e
  · rename_i hl
    refine ⟨_,hbody cdv A outer s H E hr,?_⟩
    obtain ⟨⟨E',fl⟩,e1,e⟩:=Option.bind_eq_some_iff.mp e
    refine ⟨H,ay N.length ds,[],[],E',fl,⟨H,[],jB rp (by omega)⟩,rfl,e1,?_⟩
    cases fl with
    | nx=>
      cases e
      rintro σ' H' ⟨F',A',fr'⟩
      exact q _ _ (fr'.bf.trans fr'.fh) .non
    | bk=>cases e
    | ct=>cases e
    | rt r'=>
      rintro σ' v H' ⟨F',A',fr'⟩
      obtain ⟨s1,s2⟩:=fr'.resultO e
      exact q v H' s1 s2
  · cases e
end PL
namespace PL
open PySem L2 Nh PyProof.Rows
theorem tP {K:PySem.W.Frag} {a l:Addr} {xs:List V} {g:TG} {tt:TT} {te:TE} {Q:VK} {σi:L2.St} {H1:Hp} (Pv:Nat→L2.St→Hp→Prop) (h0:Pv 0 σi (upd H1 l (.lst []))) (hl:∀i σ H,i≤xs.length→Pv i σ H→SqL K H a xs)
    (hs:∀i x σ H,xs[i]? =some x→Pv i σ H→g x σ H fun σ3 H3=>tt σ3 H3 fun b H4=>if b=true then te σ3 H4 fun y H5=>∃ys,H5 l=some (.lst ys)∧ys.length < sizeLine∧Pv (i+1) σ3 (upd H5 l (.lst (ys++[y]))) else Pv (i+1) σ3 H4)
    (hd:∀σ H,Pv xs.length σ H→Q (.ref l) H):∃W:Nat→Nat→L2.St→Hp→Prop,(∃m,W 0 m σi (upd H1 l (.lst [])))∧
  ∀i m σ' H',W i m σ' H'→((AO K a).stop i H'∧Q (.ref l) H')∨((AO K a).go i H'∧∃N:L2.St→Hp→Prop,(∀σ' H',N σ' H'→∃m',m' < m∧W (i+1) m' σ' H')∧∀x H2,(AO K a).yld i H' x H2→g x σ' H2 fun σ3 H3=>tt σ3 H3 fun b H4=>
    if b=true then te σ3 H4 fun y H5=>∃ys,H5 l=some (.lst ys)∧ys.length < sizeLine∧N σ3 (upd H5 l (.lst (ys++[y]))) else N σ3 H4):=by
  refine ⟨fun i m σ H=>m=xs.length - i∧i≤xs.length∧Pv i σ H,⟨xs.length,by simp,Nat.zero_le _,h0⟩,?_⟩
  rintro i m σ H ⟨rfl,hi,p⟩
  have q:=hl i σ H hi p
  by_cases hlt:i < xs.length
  · refine .inr ⟨⟨xs,xs[i],q,by simp [hlt]⟩,Pv (i+1),fun σ' H' p'=>⟨xs.length - (i+1),by omega,rfl,hlt,p'⟩,fun x H' y=>?_⟩
    obtain ⟨e,y⟩:=y
    subst e
    exact hs i x σ _ (y xs q) p
  · have e:i=xs.length:=by omega
    subst e
    exact .inl ⟨⟨xs,q,Nat.le_refl _⟩,hd σ H p⟩
def jf (K:PySem.W.Frag) (c:List PyData→Option Sl) (ta:TE):TE:=fun σ H Q=>ta σ H fun v H1=>∃d r,c [d]=some r∧Rp K H1 v d∧∀v' H',Same H1 H'→ko K H1 H' v' r→Q v' H'
theorem jG {X:Cx} {o:Expr} {m:Str} {pos apos:Pos} {ta:TE} {k:Nat} {c:List PyData→Option Sl} {pl:Sem Bool} (D:DispM X.prog X.w X.K X.mg X.base k m c) (hr:Room k X.A) (he:PE X o ta)
    (ht:eval (.Call (.Attribute o m apos) [] [] pos) X.env=(do
      let ov ←eval o X.env
      standAt apos.atName
      let (f,first) ←holding [ov] (getMethod ov m pl)
      callWith pos f first (backTo pos (starEach [] X.env)) (backToKw pos (keywordEach [] X.env))):=by rfl):PE X (.Call (.Attribute o m apos) [] [] pos) (jf X.K c ta):=by
  intro pins s σ H Q I z
  refine PySem.W.methodCall_KW (pl:=pl) (cE (he pins s σ H _ I z) fun u t1 ⟨v,H1,I1,rv,d,r,e3,rp,q⟩=>?_) ht
  obtain ⟨p,C,dx,fs,rfl,hp,l,c1,c',e3',f0,fd,Fk,b,mt⟩:=D H1 v d r e3 rp
  obtain rfl:u=Value.ref p:=rv
  refine i9 I1 hp c1 mt l ?_
  exact PySem.W.callWith_K0 (first:=[.ref p]) I1.kIn mt.kp (qv (us:=[.ref p]) (vs:=[.ref p]) Fk hr b .nil rE I1 (.cons rfl .nil) ⟨[d],r,e3', .cons rp .nil,q⟩)
def gZ:List PyData→Option (List (PyData×PyData))
  | [.str n, .int t]=>some [(.str "nail", .str n),(.str "turns", .int t),(.str "size", .int 1)]
  | _=>none
def AS (c:List PyData→Option Sl):List PyData→Option (List Int)
  | []=>some []
  | d::r=>match c [d] with
    | some (.sh (.int z))=>(AS c r).map (z:: ·)
    | _=>none
def fD (c:List PyData→Option Sl):List PyData→Option (List (PyData×PyData))
  | [.list ds]=>(AS c ds).bind fun zs=>if a_ ds&&decide (ds.length≤1000000) then some [(.str "kept", .tuple ds),(.str "size", .int zs.sum)] else none
  | _=>none
def i3 (t:List (Str×(List PyData→Option Sl))):List PyData→Option Sl
  | [.dict ((.none, .tuple [.str cn])::kvs)]=>(t.lookup cn).bind fun c=>c [eO cn kvs]
  | _=>none
theorem xM {P:Program} {w:World} {K:PySem.W.Frag} {mg:Str→Option Value} {base:Heap} {k:Nat} {m:Str} {t:List (Str×(List PyData→Option Sl))} (hm:m∈kl) (h:∀cn c,t.lookup cn=some c→∃C,ClsOk K mg cn C∧OwnM P w K mg base k C m ["self"] (bV K c)):DispM P w K mg base k m (i3 t):=by
  intro H v d r e rp
  unfold i3 at e
  split at e
  · rename_i ds cn kvs ed
    cases ed
    obtain ⟨c,e1,e2⟩:=Option.bind_eq_some_iff.mp e
    obtain ⟨C,ck,ow⟩:=h cn c e1
    obtain ⟨p,C',dx,fs,rfl,ns,hp,nm,_⟩:=lL rp
    rw [ck.ns] at ns
    cases ns
    exact ⟨p,C,dx,fs,rfl,hp,nm m hm,ck.cl,c,e2,ow⟩
  · cases e
theorem OwnM.mono {P:Program} {w:World} {K:PySem.W.Frag} {mg:Str→Option Value} {base:Heap} {j k:Nat} {C:Addr} {m:Str} {ps:List Str} {sp:Sp} (h:OwnM P w K mg base j C m ps sp) (l:j≤k):OwnM P w K mg base k C m ps sp:=by
  obtain ⟨f,fd,F,b,mt⟩:=h.ex
  exact ⟨f,fd,F.mono l,b,mt⟩
theorem DispM.mono {P:Program} {w:World} {K:PySem.W.Frag} {mg:Str→Option Value} {base:Heap} {j k:Nat} {m:Str} {c:List PyData→Option Sl} (h:DispM P w K mg base j m c) (l:j≤k):DispM P w K mg base k m c:=fun H v d r e rp=>by
  obtain ⟨p,C,dx,fs,e1,e2,e3,e4,c',e5,ow⟩:=h H v d r e rp
  exact ⟨p,C,dx,fs,e1,e2,e3,e4,c',e5,ow.mono l⟩
def xN (K:PySem.W.Frag):TS:=nP (jX K (dQ 0) (dQ 1) "nail") (nP (jX K (dQ 0) (dQ 2) "turns") (jX K (dQ 0) (tC (.int 1)) "size"))
theorem xO {a b c:Str} {x y z:V} (h:∀m∈kl,m≠a∧m≠b∧m≠c):∀m∈kl,(b9 c z (b9 b y (b9 a x []))).lookup m=none:=fun m hm=>by
  obtain ⟨h1,h2,h3⟩:=h m hm
  rw [aC,if_neg h3,aC,if_neg h2,aC,if_neg h1]
  rfl
theorem eB (f:Str) (x:V) (fs:List (Str×V)):(b9 f x fs).length≤fs.length+1:=by have:=ir f x fs;omega
theorem nH {K:PySem.W.Frag} {C:Addr} {H:Hp} {vs:List V} {Q:VK} {E:XK} {D:Ends} {N:List Str} (cl:Cls K C) (n1:NoAttr K C "nail") (n2:NoAttr K C "turns") (n3:NoAttr K C "size") (h:mw K C gZ vs H Q E) (hD:∀σ H',Q .non H'→D.nx σ H') (hN:N.length=3:=by rfl):vs.length=3∧xN K D (L2.cy N vs) H:=by
  obtain ⟨x,dx,vs',ds,kvs,rfl,hx,e,⟨H0,x0,s0,r0⟩,k⟩:=h
  unfold gZ at e
  split at e
  rotate_left
  · cases e
  rename_i n t
  cases e
  obtain ⟨v1,v2,rfl,r1,r2⟩:=r0.two
  cases r1;cases r2
  refine ⟨rfl,?_⟩
  have hst:L2.cy N [.ref x, .str n, .int t]=[some (.ref x),some (.str n),some (.int t)]:=by unfold L2.cy;rw [hN];rfl
  rw [hst]
  refine ⟨_,rfl,_,rfl,x,C,dx,_,rfl,hx,cl,n1,by show 0 < 1000;decide,?_⟩
  refine ⟨_,rfl,_,rfl,x,C,dx,_,rfl,upd_same,cl,n2,by have:=eB "nail" (.str n) [];simp only [List.length_nil] at this;omega,?_⟩
  refine ⟨_,rfl,x,C,dx,_,rfl,upd_same,cl,n3,by have:=eB "nail" (.str n) [];have:=eB "turns" (.int t) (b9 "nail" (.str n) []);simp only [List.length_nil] at *;omega,?_⟩
  refine hD _ _ (k _ _ (fun b o hb hbo=>?_) upd_same (xO (by decide+kernel)) ?_)
  · rw [av hb,av hb,av hb];exact hbo
  · refine .cons (x:= .str n) ?_ (.str n) (.cons (x:= .int t) ?_ (.int t) (.cons (x:= .int 1) ?_ (.int 1) .nil))
    · rw [aC,if_neg (by decide+kernel),aC,if_neg (by decide+kernel),aC,if_pos rfl]
    · rw [aC,if_neg (by decide+kernel),aC,if_pos rfl]
    · rw [aC,if_pos rfl]
def Ak (K:PySem.W.Frag):List V→Hp→VK→Prop:=fun xs H Q=>∃p ys,xs=[.ref p]∧(SqL K H p ys∨SqT K H p ys)∧∀l,H l=none→Q (.ref l) (upd H l (.lst ys))
def Al (K:PySem.W.Frag):List V→Hp→VK→Prop:=fun xs H Q=>∃p ys,xs=[.ref p]∧((SqL K H p ys∧∀l,H l=none→Q (.ref l) (upd H l (.tup ys)))∨(SqT K H p ys∧Q (.ref p) H))
def xP (K:PySem.W.Frag) (c:List PyData→Option Sl):TS:=nP (jX K (dQ 0) (zH (Ak K) (pc (dQ 1) uU)) "parts") (nP (jX K (dQ 0) (zH (Al K) (pc (dQ 1) uU)) "kept")
  (jX K (dQ 0) (zH (Aj K) (pc (rJ [none] (yC K (dQ 1)) (o9 0) u9 (jf K c (dQ 0))) uU)) "size"))
theorem r_ {c:List PyData→Option Sl}:∀{ds:List PyData} {zs:List Int},AS c ds=some zs→zs.length=ds.length∧∀(i:Nat) (d:PyData),ds[i]? =some d→∃z,zs[i]? =some z∧c [d]=some (.sh (.int z))
  | [],zs,e=>by cases e;exact ⟨rfl,fun i d h=>by simp at h⟩
  | d::r,zs,e=>by
    unfold AS at e
    split at e
    · rename_i z hc
      obtain ⟨zs',e1,rfl⟩:=Option.map_eq_some_iff.mp e
      obtain ⟨h1,h2⟩:=r_ e1
      refine ⟨by simp [h1],fun i d' h=>?_⟩
      cases i with
      | zero=>simp at h;subst h;exact ⟨z,rfl,hc⟩
      | succ i=>simpa using h2 i d' (by simpa using h)
    · cases e
theorem nI {K:PySem.W.Frag} {C:Addr} {c:List PyData→Option Sl} {H:Hp} {vs:List V} {Q:VK} {E:XK} {D:Ends} {N:List Str} (cl:Cls K C) (n1:NoAttr K C "parts") (n2:NoAttr K C "kept") (n3:NoAttr K C "size") (h:mw K C (fD c) vs H Q E) (hD:∀σ H',Q .non H'→D.nx σ H') (hN:N.length=2:=by rfl):vs.length=2∧xP K c D (L2.cy N vs) H:=by
  obtain ⟨x,dx,vs',ds,kvs,rfl,hx,e,⟨H0,x0,s0,r0⟩,k⟩:=h
  unfold fD at e
  split at e
  rotate_left
  · cases e
  rename_i ds
  obtain ⟨zs,ez,e⟩:=Option.bind_eq_some_iff.mp e
  split at e
  rotate_left
  · cases e
  rename_i hf
  cases e
  obtain ⟨hf,hlen⟩:=Bool.and_eq_true_iff.mp hf
  have hlen:ds.length≤1000000:=by simpa using hlen
  cases r0 with
  | @cons v _ _ _ r1 r2=>
  cases r2
  cases r1 with
  | @lst a ws _ hq hr=>
  obtain ⟨zl,zg⟩:=r_ ez
  have wl:=hr.len
  refine ⟨rfl,?_⟩
  have hst:L2.cy N [.ref x, .ref a]=[some (.ref x),some (.ref a)]:=by unfold L2.cy;rw [hN];rfl
  rw [hst]
  refine ⟨_,rfl,a,ws,rfl, .inl (s0.seq hq),fun l hl=>?_⟩
  have xl:x≠l:=fun z=>by rw [z,hl] at hx;cases hx
  refine ⟨_,rfl,x,C,dx,_,rfl,by rw [av xl];exact hx,cl,n1,by show 0 < 1000;decide,?_⟩
  have g2:Same H0 (upd (upd H l (.lst ws)) x (.ins C dx (b9 "parts" (.ref l) []))):=fun b o z=>by
    rw [av (aL z x0),av (aL (s0 _ _ z) hl)];exact s0 _ _ z
  refine ⟨_,rfl,a,ws,rfl, .inl ⟨g2.seq hq,fun t ht=>?_⟩⟩
  have xt:x≠t:=fun z=>by rw [←z,upd_same] at ht;cases ht
  have tl:t≠l:=fun z=>by rw [z,av xl.symm,upd_same] at ht;cases ht
  have tH:H t=none:=by rw [av xt.symm,av tl] at ht;exact ht
  refine ⟨_,rfl,x,C,dx,_,rfl,by rw [av xt];exact upd_same,cl,n2,by have:=eB "parts" (.ref l) [];simp only [List.length_nil] at this;omega,?_⟩
  generalize hH4:upd (upd (upd (upd H l (.lst ws)) x (.ins C dx (b9 "parts" (.ref l) []))) t (.tup ws)) x (.ins C dx (b9 "kept" (.ref t) (b9 "parts" (.ref l) [])))=H4
  have x4:H4 x=some (.ins C dx (b9 "kept" (.ref t) (b9 "parts" (.ref l) []))):=by rw [←hH4,upd_same]
  have t4:H4 t=some (.tup ws):=by rw [←hH4,av xt.symm,upd_same]
  have b4:∀b o,b≠x→H b=some o→H4 b=some o:=fun b o hb z=>by
    rw [←hH4,av hb,av (aL z tH),av hb,av (aL z hl)];exact z
  have g4:Same H0 H4:=fun b o z=>b4 b o (aL z x0) (s0 _ _ z)
  refine ⟨_,rfl,a,rfl,⟨ws,g4.seq hq⟩,fun lc hlc=>?_⟩
  refine tP (K:=K) (a:=a) (xs:=ws) (g:=o9 0) (tt:=u9) (te:=jf K c (dQ 0)) (σi:=[none]) (Q:=fun y H5=>Aj K [y] H5 fun z H6=>dQ 0 [some (.ref x),some (.ref a)] H6 fun u H7=>∃a' C' dx' fs',u= .ref a'∧H7 a'=some (.ins C' dx' fs')∧Cls K C'∧NoAttr K C' "size"∧fs'.length < 1000∧D.nx [some (.ref x),some (.ref a)] (upd H7 a' (.ins C' dx' (b9 "size" z fs')))) (fun i σ H'=>(∃y,σ=[y])∧Same H4 H'∧H' lc=some (.lst ((zs.take i).map V.int))) ⟨⟨_,rfl⟩,gJ hlc _,by rw [upd_same];rfl⟩ (fun i σ H' _ ⟨_,s4,_⟩=>(g4.trans s4).seq hq) (fun i y σ H' hy ⟨⟨y0,es⟩,s4,hl4⟩=>?_) fun σ H' ⟨⟨y0,es⟩,s4,hl4⟩=>?_
  · subst es
    refine sW ?_
    obtain ⟨d,ed,rd⟩:=hr.getV hy
    obtain ⟨z,ez',ec⟩:=zg i d ed
    refine ⟨y,rfl,d,_,ec,rd.same (g4.trans s4),fun v' H5 s5 rv=>?_⟩
    have rv:Rp K (tups H5) v' (.int z):=rv
    cases rv
    have hi:i < ws.length:=(List.getElem?_eq_some_iff.mp hy).1
    refine ⟨_,s5 _ _ hl4,rP (by rw [List.length_map,List.length_take];omega),⟨_,rfl⟩,fun b o e=>?_,?_⟩
    · rw [av (aL e hlc)];exact s5 _ _ (s4 _ _ e)
    · rw [upd_same,List.take_add_one,ez'];simp
  · subst es
    have tk:zs.take ws.length=zs:=List.take_of_length_le (by omega)
    rw [tk] at hl4
    refine ⟨lc,zs,rfl,SqL.of hl4,_,rfl,x,C,dx,_,rfl,s4 _ _ x4,cl,n3,by have:=eB "parts" (.ref l) [];have:=eB "kept" (.ref t) (b9 "parts" (.ref l) []);simp only [List.length_nil] at *;omega,?_⟩
    refine hD _ _ (k _ _ (fun b o hb hbo=>?_) upd_same (xO (by decide+kernel)) ?_)
    · rw [av hb];exact s4 _ _ (b4 b o hb hbo)
    · have t6:(upd H' x (.ins C dx (b9 "size" (.int zs.sum) (b9 "kept" (.ref t) (b9 "parts" (.ref l) []))))) t=some (.tup ws):=by rw [av xt.symm];exact s4 _ _ t4
      have g6:Same H0 (upd H' x (.ins C dx (b9 "size" (.int zs.sum) (b9 "kept" (.ref t) (b9 "parts" (.ref l) []))))):=fun b o z=>by rw [av (aL z x0)];exact s4 _ _ (g4 _ _ z)
      refine .cons (x:= .ref t) ?_ (.tup (.inl (.inl (fA t6 rfl))) ((hr.same g6).cold hf)) (.cons (x:= .int zs.sum) ?_ (.int _) .nil)
      · rw [aC,if_neg (by decide+kernel),aC,if_pos rfl]
      · rw [aC,if_pos rfl]
end PL
namespace PL
open PySem L2 Nh
open PySem.W (nsIn codeIn keepIn fnOf findIn isFn)
structure CF (K:PySem.W.Frag) (cn:Str) (C:Addr):Prop where
  ns:nsIn K mainGlobals cn=some (some (.ref C))
  pg:PySem.W.plainGet K C Str.empty=true
  hd:PySem.W.hasDictIn K C=true
  po:PySem.W.plainOver K C=true
  sa:findIn K (.ref C) "__setattr__"=some (some (.builtin "object.__setattr__"))
  mi:PySem.W.makesIn K C=true
  kc:keepIn K (.ref C)=true
theorem CF.ok {K:PySem.W.Frag} {h:Heap} {mg:Str→Option Value} {cn:Str} {C:Addr} (c:CF K cn C) (X:K.In h) (G:h.Ns mainGlobals mg):ClsOk K mg cn C:=⟨c.ns,PySem.W.mg_of X G c.ns,c.pg,c.hd,c.po,c.sa⟩
def HM (K:PySem.W.Frag) (C:Addr) (m qn:Str) (st:Stmt):Prop:=∃(f:Addr) (oc:Value) (od an:Option Addr) (sl:Array (Option Value)) (kV dc pm cd ct:Value),findIn K (.ref C) m=some (some (.ref f))∧isFn K (.ref f)=true∧K.lookup f=some ⟨oc,od, .func (fnOf m qn (cJ st) (bE st) (ai st) .none kV dc pm an cd ct),sl⟩∧codeIn K cd qn=true∧keepIn K (.ref f)=true
theorem sd {K:PySem.W.Frag} {C:Addr} {m qn:Str} {st:Stmt} {f:Addr} {oc:Value} {od an:Option Addr} {sl:Array (Option Value)} {kV dc pm cd ct:Value} (a:findIn K (.ref C) m=some (some (.ref f))) (i:isFn K (.ref f)=true) (l:K.lookup f=some ⟨oc,od, .func (fnOf m qn (cJ st) (bE st) (ai st) .none kV dc pm an cd ct),sl⟩) (c:codeIn K cd qn=true) (k:keepIn K (.ref f)=true):HM K C m qn st:=⟨f,oc,od,an,sl,kV,dc,pm,cd,ct,a,i,l,c,k⟩
section
variable {P:Program} {w:World} {K:PySem.W.Frag} {mg:Str→Option Value} {base:Heap} {k:Nat} {C:Addr} {cn m qn:Str} {st:Stmt} {ps:List Str} {sp:Sp}
theorem HM.own (h:HM K C m qn st) (F:∀f fd,Fun K m qn st f fd→FnOk P w K mg base iu k f fd ps sp) (b:∀(kV doc pm:Value) (an:Option Addr) (cdv ct:Value) (us:List Value),us.length=ps.length→bindArgs (fnOf m qn (cJ st) (bE st) (ai st) .none kV doc pm an cdv ct) ⟨us,[]⟩=pure (ps.zip us)):OwnM P w K mg base k C m ps sp:=by
  obtain ⟨f,oc,od,an,sl,kV,dc,pm,cd,ct,a,i,l,c,kp⟩:=h
  have D:=jY (st:=st) l c kp
  exact ⟨f,_,F _ _ D,D.binds b,a,i,kp⟩
theorem HM.mkOk {c:List PyData→Option (List (PyData×PyData))} (h:HM K C "__init__" qn st) (cf:CF K cn C) (ck:ClsOk K mg cn C) (F:∀f fd,Fun K "__init__" qn st f fd→FnOk P w K mg base iu k f fd ps (mw K C c)) (b:∀(kV doc pm:Value) (an:Option Addr) (cdv ct:Value) (us:List Value),us.length=ps.length→bindArgs (fnOf "__init__" qn (cJ st) (bE st) (ai st) .none kV doc pm an cdv ct) ⟨us,[]⟩=pure (ps.zip us)):MkOk P w K mg base k cn ps c:=by
  obtain ⟨f,oc,od,an,sl,kV,dc,pm,cd,ct,a,i,l,c,kp⟩:=h
  have D:=jY (st:=st) l c kp
  exact ⟨C,f,_,ck,⟨cf.mi,a,i,cf.kc⟩,F _ _ D,D.binds b⟩
end
theorem yT {P:Program} {w:World} {K:PySem.W.Frag} {mg:Str→Option Value} {base:Heap} {k:Nat} {m:Str}:DispM P w K mg base k m (fun _=>none):=fun _ _ _ _ e=>nomatch e
end PL
namespace PL
open PySem L2 Nh PyProof.Rows
def wL (c:List PyData→Option Sl) (d:PyData):Option Int:=match c [d] with
  | some (.sh (.int z))=>some z
  | _=>none
theorem qJ {c:List PyData→Option Sl} {d:PyData} {z:Int} (h:wL c d=some z):c [d]=some (.sh (.int z)):=by
  unfold wL at h
  split at h
  · rename_i y e;cases h;exact e
  · cases h
def aK (k:Int):Int:=if k < 0 then -k else k
def fE (c:List PyData→Option Sl):List PyData→Option (List (PyData×PyData))
  | [d, .int k]=>(wL c d).bind fun z=>if aN d&&b7 z (aK k) then some [(.str "body",d),(.str "number", .int k),(.str "size", .int (z*aK k))] else none
  | _=>none
def g3 (c:List PyData→Option Sl):List PyData→Option (List (PyData×PyData))
  | [d,e]=>(wL c d).bind fun z=>(wL c e).bind fun y=>if aN d&&aN e then some [(.str "one",d),(.str "other",e),(.str "size", .int (2*(z+y)))] else none
  | _=>none
def Db:List V→Hp→VK→Prop:=fun xs H Q=>∃i,xs=[.int i]∧Q (.int (if i < 0 then -i else i)) H
def xQ (K:PySem.W.Frag) (c:List PyData→Option Sl):TS:=nP (jX K (dQ 0) (dQ 1) "body") (nP (jX K (dQ 0) (dQ 2) "number") (jX K (dQ 0) (yD (rQ K) (jf K c (dQ 1)) (zH Db (pc (dQ 2) uU))) "size"))
def Am (K:PySem.W.Frag) (c:List PyData→Option Sl):TS:=nP (jX K (dQ 0) (dQ 1) "one") (nP (jX K (dQ 0) (dQ 2) "other") (jX K (dQ 0) (yD (rQ K) (tC (.int 2)) (yD (wW fun i j=> .int (i+j)) (jf K c (dQ 1)) (jf K c (dQ 2)))) "size"))
theorem kG (f:Str) (x:V):(b9 f x []).length < 1000:=by have:=eB f x [];simp only [List.length_nil] at this;omega
theorem jg (f g:Str) (x y:V):(b9 g y (b9 f x [])).length < 1000:=by have:=eB f x [];have:=eB g y (b9 f x []);simp only [List.length_nil] at *;omega
theorem nJ {K:PySem.W.Frag} {C:Addr} {c:List PyData→Option Sl} {H:Hp} {vs:List V} {Q:VK} {E:XK} {D:Ends} {N:List Str} (cl:Cls K C) (n1:NoAttr K C "body") (n2:NoAttr K C "number") (n3:NoAttr K C "size") (h:mw K C (fE c) vs H Q E) (hD:∀σ H',Q .non H'→D.nx σ H') (hN:N.length=3:=by rfl):vs.length=3∧xQ K c D (L2.cy N vs) H:=by
  obtain ⟨x,dx,vs',ds,kvs,rfl,hx,e,⟨H0,x0,s0,r0⟩,k⟩:=h
  unfold fE at e
  split at e
  rotate_left
  · cases e
  rename_i d n
  obtain ⟨z,ez,e⟩:=Option.bind_eq_some_iff.mp e
  split at e
  rotate_left
  · cases e
  rename_i hf
  cases e
  obtain ⟨hf,hm⟩:=Bool.and_eq_true_iff.mp hf
  have ez:=qJ ez
  obtain ⟨v1,v2,rfl,r1,r2⟩:=r0.two
  cases r2
  refine ⟨rfl,?_⟩
  have hst:L2.cy N [.ref x,v1, .int n]=[some (.ref x),some v1,some (.int n)]:=by unfold L2.cy;rw [hN];rfl
  rw [hst]
  have gg:∀fs,Same H0 (upd H x (.ins C dx fs)):=fun fs b o y=>by rw [av (aL y x0)];exact s0 _ _ y
  refine ⟨_,rfl,_,rfl,x,C,dx,_,rfl,hx,cl,n1,by show 0 < 1000;decide,?_⟩
  refine ⟨_,rfl,_,rfl,x,C,dx,_,rfl,upd_same,cl,n2,kG _ _,?_⟩
  rw [nO]
  refine ⟨v1,rfl,d,_,ez,r1.same (gg _),fun v' H' s' rv=>?_⟩
  have rv:Rp K (tups H') v' (.int z):=rv
  cases rv
  refine ⟨_,rfl,n,rfl, .inl ⟨z,aK n,rfl,rfl,hm,_,rfl,x,C,dx,_,rfl,s' _ _ upd_same,cl,n3,jg _ _ _ _,?_⟩⟩
  have g6:Same H0 (upd H' x (.ins C dx (b9 "size" (.int (z*aK n)) (b9 "number" (.int n) (b9 "body" v1 []))))):=fun b o y=>by rw [av (aL y x0)];exact s' _ _ (gg _ b o y)
  refine hD _ _ (k _ _ (fun b o hb hbo=>?_) upd_same (xO (by decide+kernel)) ?_)
  · rw [av hb];exact s' _ _ (by rw [av hb];exact hbo)
  · refine .cons (x:=v1) ?_ ((r1.same g6).cold hf) (.cons (x:= .int n) ?_ (.int n) (.cons (x:= .int (z*aK n)) ?_ (.int _) .nil))
    · rw [aC,if_neg (by decide+kernel),aC,if_neg (by decide+kernel),aC,if_pos rfl]
    · rw [aC,if_neg (by decide+kernel),aC,if_pos rfl]
    · rw [aC,if_pos rfl]
theorem pN {K:PySem.W.Frag} {C:Addr} {c:List PyData→Option Sl} {H:Hp} {vs:List V} {Q:VK} {E:XK} {D:Ends} {N:List Str} (cl:Cls K C) (n1:NoAttr K C "one") (n2:NoAttr K C "other") (n3:NoAttr K C "size") (h:mw K C (g3 c) vs H Q E) (hD:∀σ H',Q .non H'→D.nx σ H') (hN:N.length=3:=by rfl):vs.length=3∧Am K c D (L2.cy N vs) H:=by
  obtain ⟨x,dx,vs',ds,kvs,rfl,hx,e,⟨H0,x0,s0,r0⟩,k⟩:=h
  unfold g3 at e
  split at e
  rotate_left
  · cases e
  rename_i d d2
  obtain ⟨z,ez,e⟩:=Option.bind_eq_some_iff.mp e
  obtain ⟨y,ey,e⟩:=Option.bind_eq_some_iff.mp e
  split at e
  rotate_left
  · cases e
  rename_i hf
  cases e
  obtain ⟨hf,hf2⟩:=Bool.and_eq_true_iff.mp hf
  have ez:=qJ ez
  have ey:=qJ ey
  obtain ⟨v1,v2,rfl,r1,r2⟩:=r0.two
  refine ⟨rfl,?_⟩
  have hst:L2.cy N [.ref x,v1,v2]=[some (.ref x),some v1,some v2]:=by unfold L2.cy;rw [hN];rfl
  rw [hst]
  have gg:∀fs,Same H0 (upd H x (.ins C dx fs)):=fun fs b o y=>by rw [av (aL y x0)];exact s0 _ _ y
  refine ⟨_,rfl,_,rfl,x,C,dx,_,rfl,hx,cl,n1,by show 0 < 1000;decide,?_⟩
  refine ⟨_,rfl,_,rfl,x,C,dx,_,rfl,upd_same,cl,n2,kG _ _,?_⟩
  rw [nO]
  refine ⟨v1,rfl,d,_,ez,r1.same (gg _),fun v' H' s' rv=>?_⟩
  have rv:Rp K (tups H') v' (.int z):=rv
  cases rv
  have g1:Same H0 H':=(gg _).trans s'
  refine ⟨v2,rfl,d2,_,ey,r2.same g1,fun v' H2 s2 rv=>?_⟩
  have rv:Rp K (tups H2) v' (.int y):=rv
  cases rv
  refine ⟨z,y,rfl,rfl, .inl ⟨2,z+y,rfl,rfl,(by show b7 2 (z+y)=true;unfold b7;rw [decide_eq_true (show (-(2 ^ 64):Int) < 2∧(2:Int) < 2 ^ 64 by decide)];rfl),_,rfl,x,C,dx,_,rfl,s2 _ _ (s' _ _ upd_same),cl,n3,jg _ _ _ _,?_⟩⟩
  have g6:Same H0 (upd H2 x (.ins C dx (b9 "size" (.int (2*(z+y))) (b9 "other" v2 (b9 "one" v1 []))))):=fun b o q=>by rw [av (aL q x0)];exact s2 _ _ (g1 b o q)
  refine hD _ _ (k _ _ (fun b o hb hbo=>?_) upd_same (xO (by decide+kernel)) ?_)
  · rw [av hb];exact s2 _ _ (s' _ _ (by rw [av hb];exact hbo))
  · refine .cons (x:=v1) ?_ ((r1.same g6).cold hf) (.cons (x:=v2) ?_ ((r2.same g6).cold hf2) (.cons (x:= .int (2*(z+y))) ?_ (.int _) .nil))
    · rw [aC,if_neg (by decide+kernel),aC,if_neg (by decide+kernel),aC,if_pos rfl]
    · rw [aC,if_neg (by decide+kernel),aC,if_pos rfl]
    · rw [aC,if_pos rfl]
end PL
namespace PL
open PySem L2 Nh
theorem lM {α:Type} {cn:Str} {c:α}:∀{t:List (Str×α)},t.lookup cn=some c→(cn,c)∈t
  | [],h=>by cases h
  | (x,a)::t,h=>by
    rw [List.lookup_cons] at h
    split at h
    · rename_i z
      cases h
      rw [beq_iff_eq.mp z]
      exact List.mem_cons_self ..
    · exact List.mem_cons_of_mem _ (lM h)
inductive Disp (P:Program) (w:World) (K:PySem.W.Frag) (mg:Str→Option Value) (base:Heap) (k:Nat) (m:Str):List (Str×(List PyData→Option Sl))→Prop
  | nil:Disp P w K mg base k m []
  | cons {x:Str} {C:Addr} {a:List PyData→Option Sl} {t:List (Str×(List PyData→Option Sl))}:ClsOk K mg x C→OwnM P w K mg base k C m ["self"] (bV K a)→Disp P w K mg base k m t→Disp P w K mg base k m ((x,a)::t)
theorem Disp.at {P:Program} {w:World} {K:PySem.W.Frag} {mg:Str→Option Value} {base:Heap} {k:Nat} {m:Str} {cn:Str} {c:List PyData→Option Sl}:∀{t:List (Str×(List PyData→Option Sl))},Disp P w K mg base k m t→(cn,c)∈t→∃C,ClsOk K mg cn C∧OwnM P w K mg base k C m ["self"] (bV K c)
  | _, .nil,h=>nomatch h
  | _, .cons ck ow r,h=>by
    rcases List.mem_cons.mp h with e | e
    · cases e;exact ⟨_,ck,ow⟩
    · exact r.at e
theorem Disp.ok {P:Program} {w:World} {K:PySem.W.Frag} {mg:Str→Option Value} {base:Heap} {k:Nat} {m:Str} {t:List (Str×(List PyData→Option Sl))} (h:Disp P w K mg base k m t) (hm:m∈kl):DispM P w K mg base k m (i3 t):=xM hm fun _ _ e=>h.at (lM e)
inductive Frees (K:PySem.W.Frag) (mg:Str→Option Value) (f:Str):List Str→Prop
  | nil:Frees K mg f []
  | cons {x:Str} {C:Addr} {t:List Str}:ClsOk K mg x C→NoAttr K C f→Frees K mg f t→Frees K mg f (x::t)
theorem Frees.ok {K:PySem.W.Frag} {mg:Str→Option Value} {f:Str}:∀{cs:List Str},Frees K mg f cs→∀cn∈cs,∀C,PySem.W.nsIn K mainGlobals cn=some (some (.ref C))→Cls K C∧NoAttr K C f
  | _, .nil,_,h,_,_=>nomatch h
  | _, .cons ck n r,cn,h,C,ns=>by
    rcases List.mem_cons.mp h with e | e
    · subst e
      rw [ck.ns] at ns
      cases ns
      exact ⟨ck.cl,n⟩
    · exact r.ok cn e C ns
end PL
namespace PL
open PySem L2 Nh PyProof.Rows
structure IsC (K:PySem.W.Frag) (C:Addr):Prop where
  hg:PySem.W.plainGet K C "__class__"=true
  hd:PySem.W.hasDictIn K C=true
  ha:PySem.W.findIn K (.ref C) "__class__"=some (some (.builtin "object.__class__"))
  hn:PySem.W.specialIn K (.builtin "object.__class__") "__get__"=some (some (.builtin "getset_descriptor.__get__"))
  ht:PySem.W.takesIn K (.builtin "object.__class__")=some true
  hm:PySem.W.mroIn K C (.type "object")=some true
theorem qK {X:Cx} {pins:List (Addr×Obj)} {s:Shared} {σ:L2.St} {H:Hp} {p C dx D:Addr} {fs:List (Str×V)} {b:Bool} {A:Around} {E:Value→Shared→Prop} {Q:Value→Shared→Prop} (I:Inv X pins σ H s) (e:H p=some (.ins C dx fs)) (z:IsC X.K C) (ek:PySem.W.kitOne X.K (.ref C) (.ref D)=some b) (h:∀tk,Q (.bool b) {s with toks:=tk}):
    wpAny (model X.prog X.w) A (call (.builtin "isinstance") [.ref p, .ref D]) Q E s:=by
  obtain ⟨mA,O,_⟩:=jr I.hok e
  obtain ⟨od,ia,_⟩:=O.look
  exact PySem.W.kia_one (PySem.W.kitx_own (ox:=PySem.W.instObj C dx) (od:=od) z.hg z.hd z.ha z.hn z.ht z.hm) I.kIn ia ek (fun z=>nomatch z) h
inductive IsRow (K:PySem.W.Frag) (D:Addr):List (Str×Bool)→Prop
  | nil:IsRow K D []
  | cons {x:Str} {C:Addr} {b:Bool} {t:List (Str×Bool)}:PySem.W.nsIn K mainGlobals x=some (some (.ref C))→IsC K C→PySem.W.kitOne K (.ref C) (.ref D)=some b→IsRow K D t→IsRow K D ((x,b)::t)
theorem IsRow.at {K:PySem.W.Frag} {D:Addr} {cn:Str} {b:Bool}:∀{t:List (Str×Bool)},IsRow K D t→(cn,b)∈t→∃C,PySem.W.nsIn K mainGlobals cn=some (some (.ref C))∧IsC K C∧PySem.W.kitOne K (.ref C) (.ref D)=some b
  | _, .nil,h=>nomatch h
  | _, .cons n c k r,h=>by
    rcases List.mem_cons.mp h with e | e
    · cases e;exact ⟨_,n,c,k⟩
    · exact r.at e
def qL (t:List (Str×Bool)):PyData→Option PyData
  | .dict ((.none, .tuple [.str cn])::_)=>(t.lookup cn).map PyData.bool
  | _=>none
theorem vM {X:Cx} {D:Addr} {t:List (Str×Bool)} (R:IsRow X.K D t):CallR X (.builtin "isinstance") (fun xs H Q=>∃x d r,xs=[x, .ref D]∧Rp X.K H x d∧qL t d=some r∧∀b,r= .bool b→Q (.bl b) H):=by
  intro pins s σ H xs us Q I r h
  obtain ⟨x,d,r',rfl,rp,hd,q⟩:=h
  obtain ⟨u,w',rfl,ru,rw'⟩:=r.two
  cases (show w'=Value.ref D from rw')
  unfold qL at hd
  split at hd
  · rename_i cn kvs
    obtain ⟨b,e1,e2⟩:=Option.map_eq_some_iff.mp hd
    obtain ⟨p,C,dx,fs,rfl,ns,hp,_,_⟩:=lL rp
    obtain ⟨C',ns',ic,ek⟩:=R.at (lM e1)
    rw [ns] at ns'
    cases ns'
    cases (show u=Value.ref p from ru)
    exact qK I hp ic ek fun tk=>⟨.bl b,H,I.tok _,rfl,q b e2.symm⟩
  · cases hd
theorem An {X:Cx} {e:Expr} {m1:Bool} {f:b_} {p p2 pos:Pos} {x:Str} {D:Addr} {t:List (Str×Bool)} (R:IsRow X.K D t) (hg:Gl X "isinstance") (hm:X.mg "isinstance"=none) (ha:EX X e m1 f) (hgx:Gl X x) (hmx:X.mg x=some (.ref D)) (hdx:(x == ("__debug__":Str))=false:=by decide)
    (he:starEach [e, .Name x p2] X.env=(false,eval e X.env)::starEach [.Name x p2] X.env:=by rfl) (he2:starEach [.Name x p2] X.env=[(false,eval (.Name x p2) X.env)]:=by rfl) (hpl:(backTo pos (starEach [.Name x p2] X.env)).any (·.1)=false:=by rfl):
    EX X (.Call (.Name "isinstance" p) [e, .Name x p2] [] pos) m1 (dB (qL t) f):=by
  have h2:PE X (.Name x p2) (tC (.ref D)):=fun pins s σ H Q I h=>gP I hgx hmx ⟨.ref D,H,I,rfl,h⟩ hdx
  refine bi (gE (vM R) hg hm PyProof.Rows.boot_isinstance (bG ha (bG h2 dy he2) he) (by decide) (by decide) he hpl) fun σ H Q z=>?_
  obtain ⟨B,E,xs,Xs,res,E',fr,cl,e,q⟩:=z
  obtain ⟨⟨s,E1⟩,e1,e⟩:=Option.bind_eq_some_iff.mp e
  obtain ⟨d1,e2,e⟩:=Option.bind_eq_some_iff.mp e
  obtain ⟨d2,e3,e⟩:=Option.map_eq_some_iff.mp e
  cases e
  refine ⟨B,E,xs,Xs,s,E1,fr,cl,e1,fun v1 H1 ⟨F,A,fr1⟩=>?_⟩
  obtain ⟨A',fr2⟩:=fr1.pop
  exact ⟨v1,d1,d2,rfl,(fr1.look0 e2).1,e3,fun b z=>q _ _ ⟨F,A',fr2.push ⟨rfl,_,rfl,z▸ .bl b⟩⟩⟩
end PL
namespace PL
open PySem PySem.Spec PyProof.Rows L2 Nh PySem.W PySem.Calls Builtin Builtin.ObjectAttr Builtin.Getset_descriptor
structure ExCls (K:Frag) (C:Addr):Prop where
  cls:∃cd,clsIn K C=some cd
  ga:findIn K (.ref C) "__getattribute__"=some (some (.builtin "BaseException.__getattribute__"))
  gt:findIn K (.ref C) "__getattr__"=some none
  ca:findIn K (.ref C) "__class__"=some (some (.builtin "object.__class__"))
  mb:mroIn K C (.type "BaseException")=some true
  mo:mroIn K C (.type "object")=some true
section
variable {K:Frag} {a C:Addr} {M:Model} {h:Heap}
theorem j_ (p:fv a C h):Looks M h (typeOf (.ref a)) (.ref C):=by
  obtain ⟨o,h1,h2⟩:=p
  exact h2▸(Looks.ld h1).andThen .now
theorem xR {prog:Program} {w:World} {A:Around} {R:Result→Shared→Prop} {s:Shared} {tp:Value} (Z:ExCls K C) (X:K.In s.heap) (I:fv a C s.heap) (h:R (.ok (.ret (.ref C))) s):
    codeAny (model prog w) A (.call (.builtin "getset_descriptor.__get__") ⟨[.builtin "object.__class__", .ref a,tp],[]⟩) R s:=by
  obtain ⟨hh,g,dr,t,os⟩:=s
  have L0:=j_ (M:=model prog w) I
  have L1:=looks_mroIn (M:=model prog w) X Z.mo
  refine codeAny_call_builtin KF.slot_gs.plain KF.entry_gs (KF.slot_gs.check _ _ _ _ _ _ _ _ KF.type_class (KF.args_gs _ _ _) ?_)
  unfold Builtin.«getset_descriptor.__get__» descrGet
  rw [dga_obj]
  refine wpAny_bind (wpAny_pure ?_)
  unfold descrGetter descrCheckInstance descrNameAndClass isInstance
  simp only [KF.owner_class]
  repeat lk
  refine ⟨Code.quiet_builtin _ (by decide+kernel),codeAny_builtin KF.entry_class ?_⟩
  unfold Builtin.«object.__class__» shownTypeOf
  repeat lk
  exact h
theorem tQ {prog:Program} {w:World} {A:Around} {E:Value→Shared→Prop} {Q:Fin→Shared→Prop} {s:Shared} {tk:Tok} (Z:ExCls K C) (X:K.In s.heap) (I:fv a C s.heap) (h:Q (.done (.ret (.ref C))) s):
    wpAny (model prog w) A (Builtin.«object.__getattribute__» ⟨[.ref a, .str "__class__" tk],[]⟩) Q E s:=by
  obtain ⟨hh,g,dr,t,os⟩:=s
  have L0:=j_ (M:=model prog w) I
  have L1:=looks_findIn (M:=model prog w) X Z.ca
  have hT5:(⟨hh,g,dr,t,os⟩:Shared).TypeIs (.builtin "object.__class__") "getset_descriptor":=F.typeOf_object_class
  have f5:=F.typeOf_object_class
  have f6:=F.slot_gs_get.lookup
  have f7:=F.slot_gs_set.lookup
  repeat (any_goals (first | assumption | with_reducible refine L0.at ?_ | with_reducible refine L1.at ?_ | wp_step))
  refine xR Z X I ?_
  repeat (any_goals (first | assumption | wp_step))
theorem tR {A:Around} {E:Value→Shared→Prop} {nameV:Value} {Q:Unit→Shared→Prop} {s:Shared} (Z:ExCls K C) (X:K.In s.heap) (I:fv a C s.heap) (hq:Q () s):wpAny M A (checkBuiltinCall "BaseException.__getattribute__" ⟨[.ref a,nameV],[]⟩) Q E s:=by
  obtain ⟨hh,g,dr,t,os⟩:=s
  have L0:=j_ (M:=M) I
  have L1:=looks_mroIn (M:=M) X Z.mb
  have hk:builtinKind "BaseException.__getattribute__"=some .slot:=by decide+kernel
  have hsplit:splitId "BaseException.__getattribute__"=some ("BaseException","__getattribute__"):=by decide+kernel
  have ha:=F.args_bexc_ga (.ref a) nameV
  simp only [checkBuiltinCall,hk,hsplit]
  refine wpAny_bind ?_
  unfold isInstance
  repeat (first | with_reducible refine L0.at ?_ | with_reducible refine L1.at ?_ | wp_step)
  exact hq
theorem Ao {prog:Program} {w:World} {A:Around} {E:Value→Shared→Prop} {Q:Value→Shared→Prop} {s:Shared} {tk:Tok} {fill expr:Bool} (Z:ExCls K C) (X:K.In s.heap) (I:fv a C s.heap) (hq:Q (.ref C) s):
    wpAny (model prog w) A (getAttrBy (.ref a) (.str "__class__" tk) fill expr) Q E s:=by
  obtain ⟨hh,g,dr,t,os⟩:=s
  have L0:=j_ (M:=model prog w) I
  have L1:=looks_findIn (M:=model prog w) X Z.ga
  have L2:=looks_findIn (M:=model prog w) X Z.gt
  have f3:=F.attr_ValueError.ga.bind (.ref a)
  have hx0:(expr&&onTheHeap (Value.builtin "BaseException.__getattribute__"))=false:=by cases expr <;> rfl
  have hx2:(Value.builtin "BaseException.__getattribute__" == Value.builtin "object.__getattribute__")=false:=by decide+kernel
  have hx1:(onTheHeap (Value.ref C)&&Value.builtin "BaseException.__getattribute__" == Value.builtin "object.__getattribute__")=false:=by rw [hx2];rfl
  repeat (any_goals (first | assumption | with_reducible refine L0.at ?_ | with_reducible refine L1.at ?_ | with_reducible refine L2.at ?_ | wp_step))
  refine codeAny_call_builtin F.attr_ValueError.ga.plain F.entry_bexc_ga (tR Z X I (tQ Z X I ?_))
  repeat (any_goals (first | assumption | wp_step))
theorem vN {prog:Program} {w:World} {A:Around} {E:Value→Shared→Prop} {Q:Option Value→Shared→Prop} {s:Shared} (Z:ExCls K C) (X:K.In s.heap) (I:fv a C s.heap) (hq:Q (some (.ref C)) {s with toks:=s.toks+1}):
    wpAny (model prog w) A (getAttr? (.ref a) "__class__") Q E s:=by
  obtain ⟨hh,g,dr,t,os⟩:=s
  unfold getAttr?
  repeat (any_goals (first | assumption | with_reducible apply Ao (s:=⟨hh,g,dr,t+1,os⟩) Z X I | wp_step))
theorem vO (Z:ExCls K C):KitX K (.ref a) (.ref C) (fv a C) where
  ty:=fun _ _ _ I=>j_ I
  it:=fun _ _ X _=>by
    obtain ⟨cdD,hcD⟩:=Z.cls
    unfold clsIn at hcD
    split at hcD
    · rename_i c' d' cd' sl' ho
      intro A' Q' E' s' k q
      unfold isType loadHead
      exact wpAny_bind (wpAny_loadPart (k _ _ (X _ _ ho)) (wpAny_pure q))
    · cases hcD
  ne:=fun h tp dd its n sl X htp=>by
    obtain ⟨cdD,hcD⟩:=Z.cls
    refine Bool.eq_false_iff.mpr fun q=>?_
    have e:C=tp:=Value.ref.inj (beq_iff_eq.mp q)
    subst e
    unfold clsIn at hcD
    split at hcD
    · rename_i c' d' cd' sl' ho
      have z:=(X _ _ ho).symm.trans htp
      cases z
    · cases hcD
  ca:=fun X I k=>vN Z X I k
end
end PL
namespace PL
open PySem PySem.Spec PyProof.Rows L2 Nh
def Ctx0 (e:Addr) (h:Heap):Prop:=∃o vs,h.get? e=some o∧o.data= .fields vs∧vs[2]? =some .none
def K2 (f:Obj→Obj):Prop:=∀o vs,o.data= .fields vs→∃ws,(f o).data= .fields ws∧ws[2]? =vs[2]?
def Tm {α:Type}:Sem α→Prop
  | .pure _=>True
  | .raise _=>True
  | .unsupported _=>True
  | .rule _ k=>Tm (k ())
  | .at _ k=>Tm (k ())
  | .load _ _ k=>∀o,Tm (k o)
  | .update _ _ f k=>K2 f∧Tm (k ())
  | .loadIfAlive _ k=>∀o,Tm (k o)
  | .point _ k=>Tm (k ())
  | .alloc _ k=>∀a,Tm (k a)
  | .fresh k=>∀t,Tm (k t)
  | .handled _ k=>∀x,Tm (k x)
  | .stack k=>∀x,Tm (k x)
  | _=>False
theorem Tm.bind {α β:Type} {k:α→Sem β} (hk:∀a,Tm (k a)):∀{t:Sem α},Tm t→Tm (t >>= k)
  | .pure a,_=>hk a
  | .raise _,_=>trivial
  | .unsupported _,_=>trivial
  | .rule _ f,h=>Tm.bind hk (t:=f ()) h
  | .at _ f,h=>Tm.bind hk (t:=f ()) h
  | .load _ _ f,h=>fun o=>Tm.bind hk (t:=f o) (h o)
  | .update _ _ g f,h=>⟨h.1,Tm.bind hk (t:=f ()) h.2⟩
  | .loadIfAlive _ f,h=>fun o=>Tm.bind hk (t:=f o) (h o)
  | .point _ f,h=>Tm.bind hk (t:=f ()) h
  | .alloc _ f,h=>fun a=>Tm.bind hk (t:=f a) (h a)
  | .fresh f,h=>fun a=>Tm.bind hk (t:=f a) (h a)
  | .handled _ f,h=>fun a=>Tm.bind hk (t:=f a) (h a)
  | .stack f,h=>fun a=>Tm.bind hk (t:=f a) (h a)
  | .finish _,h=>h.elim
  | .register _ _,h=>h.elim
  | .ask _,h=>h.elim
  | .choose _ _ _,h=>h.elim
  | .os _ _ _,h=>h.elim
  | .call _ _ _ _ _,h=>h.elim
  | .newGen _ _,h=>h.elim
  | .genState _ _,h=>h.elim
  | .resume _ _ _ _,h=>h.elim
  | .yield _ _ _ _,h=>h.elim
  | .fork _ _,h=>h.elim
  | .thread _,h=>h.elim
  | .await _ _ _ _ _,h=>h.elim
theorem Ctx0.upd {e a:Addr} {h:Heap} {f:Obj→Obj} (x:Ctx0 e h) (k:K2 f):Ctx0 e (h.update a f):=by
  obtain ⟨o,vs,ho,hd,h2⟩:=x
  by_cases q:a=e
  · subst q
    obtain ⟨ws,hw,e2⟩:=k o vs hd
    exact ⟨_,ws,Heap.get?_update_self f ho (Obj.isFreed_of_fields hw),hw,e2.trans h2⟩
  · exact ⟨o,vs,(Heap.get?_update_other _ _ q).trans ho,hd,h2⟩
theorem iD {α:Type} {M:Model} {Γ:PySem.Ctx} {Q:α→Pos→Shared→Prop} {E:Value→Pos→Shared→Prop} {e:Addr}:∀{t:Sem α} {p:Pos} {s:Shared},Tm t→Ctx0 e s.heap→Sem.wp M Γ t Q E p s→Sem.wp M Γ t (fun a p s'=>Q a p s'∧Ctx0 e s'.heap) (fun x p s'=>E x p s'∧Ctx0 e s'.heap) p s
  | .pure a,p,s,_,c,h=>by rw [Sem.wp] at h ⊢;exact ⟨h,c⟩
  | .raise _,p,s,_,c,h=>by rw [Sem.wp] at h ⊢;exact ⟨h,c⟩
  | .unsupported _,p,s,_,c,h=>by rw [Sem.wp] at h;exact h.elim
  | .rule _ f,p,s,t,c,h=>by rw [Sem.wp] at h ⊢;exact iD (t:=f ()) t c h
  | .at _ f,p,s,t,c,h=>by rw [Sem.wp] at h ⊢;exact iD (t:=f ()) t c h
  | .load _ _ f,p,s,t,c,h=>by rw [Sem.wp] at h ⊢;obtain ⟨o,ho,h⟩:=h;exact ⟨o,ho,iD (t:=f o) (t o) c h⟩
  | .update _ _ g f,p,s,t,c,h=>by rw [Sem.wp] at h ⊢;exact ⟨h.1,iD (t:=f ()) t.2 (c.upd t.1) h.2⟩
  | .loadIfAlive _ f,p,s,t,c,h=>by rw [Sem.wp] at h ⊢;exact iD (t:=f _) (t _) c h
  | .point _ f,p,s,t,c,h=>by rw [Sem.wp] at h ⊢;exact iD (t:=f ()) t c h
  | .alloc _ f,p,s,t,c,h=>by rw [Sem.wp] at h ⊢;exact iD (t:=f _) (t _) (let ⟨o,vs,ho,r⟩:=c;⟨o,vs,Heap.get?_push_of_some _ ho,r⟩) h
  | .fresh f,p,s,t,c,h=>by rw [Sem.wp] at h ⊢;exact iD (t:=f _) (t _) c h
  | .handled _ f,p,s,t,c,h=>by rw [Sem.wp] at h ⊢;exact iD (t:=f _) (t _) c h
  | .stack f,p,s,t,c,h=>by rw [Sem.wp] at h ⊢;exact iD (t:=f _) (t _) c h
  | .finish _,_,_,h,_,_=>h.elim
  | .register _ _,_,_,h,_,_=>h.elim
  | .ask _,_,_,h,_,_=>h.elim
  | .choose _ _ _,_,_,h,_,_=>h.elim
  | .os _ _ _,_,_,h,_,_=>h.elim
  | .call _ _ _ _ _,_,_,h,_,_=>h.elim
  | .newGen _ _,_,_,h,_,_=>h.elim
  | .genState _ _,_,_,h,_,_=>h.elim
  | .resume _ _ _ _,_,_,h,_,_=>h.elim
  | .yield _ _ _ _,_,_,h,_,_=>h.elim
  | .fork _ _,_,_,h,_,_=>h.elim
  | .thread _,_,_,h,_,_=>h.elim
  | .await _ _ _ _ _,_,_,h,_,_=>h.elim
theorem vP {α:Type} {M:Model} {A:Around} {Q:α→Shared→Prop} {E:Value→Shared→Prop} {e:Addr} {t:Sem α} {s:Shared} (T:Tm t) (c:Ctx0 e s.heap) (h:wpAny M A t Q E s):wpAny M A t (fun a s'=>Q a s'∧Ctx0 e s'.heap) (fun x s'=>E x s'∧Ctx0 e s'.heap) s:=fun Γ p hΓ=>iD T c (h Γ p hΓ)
theorem tS (v:Value):Tm (fieldsOf v):=by
  unfold fieldsOf
  split
  · refine Tm.bind (fun o=>?_) (fun o=>trivial)
    split <;> trivial
  · trivial
theorem jH (v:Value) (i:Nat):Tm (field v i):=by
  unfold field
  refine Tm.bind (fun vs=>?_) (tS v)
  split <;> trivial
theorem Ap {i:Nat} {x:Value} (h:i≠2):K2 (Obj.mapFields (·.setIfInBounds i x)):=fun o vs hd=>⟨_,Obj.data_mapFields hd _,by rw [Array.getElem?_setIfInBounds_ne h]⟩
theorem qM (v:Value) {i:Nat} (x:Value) (h:i≠2):Tm (setField v i x):=by
  unfold setField
  split
  · unfold updateField
    refine Tm.bind (fun o=>?_) (fun o=>trivial)
    split
    · split
      · exact ⟨Ap h,trivial⟩
      · trivial
    · trivial
  · trivial
theorem tT (env:Env) (outer:List Env):Tm (behindIsImport env outer):=by
  unfold behindIsImport
  split
  · trivial
  · split
    · trivial
    · refine Tm.bind (fun a=>?_) (jH _ _)
      trivial
theorem vQ:Tm underTheClaimsCaller:=by
  unfold underTheClaimsCaller
  refine Tm.bind (fun a=>?_) (fun a=>?_)
  · trivial
  · trivial
theorem xS (env:Env) (b:Bool) (outer:List Env):Tm (keptBack env b outer):=by
  cases outer with
  | nil=>
    show Tm (if _ then _ else _)
    by_cases h:(env.scope.isGenerator||env.scope.isCoroutine)=true
    · rw [if_pos h];trivial
    · rw [if_neg h]
      refine Tm.bind (fun a=>?_) vQ
      trivial
  | cons c r=>trivial
theorem pO:∀l:List Env,Tm (readyFrames l)
  | []=>trivial
  | env::outer=>by
    unfold readyFrames
    split
    · refine Tm.bind (fun o=>?_) (fun o=>?_)
      · split
        · trivial
        · refine Tm.bind (fun _=>?_) (tT _ _)
          refine Tm.bind (fun _=>?_) (xS _ _ _)
          refine Tm.bind (fun _=>pO outer) ?_
          exact ⟨fun o vs hd=>⟨vs,hd,rfl⟩,trivial⟩
      · trivial
    · trivial
theorem qN (env:Env):Tm (PySem.frameOf env):=by
  unfold PySem.frameOf
  refine Tm.bind (fun l=>?_) ?_
  · refine Tm.bind (fun o=>?_) ?_
    · split <;> trivial
    · generalize List.dropWhile _ _=l
      cases l with
      | nil=>trivial
      | cons e r=>
        refine Tm.bind (fun _=>?_) (pO _)
        trivial
  · refine Tm.bind (fun a=>?_) (fun a=>?_)
    · trivial
    · trivial
theorem vR (f:Addr) (b:Bool):Tm (entryPlaceOf f b):=by
  unfold entryPlaceOf
  refine Tm.bind (fun l=>?_) (fun _=>?_)
  · split <;> trivial
  · trivial
theorem Aq (ty:String) (vs:List Value):Tm (newFields ty vs):=by
  show Tm (if _ then _ else _)
  split
  · trivial
  · refine Tm.bind (fun _=>?_) (fun _=>?_)
    · trivial
    · trivial
theorem se (e:Value) (env:Env):Tm (noteFrame e env):=by
  have last:∀(hd:Value) (f:Addr),Tm (do setField e 1 (←EntryCells.newEntry hd (←PySem.frameOf env) .none (rawInt f) .none (←entryPlaceOf f (hd != .none)))):=fun hd f=>by
    refine Tm.bind (fun fr=>?_) (qN _)
    refine Tm.bind (fun pl=>?_) (vR _ _)
    refine Tm.bind (fun en=>?_) (Aq _ _)
    exact qM _ _ (by decide)
  unfold noteFrame
  split
  · refine Tm.bind (fun hd=>?_) (jH _ _)
    split
    · refine Tm.bind (fun w=>?_) (jH _ _)
      split
      · trivial
      · refine Tm.bind (fun _=>last _ _) (qM _ _ (by decide))
    · exact last _ _
  · trivial
theorem ka (e:Value):Tm (setFlight e none):=by
  unfold setFlight
  refine Tm.bind (fun tb=>?_) (jH _ _)
  split
  · exact qM _ _ (by decide)
  · trivial
theorem lN (env:Env) (e:Value):Tm (leaving env e):=by
  unfold leaving
  exact Tm.bind (fun _=>ka e) (se e env)
def FlyC (base:Heap) (l:List Env) (e:Addr) (cls a0:Value) (h:Heap):Prop:=base.StaysIn h∧base.get? e=none∧h.FunFrames base l∧h.TracedW base e cls a0∧Ctx0 e h
def HeldC (base:Heap) (l:List Env) (e:Addr) (cls a0:Value) (L:Addr) (h:Heap):Prop:=base.StaysIn h∧base.get? e=none∧h.FunFrames base l∧h.TracedAtW base e cls a0 (rawInt L)∧Ctx0 e h
section
variable {M:Model} {A:Around} {E:Value→Shared→Prop} {s:Shared} {base:Heap} {env:Env} {outer l:List Env} {L e:Addr} {cls a0:Value} {Q:Unit→Shared→Prop} {h:Heap}
theorem FlyC.to (x:FlyC base l e cls a0 h):Heap.FlyingW base l e cls a0 h:=⟨x.1,x.2.1,x.2.2.1,x.2.2.2.1⟩
theorem FlyC.of (x:Heap.FlyingW base l e cls a0 h) (c:Ctx0 e h):FlyC base l e cls a0 h:=⟨x.1,x.2.1,x.2.2.1,x.2.2.2,c⟩
theorem HeldC.to (x:HeldC base l e cls a0 L h):Heap.HeldW base l e cls a0 L h:=⟨x.1,x.2.1,x.2.2.1,x.2.2.2.1⟩
theorem HeldC.of (x:Heap.HeldW base l e cls a0 L h) (c:Ctx0 e h):HeldC base l e cls a0 L h:=⟨x.1,x.2.1,x.2.2.1,x.2.2.2,c⟩
theorem FlyC.there (x:FlyC base l e cls a0 h):∃ob,h.get? e=some ob∧ob.cls=cls:=x.to.there
theorem FlyC.first (x:FlyC base l e cls a0 h):∃oe vs,h.get? e=some oe∧oe.cls=cls∧oe.data= .fields vs∧vs[0]? =some a0:=x.to.first
theorem HeldC.there (x:HeldC base l e cls a0 L h):∃ob,h.get? e=some ob∧ob.cls=cls:=x.to.there
theorem pP {t:Sem Unit} {P:Heap→Prop} (T:Tm t) (c:Ctx0 e s.heap) (k:∀{Q:Unit→Shared→Prop},(∀h',P h'→Q () {s with heap:=h'})→wpAny M A t Q E s) (hQ:∀h',P h'→Ctx0 e h'→Q () {s with heap:=h'}):wpAny M A t Q E s:=
  wpAny_mono (vP T c (k (Q:=fun _ s'=>∃h',P h'∧s'={s with heap:=h'}) fun h' p=>⟨h',p,rfl⟩)) (fun _ s' ⟨⟨h',p,z⟩,c'⟩=>by subst z;exact hQ h' p c') fun _ _ z=>z.1
theorem qO (hfr:A.frames=some (env::outer)) (hf:env.frame=some L) (hfl:FlyC base (env::outer) e cls a0 s.heap) (hQ:∀h',FlyC base outer e cls a0 h'→s.heap.UpToSlots h'→Q () {s with heap:=h'}):wpAny M A (leaving env (.ref e)) Q E s:=
  pP (P:=fun h'=>Heap.FlyingW base outer e cls a0 h'∧s.heap.UpToSlots h') (lN _ _) hfl.2.2.2.2 (fun k=>wpAny_leaves_onW hfr hf hfl.to fun h' a b=>k h' ⟨a,b⟩) fun h' p c=>hQ h' (.of p.1 c) p.2
theorem tU (hfr:A.frames=some (env::outer)) (hf:env.frame=some L) (hfl:FlyC base (env::outer) e cls a0 s.heap) (hQ:∀h',HeldC base (env::outer) e cls a0 L h'→s.heap.UpToSlots h'→Q () {s with heap:=h'}):wpAny M A (noteFrame (.ref e) env) Q E s:=
  pP (P:=fun h'=>Heap.HeldW base (env::outer) e cls a0 L h'∧s.heap.UpToSlots h') (se _ _) hfl.2.2.2.2 (fun k=>wpAny_looks_onW hfr hf hfl.to fun h' a b=>k h' ⟨a,b⟩) fun h' p c=>hQ h' (.of p.1 c) p.2
theorem vS (hh:HeldC base l e cls a0 L s.heap) (hQ:∀h',FlyC base l e cls a0 h'→s.heap.UpToSlots h'→Q () {s with heap:=h'}):wpAny M A (setFlight (.ref e) none) Q E s:=
  pP (P:=fun h'=>Heap.FlyingW base l e cls a0 h'∧s.heap.UpToSlots h') (ka _) hh.2.2.2.2 (fun k=>wpAny_landsW hh.to fun h' a b=>k h' ⟨a,b⟩) fun h' p c=>hQ h' (.of p.1 c) p.2
theorem ou (hh:FlyC base l e cls a0 s.heap) (hQ:∀h',FlyC base l e cls a0 h'→s.heap.UpToSlots h'→Q () {s with heap:=h'}):wpAny M A (setFlight (.ref e) none) Q E s:=
  pP (P:=fun h'=>Heap.FlyingW base l e cls a0 h'∧s.heap.UpToSlots h') (ka _) hh.2.2.2.2 (fun k=>lands_againW hh.to fun h' a b=>k h' ⟨a,b⟩) fun h' p c=>hQ h' (.of p.1 c) p.2
theorem vT {args:List Value} {h':Heap} (hx:Heap.MadeExcOf h h' e cls args):Ctx0 e h':=let ⟨_,he,_⟩:=hx.there;⟨_,_,he,rfl,rfl⟩
theorem oy {args:List Value} (hfr:A.frames=some (env::outer)) (hf:env.frame=some L) (hkb:base.StaysIn h) (hl:h.FunFrames base (env::outer)) (hx:Heap.MadeExcOf h s.heap e cls args)
    (hQ:∀h' t,FlyC base outer e cls (.ref t) h'→h'.TupAt t args→base.get? t=none→s.heap.UpToSlots h'→Q () {s with heap:=h'}):wpAny M A (leaving env (.ref e)) Q E s:=
  pP (P:=fun h'=>∃t,Heap.FlyingW base outer e cls (.ref t) h'∧h'.TupAt t args∧base.get? t=none∧s.heap.UpToSlots h') (lN _ _) (vT hx) (fun k=>wpAny_leaves_madeW hfr hf hkb hl hx fun h' t a b c d=>k h' ⟨t,a,b,c,d⟩) fun h' ⟨t,a,b,c,d⟩ z=>hQ h' t (.of a z) b c d
end
end PL
namespace PL
open PySem PySem.Spec PyProof.Rows L2 Nh
structure UnB (fs:List Addr) (H H':Hp) (h B h':Heap):Prop where
  keep:∀b o,h.get? b=some o→H b=none→b∉fs→B.get? b=some o
  slot:∀b o,h.get? b=some o→H b=none→b∈fs→∃sl,h'.get? b=some {o with slots:=sl}
  free:∀b o,h.get? b=some o→H b=none→H' b=none
  there:∀b o,h.get? b=some o→b∉fs→∃o',B.get? b=some o'
  tups:∀b xs,H b=some (.tup xs)→H' b=some (.tup xs)
  frzs:∀b o u,H b=some (.frz o u)→H' b=some (.frz o u)
  tbls:∀b ps,H b=some (.tbl ps)→H' b=some (.tbl ps)
theorem UnB.un {fs:List Addr} {H H':Hp} {h B h':Heap} (u:UnB fs H H' h B h') (st:B.StaysIn h') (hf:∀b∈fs,H b=none):Un fs [] H H' h h':=
  ⟨fun b o e n hb _=>st b o (u.keep b o e n hb),fun b o e n hb _=>u.slot b o e n hb,fun b o e n _=>u.free b o e n,fun b o e _=>by
    by_cases hb:b∈fs
    · obtain ⟨sl,z⟩:=u.slot b o e (hf b hb) hb
      exact ⟨_,z⟩
    · obtain ⟨o',z⟩:=u.there b o e hb
      exact ⟨o',st b o' z⟩,u.tups,u.frzs,u.tbls⟩
theorem UnB.on {l:List Env} {H H':Hp} {h B h' h2:Heap} (u:UnB (kC l) H H' h B h') (ff:h'.FunFrames B l) (k:h'.UpToSlots h2):UnB (kC l) H H' h B h2:=
  ⟨u.keep,fun b o e n hb=>by
    obtain ⟨sl,z⟩:=u.slot b o e n hb
    obtain ⟨_,o',ho',hd⟩:=ff.mem hb
    rw [z] at ho'
    cases ho'
    obtain ⟨sl2,z2⟩:=k b _ z hd
    exact ⟨sl2,z2⟩,u.free,u.there,u.tups,u.frzs,u.tbls⟩
theorem UnB.out {X:Cx} {pins:List (Addr×Obj)} {σ:L2.St} {H H':Hp} {s:Shared} {B h':Heap} (I:Inv X pins σ H s) (hx:X.ex=[]) (u:UnB (kC X.stack) H H' s.heap B h'):UnB X.fs X.H₀ H' X.s₀.heap B h':=by
  have nx:∀b:Addr,b∉X.ex:=fun b z=>by rw [hx] at z;cases z
  have ne:∀b o,X.s₀.heap.get? b=some o→b≠X.env.locals:=fun b o e=>Nat.ne_of_lt (Nat.lt_of_lt_of_le (Heap.lt_size e) I.ok.above)
  have nf:∀b o,X.s₀.heap.get? b=some o→b∉X.fs→b∉kC X.stack:=fun b o e hb z=>(List.mem_cons.mp (I.stkSub b z)).elim (ne b o e) hb
  refine ⟨fun b o e n hb=>u.keep b o (I.base.keep b o e n hb (nx b)) (I.base.free b o e n (nx b)) (nf b o e hb),fun b o e n hb=>?_,fun b o e n=>?_,fun b o e hb=>?_,fun b xs e=>u.tups b xs (I.base.tups b xs e),fun b o v e=>u.frzs b o v (I.base.frzs b o v e),fun b ps e=>u.tbls b ps (I.base.tbls b ps e)⟩
  · obtain ⟨sl,z⟩:=I.base.slot b o e n hb (nx b)
    have hb':b∈kC X.stack:=by
      rcases I.ok.stk with q | ⟨q,hf⟩
      · rw [q];exact hb
      · rw [q];unfold kC;rw [List.filterMap_cons,hf];exact List.mem_cons_of_mem _ hb
    obtain ⟨sl2,z2⟩:=u.slot b _ z (I.base.free b o e n (nx b)) hb'
    exact ⟨sl2,z2⟩
  · obtain ⟨o',z⟩:=I.base.there b o e (nx b)
    exact u.free b o' z (I.base.free b o e n (nx b))
  · obtain ⟨o',z⟩:=I.base.there b o e (nx b)
    exact u.there b o' z (nf b o e hb)
theorem pQ {P:Program} {w:World} {H:Hp} {h:Heap} {a:Addr} {o:HO} (x:ObjOk P w H h a o):∃u,h.get? a=some u:=by
  cases o with
  | lst xs=>obtain ⟨_,_,_,_,e⟩:=x;exact ⟨_,e⟩
  | tup xs=>obtain ⟨_,_,_,o,e,_⟩:=x;exact ⟨_,e⟩
  | dK kvs=>obtain ⟨_,_,_,_,o,_,_,e,_⟩:=x;exact ⟨_,e⟩
  | dT kvs=>obtain ⟨_,_,_,_,o,_,_,e,_⟩:=x;exact ⟨_,e⟩
  | set S n=>obtain ⟨o,_,_,_,e,_⟩:=x;exact ⟨_,e⟩
  | ins C dx fs=>obtain ⟨_,_,_,e,_⟩:=x;exact ⟨_,e⟩
  | own y=>obtain ⟨_,e⟩:=x;exact ⟨_,e⟩
  | xd fs=>obtain ⟨_,⟨_,_,_,e,_⟩,_⟩:=x;exact ⟨_,e⟩
  | rng lo hi=>obtain ⟨_,_,_,e⟩:=x;exact ⟨_,e⟩
  | frz ob u=>obtain ⟨e,_⟩:=x;exact ⟨_,e⟩
  | tbl q=>obtain ⟨_,e,_⟩:=x;exact ⟨_,e⟩
  | met f y=>exact ⟨_,(show h.get? a=some _ from x)⟩
  | ext φ=>obtain ⟨_,⟨_,e⟩,_⟩:=x;exact ⟨_,e⟩
def vU (P:Program) (w:World):sR:=fun outer H s E e s'=>∃H' ea C a0 B,e= .ref ea∧E (.ref C) none H'∧s'.os=s.os∧AllBare s'.gens∧FlyC B outer ea (.ref C) a0 s'.heap∧HOk P w H' B∧UnB (kC outer) H H' s.heap B s'.heap
def vV (X:Cx) (C:Addr) (pins:List (Addr×Obj)) (σ:L2.St) (H:Hp):Prop:=∀s h' ea vs,Inv X pins σ H s→Heap.MadeExcOf s.heap h' ea (.ref C) vs→X.xe (.ref ea) {s with heap:=h'}
def xT (X:Cx) (C:Addr) (pins:List (Addr×Obj)) (σ:L2.St) (H':Hp):Prop:=∀H s ea s' a0 B,Inv X pins σ H s→s'.os=s.os→AllBare s'.gens→FlyC B X.stack ea (.ref C) a0 s'.heap→HOk X.prog X.w H' B→UnB (kC X.stack) H H' s.heap B s'.heap→X.xe (.ref ea) s'
def vW (X:Cx) (C:Addr) (pins:List (Addr×Obj)) (σ:L2.St) (H':Hp):Prop:=∀H s ea s' a0 B,Inv X pins σ H s→s'.os=s.os→AllBare s'.gens→HeldC B X.stack ea (.ref C) a0 X.env.locals s'.heap→HOk X.prog X.w H' B→UnB (kC X.stack) H H' s.heap B s'.heap→X.xe (.ref ea) s'
theorem pR {M:Model} {A:Around} {E:Value→Shared→Prop} {s:Shared} {base:Heap} {env:Env} {outer:List Env} {L e:Addr} {cls a0:Value} {Q:Unit→Shared→Prop} (hf:env.frame=some L) (hh:HeldC base (env::outer) e cls a0 L s.heap)
    (hQ:∀h',FlyC base outer e cls a0 h'→s.heap.UpToSlots h'→Q () {s with heap:=h'}):wpAny M A (leaving env (.ref e)) Q E s:=by
  unfold leaving
  refine wpAny_bind (wpAny_noteFrame_againW hf hh.2.2.2.1 ?_)
  refine vS hh fun h' hfl k=>?_
  obtain ⟨k1,k2,⟨_,_,k3⟩,k4⟩:=hfl
  exact hQ h' ⟨k1,k2,k3,k4⟩ k
section
variable {P:Program} {w:World} {K:PySem.W.Frag} {mg:Str→Option Value} {base:Heap} {N:List Str} {qual:Str} {scope:Scope} {f:Addr} {cd:Value} {A:Around} {outer:List Env} {s:Shared} {H H':Hp} {E:XK} {C:Addr} {pins:List (Addr×Obj)} {σ:L2.St}
theorem xU (hE:E (.ref C) none H'):vV (gR (vU P w) P w K mg base N qual scope f cd A outer s H E) C pins σ H':=by
  intro s1 h' ea vs I hx
  show wpAny (model P w) _ (leaving _ (.ref ea)) _ _ _
  have st:=I.stack
  have hin:∀env∈(gR (vU P w) P w K mg base N qual scope f cd A outer s H E).stack,∀b,env.frame=some b→b∈kC (gR (vU P w) P w K mg base N qual scope f cd A outer s H E).stack:=fun env he b hb=>List.mem_filterMap.mpr ⟨env,he,hb⟩
  refine oy (base:=PySem.W.hideAll s1.heap (kC (gR (vU P w) P w K mg base N qual scope f cd A outer s H E).stack)) (h:=s1.heap) I.ok.frames rfl (fun b o q=>PySem.W.of_hideAll _ q) (PySem.W.funFrames_hide st hin) hx fun h2 t x1 x2 x3 x4=>?_
  refine ⟨H',ea,C,_,_,rfl,hE,I.os,I.bare,x1,fun a o e=>?_,?_⟩
  · refine (I.hok a o e).stay (fun b u hb q=>PySem.W.hideAll_get _ q fun z=>?_) (fun _ q=>q) fun _ _ q=>q
    have n:=I.stkFree b z
    rcases hb with rfl | hb
    · rw [n] at e;cases e
    · rw [n] at hb;cases hb
  · refine UnB.out I rfl ⟨fun b o e n hb=>PySem.W.hideAll_get _ e hb,fun b o e n hb=>?_,fun _ _ _ n=>n,fun b o e hb=>⟨o,PySem.W.hideAll_get _ e hb⟩,fun _ _ e=>e,fun _ _ _ e=>e,fun _ _ e=>e⟩
    obtain ⟨_,o',ho',hd⟩:=st.mem hb
    rw [e] at ho'
    cases ho'
    exact x4 b o (hx.keeps b o e) hd
theorem Ar (hE:E (.ref C) none H'):xT (gR (vU P w) P w K mg base N qual scope f cd A outer s H E) C pins σ H':=by
  intro H1 s1 ea s' a0 B I os bare fl hok u
  show wpAny (model P w) _ (leaving _ (.ref ea)) _ _ _
  refine qO I.ok.frames rfl fl fun h2 x1 x2=>?_
  exact ⟨H',ea,C,a0,B,rfl,hE,os.trans I.os,bare,x1,hok,UnB.out I rfl (u.on fl.2.2.1 x2)⟩
theorem xV (hE:E (.ref C) none H'):vW (gR (vU P w) P w K mg base N qual scope f cd A outer s H E) C pins σ H':=by
  intro H1 s1 ea s' a0 B I os bare fl hok u
  show wpAny (model P w) _ (leaving _ (.ref ea)) _ _ _
  refine pR rfl fl fun h2 x1 x2=>?_
  exact ⟨H',ea,C,a0,B,rfl,hE,os.trans I.os,bare,x1,hok,UnB.out I rfl (u.on fl.2.2.1 x2)⟩
end
abbrev uB:=List Sl→Option (Str×List Sl)
def Cr (X:Cx) (mk al:Bool) (body:List Stmt) (r:uB):Prop:=∀pins s σ H B E n E',Inv X pins σ H s→Frm X.K B σ H E [] []→r E=some (n,E')→
  (∀pins',(al=false→pins'=pins)→∀σ' C H',PySem.W.nsIn X.K mainGlobals n=some (some (.ref C))→Frm X.K B σ' H' E' [] []→(mk=true→vV X C pins' σ' H')∧xT X C pins' σ' H'∧(al=true→vW X C pins' σ' H'))→wpAny (model X.prog X.w) X.A (execs body X.env) (fun _ _=>False) X.xe s
def RX (X:Cx) (mk al:Bool) (st:Stmt) (r:uB):Prop:=∀pins s σ H B E n E',Inv X pins σ H s→Frm X.K B σ H E [] []→r E=some (n,E')→
  (∀pins',(al=false→pins'=pins)→∀σ' C H',PySem.W.nsIn X.K mainGlobals n=some (some (.ref C))→Frm X.K B σ' H' E' [] []→(mk=true→vV X C pins' σ' H')∧xT X C pins' σ' H'∧(al=true→vW X C pins' σ' H'))→wpAny (model X.prog X.w) X.A (exec st X.env) (fun _ _=>False) X.xe s
def Ct (t:jq) (r:uB):uB:=fun E=>match t E with
  | some (true,E')=>r E'
  | _=>none
def vX (n:Str):uB:=fun E=>some (n,E)
section
variable {X:Cx} {mk al:Bool} {st:Stmt} {bK a b:List Stmt} {g:bU} {r:uB} {c:Expr} {m:Bool} {t:jq} {pos:Pos}
theorem oA (h:RX X mk al st r):Cr X mk al (st::bK) r:=fun pins s σ H B E n E' I fr e k=>
  wpAny_execs_cons (wpAny_mono (h pins s σ H B E n E' I fr e k) (fun _ _ z=>z.elim) fun _ _ z=>z)
theorem BL (hc:TX X.nox c m t) (h:Cr X mk al a r):RX X mk al (.If c a b pos) (Ct t r):=fun pins s σ H B E n E' I fr e k=>by
  unfold Ct at e
  split at e
  · rename_i E1 et
    have q:=hc pins s σ H (fun bb H1=>bb=true∧Frm X.K B σ H1 E1 [] []) (I.wish _) ⟨B,E,[],[],true,E1,fr,fun _=>Calm.nil rfl,et,fun H1 f=>⟨rfl,f⟩⟩
    refine wpAny_If (wpAny_mono q (fun bb s1 z=>?_) fun _ _ z=>z.elim)
    obtain ⟨H1,I1,rfl,fr1⟩:=z
    exact h pins s1 σ H1 B E1 n E' I1.unwish fr1 e k
  · cases e
end
end PL
namespace PL
open PySem PySem.Spec PyProof.Rows L2 Nh
abbrev DB:List Value:=[.type "ValueError", .type "Exception", .type "BaseException", .type "object"]
structure XC (K:PySem.W.Frag) (mg:Str→Option Value) (x:Str) (C:Addr):Prop where
  ns:PySem.W.nsIn K mainGlobals x=some (some (.ref C))
  mg:mg x=some (.ref C)
  ex:PySem.W.excIn K C DB "ValueError.__new__"=true
  cls:ExCls K C
theorem As {K:PySem.W.Frag} {h:Heap} {mg:Str→Option Value} {x:Str} {C:Addr} {bmB:List Value} {newId:String} (X:K.In h) (m:mg x=some (.ref C)) (q:PySem.W.excIn K C bmB newId=true):OwnCls x C bmB newId mg h:=by
  refine ⟨m,?_⟩
  unfold PySem.W.excIn at q
  split at q
  · rename_i dd cd sl ho
    split at q
    · rename_i C' bm k0 k1 k2 k3 n k5 hm hs
      simp only [Bool.and_eq_true,beq_iff_eq,Bool.not_eq_true'] at q
      obtain ⟨⟨⟨⟨⟨rfl,rfl⟩,hdel⟩,ht⟩,hok⟩,hni⟩:=q
      obtain ⟨nm,bs,mro,ns,qn,hd,sn,sub,ab,col,del⟩:=cd
      dsimp only at hm hdel hok hni
      subst hm hdel
      have hsl:sl=#[k0,k1,k2,k3,some (.builtin n),k5]:=by
        obtain ⟨l⟩:=sl
        simp only at hs
        rw [hs]
      subst hsl
      exact ⟨bm,ns,nm,qn,bs,hd,sn,sub,ab,col,dd,k0,k1,k2,k3,k5,_,X _ _ ho, .of_isNs (PySem.W.isNs_of_in X hok),PySem.W.nsMap_none_of_in X hok hni,PySem.W.tail_of_in X ht⟩
    · cases q
  · cases q
section
variable {X:Cx} {mk al:Bool} {x:Str} {C:Addr} {np p cpos pos:Pos}
theorem vY {tx:Str} {j:Nat} (hcalm:X.calm=true) (hg:Gl X x) (Z:XC X.K X.mg x C) (hd:(x == ("__debug__":Str))=false:=by decide)
    (he:starEach [.Constant (.str tx) j p] X.env=[(false,eval (.Constant (.str tx) j p) X.env)]:=by rfl):
    RX X true al (.Raise (some (.Call (.Name x np) [.Constant (.str tx) j p] [] cpos)) none pos) (vX x):=fun pins s σ H B E n E' I fr e k=>by
  cases e
  obtain ⟨tl,N,nm,q,bs,hdct,sn,sub,ab,col,dd,k0,k1,k2,k3,k5,mN,hC,hN,hni,T⟩:=(As I.ok.mod.kin Z.mg Z.ex).obj
  refine wpAny_Raise_call_subT (C:=C) (nm:=nm) (q:=q) (N:=N) (bs:=bs) (bm:=tl) (hdct:=hdct) (sn:=sn) (sub:=sub) (ab:=ab) (col:=col) (dd:=dd) (k0:=k0) (k1:=k1) (k2:=k2) (k3:=k3) (k5:=k5)
    PySem.F.excBase_ValueError (mN:=mN) (T.hasType PySem.F.excBase_ValueError.hasBase) (I.ok.hd hcalm) (by rw [he];rfl) hni (gP I hg Z.mg ⟨rfl,?_⟩ hd)
  have q1:=bG (X:=X) (qh (x:=tx) (j:=j) (pos:=p)) dy he cpos pins s σ H (fun vs H1=>vs=[.str tx]∧H1=H) I ⟨rfl,rfl⟩
  rw [he] at q1 ⊢
  refine Calls.evalArgs_plain (cE q1 fun vs s2 ⟨us,H2,I2,r,eu,eH⟩=>?_)
  subst eu eH
  have fin:=(k pins (fun _=>rfl) σ C H2 Z.ns fr).1 rfl
  exact ⟨rfl,by rw [←r.length];exact Nat.le_of_ble_eq_true rfl,I2.bk _ _ hC,hN.keeps I2.bk,T.keeps I2.bk,fun h' ea hm=>fin s2 h' ea vs I2 hm⟩
end
def Cu (K:PySem.W.Frag) (r:List PyData→Option Str):Sp:=fun vs H _ E=>∃ds n,r ds=some n∧RpA K H vs ds∧∀C H',PySem.W.nsIn K mainGlobals n=some (some (.ref C))→Same H H'→E (.ref C) none H'
def BM (k n:Nat) (r:uB):List PyData→Option Str:=fun ds=>if ds.length=k then (r (ay n ds)).map (·.1) else none
end PL
namespace PL
open PySem PySem.Spec PyProof.Rows L2 Nh
abbrev DC (X:Cx) (ea:Addr):Cx:={X with A:=X.A.mark (some (.ref ea)),calm:=false,xe:=fun _ _=>False}
abbrev hX (X:Cx) (ea:Addr) (oe:Obj) (C:Addr):Cx:={X with A:=X.A.mark (some (.ref ea)),calm:=false,xe:=fun _ _=>False,H₀:=upd X.H₀ ea (.frz oe (.ext (fv ea C)))}
structure EaNew (X:Cx) (ea:Addr):Prop where
  s0:X.s₀.heap.get? ea=none
  nt:∀xs,X.H₀ ea≠some (.tup xs)
  nf:∀o u,X.H₀ ea≠some (.frz o u)
  nb:∀q,X.H₀ ea≠some (.tbl q)
section
variable {X:Cx} {pins:List (Addr×Obj)} {σ:L2.St} {H:Hp} {s:Shared} {ea:Addr}
theorem vZ (I:Inv X pins σ H s):Inv (DC X ea) pins σ H s:=
  let ok:=I.ok
  ⟨⟨ok.mod,ok.kind,ok.glob,ok.blt,ok.above,ok.inj,ok.has,ok.cab,fun z=>(nomatch z),ok.frames,ok.stk,ok.exf,ok.bs,ok.bsz,ok.noex,ok.exfs,ok.funs,ok.frf,ok.tab⟩,I.os,I.bare,I.base,I.loc,I.cell,I.free,I.freeC,I.pin,I.hok,I.len⟩
theorem xW {oe:Obj} {C:Addr} (I:Inv X pins σ H s) (n:EaNew X ea) (hH:H ea=some (.frz oe (.ext (fv ea C)))):Inv (hX X ea oe C) pins σ H s:=by
  have ok:=I.ok
  have ne:∀b o,X.s₀.heap.get? b=some o→b≠ea:=fun b o e z=>by rw [z,n.s0] at e;cases e
  have up:∀b u,(upd X.H₀ ea (.frz oe (.ext (fv ea C)))) b=u→b≠ea→X.H₀ b=u:=fun b u e z=>by rw [av z] at e;exact e
  refine ⟨⟨ok.mod,ok.kind,ok.glob,ok.blt,ok.above,ok.inj,ok.has,ok.cab,fun z=>(nomatch z),ok.frames,ok.stk,ok.exf,fun b o e=>?_,ok.bsz,ok.noex,ok.exfs,ok.funs,fun b hb=>?_,fun b q e=>?_⟩,I.os,I.bare,⟨fun b o e h=>I.base.keep b o e (up b _ h (ne b o e)),fun b o e h=>I.base.slot b o e (up b _ h (ne b o e)),fun b o e h=>I.base.free b o e (up b _ h (ne b o e)),I.base.there,fun b xs e=>?_,fun b o u e=>?_,fun b q e=>?_⟩,I.loc,I.cell,I.free,I.freeC,I.pin,I.hok,I.len⟩
  · obtain ⟨e1,e2⟩:=ok.bs b o e
    exact ⟨e1,(av (ne b o e1)).trans e2⟩
  · obtain ⟨_,o,e1,_⟩:=ok.funs.mem hb
    exact (av (ne b o e1)).trans (ok.frf b hb)
  · refine (av fun z=>?_).trans (ok.tab b q e)
    subst z
    exact n.nb q (ok.tab _ q e)
  · by_cases z:b=ea
    · subst z
      replace e:=upd_same.symm.trans e
      cases e
    · exact I.base.tups b xs (up b _ e z)
  · by_cases z:b=ea
    · subst z
      replace e:=upd_same.symm.trans e
      cases e
      exact hH
    · exact I.base.frzs b o u (up b _ e z)
  · by_cases z:b=ea
    · subst z
      replace e:=upd_same.symm.trans e
      cases e
    · exact I.base.tbls b q (up b _ e z)
theorem v4 {oe:Obj} {C:Addr} (I:Inv (hX X ea oe C) pins σ H s) (ok:X.Ok) (n:EaNew X ea):Inv X pins σ H s:=by
  have ne:∀b o,X.s₀.heap.get? b=some o→b≠ea:=fun b o e z=>by rw [z,n.s0] at e;cases e
  have dn:∀b u,X.H₀ b=u→b≠ea→(hX X ea oe C).H₀ b=u:=fun b u e z=>(av z).trans e
  exact ⟨ok,I.os,I.bare,⟨fun b o e h=>I.base.keep b o e (dn b _ h (ne b o e)),fun b o e h=>I.base.slot b o e (dn b _ h (ne b o e)),fun b o e h=>I.base.free b o e (dn b _ h (ne b o e)),I.base.there,fun b xs e=>I.base.tups b xs (dn b _ e fun z=>n.nt xs (z▸e)),fun b o u e=>I.base.frzs b o u (dn b _ e fun z=>n.nf o u (z▸e)),fun b q e=>I.base.tbls b q (dn b _ e fun z=>n.nb q (z▸e))⟩,I.loc,I.cell,I.free,I.freeC,I.pin,I.hok,I.len⟩
theorem tV {a:Addr} {o:HO} (I:Inv X pins σ H s) (hn:H a=none) (h0:X.s₀.heap.get? a=none) (hL:X.env.locals≠a) (hc:∀x c,X.env.cells.lookup x=some c→c≠a) (hp:∀p∈X.pn++pins,p.1≠a) (ok:ObjOk X.prog X.w (upd H a o) s.heap a o):Inv X pins σ (upd H a o) s:=by
  have ne:∀b u,H b=some u→b≠a:=fun b u e=>aL e hn
  refine ⟨I.ok,I.os,I.bare,⟨I.base.keep,I.base.slot,fun b u e n hx=>?_,I.base.there,fun b xs e=>?_,fun b u v e=>?_,fun b q e=>?_⟩,I.loc,I.cell,?_,fun x c e=>?_,fun p q=>?_,fun b u e=>?_,I.len⟩
  · rw [av (fun z=>by rw [z,h0] at e;cases e)];exact I.base.free b u e n hx
  · have z:=I.base.tups b xs e
    rw [av (ne _ _ z)];exact z
  · have z:=I.base.frzs b u v e
    rw [av (ne _ _ z)];exact z
  · have z:=I.base.tbls b q e
    rw [av (ne _ _ z)];exact z
  · rw [av hL];exact I.free
  · rw [av (hc x c e)];exact I.freeC x c e
  · obtain ⟨e1,e2,e3⟩:=I.pin p q
    exact ⟨e1,by rw [av (hp p q)];exact e2,e3⟩
  · by_cases hb:b=a
    · subst hb;rw [upd_same] at e;cases e;exact ok
    · rw [av hb] at e
      refine (I.hok b u e).stay (fun c w' _ q=>q) (fun c q=>?_) fun c xs q=>?_
      · rw [av (ne _ _ q)];exact q
      · rw [av (ne _ _ q)];exact q
theorem v5 {M:Model} {A:Around} {E:Value→Shared→Prop} {i:Nat} {x:Str} {pos:Pos} {Q:Unit→Shared→Prop} (I:Inv X pins σ H s) (hN:X.N.Nodup) (hi:X.N[i]? =some x) (hk:X.env.scope.names.lookup x=some .local)
    (h:∀s',Inv X pins (σ.set i none) H s'→Q () s'):wpAny M A (do bindName X.env x .none;unbindBehindTheSuite X.env x pos) Q E s:=by
  obtain ⟨m,hn,hl⟩:=id I.loc
  have hcls:(X.env.scope.kind == .class||(X.env.scope.kind == .module&&X.env.locals != X.env.globals))=false:=by rw [I.ok.kind];rfl
  have hiσ:i < σ.length:=by rw [I.len];exact (List.getElem?_eq_some_iff.mp hi).1
  have cne:=I.cne
  refine wpAny_nameGoes_keeps hk hn hcls fun h' v hn' hs=>?_
  obtain ⟨oL,_,_,hoL,_⟩:=id hn
  refine h _ ⟨I.ok,I.os,I.bare,⟨fun b o e n hb hx=>?_,fun b o e n hb hx=>?_,I.base.free,fun b o e hx=>?_,I.base.tups,I.base.frzs,I.base.tbls⟩,⟨_,hn',fun j y v' e1 e2 e3=>?_⟩,fun y c e=>?_,I.free,I.freeC,fun p hp=>?_,fun b ob e=>?_,by simpa using I.len⟩
  · exact (hs.2 b (Nat.ne_of_lt (Nat.lt_of_lt_of_le (Heap.lt_size e) I.ok.above))).trans (I.base.keep b o e n hb hx)
  · obtain ⟨sl,e1⟩:=I.base.slot b o e n hb hx
    exact ⟨sl,(hs.2 b (Nat.ne_of_lt (Nat.lt_of_lt_of_le (Heap.lt_size e) I.ok.above))).trans e1⟩
  · obtain ⟨o',e1⟩:=I.base.there b o e hx
    exact ⟨o',(hs.2 b (Nat.ne_of_lt (Nat.lt_of_lt_of_le (Heap.lt_size e) I.ok.above))).trans e1⟩
  · by_cases hj:j=i
    · subst hj
      rw [List.getElem?_set_self hiσ] at e2
      cases e2
    · rw [List.getElem?_set_ne (Ne.symm hj)] at e2
      obtain ⟨u',r',q⟩:=hl j y v' e1 e2 e3
      refine ⟨u',r',?_⟩
      rcases q with ⟨k,e⟩ | ⟨k,c,e,z⟩
      · refine .inl ⟨k,?_⟩
        have:y≠x:=fun e=>hj (kU hN e1 (e▸hi))
        simp [this,e]
      · exact .inr ⟨k,c,e,z.sameBut hs (cne y c e)⟩
  · obtain ⟨w',z⟩:=I.cell y c e
    exact ⟨w',z.sameBut hs (cne y c e)⟩
  · obtain ⟨e,n,ne,nf,d⟩:=I.pin p hp
    exact ⟨(hs.2 p.1 ne).trans e,n,ne,nf,d⟩
  · refine (I.hok b ob e).stay (fun c w' hc q=>(hs.2 c ?_).trans q) (fun _ q=>q) fun _ _ q=>q
    rintro rfl
    rcases hc with rfl | hc
    · rw [I.free] at e;cases e
    · rw [I.free] at hc;cases hc
end
abbrev tW (n:Str):PyData:= .dict [(.none, .str n)]
def xX (ok:List Str) (i:Nat) (r:uB) (g h:bU):bU:=fun E=>match r E with
  | none=>g E
  | some (n,E')=>if n∈ok∧i < E'.length then match h (E'.set i (.sh (tW n))) with
    | some (E2, .rt s)=>some (E2, .rt s)
    | _=>none
    else none
theorem xY {X:Cx} {body:List Stmt} {cn en:Str} {CH:Addr} {np hpos pos:Pos} {b₀:Stmt} {suite:List Stmt} {ok:List Str} {i:Nat} {r:uB} {g hs:bU} (hx:X.xe=fun _ _=>False) (hN:X.N.Nodup) (hex:X.ex=[]) (hst:X.stack=X.env::X.outer) (hfr:X.env.frame=some X.env.locals) (hg:Gl X cn) (hm:X.mg cn=some (.ref CH))
    (hok:∀n∈ok,∀C,PySem.W.nsIn X.K mainGlobals n=some (some (.ref C))→PySem.W.exmOne X.K (.ref C) (.ref CH)=some true) (hb:qx X body g) (hr:∀W,Cr (X.wish W) false false body r) (hh:∀ea oe C,(∃vs,oe.data= .fields vs∧vs[2]? =some .none)→qx (hX X ea oe C) (b₀::suite) hs)
    (hi:X.N[i]? =some en:=by rfl) (hk:X.env.scope.names.lookup en=some .local:=by rfl) (hdb:(cn == ("__debug__":Str))=false:=by decide):
    SX X (.Try body [.ExceptHandler (some (.Name cn np)) (some en) (b₀::suite) hpos] [] [] pos) (xX ok i r g hs):=by
  intro pins s σ H D I hw
  obtain ⟨B,E,xs,Xs,E2,fl,fr,cl,e,q⟩:=hw
  subst cl
  have hxs:xs=[]:=by obtain ⟨_,_,f⟩:=fr;simpa using f.len
  subst hxs
  unfold xX at e
  split at e
  · have q:=hb pins s σ H D I ⟨B,E,[],[],E2,fl,fr,rfl,e,q⟩
    rw [hx] at q
    refine wpAny_Try_except (wpAny_mono q (fun f s1 z=>?_) fun _ _ z=>z.elim)
    cases f with
    | next=>exact wpAny_execs_nil z
    | brk=>exact z
    | cont=>exact z
    | ret u=>exact z
  · rename_i n E' er
    split at e
    rotate_left
    · cases e
    rename_i hc
    split at e
    rotate_left
    · cases e
    rename_i E3 sv eh
    cases e
    refine wpAny_Try_except (wpAny_mono (hr (fun e s₁=>wpAny (model X.prog X.w) X.A (noteFrame e X.env) (fun _ s₂=>wpAny (model X.prog X.w) X.A (setFlight e none) (fun _ s₃=>wpAny (model X.prog X.w) X.A (handleBy e X.env [.ExceptHandler (some (.Name cn np)) (some en) (b₀::suite) hpos]) (SP X pins D) X.xe s₃) X.xe s₂) X.xe s₁) pins s σ H B E n E' (I.wish _) fr er fun pp hp σ' C H' ns fr'=>⟨fun z=>(nomatch z),?_,fun z=>(nomatch z)⟩) (fun _ _ z=>z.elim) fun _ _ z=>z)
    cases hp rfl
    intro H1 s1 ea s' a0 Bb I1 os bare fly hokB u
    have I1:Inv X pins σ' H1 s1:=I1.unwish
    have ff:s'.heap.FunFrames Bb X.stack:=fly.2.2.1
    have fly':FlyC Bb (X.env::X.outer) ea (.ref C) a0 s'.heap:=hst▸fly
    have invAt:∀h5,Bb.StaysIn h5→s'.heap.UpToSlots h5→Inv X pins σ' H' {s' with heap:=h5}:=fun h5 st k=>by
      have u2:UnB (kC X.stack) H1 H' s1.heap Bb h5:=u.on ff k
      exact I1.call' (s':={s' with heap:=h5}) os (u2.un st I1.stkFree) (hokB.kept fun b o e=>st b o e) bare fun b z=>(nomatch z)
    refine tU (by rw [I1.ok.frames,hst]) hfr fly' fun h4 held4 k4=>?_
    refine vS held4 fun h5 fly5 k5=>?_
    have I5:=invAt h5 fly5.1 (k4.trans k5)
    obtain ⟨ob,hob,hobc⟩:=fly5.there
    have Z5:fv ea C h5:=⟨ob,hob,hobc⟩
    refine wpAny_handleBy_cons (codeAny_handlers_test (gP (X:=DC X ea) (vZ I5) hg hm ?_ hdb)) (by intro q;cases q)
    refine (PySem.W.exm_one (I5.kIn) (j_ Z5) (hok n hc.1 C ns)).here ?_
    refine codeAny_handlers_suite_as ?_
    refine ou fly5 fun h6 fly6 k6=>?_
    have I6:=invAt h6 fly6.1 ((k4.trans k5).trans k6)
    obtain ⟨oe,vs,hoe,hoec,hoed,_⟩:=fly6.first
    have nB:Bb.get? ea=none:=fly6.2.1
    have old:∀b o,s1.heap.get? b=some o→b≠ea:=fun b o eb z=>by
      subst z
      by_cases hf:b∈kC X.stack
      · obtain ⟨_,o',ho',hd⟩:=(show h6.FunFrames Bb X.stack from hst▸fly6.2.2.1).mem hf
        rw [hoe] at ho'
        cases ho'
        exact hd vs hoed
      · obtain ⟨o',ho'⟩:=u.there b o eb hf
        rw [nB] at ho'
        cases ho'
    have hn6:H' ea=none:=by
      cases q:H' ea with
      | none=>rfl
      | some o=>
        obtain ⟨z,e⟩:=pQ (hokB ea o q)
        rw [nB] at e
        cases e
    have hs0:X.s₀.heap.get? ea=none:=by
      cases q:X.s₀.heap.get? ea with
      | none=>rfl
      | some o=>
        obtain ⟨o',z⟩:=I1.base.there ea o q (by rw [hex];exact fun z=>(nomatch z))
        exact absurd rfl (old ea o' z)
    have hnew:EaNew X ea:=⟨hs0,fun xs z=>(nomatch hn6.symm.trans (I6.base.tups ea xs z)),fun o u z=>(nomatch hn6.symm.trans (I6.base.frzs ea o u z)),fun q z=>(nomatch hn6.symm.trans (I6.base.tbls ea q z))⟩
    have hctx:∃vs,oe.data= .fields vs∧vs[2]? =some .none:=by
      obtain ⟨o,ws,ho,hd,h2⟩:=fly6.2.2.2.2
      rw [hoe] at ho
      cases ho
      exact ⟨ws,hd,h2⟩
    have I7:Inv X pins σ' (upd H' ea (.frz oe (.ext (fv ea C)))) {s' with heap:=h6}:=by
      refine tV I6 hn6 ?_ ?_ (fun x c e=>?_) (fun p hp=>?_) ?_
      · cases q:X.s₀.heap.get? ea with
        | none=>rfl
        | some o=>
          obtain ⟨o',z⟩:=I1.base.there ea o q (by rw [hex];exact fun z=>(nomatch z))
          exact absurd rfl (old ea o' z)
      · obtain ⟨_,⟨o,_,_,ho,_⟩,_⟩:=I1.loc
        exact old _ o ho
      · obtain ⟨v,o,ho,_⟩:=I1.cell x c e
        exact old _ o ho
      · exact old _ _ (I1.pin p hp).1
      · exact ⟨hoe,⟨oe,hoe,hoec⟩,⟨oe,hoe⟩,fun h1 h2 ⟨o,z,c⟩ k=>⟨o,k o z,c⟩⟩
    refine kW (X:=X) I7 hN hi (.inl hk) (v:= .ref ea) rfl (fun s8 I8=>?_) (.inr hk)
    have g:Same H' (upd H' ea (.frz oe (.ext (fv ea C)))):=fun b o e=>by rw [av (aL e hn6)];exact e
    obtain ⟨F',A',fr1⟩:=fr'
    have fr2:=fr1.grow g
    have nA:ea∉A':=fun z=>by
      rcases fr1.mutA ea z with ⟨_,w⟩ | ⟨_,w⟩ <;> rw [hn6] at w <;> cases w
    have fr3:=fr2.push (v:= .ref ea) (s:= .sh (tW n)) ⟨rfl,_,rfl, .exc (by show (if ea∈A' then none else _)=_;rw [if_neg nA];exact upd_same) ns⟩
    obtain ⟨A3,fr4⟩:=fr3.store rfl (fun _ z=>(nomatch z)) hc.2
    have q8:=hh ea oe C hctx pins s8 _ _ {nx:=fun _ _=>False,bk:=fun _ _=>False,ct:=fun _ _=>False,rt:=fun v H9=>∃σ9,Frm X.K B σ9 H9 E2 [v] [sv]} (xW I8 hnew upd_same) ⟨B,_,[],[],E2, .rt sv,⟨_,A3,fr4⟩,rfl,eh,fun σ9 v H9 f=>⟨σ9,f⟩⟩
    refine wpAny_mono q8 (fun f s9 z=>?_) fun _ _ z=>z.elim
    cases f with
    | next=>obtain ⟨_,_,_,z⟩:=z;exact z.elim
    | brk=>obtain ⟨_,_,_,z⟩:=z;exact z.elim
    | cont=>obtain ⟨_,_,_,z⟩:=z;exact z.elim
    | ret uu=>
      obtain ⟨v,σ9,H9,I9,rv,σx,fx⟩:=z
      have I9:Inv X pins σ9 H9 s9:=v4 I9 I.ok hnew
      exact v5 I9 hN hi hk fun s10 I10=>⟨v,_,H9,I10,rv,q _ v H9 fx⟩
end PL
namespace PL
open PySem PySem.Spec PyProof.Rows L2 Nh
def XT (K:PySem.W.Frag) (c:Value) (tab:List (Str×Bool)):Prop:=∀n b C,tab.lookup n=some b→PySem.W.nsIn K mainGlobals n=some (some (.ref C))→ExCls K C∧PySem.W.kitOne K (.ref C) c=some b
theorem dA {K:PySem.W.Frag} {c:Value}:XT K c []:=fun _ _ _ e=>nomatch e
theorem cA {K:PySem.W.Frag} {c:Value} {n:Str} {C:Addr} {b:Bool} {tab:List (Str×Bool)} (ns:PySem.W.nsIn K mainGlobals n=some (some (.ref C))) (Z:ExCls K C) (k:PySem.W.kitOne K (.ref C) c=some b) (h:XT K c tab):XT K c ((n,b)::tab):=fun n' b' C' e ns'=>by
  rw [List.lookup_cons] at e
  split at e
  · rename_i q
    rw [beq_iff_eq] at q
    subst q
    rw [ns] at ns'
    cases ns'
    cases e
    exact ⟨Z,k⟩
  · exact h n' b' C' e ns'
def iq (tab:List (Str×Bool)):PyData→Option PyData
  | .dict [(.none, .str n)]=>(tab.lookup n).map .bool
  | _=>none
theorem At {K:PySem.W.Frag} {H:Hp} {v:V} {n:Str} (r:Rp K H v (.dict [(.none, .str n)])):∃a C o,v= .ref a∧H a=some (.frz o (.ext (fv a C)))∧PySem.W.nsIn K mainGlobals n=some (some (.ref C)):=by
  generalize e:PyData.dict [(PyData.none,PyData.str n)]=d at r
  cases r with
  | exc h1 h2=>cases e;exact ⟨_,_,_,rfl,h1,h2⟩
  | dct h1 h2=>
    cases h2 with
    | nil=>cases e
    | @cons k x us d kvs a b=>cases k <;> cases e
  | _=>cases e
section
variable {X:Cx} {e:Expr} {m1:Bool} {f:b_} {p p2 pos:Pos}
theorem tX {c:Value} {vc:V} {tab:List (Str×Bool)} (rc:∀u,RelV vc u→u=c) (T:XT X.K c tab):CallR X (.builtin "isinstance") (fun xs H Q=>∃x d r,xs=[x,vc]∧Rp X.K H x d∧iq tab d=some r∧∀b,r= .bool b→Q (.bl b) H):=by
  intro pins s σ H xs us Q I r h
  obtain ⟨x,d,r',rfl,rp,hd,q⟩:=h
  obtain ⟨u,w',rfl,ru,rw'⟩:=r.two
  cases rc w' rw'
  unfold iq at hd
  split at hd
  · rename_i n
    obtain ⟨b,eb,z⟩:=Option.map_eq_some_iff.mp hd
    obtain ⟨a,C,oz,rfl,ha,ns⟩:=At rp
    obtain ⟨Z,k⟩:=T n b C eb ns
    cases (show u=Value.ref a from ru)
    exact PySem.W.kia_one (vO Z) I.kIn (show fv a C s.heap from (I.hok a _ ha).2.1) k (fun z=>nomatch z) fun tk=>⟨.bl b,H,I.tok _,rfl,q b z.symm⟩
  · cases hd
theorem sf {c:Value} {vc:V} {tab:List (Str×Bool)} (rc:∀u,RelV vc u→u=c) (T:XT X.K c tab) (hg:Gl X "isinstance") (hm:X.mg "isinstance"=none) (ha:EX X e m1 f) {x:Str} (h2:PE X (.Name x p2) (tC vc))
    (he:starEach [e, .Name x p2] X.env=(false,eval e X.env)::starEach [.Name x p2] X.env) (he2:starEach [.Name x p2] X.env=[(false,eval (.Name x p2) X.env)]) (hpl:(backTo pos (starEach [.Name x p2] X.env)).any (·.1)=false):
    EX X (.Call (.Name "isinstance" p) [e, .Name x p2] [] pos) m1 (dB (iq tab) f):=by
  refine bi (gE (tX rc T) hg hm PyProof.Rows.boot_isinstance (bG ha (bG h2 dy he2) he) (by decide) (by decide) he hpl) fun σ H Q z=>?_
  obtain ⟨B,E,xs,Xs,res,E',fr,cl,e,q⟩:=z
  obtain ⟨⟨s,E1⟩,e1,e⟩:=Option.bind_eq_some_iff.mp e
  obtain ⟨d1,e2,e⟩:=Option.bind_eq_some_iff.mp e
  obtain ⟨d2,e3,e⟩:=Option.map_eq_some_iff.mp e
  cases e
  refine ⟨B,E,xs,Xs,s,E1,fr,cl,e1,fun v1 H1 ⟨F,A,fr1⟩=>?_⟩
  obtain ⟨A',fr2⟩:=fr1.pop
  exact ⟨v1,d1,d2,rfl,(fr1.look0 e2).1,e3,fun b z=>q _ _ ⟨F,A',fr2.push ⟨rfl,_,rfl,z▸ .bl b⟩⟩⟩
theorem eT {C:Addr} {tab:List (Str×Bool)} (hg:Gl X "isinstance") (hm:X.mg "isinstance"=none) (ha:EX X e m1 f) {x:Str} (hgx:Gl X x) (hmx:X.mg x=some (.ref C)) (T:XT X.K (.ref C) tab) (hdx:(x == ("__debug__":Str))=false:=by decide)
    (he:starEach [e, .Name x p2] X.env=(false,eval e X.env)::starEach [.Name x p2] X.env:=by rfl) (he2:starEach [.Name x p2] X.env=[(false,eval (.Name x p2) X.env)]:=by rfl) (hpl:(backTo pos (starEach [.Name x p2] X.env)).any (·.1)=false:=by rfl):
    EX X (.Call (.Name "isinstance" p) [e, .Name x p2] [] pos) m1 (dB (iq tab) f):=sf (vc:= .ref C) (fun _ z=>z) T hg hm ha (rj (v:= .ref C) hgx hmx rfl hdx) he he2 hpl
theorem xZ {t:String} {tab:List (Str×Bool)} (hg:Gl X "isinstance") (hm:X.mg "isinstance"=none) (ha:EX X e m1 f) {x:Str} (hgx:Gl X x) (hmx:X.mg x=none) (hbx:bootBuiltins x=some (.type t)) (T:XT X.K (.type t) tab) (hnx:x≠"__name__":=by decide) (hdx:(x == ("__debug__":Str))=false:=by decide)
    (he:starEach [e, .Name x p2] X.env=(false,eval e X.env)::starEach [.Name x p2] X.env:=by rfl) (he2:starEach [.Name x p2] X.env=[(false,eval (.Name x p2) X.env)]:=by rfl) (hpl:(backTo pos (starEach [.Name x p2] X.env)).any (·.1)=false:=by rfl):
    EX X (.Call (.Name "isinstance" p) [e, .Name x p2] [] pos) m1 (dB (iq tab) f):=sf (vc:= .ty t) (fun _ z=>z) T hg hm ha (rk (v:= .ty t) hgx hmx hbx rfl hnx hdx) he he2 hpl
end
structure RoomH (k:Nat) (A:Around):Prop where
  dp:A.depth+3*k+5 < recursionLimit
  un:A.units+16*k+200 < cLine
theorem RoomH.mono {j k:Nat} {A:Around} (r:RoomH k A) (h:j≤k):RoomH j A:=⟨by have:=r.dp;omega,by have:=r.un;omega⟩
theorem RoomH.deeper {k:Nat} {A:Around} (r:RoomH (k+1) A) (env:Env):RoomH k (A.deeper env):=
  ⟨by have:=r.dp;show A.depth+1+3*k+5 < _;omega,by have:=r.un;show A.units+3+16*k+200 < _;omega⟩
theorem RoomH.depth {k:Nat} {A:Around} (r:RoomH k A):A.depth < recursionLimit:=by have:=r.dp;omega
theorem RoomH.units {k:Nat} {A:Around} (r:RoomH k A):A.units+64 < cLine:=by have:=r.un;omega
theorem Room.mark {k:Nat} {A:Around} (r:Room k A) (v:Option Value):RoomH k (A.mark v):=⟨r.dp,r.un⟩
abbrev Cv (P:Program) (w:World) (K:PySem.W.Frag) (mg:Str→Option Value) (base:Heap) (N:List Str) (qual:Str) (scope:Scope) (f:Addr) (cd:Value) (A:Around) (outer:List Env) (s:Shared) (H:Hp) (E:XK):Cx:={gR iu P w K mg base N qual scope f cd A outer s H E with calm:=false,xe:=fun _ _=>False}
structure FnOkH (P:Program) (w:World) (K:PySem.W.Frag) (mg:Str→Option Value) (base:Heap) (k:Nat) (f:Addr) (fd:FuncData) (ps:List Str) (sp:Sp):Prop where
  len:∀vs H Q E,sp vs H Q E→vs.length=ps.length
  run:∀(A:Around) (outer:List Env) (s:Shared) (H:Hp) (args:Args) (us:List Value) (vs:List V) (Q:VK) (E:XK),RoomH k A→Env0 P w K mg base A outer s H→BindsTo s fd args (ps.zip us)→Vals vs us→sp vs H Q E→
    codeAny (model P w) A (.call (.ref f) args) (CR iu outer P w H s Q E) s
structure OwnH (P:Program) (w:World) (K:PySem.W.Frag) (mg:Str→Option Value) (base:Heap) (k:Nat) (x:Str) (ps:List Str) (sp:Sp):Prop where
  ex:∃(f:Addr) (fd:FuncData),FnOkH P w K mg base k f fd ps sp∧Binds K fd ps []∧mg x=some (.ref f)∧PySem.W.keepIn K (.ref f)=true
theorem Au {P:Program} {w:World} {K:PySem.W.Frag} {mg:Str→Option Value} {base:Heap} {k:Nat} {f:Addr} {name qual:Str} {params:Arguments} {body:List Stmt} {scope:Scope} {dV kV doc pm cdv ct oc:Value} {an od:Option Addr}
    {osl:Array (Option Value)} {N ps:List Str} {sp:Sp} (lk:K.lookup f=some ⟨oc,od, .func (PySem.W.fnOf name qual params body scope dV kV doc pm an cdv ct),osl⟩) (hcd:PySem.W.codeIn K cdv qual=true) (S:FnScope N ps scope)
    (len:∀vs H Q E,sp vs H Q E→vs.length=ps.length)
    (hbody:∀(A:Around) (outer:List Env) (s:Shared) (H:Hp) (vs:List V) (Q:VK) (E:XK),RoomH k (A.deeper (envOfC qual scope s.heap.objs.size f cdv))→sp vs H Q E→
      ∃t,PSs (Cv P w K mg base N qual scope f cdv A outer s H E) body t∧t {nx:=fun _ H'=>Q .non H',rt:=Q} (cy N vs) H):
    FnOkH P w K mg base (k+1) f (PySem.W.fnOf name qual params body scope dV kV doc pm an cdv ct) ps sp:=by
  refine ⟨len,fun A outer s H args us vs Q E hr e0 hb r hsp=>?_⟩
  have hl:=len _ _ _ _ hsp
  have KX:K.In s.heap:=e0.mod.kin.keeps fun b o e=>(e0.bs b o e).1
  have lim:s.heap.NoLimit:=e0.mod.nolimit.keeps fun b o e=>(e0.bs b o e).1
  have hkind:∀y∈ps.zip us,scope.names.lookup y.1=some .local∨(scope.names.lookup y.1=some .cell∧((cellsFrom (s.heap.objs.size+1) scope.names []).lookup y.1).isSome=true):=fun ⟨n,v⟩ hy=>by
    rcases S.par n (List.of_mem_zip hy).1 with q | q
    · exact .inl q
    · exact .inr ⟨q,PySem.W.cellsFrom_some _ _ _ (.inl q)⟩
  refine codeAny_call_function hr.depth (KX _ _ lk) rfl S.co S.gen rfl (PySem.W.codeRec_of KX hcd) (hb _ _ _ _ ?_)
  refine wpAny_newFunctionEnv_cells S.kind hkind fun env he s1 x=>?_
  subst he
  refine ⟨lim.keeps x.toInCall.keep,codeAny_func ?_⟩
  obtain ⟨t,ht,hq⟩:=hbody A outer s H vs Q E (hr.deeper _) hsp
  have I0:Inv (gR iu P w K mg base N qual scope f cdv {A with handled:=none} outer s H E) [] (cy N vs) H s1:=nq S rfl ⟨e0.frames,e0.mod,e0.bs,e0.bsz,e0.funs,e0.frf,e0.hok,e0.bare,e0.tab⟩ hl r x
  have I:Inv (Cv P w K mg base N qual scope f cdv A outer s H E) [] (cy N vs) H s1:=
    let ok:=I0.ok
    ⟨⟨ok.mod,ok.kind,ok.glob,ok.blt,ok.above,ok.inj,ok.has,ok.cab,fun z=>(nomatch z),Around.frames_deeper e0.frames,ok.stk,ok.exf,ok.bs,ok.bsz,ok.noex,ok.exfs,ok.funs,ok.frf,ok.tab⟩,I0.os,I0.bare,I0.base,I0.loc,I0.cell,I0.free,I0.freeC,I0.pin,I0.hok,I0.len⟩
  refine wpAny_mono (ht [] s1 (cy N vs) H _ I hq) (fun fl s' hs=>?_) fun e s' hs=>hs.elim
  have fin:∀{σ':L2.St} {H':Hp} {v:V} {u:Value},Inv (Cv P w K mg base N qual scope f cdv A outer s H E) [] σ' H' s'→RelV v u→Q v H'→CE outer P w H s Q u s':=
    fun {σ' H' v u} J rv q=>⟨v,H',J.os,J.bare,J.base,J.hok,rv,q⟩
  cases fl with
  | ret u=>
    obtain ⟨v,σ',H',J,rv,q⟩:=hs
    exact fin J rv q
  | next=>
    obtain ⟨σ',H',J,q⟩:=hs
    exact fin (v:=V.non) (u:=Value.none) J rfl q
  | brk=>
    obtain ⟨_,_,_,q⟩:=hs
    exact False.elim q
  | cont=>
    obtain ⟨_,_,_,q⟩:=hs
    exact False.elim q
theorem Dc {P:Program} {w:World} {K:PySem.W.Frag} {mg:Str→Option Value} {base:Heap} {x:Str} {st:Stmt} {N ps:List Str} {k a n:Nat} {g:bU} (D:Def K mg x st ps) (S:FnScope N ps (ai st)) (hpa:ps.length=a) (hNn:N.length=n) (hps:a≤n)
    (hbody:∀(f:Addr) (cdv:Value) (A:Around) (outer:List Env) (s:Shared) (H:Hp) (E:XK),RoomH k (A.deeper (PyProof.Rows.envOfC x (ai st) s.heap.objs.size f cdv))→
      qx (Cv P w K mg base N x (ai st) f cdv A outer s H E) (bE st) g):OwnH P w K mg base (k+1) x ps (bV K (bS a n g)):=by
  subst hpa hNn
  obtain ⟨f,fd,F,mx,b⟩:=D.ex
  have kp:=F.kp
  obtain ⟨oc,od,kV,doc,pm,an,cdv,ct,osl,rfl,lk,hcd⟩:=F.ex
  refine ⟨f,_,Au lk hcd S (fun vs H Q E h=>?_) fun A outer s H vs Q E hr h=>?_,b,mx,kp⟩
  · obtain ⟨ds,r,e,rp,_⟩:=h
    unfold bS at e
    split at e
    · rename_i hl
      rw [rp.len];exact hl
    · cases e
  obtain ⟨ds,r,e,rp,q⟩:=h
  unfold bS at e
  split at e
  · rename_i hl
    refine ⟨_,hbody f cdv A outer s H E hr,?_⟩
    obtain ⟨⟨E',fl⟩,e1,e⟩:=Option.bind_eq_some_iff.mp e
    refine ⟨H,ay N.length ds,[],[],E',fl,⟨H,[],jB rp (by omega)⟩,rfl,e1,?_⟩
    cases fl with
    | nx=>
      cases e
      rintro σ' H' ⟨F',A',fr'⟩
      exact q _ _ (fr'.bf.trans fr'.fh) .non
    | bk=>cases e
    | ct=>cases e
    | rt r'=>
      rintro σ' v H' ⟨F',A',fr'⟩
      obtain ⟨s1,s2⟩:=fr'.resultO e
      exact q v H' s1 s2
  · cases e
theorem x9 {X:Cx} {k:Nat} {x:Str} {ps:List Str} {c:List PyData→Option Sl} {p pos:Pos} {e:Expr} {es:List Expr} {m:Bool} {g:me} (D:OwnH X.prog X.w X.K X.mg X.base k x ps (bV X.K c)) (hr:RoomH k X.A) (hg:Gl X x) (ha:AX X (e::es) m g)
    (hdb:(x == ("__debug__":Str))=false:=by decide) (he:starEach (e::es) X.env=(false,eval e X.env)::starEach es X.env:=by rfl) (hpl:(backTo pos (starEach es X.env)).any (·.1)=false:=by rfl):
    EX X (.Call (.Name x p) (e::es) [] pos) m (ar c g):=by
  obtain ⟨f,fd,F,b,mx,kp⟩:=D.ex
  have hc:PE X (.Call (.Name x p) (e::es) [] pos) (uW (bV X.K c) [] E0 (ra X.K m g)):=by
    intro pins s σ H Q I h
    refine wpAny_Call_Name_kw (gP I hg mx ?_ hdb)
    refine PySem.W.callWith_K (h₀:=X.base) I.ok.mod.kin kp (cE (ha pos pins s σ H _ I h) fun us s1 ⟨vs,H1,I1,r,q⟩=>⟨I1.kIn,?_⟩) he hpl
    have q:bV X.K c (vs++[]) H1 Q E0:=q
    rw [List.append_nil] at q
    have hlen:(us++[]).length=ps.length:=by rw [List.append_nil,←r.length];exact F.len _ _ _ _ q
    have bd:=b s1 us I1.kIn hlen
    rw [List.append_nil] at bd
    refine wpAny_call (codeAny_mono (F.run X.A X.stack s1 H1 ⟨us,[]⟩ us vs Q E0 hr I1.env0 bd r q) fun rr s' hq=>?_)
    cases rr with
    | error e=>exact False.elim hq
    | ok fl=>
      cases fl with
      | ret u=>exact I1.after hq
      | next=>exact False.elim hq
      | brk=>exact False.elim hq
      | cont=>exact False.elim hq
  refine bi hc fun σ H Q z=>?_
  obtain ⟨B,E,xs,Xs,res,E',fr,cl,e,q⟩:=z
  obtain ⟨⟨rs,E1⟩,e1,e⟩:=Option.bind_eq_some_iff.mp e
  obtain ⟨ds,e2,e⟩:=Option.bind_eq_some_iff.mp e
  obtain ⟨r,e3,e⟩:=Option.map_eq_some_iff.mp e
  cases e
  refine ⟨B,E,xs,Xs,rs,E1,fr,cl,e1,fun vs H1 hl ⟨F,A,fr1⟩=>?_⟩
  obtain ⟨r1,A',fr2⟩:=fr1.looks hl e2
  exact ⟨ds,res,e3,by rw [List.append_nil];exact r1,fun v H' g q'=>q v H' (fr2.told g q')⟩
end PL
namespace PL
open PySem PySem.Spec PyProof.Rows L2 Nh
theorem tY (x:Bool) (xs:List Bool):yI (.bl x) (xs.map .bl)=xs.contains x:=by
  induction xs with
  | nil=>rfl
  | cons y xs ih=>
    rw [List.contains_cons,←ih]
    show (u3 (.bl y) (.bl x)||yI (.bl x) (xs.map .bl))=_
    congr 1
    cases x <;> cases y <;> rfl
def v6 (neg:Bool):PyData→PyData→Option PyData
  | .bool x, .list ds=>(jD ds).map fun xs=> .bool (if neg then !xs.contains x else xs.contains x)
  | _,_=>none
section
variable {X:Cx} {a b:Expr} {m1 m2:Bool} {f g:b_} {pos:Pos}
theorem x_ (neg:Bool):ig X.K (CW X.K neg) (bR (v6 neg)):=by
  refine ja fun d1 d2 d v1 v2 H Q e r1 r2=>?_
  unfold v6 at e
  split at e
  · obtain ⟨xs,ex,rfl⟩:=Option.map_eq_some_iff.mp e
    cases r1
    cases r2 with
    | lst h1 h2=>
      have z:=pM h2 ex
      subst z
      exact ⟨_,rfl,fun q=>⟨_,_,rfl, .inl h1,rfl,by simp [List.all_eq_true,gH],by rw [tY];exact q⟩⟩
  · cases e
theorem ya (ha:EX X a m1 f) (hb:EX X b m2 g) (hm:behindInMarks .NotIn b=false:=by with_unfolding_all rfl):EX X (.Compare a [.NotIn] [b] pos) (m1||m2) (ag (bR (v6 true)) m2 f g):=qy jt (x_ true) ha hb hm
end
end PL
namespace PL
open PySem L2 Nh PyProof.Rows
structure OwnMR (P:Program) (w:World) (K:PySem.W.Frag) (mg:Str→Option Value) (base:Heap) (k:Nat) (C:Addr) (m:Str) (ps:List Str) (sp:Sp):Prop where
  ex:∃(f:Addr) (fd:FuncData),FnOk P w K mg base (vU P w) k f fd ps sp∧Binds K fd ps []∧Meth K C m f
def nK (P:Program) (w:World) (K:PySem.W.Frag) (mg:Str→Option Value) (base:Heap) (k:Nat) (m:Str) (r:List PyData→Option Str):Prop:=
  ∀(H:Hp) (v:V) (d:PyData) (n:Str),r [d]=some n→Rp K H v d→∃(p C dx:Addr) (fs:List (Str×V)),v= .ref p∧H p=some (.ins C dx fs)∧fs.lookup m=none∧Cls K C∧∃r':List PyData→Option Str,r' [d]=some n∧OwnMR P w K mg base k C m ["self"] (Cu K r')
def pS (r:List PyData→Option Str) (g:b_):uB:=fun E=>(g E).bind fun a=>(look a.2 a.1).bind fun d=>(r [d]).map fun n=>(n,a.2)
section
variable {X:Cx} {k:Nat} {m:Str} {r:List PyData→Option Str} {pos apos:Pos} {o:Expr} {m1:Bool} {g:b_}
theorem tZ {pl:Sem Bool} (D:nK X.prog X.w X.K X.mg X.base k m r) (hr:Room k X.A) (he:EX X.nox o m1 g)
    (ht:eval (.Call (.Attribute o m apos) [] [] pos) X.env=(do
      let ov ←eval o X.env
      standAt apos.atName
      let (f,first) ←holding [ov] (getMethod ov m pl)
      callWith pos f first (backTo pos (starEach [] X.env)) (backToKw pos (keywordEach [] X.env))))
    {pins:List (Addr×Obj)} {s:Shared} {σ:L2.St} {H B:Hp} {E E':List Sl} {n:Str} (I:Inv X pins σ H s) (fr:Frm X.K B σ H E [] []) (ee:pS r g E=some (n,E')) (k:∀C H',PySem.W.nsIn X.K mainGlobals n=some (some (.ref C))→Frm X.K B σ H' E' [] []→xT X C pins σ H'):
    wpAny (model X.prog X.w) X.A (eval (.Call (.Attribute o m apos) [] [] pos) X.env) (fun _ _=>False) X.xe s:=by
  obtain ⟨⟨s1,E1⟩,e1,ee⟩:=Option.bind_eq_some_iff.mp ee
  obtain ⟨d,e2,ee⟩:=Option.bind_eq_some_iff.mp ee
  obtain ⟨n',e3,ee⟩:=Option.map_eq_some_iff.mp ee
  cases ee
  have q1:=he pins s σ H (fun v H1=>Frm X.K B σ H1 E1 [v] [s1]) (I.wish _) ⟨B,E,[],[],s1,E1,fr,fun _=>Calm.nil rfl,e1,fun v H1 f=>f⟩
  refine PySem.W.methodCall_KW (pl:=pl) (wpAny_mono q1 (fun u t1 ⟨v,H1,I1,rv,F1,A1,fr1⟩=>?_) fun _ _ z=>z.elim) ht
  have I1:=I1.unwish
  have rp:=(fr1.look0 e2).1
  obtain ⟨p,C,dx,fs,rfl,hp,l,c1,r',e3',f0,fd,F,b,mt⟩:=D H1 v d n e3 rp
  obtain rfl:u=Value.ref p:=rv
  obtain ⟨A',fr2⟩:=fr1.pop
  refine i9 I1 hp c1 mt l ?_
  refine PySem.W.callWith_K0 (first:=[.ref p]) I1.kIn mt.kp ?_
  have rv:Vals [V.ref p] [Value.ref p]:= .cons rfl .nil
  have hlen:([Value.ref p]++[]).length=(["self"]:List Str).length:=rfl
  have bd:=b t1 [.ref p] I1.kIn hlen
  rw [List.append_nil] at bd
  refine wpAny_call (codeAny_mono (F.run X.A X.stack t1 H1 ⟨[.ref p],[]⟩ [.ref p] [.ref p] (fun _ _=>False) (fun c _ H'=>∃C,c= .ref C∧PySem.W.nsIn X.K mainGlobals n=some (some (.ref C))∧Same H1 H') hr I1.env0 bd rv ⟨[d],n,e3', .cons rp .nil,fun C H' z g=>⟨C,rfl,z,g⟩⟩) fun rr s' hq=>?_)
  cases rr with
  | error er=>
    obtain ⟨H',ea,C,a0,B',rfl,⟨C',eC,ns,g⟩,os,bare,fl,hok,u⟩:=hq
    cases eC
    exact k C H' ns ⟨_,_,fr2.grow g⟩ H1 t1 ea s' a0 B' I1 os bare fl hok u
  | ok fl=>
    cases fl with
    | ret u=>obtain ⟨_,_,_,_,_,_,_,z⟩:=hq;exact z
    | next=>exact False.elim hq
    | brk=>exact False.elim hq
    | cont=>exact False.elim hq
theorem v7 {pl:Sem Bool} {epos:Pos} (D:nK X.prog X.w X.K X.mg X.base k m r) (hr:Room k X.A) (he:EX X.nox o m1 g) (hs:swapsWith (.Call (.Attribute o m apos) [] [] pos) none epos.line X.env=pure false:=by rfl)
    (ht:eval (.Call (.Attribute o m apos) [] [] pos) X.env=(do
      let ov ←eval o X.env
      standAt apos.atName
      let (f,first) ←holding [ov] (getMethod ov m pl)
      callWith pos f first (backTo pos (starEach [] X.env)) (backToKw pos (keywordEach [] X.env))):=by rfl) {mk al:Bool}:
    RX X mk al (.Expr (.Call (.Attribute o m apos) [] [] pos) epos) (pS r g):=fun pins s σ H B E n E' I fr ee k=>
  wpAny_Expr_any (cE (tZ D hr he ht I fr ee fun C H' z f=>(k pins (fun _=>rfl) σ C H' z f).2.1) fun _ _ z=>z.elim) I.quiet hs
end
theorem Dd {P:Program} {w:World} {K:PySem.W.Frag} {mg:Str→Option Value} {base:Heap} {x qn:Str} {st:Stmt} {N ps:List Str} {k a n:Nat} {r:uB} {mk al:Bool} {f:Addr} {fd:FuncData} (F:Fun K x qn st f fd) (S:FnScope N ps (ai st)) (hpa:ps.length=a) (hNn:N.length=n) (hps:a≤n)
    (hbody:∀(cdv:Value) (A:Around) (outer:List Env) (s:Shared) (H:Hp) (E:XK),Room k (A.deeper (PyProof.Rows.envOfC qn (ai st) s.heap.objs.size f cdv))→
      Cr (gR (vU P w) P w K mg base N qn (ai st) f cdv A outer s H E) mk al (bE st) r):FnOk P w K mg base (vU P w) (k+1) f fd ps (Cu K (BM a n r)):=by
  subst hpa hNn
  obtain ⟨oc,od,kV,doc,pm,an,cdv,ct,osl,rfl,lk,hcd⟩:=F.ex
  refine yH lk hcd S (fun vs H Q E h=>?_) fun A outer s H vs Q E hr h=>?_
  · obtain ⟨ds,n,e,rp,_⟩:=h
    unfold BM at e
    split at e
    · rename_i hl
      rw [rp.len];exact hl
    · cases e
  obtain ⟨ds,n,e,rp,q⟩:=h
  unfold BM at e
  split at e
  · rename_i hl
    obtain ⟨⟨n',E'⟩,er,z⟩:=Option.map_eq_some_iff.mp e
    cases z
    refine ⟨fun D σ H'=>σ=cy N vs∧H'=H,fun pins s1 σ H1 D I z=>?_,rfl,rfl⟩
    obtain ⟨rfl,rfl⟩:=z
    refine cE (hbody cdv A outer s H1 E hr pins s1 _ H1 H1 (ay N.length ds) n' E' I ⟨H1,[],jB rp (by omega)⟩ er fun _ _ σ' C H' ns ⟨F',A',fr'⟩=>?_) fun _ _ z=>z.elim
    have hE:=q C H' ns (fr'.bf.trans fr'.fh)
    exact ⟨fun _=>xU hE,Ar hE,fun _=>xV hE⟩
  · cases e
def v8 (cs:List Str) (r:List PyData→Option Str):List PyData→Option Str
  | [.dict ((.none, .tuple [.str cn])::kvs)]=>if cs.contains cn then r [eO cn kvs] else none
  | _=>none
theorem v9 {P:Program} {w:World} {K:PySem.W.Frag} {mg:Str→Option Value} {base:Heap} {k:Nat} {m:Str} {cs:List Str} {r:List PyData→Option Str} (hm:m∈kl) (h:∀cn∈cs,∃C,ClsOk K mg cn C∧OwnMR P w K mg base k C m ["self"] (Cu K r)):nK P w K mg base k m (v8 cs r):=by
  intro H v d n e rp
  unfold v8 at e
  split at e
  · rename_i ds cn kvs ed
    cases ed
    split at e
    · rename_i hc
      obtain ⟨C,ck,ow⟩:=h cn (by simpa using hc)
      obtain ⟨p,C',dx,fs,rfl,ns,hp,nm,_⟩:=lL rp
      rw [ck.ns] at ns
      cases ns
      exact ⟨p,C,dx,fs,rfl,hp,nm m hm,ck.cl,r,e,ow⟩
    · cases e
  · cases e
open PySem.W (fnOf) in
theorem HM.ownR {P:Program} {w:World} {K:PySem.W.Frag} {mg:Str→Option Value} {base:Heap} {k:Nat} {C:Addr} {m qn:Str} {st:Stmt} {ps:List Str} {sp:Sp} (h:HM K C m qn st) (F:∀f fd,Fun K m qn st f fd→FnOk P w K mg base (vU P w) k f fd ps sp) (b:∀(kV doc pm:Value) (an:Option Addr) (cdv ct:Value) (us:List Value),us.length=ps.length→bindArgs (fnOf m qn (cJ st) (bE st) (ai st) .none kV doc pm an cdv ct) ⟨us,[]⟩=pure (ps.zip us)):OwnMR P w K mg base k C m ps sp:=by
  obtain ⟨f,oc,od,an,sl,kV,dc,pm,cd,ct,a,i,l,c,kp⟩:=h
  have D:=jY (st:=st) l c kp
  exact ⟨f,_,F _ _ D,D.binds b,a,i,kp⟩
end PL
namespace PL
open PySem PySem.Calls L2 Nh PyProof.Rows
def i6:List PyData→Option PyData
  | [.int n]=>if n.natAbs.log2 < 1920 then some (.str (Str.ofString (toString n))) else none
  | _=>none
def sg:List PyData→Option PyData
  | [.str x]=>if x.length≤640 then (PySem.intText? x).map PyData.int else none
  | _=>none
def qe (x:Str) (i:Int) (y:Str):Bool:=decide (x.cps.toList[i.toNat]? =y.cps.toList[0]?)
theorem t8 {x y:Str} {i:Int} (hy:y.cps.toList.length=1) (hi:0≤i):(decide (fromIndex x.length i+y.length≤x.length)&&Builtin.Str.subAt x y (fromIndex x.length i))=qe x i y:=by
  have ei:fromIndex x.length i=i.toNat:=by
    unfold fromIndex
    rw [if_neg (by omega),Int.max_eq_right hi]
  obtain ⟨⟨ys⟩⟩:=y
  obtain ⟨⟨xs⟩⟩:=x
  have hy:ys.length=1:=hy
  obtain ⟨c,rfl⟩:∃c,ys=[c]:=List.length_eq_one_iff.mp hy
  rw [ei]
  have e1:(Builtin.Str.subAt ⟨⟨xs⟩⟩ ⟨⟨[c]⟩⟩ i.toNat)=(((xs.drop i.toNat).take 1) == [c]):=by
    show ((Array.mk xs).extract i.toNat (i.toNat+1) == #[c])=_
    have:(Array.mk xs).extract i.toNat (i.toNat+1)=((xs.drop i.toNat).take 1).toArray:=by
      apply Array.ext'
      simp [List.extract]
    rw [this]
    generalize (xs.drop i.toNat).take 1=l
    show (l.toArray == [c].toArray)=_
    simp
  rw [e1]
  show (decide (i.toNat+1≤xs.length)&&((xs.drop i.toNat).take 1 == [c]))=decide (xs[i.toNat]? =some c)
  by_cases h:i.toNat < xs.length
  · have:(xs.drop i.toNat).take 1=[xs[i.toNat]]:=by
      rw [List.drop_eq_getElem_cons h];rfl
    rw [this,List.getElem?_eq_getElem h,decide_eq_true (by omega:i.toNat+1≤xs.length),Bool.true_and]
    by_cases hc:xs[i.toNat]=c
    · rw [hc];simp
    · rw [decide_eq_false (by simpa using hc)]
      simpa using hc
  · rw [decide_eq_false (by omega:¬i.toNat+1≤xs.length),Bool.false_and,List.getElem?_eq_none (by omega)]
    rfl
section
variable {X:Cx} {e e2:Expr} {m1:Bool} {g:me} {x:Str} {p pos apos cpos:Pos}
theorem t9:CallR X (.type "str") (fun xs H Q=>∃n,xs=[.int n]∧n.natAbs.log2 < 1920∧Q (.str (Str.ofString (toString n))) H):=by
  intro pins s σ H xs us Q I r h
  obtain ⟨n,rfl,hn,q⟩:=h
  obtain ⟨u,rfl,ru⟩:=r.one
  obtain ⟨t,rfl⟩:=ru
  exact PySem.P.str_of_int hn ⟨.str _,H,I.tok _,⟨_,rfl⟩,q⟩
theorem t_:CallR X (.type "int") (fun xs H Q=>∃x n,xs=[.str x]∧x.length≤640∧PySem.intText? x=some n∧Q (.int n) H):=by
  intro pins s σ H xs us Q I r h
  obtain ⟨x,n,rfl,hl,hn,q⟩:=h
  obtain ⟨u,rfl,ru⟩:=r.one
  obtain ⟨t,rfl⟩:=ru
  exact PySem.W.KIN.call_text hn hl ⟨.int _,H,I.tok _,⟨_,rfl⟩,q⟩
theorem oB (hg:Gl X "str") (hm:X.mg "str"=none) (ha:AX X [e] m1 g) (he:starEach [e] X.env=[(false,eval e X.env)]:=by rfl):EX X (.Call (.Name "str" p) [e] [] pos) m1 (aW i6 g):=
  bi (gG t9 hg hm PyProof.Rows.boot_str ha (by decide) (by decide) he rfl) fun _ _ _ z=>oi (fun ds d vs H Q e r=>by
    unfold i6 at e
    split at e
    · split at e
      · rename_i hn
        cases e
        obtain ⟨v,rfl,r'⟩:=r.one
        cases r'
        exact ⟨_,rfl,fun q=>⟨_,rfl,hn,q⟩⟩
      · cases e
    · cases e) z
theorem yb (hg:Gl X "int") (hm:X.mg "int"=none) (ha:AX X [e] m1 g) (he:starEach [e] X.env=[(false,eval e X.env)]:=by rfl):EX X (.Call (.Name "int" p) [e] [] pos) m1 (aW sg g):=
  bi (gG t_ hg hm PyProof.Rows.boot_int ha (by decide) (by decide) he rfl) fun _ _ _ z=>oi (fun ds d vs H Q e r=>by
    unfold sg at e
    split at e
    · split at e
      · rename_i hn
        obtain ⟨n,e1,e2⟩:=Option.map_eq_some_iff.mp e
        cases e2
        obtain ⟨v,rfl,r'⟩:=r.one
        cases r'
        exact ⟨_,rfl,fun q=>⟨_,_,rfl,hn,e1,q⟩⟩
      · cases e
    · cases e) z
def yc:V→List V→Hp→VK→Prop:=fun v vs H Q=>∃x y i,v= .str x∧vs=[.str y, .int i]∧y.cps.toList.length=1∧0≤i∧Q (.bl (qe x i y)) H
theorem ua:MtR X "str.startswith" yc:=by
  intro pins s σ H x vs v us Q I rx rv h
  obtain ⟨z,y,i,rfl,rfl,hy,hi,q⟩:=h
  obtain ⟨t,rfl⟩:=rx
  obtain ⟨u,w,rfl,ru,rw'⟩:=rv.two
  obtain ⟨tu,rfl⟩:=ru
  obtain ⟨tw,rfl⟩:=rw'
  refine call_gives F.slot_str_startswith (typeIs_str _ _ _) F.entry_str_startswith (F.args_str_startswith_3 _ _ _) (gives_str_startswith_from z y i t tu tw) ?_
  rw [t8 hy hi]
  exact ⟨.bl _,H,I,rfl,q⟩
def cN (i:Nat) (g:me):b_:=fun E=>match E[i]? with
  | some (.sh (.str x))=>(g E).bind fun a=>(ax a.2 a.1).bind fun ds=>match ds with
    | [.str y, .int n]=>if y.cps.toList.length=1∧0≤n then some (.sh (.bool (qe x n y)),a.2) else none
    | _=>none
  | _=>none
theorem iV (i:Nat) (ha:AX X [e,e2] m1 g) (hN:X.N[i]? =some x:=by rfl) (hv:yB X.env.scope x:=by first | exact Or.inl rfl | exact Or.inr (Or.inl rfl) | exact Or.inr (Or.inr rfl)) (hd:(x == ("__debug__":Str))=false:=by decide) (hcd:(x == ("__classdict__":Str))=false:=by decide)
    (hs:starEach [e,e2] X.env=(false,eval e X.env)::starEach [e2] X.env:=by rfl) (hpl:(backTo cpos (starEach [e2] X.env)).any (·.1)=false:=by rfl) (hbase:attributeBase (.Name x p) "startswith" X.env (eval (.Name x p) X.env)=eval (.Name x p) X.env:=by rfl)
    (hfew:((backTo cpos (starEach [e,e2] X.env)).all (fun x=> !x.1)&&(backToKw cpos (keywordEach [] X.env)).all (fun x=>x.1.isSome)
      &&decide (([e,e2]:List Expr).length+([]:List Keyword).length+(if ([]:List Keyword).isEmpty then 0 else 1) < 30))=true:=by rfl) (hline:(apos.endLine == cpos.line)=true:=by rfl):
    EX X (.Call (.Attribute (.Name x p) "startswith" apos) [e,e2] [] cpos) m1 (cN i g):=by
  refine bi (rD PySem.F.plainAttrs_str PySem.F.slot_str_startswith PySem.F.type_str_startswith ua (jT hN hv hd hcd) ha hbase hfew hline hs hpl) fun σ H Q z=>?_
  obtain ⟨B,E,xs,Xs,res,E',⟨F,A,fr⟩,cl,e,q⟩:=z
  unfold cN at e
  split at e
  · rename_i z ei
    obtain ⟨⟨rs,E1⟩,e1,e⟩:=Option.bind_eq_some_iff.mp e
    obtain ⟨ds,e2,e⟩:=Option.bind_eq_some_iff.mp e
    simp only at e
    split at e
    · rename_i y n
      split at e
      · rename_i hc
        cases e
        obtain ⟨o,A1,eo,rfl,v0,rfl,rp⟩:=fr.var ei
        cases rp
        refine ⟨_,eo,rfl,B,E,xs,Xs,rs,E',⟨F,A,fr⟩,cl,e1,fun vs H1 hl ⟨F1,A1,fr1⟩=>?_⟩
        obtain ⟨r1,A',fr2⟩:=fr1.looks hl e2
        obtain ⟨v1,v2,rfl,ra,rb⟩:=r1.two
        cases ra;cases rb
        exact ⟨z,y,n,rfl,rfl,hc.1,hc.2,q _ _ ⟨F1,A',fr2.push ⟨rfl,_,rfl, .bl _⟩⟩⟩
      · cases e
    · cases e
  · cases e
end
end PL
namespace PL
open PySem L2 Nh
def v_:Expr→Bool
  | .Starred .. =>false
  | _=>true
theorem yd {e:Expr} {es:List Expr} {env:Env} (h:v_ e=true):starEach (e::es) env=(false,eval e env)::starEach es env:=by
  cases e <;> first | rfl | cases h
inductive DL (X:Cx):List Expr→Bool→lj→Prop
  | nil:DL X [] false bL
  | cons {e:Expr} {es:List Expr} {m1 m2:Bool} {f:b_} {d:lj}:EX X e m1 f→v_ e=true→DL X es m2 d→DL X (e::es) (m1||m2) (aV f d)
section
variable {X:Cx} {es:List Expr} {m:Bool} {d:lj} {pos:Pos}
theorem DL.dx (h:DL X es m d):DX X es m d:=by
  induction h with
  | nil=>exact zS
  | cons a n _ ih=>exact xB a ih (yd n)
theorem fo (h:DL X es m d):EX X (.List es pos) m (cz d):=zU h.dx
theorem ke {x1} (h:DL X es m d):EX X (.Tuple es x1 pos) m (ip d):=zT h.dx
end
def iE:List Nat→Expr→Expr
  | [],e=>e
  | k::r,e=>match e with
    | .Call _ as _ _=>iE r (as.getD k e)
    | .BinOp a _ b _=>if k=0 then iE r a else iE r b
    | .Subscript a b _=>if k=0 then iE r a else iE r b
    | .Compare a _ cs _=>if k=0 then iE r a else iE r (cs.getD (k - 1) e)
    | .BoolOp _ vs _=>iE r (vs.getD k e)
    | .UnaryOp _ a _=>iE r a
    | .List es _=>iE r (es.getD k e)
    | .Tuple es _ _=>iE r (es.getD k e)
    | .ListComp _ (c::_) _ _=>iE r c.iter
    | e=>e
def iF (v:Expr):List Nat→Expr→Expr
  | [],_=>v
  | k::r,e=>match e with
    | .Call f as ks p=> .Call f (as.set k (iF v r (as.getD k e))) ks p
    | .BinOp a o b p=>if k=0 then .BinOp (iF v r a) o b p else .BinOp a o (iF v r b) p
    | .Subscript a b p=>if k=0 then .Subscript (iF v r a) b p else .Subscript a (iF v r b) p
    | .Compare a os cs p=>if k=0 then .Compare (iF v r a) os cs p else .Compare a os (cs.set (k - 1) (iF v r (cs.getD (k - 1) e))) p
    | .BoolOp o vs p=> .BoolOp o (vs.set k (iF v r (vs.getD k e))) p
    | .UnaryOp o a p=> .UnaryOp o (iF v r a) p
    | .List es p=> .List (es.set k (iF v r (es.getD k e))) p
    | .Tuple es n p=> .Tuple (es.set k (iF v r (es.getD k e))) n p
    | .ListComp el (c::cs) sc p=> .ListComp el ({c with iter:=iF v r c.iter}::cs) sc p
    | e=>e
def ub:List Nat→List Stmt→Expr
  | [],_=> .Constant .none 0 ⟨0,0,0,0⟩
  | i::r,b=>match b[i]? with
    | some (.Assign _ e _)=>iE r e
    | some (.Return (some e) _)=>iE r e
    | some (.Expr e _)=>iE r e
    | some (.If t bb _ _)=>match r with
      | 0::q=>iE q t
      | 1::q=>ub q bb
      | _=>t
    | some (.For t it bb _ _)=>match r with
      | 0::q=>iE q it
      | 1::q=>ub q bb
      | _=>t
    | _=> .Constant .none 0 ⟨0,0,0,0⟩
def ye (v:Expr):List Nat→List Stmt→List Stmt
  | [],b=>b
  | i::r,b=>match b[i]? with
    | some (.Assign t e p)=>b.set i (.Assign t (iF v r e) p)
    | some (.Return (some e) p)=>b.set i (.Return (some (iF v r e)) p)
    | some (.Expr e p)=>b.set i (.Expr (iF v r e) p)
    | some (.If t bb o p)=>match r with
      | 0::q=>b.set i (.If (iF v q t) bb o p)
      | 1::q=>b.set i (.If t (ye v q bb) o p)
      | _=>b
    | some (.For t it bb o p)=>match r with
      | 0::q=>b.set i (.For t (iF v q it) bb o p)
      | 1::q=>b.set i (.For t it (ye v q bb) o p)
      | _=>b
    | _=>b
def pE:Expr→List Expr
  | .List es _=>es
  | .Tuple es _ _=>es
  | _=>[]
def yU (es:List Expr):Expr→Expr
  | .List _ p=> .List es p
  | .Tuple _ n p=> .Tuple es n p
  | e=>e
structure BodyOk (X:Cx) (body:List Stmt) (g:bU):Prop where
  of:qx X body g
theorem si {X:Cx} {body:List Stmt} {g:bU} (path:List Nat) {m:Bool} {d:lj} (hP:DL X (pE (ub path body)) m d) (key:∀es,DL X es m d→BodyOk X (ye (yU es (ub path body)) path body) g) (hb:ye (yU (pE (ub path body)) (ub path body)) path body=body:=by rfl):BodyOk X body g:=by
  have:=key _ hP
  rw [hb] at this
  exact this
end PL
namespace NH
section
variable {α:Type} [DecidableEq α]
def Rot (a b:List (α×Int)):Prop:=∃u v,a=u++v∧b=v++u
theorem Rot.refl (a:List (α×Int)):Rot a a:=⟨[],a,rfl,by simp⟩
theorem Rot.symm {a b:List (α×Int)} (h:Rot a b):Rot b a:=let ⟨u,v,e,f⟩:=h;⟨v,u,f,e⟩
theorem Rot.trans {a b c:List (α×Int)} (h:Rot a b) (k:Rot b c):Rot a c:=by
  obtain ⟨u,v,rfl,e⟩:=h
  obtain ⟨x,y,e2,rfl⟩:=k
  rw [e] at e2
  rcases List.append_eq_append_iff.mp e2 with ⟨w,e3,e4⟩ | ⟨w,e3,e4⟩
  · subst e3 e4
    exact ⟨w,y++v,by simp,by simp⟩
  · subst e3 e4
    exact ⟨u++x,w,by simp,by simp⟩
theorem Rot.eq {a b:List (α×Int)} (h:a=b):Rot a b:=h▸Rot.refl a
theorem Rot.len {a b:List (α×Int)} (h:Rot a b):a.length=b.length:=by
  obtain ⟨u,v,rfl,rfl⟩:=h
  simp [Nat.add_comm]
end
end NH
namespace NH
variable {α:Type} [DecidableEq α]
end NH
namespace Nh
open PySem L2 PL
theorem qP {p q:Pc} (hp:p.1 < 128) (hq:q.1 < 128):qd (bh p) (bh q)=some (decide (p=q)):=by
  have s:∀{p:Pc},p.1 < 128→SeqAt.shaped (bh p)=true:=fun {p} h=>by
    have h1:=BA h
    unfold SeqAt.shaped
    rw [h1]
    simp [bh,PyData.depth,PyData.depthAll]
  have e:qd (bh p) (bh q)=(if SeqAt.shaped (bh p)&&SeqAt.shaped (bh q) then some (PyData.eqv (bh p) (bh q)) else none):=rfl
  rw [e,s hp,s hq,zP]
  rfl
end Nh
namespace NH
def De:Nat→Nat→Nat
  | _,0=>1
  | 0,_+1=>0
  | n+1,k+1=>De n (k+1)+De n k
def Df:Nat→Nat→Int
  | _,0=>1
  | 0,_+1=>0
  | m+1,k+1=>Df m (k+1) - Df (m+1) k
def ch (n:Int) (k:Nat):Int:=match n with
  | .ofNat n=>(De n k:Int)
  | .negSucc m=>Df (m+1) k
def ff (n:Int):Nat→Int
  | 0=>1
  | k+1=>ff n k*(n - k)
section
variable {α:Type}
def conv (f g:List α→Int):List α→Int
  | []=>f []*g []
  | a::w=>f []*g (a::w)+conv (fun u=>f (a::u)) g w
def DV:List α→Int
  | []=>1
  | _::_=>0
end
section
variable {α:Type} [DecidableEq α]
def BN (p:α×Int) (w:List α):Int:=if w.all (fun b=>decide (b=p.1)) then ch p.2 w.length else 0
def DD (w:List α) (c:List (α×Int)):Int:=c.foldr (fun p f=>conv (BN p) f) DV w
def vs (j:Nat) (m n:Int):Nat→Int
  | 0=>ch m j
  | k+1=>ch m j*ch n (k+1)+vs (j+1) m n k
end
end NH
namespace NH
variable {α:Type} [DecidableEq α]
end NH
namespace Nh
open PySem L2 PL
def CordOk (c:List Pc):Prop:=∀p∈c,p.1 < 128∧p.2.natAbs < 2 ^ 100
theorem CordOk.n {c:List Pc} (h:CordOk c):NailsOk c:=fun p hp=>(h p hp).1
theorem CordOk.append {c d:List Pc} (h:CordOk c) (h':CordOk d):CordOk (c++d):=fun p hp=>(List.mem_append.mp hp).elim (h p) (h' p)
theorem CordOk.contr {c:List Pc} (h:CordOk c):CordOk (NH.contr c):=fun p hp=>by
  obtain ⟨q,hq,e⟩:=List.mem_map.mp hp
  subst e
  have:=h q (List.mem_reverse.mp hq)
  exact ⟨this.1,by simpa using this.2⟩
theorem CordOk.cutL {c:List Pc} (h:CordOk c) (lo hi:Option Int):CordOk (cutL c lo hi):=fun p hp=>h p (lH hp)
theorem yf {i j:Int} (h1:i.natAbs < 2 ^ 20000) (h2:j.natAbs < 2 ^ 20000):b7 i j=true:=by
  have hb:sY=((2 ^ 20000:Nat):Int):=by unfold sY;exact (Int.natCast_pow 2 20000).symm
  have e: -sY < i∧i < sY∧ -sY < j∧j < sY:=by
    rw [hb]
    generalize 2 ^ 20000=B at h1 h2
    omega
  unfold b7
  rw [decide_eq_true e,Bool.or_true]
end Nh
namespace NH
open PySem PySem.NumText PyProof.Rows PySem.W PySem.W.KIN
def dg (m:Nat):List Nat:=(Nat.toDigits 10 m).map Char.toNat
theorem gN {m:Nat} (h:m < 10):dg m=[(Nat.digitChar m).toNat]:=by unfold dg;rw [Nat.toDigits_of_lt_base h];rfl
theorem oC {m:Nat} (h:¬m < 10):dg m=dg (m / 10)++dg (m % 10):=by
  have hm:m % 10 < 10:=Nat.mod_lt m (by decide)
  have t:Nat.toDigits 10 (m / 10)++Nat.toDigits 10 (m % 10)=Nat.toDigits 10 (10*(m / 10)+m % 10):=Nat.toDigits_append_toDigits (by decide) (by omega) hm
  rw [Nat.div_add_mod] at t
  unfold dg
  rw [←t,List.map_append]
theorem oE (m:Nat):AllDigits (dg m):=fun c hc=>by
  obtain ⟨ch,hch,e⟩:=List.mem_map.mp hc
  rw [←e]
  exact digit_range (Nat.isDigit_of_mem_toDigits (by decide) (by decide) hch)
theorem pT (m:Nat):dg m≠[]:=by
  by_cases h:m < 10
  · rw [gN h];simp
  · rw [oC h,gN (Nat.mod_lt m (by decide))];simp
theorem sj (m:Nat) (h0:m≠0):(dg m).head? ≠some 48:=by
  induction m using Nat.strongRecOn with
  | _ m ih=>
    by_cases h:m < 10
    · rw [gN h]
      have:∀d:Nat,d < 10→d≠0→some (Nat.digitChar d).toNat≠some 48:=by decide
      exact this m h h0
    · rw [oC h]
      have e:=ih (m / 10) (by omega) (by omega)
      have n:=pT (m / 10)
      cases q:dg (m / 10) with
      | nil=>exact absurd q n
      | cons a r=>rw [q] at e;exact e
theorem oF (k:Nat):∀m:Nat,m < 10 ^ (k+1)→(dg m).length≤k+1:=by
  induction k with
  | zero=>intro m h;rw [gN (by simpa using h)];simp
  | succ k ih=>
    intro m h
    by_cases hm:m < 10
    · rw [gN hm];simp
    · rw [oC hm,gN (Nat.mod_lt m (by decide)),List.length_append]
      have:=ih (m / 10) (by rw [Nat.pow_succ] at h;omega)
      simp only [List.length_cons,List.length_nil]
      omega
theorem wa (m:Nat):digitsVal (dg m)=m:=val_back m
def jS (t:Int):List Nat:=(Str.ofString (toString t)).cps.toList
theorem qQ (m:Nat):jS (m:Int)=dg m:=signs_num m
theorem qR (m:Nat):jS (Int.negSucc m)=45::dg (m+1):=by
  unfold jS
  rw [signs_ofString]
  show (("-"++Nat.repr (m+1)).toList).map Char.toNat=_
  rw [String.toList_append,List.map_append,Nat.toList_repr]
  rfl
theorem pU {t:Int} (h0:t≠0) (h1:t.natAbs < 10 ^ 30):∃s D,jS t=s++D∧(s=[]∨s=[45])∧AllDigits D∧D≠[]∧D.head? ≠some 48∧D.length≤30∧PySem.intText? ⟨(jS t).toArray⟩=some t:=by
  cases t with
  | ofNat m=>
    have hm:m≠0:=fun z=>h0 (by rw [z];rfl)
    have hl:(dg m).length≤30:=oF 29 m h1
    refine ⟨[],dg m,qQ m, .inl rfl,oE m,pT m,sj m hm,hl,?_⟩
    have e:jS (Int.ofNat m)=dg m:=qQ m
    rw [e]
    have z:=intText_digits (x:=⟨(dg m).toArray⟩) (by simpa using oE m) (by simpa using pT m) (by show (dg m).toArray.size≤4300;simp;omega)
    rw [z]
    show some ((digitsVal (dg m).toArray.toList:Nat):Int)=_
    rw [show (dg m).toArray.toList=dg m by simp,wa]
    rfl
  | negSucc m=>
    have hl:(dg (m+1)).length≤30:=oF 29 (m+1) h1
    refine ⟨[45],dg (m+1),qR m, .inr rfl,oE _,pT _,sj _ (by omega),hl,?_⟩
    rw [qR]
    have z:=intText_neg (x:=⟨(45::dg (m+1)).toArray⟩) (cs:=dg (m+1)) (by simp) (oE _) (pT _) (by show (45::dg (m+1)).toArray.size≤4300;simp;omega)
    rw [z,wa]
    rfl
theorem oG {t:Int} (h1:t.natAbs < 10 ^ 30):(jS t).length≤31:=by
  cases t with
  | ofNat m=>rw [show jS (Int.ofNat m)=dg m from qQ m];have:(dg m).length≤30:=oF 29 m h1;omega
  | negSucc m=>rw [qR];have:(dg (m+1)).length≤30:=oF 29 (m+1) h1;simp;omega
end NH
namespace Nh
open PySem L2 PL
def lp (p q:Pc):Bool:=if p.1=q.1 then decide (p.2 < q.2) else decide (p.1 < q.1)
def ll:List Pc→List Pc→Bool
  | [],[]=>false
  | [],_::_=>true
  | _::_,[]=>false
  | x::xs,y::ys=>if x=y then ll xs ys else lp x y
theorem wb {p q:Pc} (h:p≠q):lp p q=true∨lp q p=true:=by
  unfold lp
  by_cases e:p.1=q.1
  · rw [if_pos e,if_pos e.symm]
    simp only [decide_eq_true_eq]
    have:p.2≠q.2:=fun z=>h (by cases p;cases q;simp_all)
    omega
  · rw [if_neg e,if_neg (fun z=>e z.symm)]
    simp only [decide_eq_true_eq]
    omega
theorem pV:∀{a b:List Pc},a≠b→ll a b=true∨ll b a=true
  | [],[],h=>absurd rfl h
  | [],_::_,_=> .inl rfl
  | _::_,[],_=> .inr rfl
  | x::a,y::b,h=>by
    unfold ll
    by_cases e:x=y
    · subst e
      rw [if_pos rfl,if_pos rfl]
      exact pV fun z=>h (by rw [z])
    · rw [if_neg e,if_neg (fun z=>e z.symm)]
      exact wb e
def Cw (a:List Pc) (p:Nat):List Pc:=a.drop p++a.take p
def Least (a w:List Pc):Prop:=(∃p,p≤a.length∧w=Cw a p)∧∀p,p≤a.length→ll (Cw a p) w=false
theorem Least.one {a w w':List Pc} (h:Least a w) (h':Least a w'):w=w':=by
  obtain ⟨⟨p,hp,rfl⟩,k⟩:=h
  obtain ⟨⟨p',hp',rfl⟩,k'⟩:=h'
  by_cases e:Cw a p=Cw a p'
  · exact e
  · rcases pV e with z | z
    · rw [k' p hp] at z;cases z
    · rw [k p' hp'] at z;cases z
end Nh
namespace NH
variable {α:Type} [DecidableEq α]
end NH
namespace Nhk64
open PySem L2 Nh PL
def jh:List (Str×Bool):=[("TooLong",false)]
def iG:List (Str×Bool):=[("TooLong",false)]
def ji:List (Str×Bool):=[("TooLong",false)]
def jj:List (Str×Bool):=[("TooLong",false)]
def jk:List (Str×Bool):=[("TooLong",false)]
def jl:List (Str×Bool):=[("TooLong",false)]
def jm:List (Str×Bool):=[("TooLong",false)]
def g5:List (Str×Bool):=[("TooLong",false)]
def iH:List (Str×Bool):=[("TooLong",false)]
def iI:List (Str×Bool):=[("TooLong",true)]
def wc:List (Str×Bool):=[("TooLong",false)]
def uc:List (Str×Bool):=[("TooLong",false)]
def ud:List (Str×Bool):=[("TooLong",false)]
def ue:List (Str×Bool):=[("TooLong",false)]
def wd:List (Str×Bool):=[("TooLong",false)]
def f_:List (Str×Bool):=[("TooLong",true)]
def eU:kF:=(ik 2 (df (bM 0) (df (bM 1) ij)))
def dE:b_:=(ip (aV (ad 0) (aV (dB eQ (ad 1)) bL)))
def g7:bU:=(aA (lE [none,none] (pB (ad 0)) eU kq dE))
def cq:List PyData→Option Sl:=bS 1 1 g7
def gy:bU:=(aA (nw (bD (ag d_ false (ad 0) (pC (.int 1)))) (pC (.str "")) (aW i6 (ae false (ad 0) ap))))
def bX:List PyData→Option Sl:=bS 1 1 gy
def gb:bU:=(aA (ag cm false (nw (bD (ag (bR (aQ .lt)) false (ad 1) (pC (.int 0)))) (ar cq (ae false (ad 0) ap)) (ad 0)) (aW iZ (ae false (ad 1) ap))))
def cI:List PyData→Option Sl:=bS 2 2 gb
def dl:bU:=(aA (ag aH false (ag aH false (ag aH false (ad 0) (ad 1)) (ar cq (ae false (ad 0) ap))) (ar cq (ae false (ad 1) ap))))
def ba:List PyData→Option Sl:=bS 2 2 dl
def eV:bU:=(aA (eg ["Piece","Parts","Times","Back"] "size" (ad 0)))
def bN:List PyData→Option Sl:=bS 1 1 eV
def fF:bU:=(aA (cz (aV (ip (aV (eg ["Piece"] "nail" (ad 0)) (aV (eg ["Piece"] "turns" (ad 0)) bL))) bL)))
def dF:List PyData→Option Sl:=bS 1 1 fF
def g8:bU:=(aA (ag aH false (eg ["Piece"] "nail" (ad 0)) (ar bX (ae false (eg ["Piece"] "turns" (ad 0)) ap))))
def gz:List PyData→Option Sl:=bS 1 1 g8
def fc (self:List PyData→Option Sl):bU:=(aw (aP (bD (ag (bR (aQ .gt)) false (eg ["Piece","Parts","Times","Back"] "size" (ad 0)) (pC (.int 4000))))
  j8
  az)
  (aA (nw (bD (ag (bR (aQ .gt)) false (eg ["Piece","Parts","Times","Back"] "size" (ad 0)) (pC (.int 0)))) (cH self (ad 0)) (cz bL))))
def bH (self:List PyData→Option Sl):List PyData→Option Sl:=bS 1 1 (fc self)
def gk:uB:=(Ct (bD (ag (bR (aQ .gt)) false (eg ["Piece","Parts","Times","Back"] "size" (ad 0)) (pC (.int 4000)))) (vX "TooLong"))
def eF:List PyData→Option Str:=BM 1 1 gk
def ce:kF:=(bM 2)
def cg (self:List PyData→Option Sl):bU:=(i4 (kO 1 (cH self (ad 2))))
def fG (self:List PyData→Option Sl):bU:=(aw (aF 1 (cz bL))
  (aw (jc (tF (eg ["Parts"] "kept" (ad 0))) ce
  (cg self))
  (aA (ad 1))))
def dG (self:List PyData→Option Sl):List PyData→Option Sl:=bS 1 3 (fG self)
def il:kF:=(bM 0)
def im (self:List PyData→Option Sl):b_:=(cH self (ad 0))
def g9 (self:List PyData→Option Sl):bU:=(aA (yR "" (lE [none] (tF (eg ["Parts"] "kept" (ad 0))) il kq (im self))))
def gA (self:List PyData→Option Sl):List PyData→Option Sl:=bS 1 1 (g9 self)
def fH (self:List PyData→Option Sl):bU:=(aA (ar cI (ae false (cH self (eg ["Times"] "body" (ad 0))) (ae false (eg ["Times"] "number" (ad 0)) ap))))
def dH (self:List PyData→Option Sl):List PyData→Option Sl:=bS 1 1 (fH self)
def g_ (self:List PyData→Option Sl):bU:=(aA (ag aH false (ag aH false (ag aH false (pC (.str "(")) (cH self (eg ["Times"] "body" (ad 0)))) (pC (.str ")"))) (ar bX (ae false (eg ["Times"] "number" (ad 0)) ap))))
def gB (self:List PyData→Option Sl):List PyData→Option Sl:=bS 1 1 (g_ self)
def gl (self:List PyData→Option Sl):bU:=(aA (ar ba (ae false (cH self (eg ["Back"] "one" (ad 0))) (ae false (cH self (eg ["Back"] "other" (ad 0))) ap))))
def eG (self:List PyData→Option Sl):List PyData→Option Sl:=bS 1 1 (gl self)
def iJ (self:List PyData→Option Sl):bU:=(aA (ag aH false (ag aH false (ag aH false (ag aH false (pC (.str "[")) (cH self (eg ["Back"] "one" (ad 0)))) (pC (.str ","))) (cH self (eg ["Back"] "other" (ad 0)))) (pC (.str "]"))))
def hG (self:List PyData→Option Sl):List PyData→Option Sl:=bS 1 1 (iJ self)
def aB:List PyData→Option Sl:=i3 [("Piece",bN),("Parts",bN),("Times",bN),("Back",bN)]
def cT:Nat→List PyData→Option Sl
  | 0=>fun _=>none
  | n+1=>i3 [("Piece",gz),("Parts",gA (cT n)),("Times",gB (cT n)),("Back",hG (cT n))]
def qS (m:List PyData→Option Sl):List PyData→Option Sl:=i3 [("Piece",bH m),("Parts",bH m),("Times",bH m),("Back",bH m)]
def cM:Nat→List PyData→Option Sl
  | 0=>fun _=>none
  | n+1=>i3 [("Piece",dF),("Parts",dG (qS (cM n))),("Times",dH (qS (cM n))),("Back",eG (qS (cM n)))]
def tab_is_Term:List (Str×Bool):=[("Piece",true),("Parts",true),("Times",true),("Back",true)]
def dW:List PyData→Option Str:=v8 ["Piece","Parts","Times","Back"] eF
def we:List PyData→Option Sl:=cT 33
def gc:List PyData→Option Sl:=qS (cM 33)
def gO:bU:=(aA (dU (dB (gx .str) (ad 0)) (dU (ag d_ false (aW dz (ae false (ad 0) ap)) (pC (.int 1))) (a9 (aQ .le) (aQ .le) false false (pC (.str "a")) (ad 0) (pC (.str "z"))))))
def bY:List PyData→Option Sl:=bS 1 1 gO
def aT:jq:=(jy (bD (ag (bR (aQ .lt)) false (ad 2) (aW dz (ae false (ad 0) ap)))) (bD (a9 (aQ .le) (aQ .le) false false (pC (.str "0")) (ag dO false (ad 0) (ad 2)) (pC (.str "9")))))
def cC:bU:=(aF 2 (ag aH false (ad 2) (pC (.int 1))))
def eW:bU:=(aw (aF 2 (ad 1))
  (aw (jd aT cC)
  (aA (ad 2))))
def bZ:List PyData→Option Sl:=bS 2 3 eW
def bx:bU:=(aw (aP (de (cN 0 (ae false (pC (.str "0")) (ae false (ad 1) ap))))
  (aA (ag aH false (ad 1) (pC (.int 1))))
  az)
  (aw (aF 2 (nw (de (cN 0 (ae false (pC (.str "-")) (ae false (ad 1) ap)))) (ag aH false (ad 1) (pC (.int 1))) (ad 1)))
  (aw (aF 3 (ar bZ (ae false (ad 0) (ae false (ad 2) ap))))
  (aw (aP (cF (de (cN 0 (ae false (pC (.str "0")) (ae false (ad 2) ap)))) (b8 (bD (a9 (aQ .le) (aQ .le) false false (pC (.int 1)) (ag gh false (ad 3) (ad 2)) (pC (.int 30))))))
  (aA (ad 1))
  az)
  (aA (ad 3))))))
def aJ:List PyData→Option Sl:=bS 2 4 bx
def dI:bU:=(aw (aF 2 (ar aJ (ae false (ad 0) (ae false (ad 1) ap))))
  (aA (fz (fw (dh (nw (bD (ag d_ false (ad 2) (ad 1))) (pC (.int 1)) (aW sg (ae false (mv false (ad 0) (iB (ad 1)) (iB (ad 2))) ap))) (dh (ad 2) i0))))))
def aM:List PyData→Option Sl:=bS 2 3 dI
def jI:bU:=(aw (aP (b8 (de (cN 1 (ae false (ad 0) (ae false (ad 2) ap)))))
  j8
  az)
  (aA (ag aH false (ad 2) (pC (.int 1)))))
def bT:List PyData→Option Sl:=bS 3 3 jI
def fI:bU:=(aw (aF 2 (ar aM (ae false (ad 0) (ae false (ag aH false (ad 1) (pC (.int 1))) ap))))
  (aA (fz (fw (dh (jF "Piece" gZ (ae false (ag dO false (ad 0) (ad 1)) (ae false (ag dO false (ad 2) (pC (.int 0))) ap))) (dh (ag dO false (ad 2) (pC (.int 1))) i0))))))
def bI:List PyData→Option Sl:=bS 2 3 fI
def jJ:bU:=(aw (aP (bD (ag (bR (aQ .lt)) false (ad 1) (aW dz (ae false (ad 0) ap))))
  (aA (ag dO false (ad 0) (ad 1)))
  az)
  (aA (pC (.int 0))))
def bp:List PyData→Option Sl:=bS 2 2 jJ
def iW:bU:=(aw (aF 2 (ag aH false (ag aH false (ag cu false (ad 0) (pC (.int 2305843009213693951))) (ag cm false (pC (.int 131)) (ad 1))) (pC (.int 17))))
  (aw (aF 2 (ag cu false (ag cm false (ad 2) (ag aH false (pC (.int 2862933555777941757)) (ag cm false (ag cm false (pC (.int 2)) (ad 1)) (ad 1)))) (pC (.int 2305843009213693951))))
  (aA (ag cG false (ag cu false (ag cm false (ag aH false (ag cG false (ad 2) (pC (.int 8191))) (ag cm false (ad 1) (ad 1))) (pC (.int 3935559000370003845))) (pC (.int 2305843009213693921))) (pC (.int 7))))))
def b5:List PyData→Option Sl:=bS 2 3 iW
def bj:List PyData→List PyData→Option (Sl×List PyData):=fun ds0 ds=>match ds0,ds with
  | [.int r],[.int m]=>if fZ m then some (.sh (.int (r % m)),[.int (r / m)]) else none
  | _,_=>none
theorem hJ (ds0 ds:List PyData) (r:Sl×List PyData) (h:bj ds0 ds=some r):∃d,r.1= .sh d:=by
  unfold bj at h
  split at h
  · split at h
    · cases h;exact ⟨_,rfl⟩
    · cases h
  · cases h
def dJ:kF:=(bM 6)
def dL:bU:=(aw (aF 7 (ag dO true (ad 1) (fB 5 bj (ae false (aW dz (ae false (ad 1) ap)) ap))))
  (i4 (gi 4 (ip (aV (ad 7) (aV (ag gh false (fB 5 bj (ae false (ag aH false (ag cm false (pC (.int 2)) (ad 2)) (pC (.int 1))) ap)) (ad 2)) bL))))))
def cP:kF:=(bM 6)
def cQ:bU:=(aw (aF 7 (ag dO false (ad 1) (ag cu false (ar b5 (ae false (ad 0) (ae false (ag aH false (ag cm false (pC (.int 2)) (ad 6)) (pC (.int 1))) ap))) (aW dz (ae false (ad 1) ap)))))
  (i4 (gi 4 (ip (aV (ad 7) (aV (ag gh false (ag cu false (ar b5 (ae false (ad 0) (ae false (ag aH false (ag cm false (pC (.int 2)) (ad 6)) (pC (.int 2))) ap))) (ag aH false (ag cm false (pC (.int 2)) (ad 2)) (pC (.int 1)))) (ad 2)) bL))))))
def eR:bU:=(aw (aF 4 (cz bL))
  (aw (aP (b8 (bD (a9 (aQ .lt) (aQ .lt) false false (dB eQ (ag jx false (pC (.int 10)) (pC (.int 18)))) (ad 0) (ag jx false (pC (.int 10)) (pC (.int 18))))))
  (aw (aF 5 (cz (aV (ad 0) bL)))
  (aw (jc (gV (ae false (fB 5 bj (ae false (ag aH false (ad 3) (pC (.int 1))) ap)) ap)) dJ
  dL)
  (aA (ad 4))))
  az)
  (aw (jc (gV (ae false (ag cu false (ar b5 (ae false (ad 0) (ae false (pC (.int 0)) ap))) (ag aH false (ad 3) (pC (.int 1)))) ap)) cP
  cQ)
  (aA (ad 4)))))
def bC:List PyData→Option Sl:=bS 4 8 eR
def c8:kF:=(ik 2 (df (bM 0) (df (bM 1) ij)))
def cr:b_:=(ip (aV (ad 0) (aV (dB eQ (ad 1)) bL)))
def eI:bU:=(aA (lE [none,none] (pB (ad 0)) c8 kq cr))
def bn:List PyData→Option Sl:=bS 1 1 eI
def di:kF:=(ik 2 (df (bM 2) (df (bM 3) ij)))
def dk:bU:=(aw (aP (cF (b8 (de (dB (gx .tuple) (ad 2)))) (cF (bD (ag mn false (aW dz (ae false (ad 2) ap)) (pC (.int 2)))) (b8 (de (dB (gx .str) (ag dO false (ad 2) (pC (.int 0))))))))
  (aA (pC (.bool false)))
  az)
  (aP (cF (b8 (de (dB (gx .int) (ag dO false (ad 2) (pC (.int 1)))))) (cF (de (dB (gx .bool) (ag dO false (ad 2) (pC (.int 1))))) (bD (ag mn false (ad 2) (ad 3)))))
  (aA (pC (.bool false)))
  az))
def gm:bU:=(aw (aP (cF (b8 (de (dB (gx .list) (ad 0)))) (bD (ag mn false (aW dz (ae false (ad 0) ap)) (aW dz (ae false (ad 1) ap)))))
  (aA (pC (.bool false)))
  az)
  (aw (jc (vC (ad 0) (ad 1)) di
  dk)
  (aA (pC (.bool true)))))
def bz:List PyData→Option Sl:=bS 2 4 gm
def fJ:bU:=(aw (aF 1 (cz (aV (dB (iq jh) (ad 0)) (aV (dB (iq jl) (ad 0)) (aV (dB (iq jk) (ad 0)) (aV (dB (iq iG) (ad 0)) bL))))))
  (aw (aF 1 (ag aH false (ad 1) (cz (aV (dB (iq jm) (ad 0)) (aV (dB (iq g5) (ad 0)) (aV (dB (iq ji) (ad 0)) (aV (dB (iq jj) (ad 0)) bL)))))))
  (aA (ag aH false (ad 1) (cz (aV (dB (iq iH) (ad 0)) bL))))))
def cR:List PyData→Option Sl:=bS 1 2 fJ
def eJ:bU:=(aw (xX ["TooLong"] 1 (pS dW (ad 0)) (i4 (cH gc (ad 0))) (aA (dU (dB (iq iI) (ad 1)) (dU (dB (iq f_) (ad 1)) (ag (bR (v6 true)) false (pC (.bool true)) (ar cR (ae false (ad 1) ap)))))))
  (aA (pC (.bool false))))
def aZ:List PyData→Option Sl:=bS 1 2 eJ
def cS:kF:=(ik 2 (df (bM 2) (df (bM 3) ij)))
def cU:bU:=(aF 1 (ag aH false (ag aH false (ad 1) (ad 2)) (ag ku false (aW i6 (ae false (ad 3) ap)) (aW oq (ae false (ag mn false (ad 3) (pC (.int 1))) ap)))))
def hO:bU:=(aw (aF 1 (pC (.str "")))
  (aw (jc (tF (ad 0)) cS
  cU)
  (aA (ad 1))))
def bO:List PyData→Option Sl:=bS 1 4 hO
def bJ:bU:=(aw (aF 2 (ag cu false (ad 0) (pC (.int 6))))
  (aw (aF 3 (ag dO false (cz (aV (pC (.int 1)) (aV (dB eQ (pC (.int 1))) bL))) (ag cu false (ag cG false (ad 0) (pC (.int 6))) (pC (.int 2)))))
  (aw (aP (cF (bD (ag d_ false (ad 2) (pC (.int 0)))) (bD (ag d_ false (ad 1) (pC (.int 0)))))
  (aA (ag cm false (ad 3) (ag cu false (ag cG false (ad 0) (pC (.int 12))) (pC (.int 9)))))
  az)
  (aw (aP (bD (ag (bR (aQ .lt)) false (ad 2) (pC (.int 3))))
  (aA (ag cm false (ad 3) (aW mr (ae false (pC (.int 0)) (ae false (ag gh false (ag cG false (pC (.int 4000)) (ad 1)) (ag cu false (ag cG false (ad 0) (pC (.int 12))) (pC (.int 3)))) ap)))))
  az)
  (aw (aP (bD (ag d_ false (ad 2) (pC (.int 3))))
  (aA (ag cm false (ad 3) (ag aH false (ag cG false (pC (.int 4000)) (ad 1)) (pC (.int 1)))))
  az)
  (aw (aP (bD (ag d_ false (ad 2) (pC (.int 4))))
  (aA (ag cm false (ad 3) (ag cu false (ag cG false (ad 0) (pC (.int 12))) (ag jx false (pC (.int 10)) (pC (.int 30))))))
  az)
  (aA (ad 3))))))))
def aU:List PyData→Option Sl:=bS 2 4 bJ
def gd:bU:=(aw (aF 1 (ar bC (ae false (ar bp (ae false (ad 0) (ae false (pC (.int 1)) ap))) (ae false (pC (.str "abcdefghijklmnopqrstuvwxyz")) (ae false (pC (.int 3)) (ae false (pC (.int 7)) ap))))))
  (aw (aP (bD (ag d_ false (ag cu false (ar bp (ae false (ad 0) (ae false (pC (.int 2)) ap))) (pC (.int 3))) (pC (.int 1))))
  (aw (aF 2 (ar bC (ae false (ag cG false (ar bp (ae false (ad 0) (ae false (pC (.int 2)) ap))) (pC (.int 3))) (ae false (pC (.str "nailhung")) (ae false (pC (.int 2)) (ae false (pC (.int 5)) ap))))))
  (aw (aF 3 (ag aH false (ag aH false (ag aH false (ad 1) (ad 2)) (ar bn (ae false (ad 1) ap))) (ar bn (ae false (ad 2) ap))))
  (aA (fz (fw (dh (ag aH false (ag aH false (ag aH false (ag aH false (pC (.str "[")) (ar bO (ae false (ad 1) ap))) (pC (.str ","))) (ar bO (ae false (ad 2) ap))) (pC (.str "]"))) (dh (ad 3) i0)))))))
  az)
  (aA (fz (fw (dh (ar bO (ae false (ad 1) ap)) (dh (ad 1) i0)))))))
def bP:List PyData→Option Sl:=bS 1 4 gd
def dN:bU:=(aw (aP (bD (ag (bR (aQ .lt)) false (ad 1) (pC (.int 0))))
  (aA (ag cm false (ar bn (ae false (ad 0) ap)) (dB eQ (ad 1))))
  az)
  (aA (ag cm false (ad 0) (ad 1))))
def bA:List PyData→Option Sl:=bS 2 2 dN
def fK (self:List PyData→Option Sl):bU:=(aw (aF 3 (ar self (ae false (ad 0) (ae false (ag aH false (ad 1) (pC (.int 1))) (ae false (ag aH false (ad 2) (pC (.int 1))) ap)))))
  (aw (aF 4 (ar aM (ae false (ad 0) (ae false (ar bT (ae false (pC (.str ")")) (ae false (ad 0) (ae false (ag dO false (ad 3) (pC (.int 1))) ap)))) ap))))
  (aA (fz (fw (dh (jF "Times" (fE aB) (ae false (ag dO false (ad 3) (pC (.int 0))) (ae false (ag dO false (ad 4) (pC (.int 0))) ap))) (dh (ag dO false (ad 4) (pC (.int 1))) i0)))))))
def cw (self:List PyData→Option Sl):List PyData→Option Sl:=bS 3 5 (fK self)
def gn (self:List PyData→Option Sl):bU:=(aw (aF 3 (ar self (ae false (ad 0) (ae false (ag aH false (ad 1) (pC (.int 1))) (ae false (ag aH false (ad 2) (pC (.int 1))) ap)))))
  (aw (aF 4 (ar self (ae false (ad 0) (ae false (ar bT (ae false (pC (.str ",")) (ae false (ad 0) (ae false (ag dO false (ad 3) (pC (.int 1))) ap)))) (ae false (ag aH false (ad 2) (pC (.int 1))) ap)))))
  (aA (fz (fw (dh (jF "Back" (g3 aB) (ae false (ag dO false (ad 3) (pC (.int 0))) (ae false (ag dO false (ad 4) (pC (.int 0))) ap))) (dh (ar bT (ae false (pC (.str "]")) (ae false (ad 0) (ae false (ag dO false (ad 4) (pC (.int 1))) ap)))) i0)))))))
def cO (self:List PyData→Option Sl):List PyData→Option Sl:=bS 3 5 (gn self)
def dX (self:List PyData→Option Sl):bU:=(aw (aP (de (ar bY (ae false (ag dO false (ad 0) (ad 1)) ap)))
  (aA (ar bI (ae false (ad 0) (ae false (ad 1) ap))))
  az)
  (aw (aP (bD (ag d_ false (ag dO false (ad 0) (ad 1)) (pC (.str "("))))
  (aA (ar (cw self) (ae false (ad 0) (ae false (ad 1) (ae false (ad 2) ap)))))
  az)
  (aw (aP (bD (ag d_ false (ag dO false (ad 0) (ad 1)) (pC (.str "["))))
  (aA (ar (cO self) (ae false (ad 0) (ae false (ad 1) (ae false (ad 2) ap)))))
  az)
  j8)))
def bB (self:List PyData→Option Sl):List PyData→Option Sl:=bS 3 3 (dX self)
def bo (self:List PyData→Option Sl):jq:=(jy (bD (ag (bR (aQ .lt)) false (ad 4) (aW dz (ae false (ad 0) ap)))) (bD (ag (Cq true) false (ag dO false (ad 0) (ad 4)) (pC (.str "),]")))))
def ci (self:List PyData→Option Sl):bU:=(aw (aF 5 (ar (bB self) (ae false (ad 0) (ae false (ad 4) (ae false (ad 2) ap)))))
  (aw (i4 (gi 3 (ag dO false (ad 5) (pC (.int 0)))))
  (aF 4 (ag dO false (ad 5) (pC (.int 1))))))
def dq (self:List PyData→Option Sl):bU:=(aw (aP (bD (ag (bR (aQ .gt)) false (ad 2) (pC (.int 30))))
  j8
  az)
  (aw (aF 3 (cz bL))
  (aw (aF 4 (ad 1))
  (aw (jd (bo self) (ci self))
  (aA (fz (fw (dh (jF "Parts" (fD aB) (ae false (ad 3) ap)) (dh (ad 4) i0)))))))))
def aE:Nat→List PyData→Option Sl
  | 0=>fun _=>none
  | n+1=>bS 3 6 (dq (aE n))
def eX:List PyData→Option Sl:=aE 33
def oH:bU:=(aw (aP (b8 (de (dB (gx .str) (ad 0))))
  j8
  az)
  (aw (aF 1 (ar eX (ae false (ad 0) (ae false (pC (.int 0)) (ae false (pC (.int 0)) ap)))))
  (aw (aP (bD (ag (bR (aQ .lt)) false (ag dO false (ad 1) (pC (.int 1))) (aW dz (ae false (ad 0) ap))))
  j8
  az)
  (aA (ag dO false (ad 1) (pC (.int 0)))))))
def gp:List PyData→Option Sl:=bS 1 2 oH
def fg:kF:=(bM 5)
def fi:bU:=(aw (aF 6 (ar aU (ae false (ar bp (ae false (ad 0) (ae false (ag aH false (pC (.int 4)) (ad 5)) ap))) (ae false (ad 3) ap))))
  (aw (aF 1 (ag aH false (ag aH false (ag aH false (pC (.str "(")) (ad 1)) (pC (.str ")"))) (ag ku false (aW i6 (ae false (ad 6) ap)) (aW oq (ae false (ag mn false (ad 6) (pC (.int 1))) ap)))))
  (aw (aP (bD (a9 (aQ .lt) (aQ .le) false false (pC (.int 0)) (ag cm false (ad 3) (aW iZ (ae false (ad 6) ap))) (pC (.int 4000))))
  (aF 2 (ar bA (ae false (ad 2) (ae false (ad 6) ap))))
  (aP (bD (ag d_ false (ad 6) (pC (.int 0))))
  (aF 2 (cz bL))
  az))
  (aF 3 (ag cm false (ad 3) (aW iZ (ae false (ad 6) ap)))))))
def nM:bU:=(aw (xD (ar bP (ae false (ad 0) ap)) (ik 2 (df (bM 1) (df (bM 2) ij))))
  (aw (aF 3 (aW dz (ae false (ad 2) ap)))
  (aw (aF 4 (pC (.bool false)))
  (aw (jc (gV (ae false (ag aH false (pC (.int 1)) (ag cu false (ar bp (ae false (ad 0) (ae false (pC (.int 3)) ap))) (pC (.int 3)))) ap)) fg
  fi)
  (aw (aP (bD (ag d_ false (ag cu false (ag cG false (ar bp (ae false (ad 0) (ae false (pC (.int 0)) ap))) (pC (.int 2))) (pC (.int 2))) (pC (.int 1))))
  (aw (aF 1 (ag aH false (ad 1) (pC (.str "q2"))))
  (aw (aF 3 (ag aH false (ad 3) (pC (.int 1))))
  (aP (bD (ag (bR (aQ .le)) false (ad 3) (pC (.int 4000))))
  (aF 2 (ag aH false (ad 2) (cz (aV (ip (aV (pC (.str "q")) (aV (pC (.int 2)) bL))) bL))))
  az)))
  az)
  (aw (aF 7 (ar gp (ae false (ad 1) ap)))
  (aw (aP (cF (b8 (de (dB (qL tab_is_Term) (ad 7)))) (cF (de (dB (gx .bool) (cH aB (ad 7)))) (bD (ag mn false (cH aB (ad 7)) (ad 3)))))
  (aA (pC (.bool false)))
  az)
  (aw (aP (bD (ag (bR (aQ .gt)) false (ad 3) (pC (.int 4000))))
  (aA (dU (ar aZ (ae false (ad 7) ap)) (dU (ar aZ (ae false (ad 7) ap)) (ag d_ false (cH aB (ad 7)) (ad 3)))))
  az)
  (aw (aF 8 (cH gc (ad 7)))
  (aw (aP (cF (b8 (de (dB (gx .list) (ad 8)))) (bD (ag mn false (aW dz (ae false (ad 8) ap)) (ad 3))))
  (aA (pC (.bool false)))
  az)
  (aw (aP (cF (bD (ag (bR (aQ .le)) false (ad 3) (pC (.int 300)))) (bD (ag d_ false (ag cu false (ar bp (ae false (ad 0) (ae false (pC (.int 7)) ap))) (pC (.int 8))) (pC (.int 1)))))
  (aA (ar bz (ae false (ad 8) (ae false (ad 2) ap))))
  az)
  (aA (dU (ag d_ false (ag dO false (ad 8) (pC (.int 0))) (ag dO false (ad 2) (pC (.int 0)))) (dU (ag d_ false (ag dO false (ad 8) (dB eQ (pC (.int 1)))) (ag dO false (ad 2) (dB eQ (pC (.int 1))))) (ar bz (ae false (mv false (ad 8) lz (iB (pC (.int 9)))) (ae false (mv false (ad 2) lz (iB (pC (.int 9)))) ap)))))))))))))))))
def jn:List PyData→Option Sl:=bS 1 9 nM
end Nhk64
namespace Nhk64
open PySem L2 Nh PL
def gD (i:Nat):Stmt:=PySem.Challenge.pw_nailhang_k64_too_long.main.body.getD i (.Pass ⟨0,0,0,0⟩)
structure XF (K:PySem.W.Frag) (mg:Str→Option Value):Prop where
  c_NoCord:∃C,mg "NoCord"=some (.ref C)∧XT K (.ref C) jh
  c_NoNails:∃C,mg "NoNails"=some (.ref C)∧XT K (.ref C) iG
  c_NoRule:∃C,mg "NoRule"=some (.ref C)∧XT K (.ref C) ji
  c_NoText:∃C,mg "NoText"=some (.ref C)∧XT K (.ref C) jj
  c_NoMove:∃C,mg "NoMove"=some (.ref C)∧XT K (.ref C) jk
  c_NoLine:∃C,mg "NoLine"=some (.ref C)∧XT K (.ref C) jl
  c_NoName:∃C,mg "NoName"=some (.ref C)∧XT K (.ref C) jm
  c_NoNumber:∃C,mg "NoNumber"=some (.ref C)∧XT K (.ref C) g5
  c_TooMany:∃C,mg "TooMany"=some (.ref C)∧XT K (.ref C) iH
  c_TooLong:∃C,mg "TooLong"=some (.ref C)∧XT K (.ref C) iI∧XC K mg "TooLong" C
  c_Term:∃C,mg "Term"=some (.ref C)∧XT K (.ref C) wc
  c_Piece:∃C,mg "Piece"=some (.ref C)∧XT K (.ref C) uc
  c_Parts:∃C,mg "Parts"=some (.ref C)∧XT K (.ref C) ud
  c_Times:∃C,mg "Times"=some (.ref C)∧XT K (.ref C) ue
  c_Back:∃C,mg "Back"=some (.ref C)∧XT K (.ref C) wd
  v_ValueError:mg "ValueError"=none∧XT K (.type "ValueError") f_
  e_HangError:∃C,mg "HangError"=some (.ref C)∧∀n∈[("TooLong":Str)],∀D,PySem.W.nsIn K mainGlobals n=some (some (.ref D))→PySem.W.exmOne K (.ref D) (.ref C)=some true
section
variable {P:Program} {w:World} {K:PySem.W.Frag} {mg:Str→Option Value} {base:Heap}
abbrev hU:Stmt:=gD 15
theorem pW:FnScope ["cord"] ["cord"] (ai hU):=⟨rfl,rfl,rfl,by decide+kernel,rfl,by decide+kernel,by decide+kernel⟩
theorem pX (D:Def K mg "contrary" hU ["cord"]) (B:Bn mg):Own P w K mg base 1 "contrary" ["cord"] (bV K cq):=by
  delta cq
  refine fm (g:=g7) D pW rfl rfl (by decide) fun f cdv A outer s H E hr=>?_
  delta g7
  exact (ao (aD (lG (N:=["nail","turns"]) (js:=[none,none]) gS (by rfl) (vx (by rfl) (by exact B.reversed) (aa 0)) (fun _ _ _ _=>(by delta eU;exact (lD (by rfl) (dC (cL 0 (show (["nail","turns"]:List Str).Nodup by decide+kernel)) (dC (cL 1 (show (["nail","turns"]:List Str).Nodup by decide+kernel)) jA))))) (fun _ _ _ _=>(by delta dE;exact (ke (DL.cons (aa 0) rfl (DL.cons (jb (aa 1)) rfl DL.nil))))))))
abbrev eY:Stmt:=gD 19
theorem lO:FnScope ["number"] ["number"] (ai eY):=⟨rfl,rfl,rfl,by decide+kernel,rfl,by decide+kernel,by decide+kernel⟩
theorem lP (D:Def K mg "number_text" eY ["number"]) (B:Bn mg):Own P w K mg base 1 "number_text" ["number"] (bV K bX):=by
  delta bX
  refine fm (g:=gy) D lO rfl rfl (by decide) fun f cdv A outer s H E hr=>?_
  delta gy
  exact (ao (aD (pw (ii hr.units (aa 0) ah) bu (oB (by rfl) (by exact B.str) (af (aa 0) au)))))
abbrev hV:Stmt:=gD 16
theorem pY:FnScope ["cord","times"] ["cord","times"] (ai hV):=⟨rfl,rfl,rfl,by decide+kernel,rfl,by decide+kernel,by decide+kernel⟩
theorem pZ (D:Def K mg "repeated" hV ["cord","times"]) (B:Bn mg) (D_contrary:Own P w K mg base 1 "contrary" ["cord"] (bV K cq)):Own P w K mg base 2 "repeated" ["cord","times"] (bV K cI):=by
  delta cI
  refine fm (g:=gb) D pY rfl rfl (by decide) fun f cdv A outer s H E hr=>?_
  delta gb
  exact (ao (aD (cK (pw (gj .lt (aa 1) ah) (aI D_contrary (hr.mono (by decide)) (by rfl) (af (aa 0) au)) (aa 0)) (qA (by rfl) (by exact B.abs) (af (aa 1) au)))))
abbrev dt:Stmt:=gD 17
theorem jK:FnScope ["one","other"] ["one","other"] (ai dt):=⟨rfl,rfl,rfl,by decide+kernel,rfl,by decide+kernel,by decide+kernel⟩
theorem jL (D:Def K mg "there_and_back" dt ["one","other"]) (B:Bn mg) (D_contrary:Own P w K mg base 1 "contrary" ["cord"] (bV K cq)):Own P w K mg base 2 "there_and_back" ["one","other"] (bV K ba):=by
  delta ba
  refine fm (g:=dl) D jK rfl rfl (by decide) fun f cdv A outer s H E hr=>?_
  delta dl
  exact (ao (aD (aG (aG (aG (aa 0) (aa 1)) (aI D_contrary (hr.mono (by decide)) (by rfl) (af (aa 0) au))) (aI D_contrary (hr.mono (by decide)) (by rfl) (af (aa 1) au)))))
abbrev bq:Stmt:=cY (gD 20) 1
theorem lQ:FnScope ["self"] ["self"] (ai bq):=⟨rfl,rfl,rfl,by decide+kernel,rfl,by decide+kernel,by decide+kernel⟩
theorem eK {f0:Addr} {fd:FuncData} (D:Fun K "pieces" "Term.pieces" bq f0 fd) (B:Bn mg) (HF_size:∀cn∈(["Piece","Parts","Times","Back"]:List Str),∀C,PySem.W.nsIn K mainGlobals cn=some (some (.ref C))→Cls K C∧NoAttr K C "size"):FnOk P w K mg base iu 1 f0 fd ["self"] (bV K (bN)):=by
  delta bN
  refine wK (g:=eV) D lQ rfl rfl (by decide) fun cdv A outer s H E hr=>?_
  delta eV
  exact (ao (aD (cX HF_size (aa 0))))
abbrev fL:Stmt:=cY (gD 21) 1
theorem my:FnScope ["self"] ["self"] (ai fL):=⟨rfl,rfl,rfl,by decide+kernel,rfl,by decide+kernel,by decide+kernel⟩
theorem mz {f0:Addr} {fd:FuncData} (D:Fun K "made" "Piece.made" fL f0 fd) (B:Bn mg) (HF_nail:∀cn∈(["Piece"]:List Str),∀C,PySem.W.nsIn K mainGlobals cn=some (some (.ref C))→Cls K C∧NoAttr K C "nail") (HF_turns:∀cn∈(["Piece"]:List Str),∀C,PySem.W.nsIn K mainGlobals cn=some (some (.ref C))→Cls K C∧NoAttr K C "turns"):FnOk P w K mg base iu 1 f0 fd ["self"] (bV K (dF)):=by
  delta dF
  refine wK (g:=fF) D my rfl rfl (by decide) fun cdv A outer s H E hr=>?_
  delta fF
  exact (ao (aD (fo (DL.cons (ke (DL.cons (cX HF_nail (aa 0)) rfl (DL.cons (cX HF_turns (aa 0)) rfl DL.nil))) rfl DL.nil))))
abbrev fM:Stmt:=cY (gD 21) 2
theorem mB:FnScope ["self"] ["self"] (ai fM):=⟨rfl,rfl,rfl,by decide+kernel,rfl,by decide+kernel,by decide+kernel⟩
theorem mC {f0:Addr} {fd:FuncData} (D:Fun K "text" "Piece.text" fM f0 fd) (B:Bn mg) (HF_nail:∀cn∈(["Piece"]:List Str),∀C,PySem.W.nsIn K mainGlobals cn=some (some (.ref C))→Cls K C∧NoAttr K C "nail") (HF_turns:∀cn∈(["Piece"]:List Str),∀C,PySem.W.nsIn K mainGlobals cn=some (some (.ref C))→Cls K C∧NoAttr K C "turns") (D_number_text:Own P w K mg base 1 "number_text" ["number"] (bV K bX)):FnOk P w K mg base iu 2 f0 fd ["self"] (bV K (gz)):=by
  delta gz
  refine wK (g:=g8) D mB rfl rfl (by decide) fun cdv A outer s H E hr=>?_
  delta g8
  exact (ao (aD (aG (cX HF_nail (aa 0)) (aI D_number_text (hr.mono (by decide)) (by rfl) (af (cX HF_turns (aa 0)) au)))))
abbrev bQ:Stmt:=cY (gD 20) 2
theorem jM:FnScope ["self"] ["self"] (ai bQ):=⟨rfl,rfl,rfl,by decide+kernel,rfl,by decide+kernel,by decide+kernel⟩
theorem fN {f0:Addr} {fd:FuncData} (D:Fun K "cord" "Term.cord" bQ f0 fd) (B:Bn mg) {k:Nat} {self:List PyData→Option Sl} (DS:DispM P w K mg base k "made" self) (HF_size:∀cn∈(["Piece","Parts","Times","Back"]:List Str),∀C,PySem.W.nsIn K mainGlobals cn=some (some (.ref C))→Cls K C∧NoAttr K C "size") {t_LONGEST:Tok} (G_LONGEST:mg "LONGEST"=some (.int 4000 t_LONGEST)):FnOk P w K mg base iu (k+1) f0 fd ["self"] (bV K (bH self)):=by
  delta bH
  refine wK (g:=fc self) D jM rfl rfl (by decide) fun cdv A outer s H E hr=>?_
  delta fc
  exact (aj (cp (gj .gt (cX HF_size (aa 0)) (kP (by rfl) (by exact G_LONGEST)))
  (ao gL)
  aY)
  (ao (aD (pw (gj .gt (cX HF_size (aa 0)) ah) (c0 DS hr (aa 0)) (fo DL.nil)))))
theorem eZ {f0:Addr} {fd:FuncData} (D:Fun K "cord" "Term.cord" bQ f0 fd) (B:Bn mg) (XX:XF K mg) (HF_size:∀cn∈(["Piece","Parts","Times","Back"]:List Str),∀C,PySem.W.nsIn K mainGlobals cn=some (some (.ref C))→Cls K C∧NoAttr K C "size") {t_LONGEST:Tok} (G_LONGEST:mg "LONGEST"=some (.int 4000 t_LONGEST)):FnOk P w K mg base (vU P w) 1 f0 fd ["self"] (Cu K eF):=by
  obtain ⟨C_TooLong,m_TooLong,t_TooLong,z_TooLong⟩:=XX.c_TooLong
  delta eF
  refine Dd (mk:=true) (al:=true) (k:=0) (r:=gk) D jM rfl rfl (by decide) fun cdv A outer s H E hr=>?_
  delta gk
  exact (oA (BL (gj .gt (cX HF_size (aa 0)) (kP (by rfl) (by exact G_LONGEST))) (oA (vY (by rfl) (by rfl) z_TooLong))))
abbrev fO:Stmt:=cY (gD 22) 1
theorem sc_Parts_made:FnScope ["self","told","part"] ["self"] (ai fO):=⟨rfl,rfl,rfl,by decide+kernel,rfl,by decide+kernel,by decide+kernel⟩
theorem mD {f0:Addr} {fd:FuncData} (D:Fun K "made" "Parts.made" fO f0 fd) (B:Bn mg) {k:Nat} {self:List PyData→Option Sl} (DS:DispM P w K mg base k "cord" self) (HF_kept:∀cn∈(["Parts"]:List Str),∀C,PySem.W.nsIn K mainGlobals cn=some (some (.ref C))→Cls K C∧NoAttr K C "kept"):FnOk P w K mg base iu (k+1) f0 fd ["self"] (bV K (dG self)):=by
  delta dG
  refine wK (g:=fG self) D sc_Parts_made rfl rfl (by decide) fun cdv A outer s H E hr=>?_
  delta fG
  exact (aj (aS 1 sc_Parts_made.nd (fo DL.nil))
  (aj (j4 PassesOwn.never (by rfl) (qD (cX HF_kept (aa 0))) (by delta ce;exact (cL 2 sc_Parts_made.nd))
  (by delta cg;exact (ao (jz (tK 1 (c0 DS hr (aa 2)))))))
  (ao (aD (aa 1)))))
abbrev fP:Stmt:=cY (gD 22) 2
theorem mE:FnScope ["self"] ["self"] (ai fP):=⟨rfl,rfl,rfl,by decide+kernel,rfl,by decide+kernel,by decide+kernel⟩
theorem mF {f0:Addr} {fd:FuncData} (D:Fun K "text" "Parts.text" fP f0 fd) (B:Bn mg) {k:Nat} {self:List PyData→Option Sl} (DS:DispM P w K mg base k "text" self) (HF_kept:∀cn∈(["Parts"]:List Str),∀C,PySem.W.nsIn K mainGlobals cn=some (some (.ref C))→Cls K C∧NoAttr K C "kept"):FnOk P w K mg base iu (k+1) f0 fd ["self"] (bV K (gA self)):=by
  delta gA
  refine wK (g:=g9 self) D mE rfl rfl (by decide) fun cdv A outer s H E hr=>?_
  delta g9
  exact (ao (aD (xH (lG (N:=["part"]) (js:=[none]) gS (by rfl) (qD (cX HF_kept (aa 0))) (fun _ _ _ _=>(by delta il;exact (cL 0 (show (["part"]:List Str).Nodup by decide+kernel)))) (fun _ _ _ _=>(by delta im;exact (c0 DS hr (aa 0))))))))
abbrev fQ:Stmt:=cY (gD 23) 1
theorem mG:FnScope ["self"] ["self"] (ai fQ):=⟨rfl,rfl,rfl,by decide+kernel,rfl,by decide+kernel,by decide+kernel⟩
theorem mH {f0:Addr} {fd:FuncData} (D:Fun K "made" "Times.made" fQ f0 fd) (B:Bn mg) {k:Nat} {self:List PyData→Option Sl} (DS:DispM P w K mg base k "cord" self) (hk:2≤k) (HF_number:∀cn∈(["Times"]:List Str),∀C,PySem.W.nsIn K mainGlobals cn=some (some (.ref C))→Cls K C∧NoAttr K C "number") (HF_body:∀cn∈(["Times"]:List Str),∀C,PySem.W.nsIn K mainGlobals cn=some (some (.ref C))→Cls K C∧NoAttr K C "body") (D_repeated:Own P w K mg base 2 "repeated" ["cord","times"] (bV K cI)):FnOk P w K mg base iu (k+1) f0 fd ["self"] (bV K (dH self)):=by
  delta dH
  refine wK (g:=fH self) D mG rfl rfl (by decide) fun cdv A outer s H E hr=>?_
  delta fH
  exact (ao (aD (aI D_repeated (hr.mono (by omega)) (by rfl) (af (c0 DS hr (cX HF_body (aa 0))) (af (cX HF_number (aa 0)) au)))))
abbrev fR:Stmt:=cY (gD 23) 2
theorem mI:FnScope ["self"] ["self"] (ai fR):=⟨rfl,rfl,rfl,by decide+kernel,rfl,by decide+kernel,by decide+kernel⟩
theorem mJ {f0:Addr} {fd:FuncData} (D:Fun K "text" "Times.text" fR f0 fd) (B:Bn mg) {k:Nat} {self:List PyData→Option Sl} (DS:DispM P w K mg base k "text" self) (hk:1≤k) (HF_body:∀cn∈(["Times"]:List Str),∀C,PySem.W.nsIn K mainGlobals cn=some (some (.ref C))→Cls K C∧NoAttr K C "body") (HF_number:∀cn∈(["Times"]:List Str),∀C,PySem.W.nsIn K mainGlobals cn=some (some (.ref C))→Cls K C∧NoAttr K C "number") (D_number_text:Own P w K mg base 1 "number_text" ["number"] (bV K bX)):FnOk P w K mg base iu (k+1) f0 fd ["self"] (bV K (gB self)):=by
  delta gB
  refine wK (g:=g_ self) D mI rfl rfl (by decide) fun cdv A outer s H E hr=>?_
  delta g_
  exact (ao (aD (aG (aG (aG bu (c0 DS hr (cX HF_body (aa 0)))) bu) (aI D_number_text (hr.mono (by omega)) (by rfl) (af (cX HF_number (aa 0)) au)))))
abbrev gq:Stmt:=cY (gD 24) 1
theorem oI:FnScope ["self"] ["self"] (ai gq):=⟨rfl,rfl,rfl,by decide+kernel,rfl,by decide+kernel,by decide+kernel⟩
theorem oJ {f0:Addr} {fd:FuncData} (D:Fun K "made" "Back.made" gq f0 fd) (B:Bn mg) {k:Nat} {self:List PyData→Option Sl} (DS:DispM P w K mg base k "cord" self) (hk:2≤k) (HF_other:∀cn∈(["Back"]:List Str),∀C,PySem.W.nsIn K mainGlobals cn=some (some (.ref C))→Cls K C∧NoAttr K C "other") (HF_one:∀cn∈(["Back"]:List Str),∀C,PySem.W.nsIn K mainGlobals cn=some (some (.ref C))→Cls K C∧NoAttr K C "one") (D_there_and_back:Own P w K mg base 2 "there_and_back" ["one","other"] (bV K ba)):FnOk P w K mg base iu (k+1) f0 fd ["self"] (bV K (eG self)):=by
  delta eG
  refine wK (g:=gl self) D oI rfl rfl (by decide) fun cdv A outer s H E hr=>?_
  delta gl
  exact (ao (aD (aI D_there_and_back (hr.mono (by omega)) (by rfl) (af (c0 DS hr (cX HF_one (aa 0))) (af (c0 DS hr (cX HF_other (aa 0))) au)))))
abbrev gr:Stmt:=cY (gD 24) 2
theorem oK:FnScope ["self"] ["self"] (ai gr):=⟨rfl,rfl,rfl,by decide+kernel,rfl,by decide+kernel,by decide+kernel⟩
theorem oM {f0:Addr} {fd:FuncData} (D:Fun K "text" "Back.text" gr f0 fd) (B:Bn mg) {k:Nat} {self:List PyData→Option Sl} (DS:DispM P w K mg base k "text" self) (HF_one:∀cn∈(["Back"]:List Str),∀C,PySem.W.nsIn K mainGlobals cn=some (some (.ref C))→Cls K C∧NoAttr K C "one") (HF_other:∀cn∈(["Back"]:List Str),∀C,PySem.W.nsIn K mainGlobals cn=some (some (.ref C))→Cls K C∧NoAttr K C "other"):FnOk P w K mg base iu (k+1) f0 fd ["self"] (bV K (hG self)):=by
  delta hG
  refine wK (g:=iJ self) D oK rfl rfl (by decide) fun cdv A outer s H E hr=>?_
  delta iJ
  exact (ao (aD (aG (aG (aG (aG bu (c0 DS hr (cX HF_one (aa 0)))) bu) (c0 DS hr (cX HF_other (aa 0)))) bu)))
abbrev fS:Stmt:=cY (gD 21) 0
theorem mK:FnScope ["self","nail","turns"] ["self","nail","turns"] (ai fS):=⟨rfl,rfl,rfl,by decide+kernel,rfl,by decide+kernel,by decide+kernel⟩
theorem mL {f0 C:Addr} {fd:FuncData} (D:Fun K "__init__" "Piece.__init__" fS f0 fd) (B:Bn mg) (cl:Cls K C) (n1:NoAttr K C "nail") (n2:NoAttr K C "turns") (n3:NoAttr K C "size"):FnOk P w K mg base iu 1 f0 fd ["self","nail","turns"] (mw K C gZ):=by
  refine D.ok mK (fun vs H Q E h=>(nH (D:={nx:=fun _ _=>True,rt:=fun _ _=>True}) (N:=["","",""]) cl n1 n2 n3 h fun _ _ _=>trivial).1) (fun cdv A outer s H vs Q E hr h=>?_)
  refine ⟨_,(c_ (fj (pv 0) (pv 1) rfl) (c_ (fj (pv 0) (pv 2) rfl) (iQ (fj (pv 0) jU rfl)))),?_⟩
  exact (nH cl n1 n2 n3 h fun _ _ z=>z).2
def oN (K:PySem.W.Frag):Prop:=∃C,CF K "Piece" C∧NoAttr K C "nail"∧NoAttr K C "turns"∧NoAttr K C "size"∧HM K C "pieces" "Term.pieces" bq∧HM K C "cord" "Term.cord" bQ∧HM K C "made" "Piece.made" fL∧HM K C "text" "Piece.text" fM∧HM K C "__init__" "Piece.__init__" fS
abbrev fT:Stmt:=cY (gD 22) 0
theorem mM:FnScope ["self","parts"] ["self","parts"] (ai fT):=⟨rfl,rfl,rfl,by decide+kernel,rfl,by decide+kernel,by decide+kernel⟩
theorem mO {f0 C:Addr} {fd:FuncData} {c:List PyData→Option Sl} (DP:DispM P w K mg base 1 "pieces" c) (D:Fun K "__init__" "Parts.__init__" fT f0 fd) (B:Bn mg) (cl:Cls K C) (n1:NoAttr K C "parts") (n2:NoAttr K C "kept") (n3:NoAttr K C "size"):FnOk P w K mg base iu 2 f0 fd ["self","parts"] (mw K C (fD c)):=by
  refine D.ok mM (fun vs H Q E h=>(nI (D:={nx:=fun _ _=>True,rt:=fun _ _=>True}) (N:=["",""]) cl n1 n2 n3 h fun _ _ _=>trivial).1) (fun cdv A outer s H vs Q E hr h=>?_)
  refine ⟨_,c_ (fj (pv 0) (gG nW (by rfl) B.list PyProof.Rows.boot_list (bG (pv 1) dy)) rfl) (c_ (fj (pv 0) (gG mj (by rfl) B.tuple PyProof.Rows.boot_tuple (bG (pv 1) dy)) rfl)
    (iQ (fj (pv 0) (gE (tN rfl) (by rfl) B.sum PyProof.Rows.boot_sum (bG (rK (N:=["part"]) (js:=[none]) gS rfl (rm (pv 1)) (fun _ _ _ _=>rl (i:=0) (show (["part"]:List Str).Nodup by decide+kernel) rfl (Or.inl rfl)) (fun _ _ _ _=>rH) (te:=jf K c (dQ 0)) (fun C0 s0 H0 fp=>?el)) dy)) rfl))),?_⟩
  case el=>exact jG DP hr (pv 0)
  exact (nI cl n1 n2 n3 h fun _ _ z=>z).2
def oO (K:PySem.W.Frag):Prop:=∃C,CF K "Parts" C∧NoAttr K C "parts"∧NoAttr K C "kept"∧NoAttr K C "size"∧HM K C "pieces" "Term.pieces" bq∧HM K C "cord" "Term.cord" bQ∧HM K C "made" "Parts.made" fO∧HM K C "text" "Parts.text" fP∧HM K C "__init__" "Parts.__init__" fT
abbrev fU:Stmt:=cY (gD 23) 0
theorem mP:FnScope ["self","body","number"] ["self","body","number"] (ai fU):=⟨rfl,rfl,rfl,by decide+kernel,rfl,by decide+kernel,by decide+kernel⟩
theorem mQ {f0 C:Addr} {fd:FuncData} {c:List PyData→Option Sl} (DP:DispM P w K mg base 1 "pieces" c) (D:Fun K "__init__" "Times.__init__" fU f0 fd) (B:Bn mg) (cl:Cls K C) (n1:NoAttr K C "body") (n2:NoAttr K C "number") (n3:NoAttr K C "size"):FnOk P w K mg base iu 2 f0 fd ["self","body","number"] (mw K C (fE c)):=by
  refine D.ok mP (fun vs H Q E h=>(nJ (D:={nx:=fun _ _=>True,rt:=fun _ _=>True}) (N:=["","",""]) cl n1 n2 n3 h fun _ _ _=>trivial).1) (fun cdv A outer s H vs Q E hr h=>?_)
  refine ⟨_,(c_ (fj (pv 0) (pv 1) rfl) (c_ (fj (pv 0) (pv 2) rfl) (iQ (fj (pv 0) (m_ n_ (jG DP hr (pv 1)) (gE pb (by rfl) B.abs PyProof.Rows.boot_abs (bG (pv 2) dy))) rfl)))),?_⟩
  exact (nJ cl n1 n2 n3 h fun _ _ z=>z).2
def oP (K:PySem.W.Frag):Prop:=∃C,CF K "Times" C∧NoAttr K C "body"∧NoAttr K C "number"∧NoAttr K C "size"∧HM K C "pieces" "Term.pieces" bq∧HM K C "cord" "Term.cord" bQ∧HM K C "made" "Times.made" fQ∧HM K C "text" "Times.text" fR∧HM K C "__init__" "Times.__init__" fU
abbrev gs:Stmt:=cY (gD 24) 0
theorem oQ:FnScope ["self","one","other"] ["self","one","other"] (ai gs):=⟨rfl,rfl,rfl,by decide+kernel,rfl,by decide+kernel,by decide+kernel⟩
theorem oR {f0 C:Addr} {fd:FuncData} {c:List PyData→Option Sl} (DP:DispM P w K mg base 1 "pieces" c) (D:Fun K "__init__" "Back.__init__" gs f0 fd) (B:Bn mg) (cl:Cls K C) (n1:NoAttr K C "one") (n2:NoAttr K C "other") (n3:NoAttr K C "size"):FnOk P w K mg base iu 2 f0 fd ["self","one","other"] (mw K C (g3 c)):=by
  refine D.ok oQ (fun vs H Q E h=>(pN (D:={nx:=fun _ _=>True,rt:=fun _ _=>True}) (N:=["","",""]) cl n1 n2 n3 h fun _ _ _=>trivial).1) (fun cdv A outer s H vs Q E hr h=>?_)
  refine ⟨_,(c_ (fj (pv 0) (pv 1) rfl) (c_ (fj (pv 0) (pv 2) rfl) (iQ (fj (pv 0) (m_ n_ jU (m_ uL (jG DP hr (pv 1)) (jG DP hr (pv 2)))) rfl)))),?_⟩
  exact (pN cl n1 n2 n3 h fun _ _ z=>z).2
def qT (K:PySem.W.Frag):Prop:=∃C,CF K "Back" C∧NoAttr K C "one"∧NoAttr K C "other"∧NoAttr K C "size"∧HM K C "pieces" "Term.pieces" bq∧HM K C "cord" "Term.cord" bQ∧HM K C "made" "Back.made" gq∧HM K C "text" "Back.text" gr∧HM K C "__init__" "Back.__init__" gs
theorem yg {h:Heap} (X:K.In h) (G:h.Ns mainGlobals mg) (B:Bn mg) (XX:XF K mg) (hPiece:oN K) (hParts:oO K) (hTimes:oP K) (hBack:qT K) {t_LONGEST:Tok} (G_LONGEST:mg "LONGEST"=some (.int 4000 t_LONGEST)) (D_number_text:Own P w K mg base 1 "number_text" ["number"] (bV K bX)) (D_repeated:Own P w K mg base 2 "repeated" ["cord","times"] (bV K cI)) (D_there_and_back:Own P w K mg base 2 "there_and_back" ["one","other"] (bV K ba)):
    MkOk P w K mg base 1 "Piece" ["self","nail","turns"] gZ∧MkOk P w K mg base 2 "Parts" ["self","parts"] (fD aB)∧MkOk P w K mg base 2 "Times" ["self","body","number"] (fE aB)∧MkOk P w K mg base 2 "Back" ["self","one","other"] (g3 aB)∧DispM P w K mg base 1 "pieces" aB∧DispM P w K mg base 35 "text" we∧DispM P w K mg base 70 "cord" gc∧nK P w K mg base 1 "cord" dW:=by
  obtain ⟨CPiece,fPiece,n1Piece,n2Piece,n3Piece,mpPiece,mcPiece,mmPiece,mtPiece,miPiece⟩:=hPiece
  have kPiece:=fPiece.ok X G
  obtain ⟨CParts,fParts,n1Parts,n2Parts,n3Parts,mpParts,mcParts,mmParts,mtParts,miParts⟩:=hParts
  have kParts:=fParts.ok X G
  obtain ⟨CTimes,fTimes,n1Times,n2Times,n3Times,mpTimes,mcTimes,mmTimes,mtTimes,miTimes⟩:=hTimes
  have kTimes:=fTimes.ok X G
  obtain ⟨CBack,fBack,n1Back,n2Back,n3Back,mpBack,mcBack,mmBack,mtBack,miBack⟩:=hBack
  have kBack:=fBack.ok X G
  have HF_Term_size:=Frees.ok (K:=K) (mg:=mg) (f:="size") (.cons kPiece n3Piece (.cons kParts n3Parts (.cons kTimes n3Times (.cons kBack n3Back Frees.nil))))
  have HF_Piece_nail:=Frees.ok (K:=K) (mg:=mg) (f:="nail") (.cons kPiece n1Piece .nil)
  have HF_Piece_turns:=Frees.ok (K:=K) (mg:=mg) (f:="turns") (.cons kPiece n2Piece .nil)
  have HF_Piece_size:=Frees.ok (K:=K) (mg:=mg) (f:="size") (.cons kPiece n3Piece .nil)
  have HF_Parts_parts:=Frees.ok (K:=K) (mg:=mg) (f:="parts") (.cons kParts n1Parts .nil)
  have HF_Parts_kept:=Frees.ok (K:=K) (mg:=mg) (f:="kept") (.cons kParts n2Parts .nil)
  have HF_Parts_size:=Frees.ok (K:=K) (mg:=mg) (f:="size") (.cons kParts n3Parts .nil)
  have HF_Times_body:=Frees.ok (K:=K) (mg:=mg) (f:="body") (.cons kTimes n1Times .nil)
  have HF_Times_number:=Frees.ok (K:=K) (mg:=mg) (f:="number") (.cons kTimes n2Times .nil)
  have HF_Times_size:=Frees.ok (K:=K) (mg:=mg) (f:="size") (.cons kTimes n3Times .nil)
  have HF_Back_one:=Frees.ok (K:=K) (mg:=mg) (f:="one") (.cons kBack n1Back .nil)
  have HF_Back_other:=Frees.ok (K:=K) (mg:=mg) (f:="other") (.cons kBack n2Back .nil)
  have HF_Back_size:=Frees.ok (K:=K) (mg:=mg) (f:="size") (.cons kBack n3Back .nil)
  have DP:DispM P w K mg base 1 "pieces" aB:=Disp.ok (.cons kPiece (mpPiece.own (fun f fd D=>eK D B (HF_Term_size)) (fun _ _ _ _ _ _ us hl=>match us,hl with | [_],_=>rfl)) (.cons kParts (mpParts.own (fun f fd D=>eK D B (HF_Term_size)) (fun _ _ _ _ _ _ us hl=>match us,hl with | [_],_=>rfl)) (.cons kTimes (mpTimes.own (fun f fd D=>eK D B (HF_Term_size)) (fun _ _ _ _ _ _ us hl=>match us,hl with | [_],_=>rfl)) (.cons kBack (mpBack.own (fun f fd D=>eK D B (HF_Term_size)) (fun _ _ _ _ _ _ us hl=>match us,hl with | [_],_=>rfl)) .nil)))) (by decide)
  have DT:∀n,DispM P w K mg base (2+n) "text" (cT n):=fun n=>by
    induction n with
    | zero=>exact yT
    | succ n ih=>exact Disp.ok (.cons kPiece ((mtPiece.own (fun f fd D=>mC D B (HF_Piece_nail) (HF_Piece_turns) D_number_text) (fun _ _ _ _ _ _ us hl=>match us,hl with | [_],_=>rfl)).mono (by omega)) (.cons kParts (mtParts.own (fun f fd D=>mF D B ih (HF_Parts_kept)) (fun _ _ _ _ _ _ us hl=>match us,hl with | [_],_=>rfl)) (.cons kTimes (mtTimes.own (fun f fd D=>mJ D B ih (show 1≤2+n by omega) (HF_Times_body) (HF_Times_number) D_number_text) (fun _ _ _ _ _ _ us hl=>match us,hl with | [_],_=>rfl)) (.cons kBack (mtBack.own (fun f fd D=>oM D B ih (HF_Back_one) (HF_Back_other)) (fun _ _ _ _ _ _ us hl=>match us,hl with | [_],_=>rfl)) .nil)))) (by decide)
  have co:∀{k:Nat} {c:List PyData→Option Sl},DispM P w K mg base k "made" c→DispM P w K mg base (k+1) "cord" (qS c):=fun d=>Disp.ok (.cons kPiece (mcPiece.own (fun f fd D=>fN D B d (HF_Term_size) G_LONGEST) (fun _ _ _ _ _ _ us hl=>match us,hl with | [_],_=>rfl)) (.cons kParts (mcParts.own (fun f fd D=>fN D B d (HF_Term_size) G_LONGEST) (fun _ _ _ _ _ _ us hl=>match us,hl with | [_],_=>rfl)) (.cons kTimes (mcTimes.own (fun f fd D=>fN D B d (HF_Term_size) G_LONGEST) (fun _ _ _ _ _ _ us hl=>match us,hl with | [_],_=>rfl)) (.cons kBack (mcBack.own (fun f fd D=>fN D B d (HF_Term_size) G_LONGEST) (fun _ _ _ _ _ _ us hl=>match us,hl with | [_],_=>rfl)) .nil)))) (by decide)
  have DM:∀n,DispM P w K mg base (3+2*n) "made" (cM n):=fun n=>by
    induction n with
    | zero=>exact yT
    | succ n ih=>exact Disp.ok (.cons kPiece ((mmPiece.own (fun f fd D=>mz D B (HF_Piece_nail) (HF_Piece_turns)) (fun _ _ _ _ _ _ us hl=>match us,hl with | [_],_=>rfl)).mono (by omega)) (.cons kParts ((mmParts.own (fun f fd D=>mD D B (co ih) (HF_Parts_kept)) (fun _ _ _ _ _ _ us hl=>match us,hl with | [_],_=>rfl)).mono (by omega)) (.cons kTimes ((mmTimes.own (fun f fd D=>mH D B (co ih) (show 2≤3+2*n+1 by omega) (HF_Times_number) (HF_Times_body) D_repeated) (fun _ _ _ _ _ _ us hl=>match us,hl with | [_],_=>rfl)).mono (by omega)) (.cons kBack ((mmBack.own (fun f fd D=>oJ D B (co ih) (show 2≤3+2*n+1 by omega) (HF_Back_other) (HF_Back_one) D_there_and_back) (fun _ _ _ _ _ _ us hl=>match us,hl with | [_],_=>rfl)).mono (by omega)) .nil)))) (by decide)
  have DR:nK P w K mg base 1 "cord" dW:=v9 (by decide) fun cn hc=>by
    simp only [List.mem_cons,List.not_mem_nil,or_false] at hc
    rcases hc with rfl | rfl | rfl | rfl
    · exact ⟨_,kPiece,mcPiece.ownR (fun f fd D=>eZ D B XX (HF_Term_size) G_LONGEST) (fun _ _ _ _ _ _ us hl=>match us,hl with | [_],_=>rfl)⟩
    · exact ⟨_,kParts,mcParts.ownR (fun f fd D=>eZ D B XX (HF_Term_size) G_LONGEST) (fun _ _ _ _ _ _ us hl=>match us,hl with | [_],_=>rfl)⟩
    · exact ⟨_,kTimes,mcTimes.ownR (fun f fd D=>eZ D B XX (HF_Term_size) G_LONGEST) (fun _ _ _ _ _ _ us hl=>match us,hl with | [_],_=>rfl)⟩
    · exact ⟨_,kBack,mcBack.ownR (fun f fd D=>eZ D B XX (HF_Term_size) G_LONGEST) (fun _ _ _ _ _ _ us hl=>match us,hl with | [_],_=>rfl)⟩
  exact ⟨miPiece.mkOk fPiece kPiece (fun f fd D=>mL D B kPiece.cl n1Piece n2Piece n3Piece) (fun _ _ _ _ _ _ us hl=>match us,hl with | [_,_,_],_=>rfl),miParts.mkOk fParts kParts (fun f fd D=>mO DP D B kParts.cl n1Parts n2Parts n3Parts) (fun _ _ _ _ _ _ us hl=>match us,hl with | [_,_],_=>rfl),miTimes.mkOk fTimes kTimes (fun f fd D=>mQ DP D B kTimes.cl n1Times n2Times n3Times) (fun _ _ _ _ _ _ us hl=>match us,hl with | [_,_,_],_=>rfl),miBack.mkOk fBack kBack (fun f fd D=>oR DP D B kBack.cl n1Back n2Back n3Back) (fun _ _ _ _ _ _ us hl=>match us,hl with | [_,_,_],_=>rfl),DP,DT 33,co (DM 33),DR⟩
abbrev iX:Stmt:=gD 14
theorem qU:FnScope ["thing"] ["thing"] (ai iX):=⟨rfl,rfl,rfl,by decide+kernel,rfl,by decide+kernel,by decide+kernel⟩
theorem qV (D:Def K mg "is_nail" iX ["thing"]) (B:Bn mg):Own P w K mg base 1 "is_nail" ["thing"] (bV K bY):=by
  delta bY
  refine fm (g:=gO) D qU rfl rfl (by decide) fun f cdv A outer s H E hr=>?_
  delta gO
  exact (ao (aD (ix (gU .str (by rfl) (by exact B.isinstance) (aa 0) (by rfl) (by exact B.str) PyProof.Rows.boot_str) (ix (rR hr.units (fk (by rfl) (by exact B.len) (af (aa 0) au)) ah) (oh (BG .le .le bu (aa 0) bu))))))
abbrev e8:Stmt:=gD 28
theorem sc_figures_end:FnScope ["text","place","end"] ["text","place"] (ai e8):=⟨rfl,rfl,rfl,by decide+kernel,rfl,by decide+kernel,by decide+kernel⟩
theorem lR (D:Def K mg "figures_end" e8 ["text","place"]) (B:Bn mg):Own P w K mg base 1 "figures_end" ["text","place"] (bV K bZ):=by
  delta bZ
  refine fm (g:=eW) D sc_figures_end rfl rfl (by decide) fun f cdv A outer s H E hr=>?_
  delta eW
  exact (aj (aS 2 sc_figures_end.nd (aa 1))
  (aj (pH PassesOwn.never (by delta aT;exact (mq (vn (gj .lt (aa 2) (fk (by rfl) (by exact B.len) (af (aa 0) au))) (rS (rX .le .le bu (bW (aa 0) (aa 2)) bu)))))
  (by delta cC;exact (ao (aS 2 sc_figures_end.nd (aG (aa 2) ah)))))
  (ao (aD (aa 2)))))
abbrev fV:Stmt:=gD 29
theorem sc_number_end:FnScope ["text","place","start","end"] ["text","place"] (ai fV):=⟨rfl,rfl,rfl,by decide+kernel,rfl,by decide+kernel,by decide+kernel⟩
theorem mR (D:Def K mg "number_end" fV ["text","place"]) (B:Bn mg) {t_MOST_FIGURES:Tok} (G_MOST_FIGURES:mg "MOST_FIGURES"=some (.int 30 t_MOST_FIGURES)) (D_figures_end:Own P w K mg base 1 "figures_end" ["text","place"] (bV K bZ)):Own P w K mg base 2 "number_end" ["text","place"] (bV K aJ):=by
  delta aJ
  refine fm (g:=bx) D sc_number_end rfl rfl (by decide) fun f cdv A outer s H E hr=>?_
  delta bx
  exact (aj (cp (ef (iV 0 (af bu (af (aa 1) au))))
  (ao (aD (aG (aa 1) ah)))
  aY)
  (aj (aS 2 sc_number_end.nd (pw (ef (iV 0 (af bu (af (aa 1) au)))) (aG (aa 1) ah) (aa 1)))
  (aj (aS 3 sc_number_end.nd (aI D_figures_end (hr.mono (by decide)) (by rfl) (af (aa 0) (af (aa 2) au))))
  (aj (cp (mq (iA (ef (iV 0 (af bu (af (aa 2) au)))) (iz (gw (rX .le .le ah (oa (aa 3) (aa 2)) (kP (by rfl) (by exact G_MOST_FIGURES)))))))
  (ao (aD (aa 1)))
  aY)
  (ao (aD (aa 3)))))))
abbrev e9:Stmt:=gD 30
theorem sc_read_number:FnScope ["text","place","end"] ["text","place"] (ai e9):=⟨rfl,rfl,rfl,by decide+kernel,rfl,by decide+kernel,by decide+kernel⟩
theorem lS (D:Def K mg "read_number" e9 ["text","place"]) (B:Bn mg) (D_number_end:Own P w K mg base 2 "number_end" ["text","place"] (bV K aJ)):Own P w K mg base 3 "read_number" ["text","place"] (bV K aM):=by
  delta aM
  refine fm (g:=dI) D sc_read_number rfl rfl (by decide) fun f cdv A outer s H E hr=>?_
  delta dI
  exact (aj (aS 2 sc_read_number.nd (aI D_number_end (hr.mono (by decide)) (by rfl) (af (aa 0) (af (aa 1) au))))
  (ao (aD (gY (gX (cZ (pw (ii hr.units (aa 2) (aa 1)) ah (yb (by rfl) (by exact B.int) (af (qE (aa 0) (kM (aa 1)) (kM (aa 2))) au))) (cZ (aa 2) je)))))))
abbrev jN:Stmt:=gD 31
theorem uf:FnScope ["sign","text","place"] ["sign","text","place"] (ai jN):=⟨rfl,rfl,rfl,by decide+kernel,rfl,by decide+kernel,by decide+kernel⟩
theorem ug (D:Def K mg "behind" jN ["sign","text","place"]) (B:Bn mg):Own P w K mg base 1 "behind" ["sign","text","place"] (bV K bT):=by
  delta bT
  refine fm (g:=jI) D uf rfl rfl (by decide) fun f cdv A outer s H E hr=>?_
  delta jI
  exact (aj (cp (gw (ef (iV 1 (af (aa 0) (af (aa 2) au)))))
  (ao gL)
  aY)
  (ao (aD (aG (aa 2) ah))))
abbrev fW:Stmt:=gD 32
theorem sc_read_piece:FnScope ["text","place","number"] ["text","place"] (ai fW):=⟨rfl,rfl,rfl,by decide+kernel,rfl,by decide+kernel,by decide+kernel⟩
theorem mS (D:Def K mg "read_piece" fW ["text","place"]) (B:Bn mg) (D_read_number:Own P w K mg base 3 "read_number" ["text","place"] (bV K aM)) (D_mk_Piece:MkOk P w K mg base 1 "Piece" ["self","nail","turns"] gZ):Own P w K mg base 4 "read_piece" ["text","place"] (bV K bI):=by
  delta bI
  refine fm (g:=fI) D sc_read_piece rfl rfl (by decide) fun f cdv A outer s H E hr=>?_
  delta fI
  exact (aj (aS 2 sc_read_piece.nd (aI D_read_number (hr.mono (by decide)) (by rfl) (af (aa 0) (af (aG (aa 1) ah) au))))
  (ao (aD (gY (gX (cZ (kQ D_mk_Piece (hr.mono (by decide)) (by rfl) (af (bW (aa 0) (aa 1)) (af (bW (aa 2) ah) au))) (cZ (bW (aa 2) ah) je)))))))
abbrev jO:Stmt:=gD 39
theorem uh:FnScope ["_law_script","_law_k"] ["_law_script","_law_k"] (ai jO):=⟨rfl,rfl,rfl,by decide+kernel,rfl,by decide+kernel,by decide+kernel⟩
theorem uk (D:Def K mg "_law_at" jO ["_law_script","_law_k"]) (B:Bn mg):Own P w K mg base 1 "_law_at" ["_law_script","_law_k"] (bV K bp):=by
  delta bp
  refine fm (g:=jJ) D uh rfl rfl (by decide) fun f cdv A outer s H E hr=>?_
  delta jJ
  exact (aj (cp (gj .lt (aa 1) (fk (by rfl) (by exact B.len) (af (aa 0) au)))
  (ao (aD (bW (aa 0) (aa 1))))
  aY)
  (ao (aD ah)))
abbrev iY:Stmt:=gD 40
theorem sc_law_mix:FnScope ["_law_cell","_law_k","_law_value"] ["_law_cell","_law_k"] (ai iY):=⟨rfl,rfl,rfl,by decide+kernel,rfl,by decide+kernel,by decide+kernel⟩
theorem qW (D:Def K mg "_law_mix" iY ["_law_cell","_law_k"]) (B:Bn mg):Own P w K mg base 1 "_law_mix" ["_law_cell","_law_k"] (bV K b5):=by
  delta b5
  refine fm (g:=iW) D sc_law_mix rfl rfl (by decide) fun f cdv A outer s H E hr=>?_
  delta iW
  exact (aj (aS 2 sc_law_mix.nd (aG (aG (dR (aa 0) ah) (cK ah (aa 1))) ah))
  (aj (aS 2 sc_law_mix.nd (dR (cK (aa 2) (aG ah (cK (cK ah (aa 1)) (aa 1)))) ah))
  (ao (aD (eS (dR (cK (aG (eS (aa 2) ah) (cK (aa 1) (aa 1))) ah) ah) ah)))))
abbrev gu:Stmt:=gD 41
theorem sc_law_digit:FnScope ["_law_rest","_law_m","_law_digit_here"] ["_law_rest","_law_m"] (ai gu):=⟨rfl,rfl,rfl,by decide+kernel,rfl,by decide+kernel,by decide+kernel⟩
theorem oS (D:Def K mg "_law_digit" gu ["_law_rest","_law_m"]) (B:Bn mg):Own P w K mg base 1 "_law_digit" ["_law_rest","_law_m"] (Ah K bj):=by
  refine D.own sc_law_digit (fun vs H Q E h=>?_) (fun f cdv A outer s H vs Q E hr h=>?_)
  · obtain ⟨l,us,ds0,bK,ds,r,ds',rfl,_,_,rd,e,_⟩:=h
    unfold bj at e
    split at e
    · rw [List.length_cons,rd.len];rfl
    · cases e
  obtain ⟨l,us,ds0,bK,ds,r,ds',rfl,hl,r0,rd,e,q⟩:=h
  unfold bj at e
  split at e
  · split at e
    · rename_i z m hm
      cases e
      obtain ⟨v,rfl,rv⟩:=r0.one
      cases rv
      obtain ⟨u,rfl,ru⟩:=rd.one
      cases ru
      have h1:=(of_decide_eq_true hm).1
      refine ⟨_,(c_ (uI (i:=2) sc_law_digit.nd rfl (Or.inl rfl) (m_ uM (uZ ix_list (pv 0) jU (fun _ _=>rfl)) (pv 1))) (c_ (uH (m_ pj (uZ ix_list (pv 0) jU (fun _ _=>rfl)) (pv 1)) (zu (pv 0) jU u0)) (iQ (uE (pv 2))))),?_⟩
      refine ⟨_,rfl,l,[.int z],_, .int z,rfl,rfl,SqL.of hl,rfl,_,rfl,_,_,rfl,rfl,h1,?_⟩
      refine ⟨_,rfl,l,[.int z],_, .int z,rfl,rfl,SqL.of hl,rfl,_,rfl,_,_,rfl,rfl,hm,?_⟩
      refine ⟨_,rfl,l,[.int z],_,0,rfl,rfl,hl,rfl,?_⟩
      refine ⟨_,rfl,?_⟩
      exact q _ _ [.int (z / m)] (SameBut.upd _) upd_same (.cons (.int _) .nil) (.int _)
    · cases e
  · cases e
abbrev h7:Stmt:=gD 44
theorem sc_law_cord:FnScope ["_law_cell","_law_nails_here","_law_wide_here","_law_most","_law_cord_here","_law_rest","_law_k","_law_nail"] ["_law_cell","_law_nails_here","_law_wide_here","_law_most"] (ai h7):=⟨rfl,rfl,rfl,by decide+kernel,rfl,by decide+kernel,by decide+kernel⟩
theorem p3 (D:Def K mg "_law_cord" h7 ["_law_cell","_law_nails_here","_law_wide_here","_law_most"]) (B:Bn mg) (D_law_digit:Own P w K mg base 1 "_law_digit" ["_law_rest","_law_m"] (Ah K bj)) (D_law_mix:Own P w K mg base 1 "_law_mix" ["_law_cell","_law_k"] (bV K b5)):Own P w K mg base 2 "_law_cord" ["_law_cell","_law_nails_here","_law_wide_here","_law_most"] (bV K bC):=by
  delta bC
  refine fm (g:=eR) D sc_law_cord rfl rfl (by decide) fun f cdv A outer s H E hr=>?_
  delta eR
  exact (aj (aS 4 sc_law_cord.nd (fo DL.nil))
  (aj (cp (gw (rX .lt .lt (jb (qz ah ah)) (aa 0) (qz ah ah)))
  (aj (aS 5 sc_law_cord.nd (fo (DL.cons (aa 0) rfl DL.nil)))
  (aj (j4 PassesOwn.never (by rfl) (j3 (by rfl) (by exact B.range) (af (vG 5 D_law_digit hJ (hr.mono (by decide)) (by rfl) (af (aG (aa 3) ah) au)) au)) (by delta dJ;exact (cL 6 sc_law_cord.nd))
  (by delta dL;exact (aj (aS 7 sc_law_cord.nd (bW (aa 1) (vG 5 D_law_digit hJ (hr.mono (by decide)) (by rfl) (af (fk (by rfl) (by exact B.len) (af (aa 1) au)) au))))
  (ao (jz (j1 4 (ke (DL.cons (aa 7) rfl (DL.cons (oa (vG 5 D_law_digit hJ (hr.mono (by decide)) (by rfl) (af (aG (cK ah (aa 2)) ah) au)) (aa 2)) rfl DL.nil)))))))))
  (ao (aD (aa 4)))))
  aY)
  (aj (j4 PassesOwn.never (by rfl) (j3 (by rfl) (by exact B.range) (af (dR (aI D_law_mix (hr.mono (by decide)) (by rfl) (af (aa 0) (af ah au))) (aG (aa 3) ah)) au)) (by delta cP;exact (cL 6 sc_law_cord.nd))
  (by delta cQ;exact (aj (aS 7 sc_law_cord.nd (bW (aa 1) (dR (aI D_law_mix (hr.mono (by decide)) (by rfl) (af (aa 0) (af (aG (cK ah (aa 6)) ah) au))) (fk (by rfl) (by exact B.len) (af (aa 1) au)))))
  (ao (jz (j1 4 (ke (DL.cons (aa 7) rfl (DL.cons (oa (dR (aI D_law_mix (hr.mono (by decide)) (by rfl) (af (aa 0) (af (aG (cK ah (aa 6)) ah) au))) (aG (cK ah (aa 2)) ah)) (aa 2)) rfl DL.nil)))))))))
  (ao (aD (aa 4))))))
abbrev eL:Stmt:=gD 45
theorem kH:FnScope ["_law_cord_here"] ["_law_cord_here"] (ai eL):=⟨rfl,rfl,rfl,by decide+kernel,rfl,by decide+kernel,by decide+kernel⟩
theorem kI (D:Def K mg "_law_contrary" eL ["_law_cord_here"]) (B:Bn mg):Own P w K mg base 1 "_law_contrary" ["_law_cord_here"] (bV K bn):=by
  delta bn
  refine fm (g:=eI) D kH rfl rfl (by decide) fun f cdv A outer s H E hr=>?_
  delta eI
  exact (ao (aD (lG (N:=["_law_nail","_law_turns"]) (js:=[none,none]) gS (by rfl) (vx (by rfl) (by exact B.reversed) (aa 0)) (fun _ _ _ _=>(by delta c8;exact (lD (by rfl) (dC (cL 0 (show (["_law_nail","_law_turns"]:List Str).Nodup by decide+kernel)) (dC (cL 1 (show (["_law_nail","_law_turns"]:List Str).Nodup by decide+kernel)) jA))))) (fun _ _ _ _=>(by delta cr;exact (ke (DL.cons (aa 0) rfl (DL.cons (jb (aa 1)) rfl DL.nil))))))))
abbrev gv:Stmt:=gD 47
theorem sc_law_right:FnScope ["_law_found","_law_due","_law_one","_law_other"] ["_law_found","_law_due"] (ai gv):=⟨rfl,rfl,rfl,by decide+kernel,rfl,by decide+kernel,by decide+kernel⟩
theorem oT (D:Def K mg "_law_right" gv ["_law_found","_law_due"]) (B:Bn mg):Own P w K mg base 1 "_law_right" ["_law_found","_law_due"] (bV K bz):=by
  delta bz
  refine fm (g:=gm) D sc_law_right rfl rfl (by decide) fun f cdv A outer s H E hr=>?_
  delta gm
  exact (aj (cp (mq (iA (gw (ef (gU .list (by rfl) (by exact B.isinstance) (aa 0) (by rfl) (by exact B.list) PyProof.Rows.boot_list))) (iz (pk hr.units (fk (by rfl) (by exact B.len) (af (aa 0) au)) (fk (by rfl) (by exact B.len) (af (aa 1) au))))))
  (ao (aD jv))
  aY)
  (aj (j4 PassesOwn.never (by rfl) (Ad (by rfl) (by exact B.zip) (aa 0) (aa 1)) (by delta di;exact (lD (by rfl) (dC (cL 2 sc_law_right.nd) (dC (cL 3 sc_law_right.nd) jA))))
  (by delta dk;exact (aj (cp (mq (iA (gw (ef (gU .tuple (by rfl) (by exact B.isinstance) (aa 2) (by rfl) (by exact B.tuple) PyProof.Rows.boot_tuple))) (iA (pk hr.units (fk (by rfl) (by exact B.len) (af (aa 2) au)) ah) (iz (gw (ef (gU .str (by rfl) (by exact B.isinstance) (bW (aa 2) ah) (by rfl) (by exact B.str) PyProof.Rows.boot_str)))))))
  (ao (aD jv))
  aY)
  (ao (cp (mq (iA (gw (ef (gU .int (by rfl) (by exact B.isinstance) (bW (aa 2) ah) (by rfl) (by exact B.int) PyProof.Rows.boot_int))) (iA (ef (gU .bool (by rfl) (by exact B.isinstance) (bW (aa 2) ah) (by rfl) (by exact B.bool) PyProof.Rows.boot_bool)) (iz (pk hr.units (aa 2) (aa 3))))))
  (ao (aD jv))
  aY)))))
  (ao (aD jv))))
abbrev fX:Stmt:=gD 49
theorem sc_law_others:FnScope ["_law_e","_law_some"] ["_law_e"] (ai fX):=⟨rfl,rfl,rfl,by decide+kernel,rfl,by decide+kernel,by decide+kernel⟩
theorem mT (D:Def K mg "_law_others" fX ["_law_e"]) (B:Bn mg) (XX:XF K mg):OwnH P w K mg base 1 "_law_others" ["_law_e"] (bV K cR):=by
  obtain ⟨C_NoCord,m_NoCord,t_NoCord⟩:=XX.c_NoCord
  obtain ⟨C_NoLine,m_NoLine,t_NoLine⟩:=XX.c_NoLine
  obtain ⟨C_NoMove,m_NoMove,t_NoMove⟩:=XX.c_NoMove
  obtain ⟨C_NoNails,m_NoNails,t_NoNails⟩:=XX.c_NoNails
  obtain ⟨C_NoName,m_NoName,t_NoName⟩:=XX.c_NoName
  obtain ⟨C_NoNumber,m_NoNumber,t_NoNumber⟩:=XX.c_NoNumber
  obtain ⟨C_NoRule,m_NoRule,t_NoRule⟩:=XX.c_NoRule
  obtain ⟨C_NoText,m_NoText,t_NoText⟩:=XX.c_NoText
  obtain ⟨C_TooMany,m_TooMany,t_TooMany⟩:=XX.c_TooMany
  delta cR
  refine Dc (g:=fJ) D sc_law_others rfl rfl (by decide) fun f cdv A outer s H E hr=>?_
  refine BodyOk.of ?_
  refine si [0] (DL.cons (eT (by rfl) (by exact B.isinstance) (aa 0) (by rfl) (by exact m_NoCord) t_NoCord) rfl (DL.cons (eT (by rfl) (by exact B.isinstance) (aa 0) (by rfl) (by exact m_NoLine) t_NoLine) rfl (DL.cons (eT (by rfl) (by exact B.isinstance) (aa 0) (by rfl) (by exact m_NoMove) t_NoMove) rfl (DL.cons (eT (by rfl) (by exact B.isinstance) (aa 0) (by rfl) (by exact m_NoNails) t_NoNails) rfl DL.nil)))) fun e0 hd0=>?_
  refine si [1,1] (DL.cons (eT (by rfl) (by exact B.isinstance) (aa 0) (by rfl) (by exact m_NoName) t_NoName) rfl (DL.cons (eT (by rfl) (by exact B.isinstance) (aa 0) (by rfl) (by exact m_NoNumber) t_NoNumber) rfl (DL.cons (eT (by rfl) (by exact B.isinstance) (aa 0) (by rfl) (by exact m_NoRule) t_NoRule) rfl (DL.cons (eT (by rfl) (by exact B.isinstance) (aa 0) (by rfl) (by exact m_NoText) t_NoText) rfl DL.nil)))) fun e1 hd1=>?_
  refine ⟨?_⟩
  delta fJ
  exact (aj (aS 1 sc_law_others.nd (fo hd0))
  (aj (aS 1 sc_law_others.nd (aG (aa 1) (fo hd1)))
  (ao (aD (aG (aa 1) (fo (DL.cons (eT (by rfl) (by exact B.isinstance) (aa 0) (by rfl) (by exact m_TooMany) t_TooMany) rfl DL.nil)))))))
abbrev eM:Stmt:=gD 50
theorem sc_law_too_long:FnScope ["_law_term","_law_e"] ["_law_term"] (ai eM):=⟨rfl,rfl,rfl,by decide+kernel,rfl,by decide+kernel,by decide+kernel⟩
theorem kJ (D:Def K mg "_law_too_long" eM ["_law_term"]) (B:Bn mg) (D_m_cord:DispM P w K mg base 70 "cord" gc) (R_m_cord:nK P w K mg base 1 "cord" dW) (D_law_others:OwnH P w K mg base 1 "_law_others" ["_law_e"] (bV K cR)) (XX:XF K mg):Own P w K mg base 71 "_law_too_long" ["_law_term"] (bV K aZ):=by
  obtain ⟨C_HangError,m_HangError,e_HangError⟩:=XX.e_HangError
  obtain ⟨C_TooLong,m_TooLong,t_TooLong,z_TooLong⟩:=XX.c_TooLong
  obtain ⟨v_ValueError,t_ValueError⟩:=XX.v_ValueError
  delta aZ
  refine fm (g:=eJ) D sc_law_too_long rfl rfl (by decide) fun f cdv A outer s H E hr=>?_
  delta eJ
  exact (aj (xY rfl sc_law_too_long.nd rfl rfl rfl (by rfl) (by exact m_HangError) e_HangError (ao (jz (c0 D_m_cord (hr.mono (by decide)) (aa 0)))) (fun W=>(oA (v7 R_m_cord (hr.mono (by decide)) (aa 0)))) (fun ea oe C hx=>(ao (aD (ix (eT (by rfl) (by exact B.isinstance) (aa 1) (by rfl) (by exact m_TooLong) t_TooLong) (ix (xZ (by rfl) (by exact B.isinstance) (aa 1) (by rfl) (by exact v_ValueError) PyProof.Rows.Boot.«ValueError» t_ValueError) (oh (ya jv (x9 D_law_others ((Room.mark hr _).mono (by decide)) (by rfl) (af (aa 1) au))))))))))
  (ao (aD jv)))
abbrev h9:Stmt:=gD 51
theorem sc_law_text:FnScope ["_law_cord_here","_law_words","_law_nail","_law_turns"] ["_law_cord_here"] (ai h9):=⟨rfl,rfl,rfl,by decide+kernel,rfl,by decide+kernel,by decide+kernel⟩
theorem p4 (D:Def K mg "_law_text" h9 ["_law_cord_here"]) (B:Bn mg):Own P w K mg base 1 "_law_text" ["_law_cord_here"] (bV K bO):=by
  delta bO
  refine fm (g:=hO) D sc_law_text rfl rfl (by decide) fun f cdv A outer s H E hr=>?_
  delta hO
  exact (aj (aS 1 sc_law_text.nd bu)
  (aj (j4 PassesOwn.never (by rfl) (qD (aa 0)) (by delta cS;exact (lD (by rfl) (dC (cL 2 sc_law_text.nd) (dC (cL 3 sc_law_text.nd) jA))))
  (by delta cU;exact (ao (aS 1 sc_law_text.nd (aG (aG (aa 1) (aa 2)) (rZ (oB (by rfl) (by exact B.str) (af (aa 3) au)) (rY (by rfl) (by exact B.int) (af (yO hr.units (aa 3) ah) au))))))))
  (ao (aD (aa 1)))))
abbrev fY:Stmt:=gD 52
theorem sc_law_number:FnScope ["_law_cell","_law_many","_law_way","_law_sign"] ["_law_cell","_law_many"] (ai fY):=⟨rfl,rfl,rfl,by decide+kernel,rfl,by decide+kernel,by decide+kernel⟩
theorem mU (D:Def K mg "_law_number" fY ["_law_cell","_law_many"]) (B:Bn mg):Own P w K mg base 1 "_law_number" ["_law_cell","_law_many"] (bV K aU):=by
  delta aU
  refine fm (g:=bJ) D sc_law_number rfl rfl (by decide) fun f cdv A outer s H E hr=>?_
  delta bJ
  exact (aj (aS 2 sc_law_number.nd (dR (aa 0) ah))
  (aj (aS 3 sc_law_number.nd (bW (fo (DL.cons ah rfl (DL.cons (jb ah) rfl DL.nil))) (dR (eS (aa 0) ah) ah)))
  (aj (cp (mq (iA (ii hr.units (aa 2) ah) (iz (ii hr.units (aa 1) ah))))
  (ao (aD (cK (aa 3) (dR (eS (aa 0) ah) ah))))
  aY)
  (aj (cp (gj .lt (aa 2) ah)
  (ao (aD (cK (aa 3) (zY (by rfl) (by rfl) (by exact B.max) (af ah (af (oa (eS ah (aa 1)) (dR (eS (aa 0) ah) ah)) au))))))
  aY)
  (aj (cp (ii hr.units (aa 2) ah)
  (ao (aD (cK (aa 3) (aG (eS ah (aa 1)) ah))))
  aY)
  (aj (cp (ii hr.units (aa 2) ah)
  (ao (aD (cK (aa 3) (dR (eS (aa 0) ah) (qz ah ah)))))
  aY)
  (ao (aD (aa 3)))))))))
abbrev ib:Stmt:=gD 53
theorem sc_law_body:FnScope ["_law_script","_law_cord_here","_law_other","_law_due"] ["_law_script"] (ai ib):=⟨rfl,rfl,rfl,by decide+kernel,rfl,by decide+kernel,by decide+kernel⟩
theorem p5 (D:Def K mg "_law_body" ib ["_law_script"]) (B:Bn mg) (D_law_at:Own P w K mg base 1 "_law_at" ["_law_script","_law_k"] (bV K bp)) (D_law_cord:Own P w K mg base 2 "_law_cord" ["_law_cell","_law_nails_here","_law_wide_here","_law_most"] (bV K bC)) (D_law_contrary:Own P w K mg base 1 "_law_contrary" ["_law_cord_here"] (bV K bn)) (D_law_text:Own P w K mg base 1 "_law_text" ["_law_cord_here"] (bV K bO)):Own P w K mg base 3 "_law_body" ["_law_script"] (bV K bP):=by
  delta bP
  refine fm (g:=gd) D sc_law_body rfl rfl (by decide) fun f cdv A outer s H E hr=>?_
  delta gd
  exact (aj (aS 1 sc_law_body.nd (aI D_law_cord (hr.mono (by decide)) (by rfl) (af (aI D_law_at (hr.mono (by decide)) (by rfl) (af (aa 0) (af ah au))) (af bu (af ah (af ah au))))))
  (aj (cp (ii hr.units (dR (aI D_law_at (hr.mono (by decide)) (by rfl) (af (aa 0) (af ah au))) ah) ah)
  (aj (aS 2 sc_law_body.nd (aI D_law_cord (hr.mono (by decide)) (by rfl) (af (eS (aI D_law_at (hr.mono (by decide)) (by rfl) (af (aa 0) (af ah au))) ah) (af bu (af ah (af ah au))))))
  (aj (aS 3 sc_law_body.nd (aG (aG (aG (aa 1) (aa 2)) (aI D_law_contrary (hr.mono (by decide)) (by rfl) (af (aa 1) au))) (aI D_law_contrary (hr.mono (by decide)) (by rfl) (af (aa 2) au))))
  (ao (aD (gY (gX (cZ (aG (aG (aG (aG bu (aI D_law_text (hr.mono (by decide)) (by rfl) (af (aa 1) au))) bu) (aI D_law_text (hr.mono (by decide)) (by rfl) (af (aa 2) au))) bu) (cZ (aa 3) je))))))))
  aY)
  (ao (aD (gY (gX (cZ (aI D_law_text (hr.mono (by decide)) (by rfl) (af (aa 1) au)) (cZ (aa 1) je))))))))
abbrev e_:Stmt:=gD 54
theorem lT:FnScope ["_law_cord_here","_law_number_here"] ["_law_cord_here","_law_number_here"] (ai e_):=⟨rfl,rfl,rfl,by decide+kernel,rfl,by decide+kernel,by decide+kernel⟩
theorem lU (D:Def K mg "_law_many_of" e_ ["_law_cord_here","_law_number_here"]) (B:Bn mg) (D_law_contrary:Own P w K mg base 1 "_law_contrary" ["_law_cord_here"] (bV K bn)):Own P w K mg base 2 "_law_many_of" ["_law_cord_here","_law_number_here"] (bV K bA):=by
  delta bA
  refine fm (g:=dN) D lT rfl rfl (by decide) fun f cdv A outer s H E hr=>?_
  delta dN
  exact (aj (cp (gj .lt (aa 1) ah)
  (ao (aD (cK (aI D_law_contrary (hr.mono (by decide)) (by rfl) (af (aa 0) au)) (jb (aa 1)))))
  aY)
  (ao (aD (cK (aa 0) (aa 1)))))
abbrev dw:Stmt:=gD 33
theorem sc_read_times:FnScope ["text","place","depth","body","number"] ["text","place","depth"] (ai dw):=⟨rfl,rfl,rfl,by decide+kernel,rfl,by decide+kernel,by decide+kernel⟩
theorem mV {k:Nat} {self:List PyData→Option Sl} (DS:Own P w K mg base k "read_parts" ["text","start","depth"] (bV K self)) (hk:4≤k) (D:Def K mg "read_times" dw ["text","place","depth"]) (B:Bn mg) (D_behind:Own P w K mg base 1 "behind" ["sign","text","place"] (bV K bT)) (D_read_number:Own P w K mg base 3 "read_number" ["text","place"] (bV K aM)) (D_mk_Times:MkOk P w K mg base 2 "Times" ["self","body","number"] (fE aB)):Own P w K mg base (k+1) "read_times" ["text","place","depth"] (bV K (cw self)):=by
  delta cw
  refine fm (k:=k+0) (g:=fK self) D sc_read_times rfl rfl (by decide) fun f cdv A outer s H E hr=>?_
  delta fK
  exact (aj (aS 3 sc_read_times.nd (aI DS (hr.mono (by omega)) (by rfl) (af (aa 0) (af (aG (aa 1) ah) (af (aG (aa 2) ah) au)))))
  (aj (aS 4 sc_read_times.nd (aI D_read_number (hr.mono (by omega)) (by rfl) (af (aa 0) (af (aI D_behind (hr.mono (by omega)) (by rfl) (af bu (af (aa 0) (af (bW (aa 3) ah) au)))) au))))
  (ao (aD (gY (gX (cZ (kQ D_mk_Times (hr.mono (by omega)) (by rfl) (af (bW (aa 3) ah) (af (bW (aa 4) ah) au))) (cZ (bW (aa 4) ah) je))))))))
abbrev dY:Stmt:=gD 34
theorem sc_read_back:FnScope ["text","place","depth","one","other"] ["text","place","depth"] (ai dY):=⟨rfl,rfl,rfl,by decide+kernel,rfl,by decide+kernel,by decide+kernel⟩
theorem oU {k:Nat} {self:List PyData→Option Sl} (DS:Own P w K mg base k "read_parts" ["text","start","depth"] (bV K self)) (hk:4≤k) (D:Def K mg "read_back" dY ["text","place","depth"]) (B:Bn mg) (D_behind:Own P w K mg base 1 "behind" ["sign","text","place"] (bV K bT)) (D_mk_Back:MkOk P w K mg base 2 "Back" ["self","one","other"] (g3 aB)):Own P w K mg base (k+1) "read_back" ["text","place","depth"] (bV K (cO self)):=by
  delta cO
  refine fm (k:=k+0) (g:=gn self) D sc_read_back rfl rfl (by decide) fun f cdv A outer s H E hr=>?_
  delta gn
  exact (aj (aS 3 sc_read_back.nd (aI DS (hr.mono (by omega)) (by rfl) (af (aa 0) (af (aG (aa 1) ah) (af (aG (aa 2) ah) au)))))
  (aj (aS 4 sc_read_back.nd (aI DS (hr.mono (by omega)) (by rfl) (af (aa 0) (af (aI D_behind (hr.mono (by omega)) (by rfl) (af bu (af (aa 0) (af (bW (aa 3) ah) au)))) (af (aG (aa 2) ah) au)))))
  (ao (aD (gY (gX (cZ (kQ D_mk_Back (hr.mono (by omega)) (by rfl) (af (bW (aa 3) ah) (af (bW (aa 4) ah) au))) (cZ (aI D_behind (hr.mono (by omega)) (by rfl) (af bu (af (aa 0) (af (bW (aa 4) ah) au)))) je))))))))
abbrev dZ:Stmt:=gD 35
theorem oV:FnScope ["text","place","depth"] ["text","place","depth"] (ai dZ):=⟨rfl,rfl,rfl,by decide+kernel,rfl,by decide+kernel,by decide+kernel⟩
theorem oW {k:Nat} {self:List PyData→Option Sl} (DS:Own P w K mg base k "read_parts" ["text","start","depth"] (bV K self)) (hk:4≤k) (D:Def K mg "read_part" dZ ["text","place","depth"]) (B:Bn mg) (D_is_nail:Own P w K mg base 1 "is_nail" ["thing"] (bV K bY)) (D_read_piece:Own P w K mg base 4 "read_piece" ["text","place"] (bV K bI)) (D_read_times:Own P w K mg base (k+1) "read_times" ["text","place","depth"] (bV K (cw self))) (D_read_back:Own P w K mg base (k+1) "read_back" ["text","place","depth"] (bV K (cO self))):Own P w K mg base (k+2) "read_part" ["text","place","depth"] (bV K (bB self)):=by
  delta bB
  refine fm (k:=k+1) (g:=dX self) D oV rfl rfl (by decide) fun f cdv A outer s H E hr=>?_
  delta dX
  exact (aj (cp (ef (aI D_is_nail (hr.mono (by omega)) (by rfl) (af (bW (aa 0) (aa 1)) au)))
  (ao (aD (aI D_read_piece (hr.mono (by omega)) (by rfl) (af (aa 0) (af (aa 1) au)))))
  aY)
  (aj (cp (ii hr.units (bW (aa 0) (aa 1)) bu)
  (ao (aD (aI D_read_times (hr.mono (by omega)) (by rfl) (af (aa 0) (af (aa 1) (af (aa 2) au))))))
  aY)
  (aj (cp (ii hr.units (bW (aa 0) (aa 1)) bu)
  (ao (aD (aI D_read_back (hr.mono (by omega)) (by rfl) (af (aa 0) (af (aa 1) (af (aa 2) au))))))
  aY)
  (ao gL))))
abbrev eN:Stmt:=gD 36
theorem sc_read_parts:FnScope ["text","start","depth","parts","place","part"] ["text","start","depth"] (ai eN):=⟨rfl,rfl,rfl,by decide+kernel,rfl,by decide+kernel,by decide+kernel⟩
theorem iK (D:Def K mg "read_parts" eN ["text","start","depth"]) (B:Bn mg) (E_read_times:Def K mg "read_times" dw ["text","place","depth"]) (E_read_back:Def K mg "read_back" dY ["text","place","depth"]) (E_read_part:Def K mg "read_part" dZ ["text","place","depth"]) {t_DEEPEST:Tok} (G_DEEPEST:mg "DEEPEST"=some (.int 30 t_DEEPEST)) (D_behind:Own P w K mg base 1 "behind" ["sign","text","place"] (bV K bT)) (D_read_number:Own P w K mg base 3 "read_number" ["text","place"] (bV K aM)) (D_mk_Times:MkOk P w K mg base 2 "Times" ["self","body","number"] (fE aB)) (D_mk_Back:MkOk P w K mg base 2 "Back" ["self","one","other"] (g3 aB)) (D_is_nail:Own P w K mg base 1 "is_nail" ["thing"] (bV K bY)) (D_read_piece:Own P w K mg base 4 "read_piece" ["text","place"] (bV K bI)) (D_mk_Parts:MkOk P w K mg base 2 "Parts" ["self","parts"] (fD aB)):∀n:Nat,Own P w K mg base (4+3*n+1) "read_parts" ["text","start","depth"] (bV K (aE n))
  | 0=>vI D sc_read_parts
  | n+1=>by
    have DS:=iK D B E_read_times E_read_back E_read_part G_DEEPEST D_behind D_read_number D_mk_Times D_mk_Back D_is_nail D_read_piece D_mk_Parts n
    have hk:4≤4+3*n+1:=by omega
    show Own P w K mg base (4+3*(n+1)+1) "read_parts" ["text","start","depth"] (bV K (bS 3 6 (dq (aE n))))
    rw [show 4+3*(n+1)+1=4+3*n+1+3 by omega]
    generalize aE n=self at DS ⊢
    generalize 4+3*n+1=k at DS hk ⊢
    have D_read_times:=mV DS hk E_read_times B D_behind D_read_number D_mk_Times
    have D_read_back:=oU DS hk E_read_back B D_behind D_mk_Back
    have D_read_part:=oW DS hk E_read_part B D_is_nail D_read_piece D_read_times D_read_back
    refine fm (k:=k+2) (g:=dq self) D sc_read_parts rfl rfl (by decide) fun f cdv A outer s H E hr=>?_
    delta dq
    exact (aj (cp (gj .gt (aa 2) (kP (by rfl) (by exact G_DEEPEST)))
  (ao gL)
  aY)
  (aj (aS 3 sc_read_parts.nd (fo DL.nil))
  (aj (aS 4 sc_read_parts.nd (aa 1))
  (aj (pH PassesOwn.never (by delta bo;exact (mq (vn (gj .lt (aa 4) (fk (by rfl) (by exact B.len) (af (aa 0) au))) (rS (Af (bW (aa 0) (aa 4)) bu)))))
  (by delta ci;exact (aj (aS 5 sc_read_parts.nd (aI D_read_part (hr.mono (by omega)) (by rfl) (af (aa 0) (af (aa 4) (af (aa 2) au)))))
  (aj (jz (j1 3 (bW (aa 5) ah)))
  (ao (aS 4 sc_read_parts.nd (bW (aa 5) ah)))))))
  (ao (aD (gY (gX (cZ (kQ D_mk_Parts (hr.mono (by omega)) (by rfl) (af (aa 3) au)) (cZ (aa 4) je))))))))))
theorem mW (D:Def K mg "read_parts" eN ["text","start","depth"]) (B:Bn mg) (E_read_times:Def K mg "read_times" dw ["text","place","depth"]) (E_read_back:Def K mg "read_back" dY ["text","place","depth"]) (E_read_part:Def K mg "read_part" dZ ["text","place","depth"]) {t_DEEPEST:Tok} (G_DEEPEST:mg "DEEPEST"=some (.int 30 t_DEEPEST)) (D_behind:Own P w K mg base 1 "behind" ["sign","text","place"] (bV K bT)) (D_read_number:Own P w K mg base 3 "read_number" ["text","place"] (bV K aM)) (D_mk_Times:MkOk P w K mg base 2 "Times" ["self","body","number"] (fE aB)) (D_mk_Back:MkOk P w K mg base 2 "Back" ["self","one","other"] (g3 aB)) (D_is_nail:Own P w K mg base 1 "is_nail" ["thing"] (bV K bY)) (D_read_piece:Own P w K mg base 4 "read_piece" ["text","place"] (bV K bI)) (D_mk_Parts:MkOk P w K mg base 2 "Parts" ["self","parts"] (fD aB)):Own P w K mg base 104 "read_parts" ["text","start","depth"] (bV K eX):=iK D B E_read_times E_read_back E_read_part G_DEEPEST D_behind D_read_number D_mk_Times D_mk_Back D_is_nail D_read_piece D_mk_Parts 33
abbrev oX:Stmt:=gD 37
theorem sc_read:FnScope ["text","found"] ["text"] (ai oX):=⟨rfl,rfl,rfl,by decide+kernel,rfl,by decide+kernel,by decide+kernel⟩
theorem yh (D:Def K mg "read" oX ["text"]) (B:Bn mg) (D_read_parts:Own P w K mg base 104 "read_parts" ["text","start","depth"] (bV K eX)):Own P w K mg base 105 "read" ["text"] (bV K gp):=by
  delta gp
  refine fm (g:=oH) D sc_read rfl rfl (by decide) fun f cdv A outer s H E hr=>?_
  delta oH
  exact (aj (cp (gw (ef (gU .str (by rfl) (by exact B.isinstance) (aa 0) (by rfl) (by exact B.str) PyProof.Rows.boot_str)))
  (ao gL)
  aY)
  (aj (aS 1 sc_read.nd (aI D_read_parts (hr.mono (by decide)) (by rfl) (af (aa 0) (af ah (af ah au)))))
  (aj (cp (gj .lt (bW (aa 1) ah) (fk (by rfl) (by exact B.len) (af (aa 0) au)))
  (ao gL)
  aY)
  (ao (aD (bW (aa 1) ah))))))
abbrev lV:Stmt:=gD 55
theorem sc_law:FnScope ["_law_script","_law_words","_law_cord_here","_law_many","_law_turned","_law_k","_law_number_here","_law_term","_law_found"] ["_law_script"] (ai lV):=⟨rfl,rfl,rfl,by decide+kernel,rfl,by decide+kernel,by decide+kernel⟩
theorem Av {f0:Addr} {fd:FuncData} (D:Fun K "law" "law" lV f0 fd) (B:Bn mg) (D_law_body:Own P w K mg base 3 "_law_body" ["_law_script"] (bV K bP)) (D_law_at:Own P w K mg base 1 "_law_at" ["_law_script","_law_k"] (bV K bp)) (D_law_number:Own P w K mg base 1 "_law_number" ["_law_cell","_law_many"] (bV K aU)) (D_law_many_of:Own P w K mg base 2 "_law_many_of" ["_law_cord_here","_law_number_here"] (bV K bA)) (D_read:Own P w K mg base 105 "read" ["text"] (bV K gp)) {C_is_Term:Addr} (D_is_Term:mg "Term"=some (.ref C_is_Term)∧IsRow K C_is_Term tab_is_Term) (D_m_pieces:DispM P w K mg base 1 "pieces" aB) (D_law_too_long:Own P w K mg base 71 "_law_too_long" ["_law_term"] (bV K aZ)) (D_m_cord:DispM P w K mg base 70 "cord" gc) (D_law_right:Own P w K mg base 1 "_law_right" ["_law_found","_law_due"] (bV K bz)):FnOk P w K mg base iu 106 f0 fd ["_law_script"] (bV K jn):=by
  delta jn
  refine DO (g:=nM) D sc_law rfl rfl (by decide) fun cdv A outer s H E hr=>?_
  delta nM
  exact (aj (z_ (aI D_law_body (hr.mono (by decide)) (by rfl) (af (aa 0) au)) (lD (by rfl) (dC (cL 1 sc_law.nd) (dC (cL 2 sc_law.nd) jA))))
  (aj (aS 3 sc_law.nd (fk (by rfl) (by exact B.len) (af (aa 2) au)))
  (aj (aS 4 sc_law.nd jv)
  (aj (j4 PassesOwn.never (by rfl) (j3 (by rfl) (by exact B.range) (af (aG ah (dR (aI D_law_at (hr.mono (by decide)) (by rfl) (af (aa 0) (af ah au))) ah)) au)) (by delta fg;exact (cL 5 sc_law.nd))
  (by delta fi;exact (aj (aS 6 sc_law.nd (aI D_law_number (hr.mono (by decide)) (by rfl) (af (aI D_law_at (hr.mono (by decide)) (by rfl) (af (aa 0) (af (aG ah (aa 5)) au))) (af (aa 3) au))))
  (aj (aS 1 sc_law.nd (aG (aG (aG bu (aa 1)) bu) (rZ (oB (by rfl) (by exact B.str) (af (aa 6) au)) (rY (by rfl) (by exact B.int) (af (yO hr.units (aa 6) ah) au)))))
  (aj (cp (rX .lt .le ah (cK (aa 3) (qA (by rfl) (by exact B.abs) (af (aa 6) au))) ah)
  (ao (aS 2 sc_law.nd (aI D_law_many_of (hr.mono (by decide)) (by rfl) (af (aa 2) (af (aa 6) au)))))
  (ao (cp (ii hr.units (aa 6) ah)
  (ao (aS 2 sc_law.nd (fo DL.nil)))
  aY)))
  (ao (aS 3 sc_law.nd (cK (aa 3) (qA (by rfl) (by exact B.abs) (af (aa 6) au))))))))))
  (aj (cp (ii hr.units (dR (eS (aI D_law_at (hr.mono (by decide)) (by rfl) (af (aa 0) (af ah au))) ah) ah) ah)
  (aj (aS 1 sc_law.nd (aG (aa 1) bu))
  (aj (aS 3 sc_law.nd (aG (aa 3) ah))
  (ao (cp (gj .le (aa 3) ah)
  (ao (aS 2 sc_law.nd (aG (aa 2) (fo (DL.cons (ke (DL.cons bu rfl (DL.cons ah rfl DL.nil))) rfl DL.nil)))))
  aY))))
  aY)
  (aj (aS 7 sc_law.nd (aI D_read (hr.mono (by decide)) (by rfl) (af (aa 1) au)))
  (aj (cp (mq (iA (gw (ef (An D_is_Term.2 (by rfl) (by exact B.isinstance) (aa 7) (by rfl) (by exact D_is_Term.1)))) (iA (ef (gU .bool (by rfl) (by exact B.isinstance) (c0 D_m_pieces (hr.mono (by decide)) (aa 7)) (by rfl) (by exact B.bool) PyProof.Rows.boot_bool)) (iz (pk hr.units (c0 D_m_pieces (hr.mono (by decide)) (aa 7)) (aa 3))))))
  (ao (aD jv))
  aY)
  (aj (cp (gj .gt (aa 3) ah)
  (ao (aD (ix (aI D_law_too_long (hr.mono (by decide)) (by rfl) (af (aa 7) au)) (ix (aI D_law_too_long (hr.mono (by decide)) (by rfl) (af (aa 7) au)) (oh (rR hr.units (c0 D_m_pieces (hr.mono (by decide)) (aa 7)) (aa 3)))))))
  aY)
  (aj (aS 8 sc_law.nd (c0 D_m_cord (hr.mono (by decide)) (aa 7)))
  (aj (cp (mq (iA (gw (ef (gU .list (by rfl) (by exact B.isinstance) (aa 8) (by rfl) (by exact B.list) PyProof.Rows.boot_list))) (iz (pk hr.units (fk (by rfl) (by exact B.len) (af (aa 8) au)) (aa 3)))))
  (ao (aD jv))
  aY)
  (aj (cp (mq (iA (gj .le (aa 3) ah) (iz (ii hr.units (dR (aI D_law_at (hr.mono (by decide)) (by rfl) (af (aa 0) (af ah au))) ah) ah))))
  (ao (aD (aI D_law_right (hr.mono (by decide)) (by rfl) (af (aa 8) (af (aa 2) au)))))
  aY)
  (ao (aD (ix (rR hr.units (bW (aa 8) ah) (bW (aa 2) ah)) (ix (rR hr.units (bW (aa 8) (jb ah)) (bW (aa 2) (jb ah))) (oh (aI D_law_right (hr.mono (by decide)) (by rfl) (af (qE (aa 8) rT (kM ah)) (af (qE (aa 2) rT (kM ah)) au)))))))))))))))))))
end
end Nhk64
namespace Nhk64
open PySem L2 Nh PL
theorem be (w:List Nat):(⟨w.toArray⟩:Str).length=w.length:=by show w.toArray.size=_;simp
theorem cV (ns:List Int) (k:Nat):bp [.list (ns.map .int), .int k]=some (.sh (.int (ns.getD k 0))):=by
  simp only [bp,bS,List.length_cons,List.length_nil,Nat.zero_add,Nat.reduceAdd,bF,jJ,aw,aP,bD,ag,ad,ay,List.map_cons,List.map_nil,Nat.sub_self,List.replicate,List.cons_append,List.nil_append,List.getElem?_cons_succ,List.getElem?_cons_zero,Sl.isBr,Bool.false_and,Bool.false_eq_true,aW,ae,ap,Option.map_some,if_false,dz,bR,look,Sl.val,aQ,Cm.i,Cm.s,Option.bind_some,ax,aA,dO,hot,aX,az,pC,bv,aO,if_true]
  by_cases h:k < ns.length
  · simp [h,cB,aN,bv,aO]
  · simp [h,List.getElem?_eq_none (Nat.le_of_not_lt h),aN,bv,aO]
theorem Aw (cell k:Int) (a:∀i:Int,b7 i k=true) (b:∀i j:Int,b7 (i % 2305843009213693951 / 8191+k*k) j=true) (c:∀j:Int,b7 (cell % 2305843009213693951+131*k+17) j=true):∃z:Int,b5 [.int cell, .int k]=some (.sh (.int z)):=by
  have d1:fZ 8191=true∧fZ 7=true:=by decide
  simp only [b5,bS,List.length_cons,List.length_nil,Nat.zero_add,Nat.reduceAdd,bF,iW,aw,aF,ag,ad,ay,List.map_cons,List.map_nil,Nat.reduceSub,List.replicate,List.cons_append,List.nil_append,List.getElem?_cons_zero,Sl.isBr,Bool.false_and,Bool.false_eq_true,pC,cu,bR,look,Sl.val,gT,Option.bind_some,if_false,Int.reduceLT,decide_true,if_true,Option.map_some,cm,hot,aX,Bool.not_false,Bool.true_or,Bool.and_true,aH,List.getElem?_cons_succ,a,PL.settle,frz,frzAll,Nat.reduceLT,List.set_cons_succ,List.set_cons_zero,aA,cG,c,d1.1,b,d1.2,bv,aO,aN]
  exact ⟨_,rfl⟩
theorem jp (cell:Int) (k:Nat) (h:k≤100000):∃z:Int,b5 [.int cell, .int k]=some (.sh (.int z)):=by
  refine Aw cell k (fun i=>xK (by omega) (by omega)) (fun i j=>?_) fun j=>?_
  · have h1:=Int.emod_nonneg i (show (2305843009213693951:Int)≠0 by omega)
    have h2:=Int.emod_lt_of_pos i (show (0:Int) < 2305843009213693951 by omega)
    have kk:(k:Int)*k≤100000*100000:=Int.mul_le_mul (by omega) (by omega) (by omega) (by omega)
    have kn:0≤(k:Int)*k:=Int.mul_nonneg (by omega) (by omega)
    generalize i % 2305843009213693951=z at h1 h2
    exact iU (by omega) (by omega)
  · have h1:=Int.emod_nonneg cell (show (2305843009213693951:Int)≠0 by omega)
    have h2:=Int.emod_lt_of_pos cell (show (0:Int) < 2305843009213693951 by omega)
    generalize cell % 2305843009213693951=z at h1 h2
    exact iU (by omega) (by omega)
def CkW (W:Int) (c:List Pc):Prop:=∀p∈c,(97≤p.1∧p.1≤122)∧p.2.natAbs≤W.natAbs
theorem sk {W:Int}:CkW W []:=fun _ z=>nomatch z
theorem CkW.append {W:Int} {c d:List Pc} (h:CkW W c) (h':CkW W d):CkW W (c++d):=fun p hp=>(List.mem_append.mp hp).elim (h p) (h' p)
theorem wf {w:List Nat} (h:0 < w.length) (z:Int):∃y,y∈w∧atI w (z % (w.length:Int))=some y:=by
  have m0:=Int.emod_nonneg z (show (w.length:Int)≠0 by omega)
  have m1:=Int.emod_lt_of_pos z (show (0:Int) < w.length by omega)
  obtain ⟨i,hi⟩:∃i:Nat,z % (w.length:Int)=i:=⟨(z % (w.length:Int)).toNat,by omega⟩
  refine ⟨w[i]'(by omega),List.getElem_mem _,?_⟩
  rw [hi,cB,List.getElem?_eq_getElem]
theorem sr {W z:Int} (h1:1≤W) (h2:W < 2 ^ 100 - 1):(z % (2*W+1) - W).natAbs≤W.natAbs:=by
  have m0:=Int.emod_nonneg z (show 2*W+1≠0 by omega)
  have m1:=Int.emod_lt_of_pos z (show 0 < 2*W+1 by omega)
  generalize z % (2*W+1)=y at m0 m1
  omega
section
variable (w:List Nat) (W:Int) (hw:0 < w.length) (hw2:w.length≤26) (hn:∀a∈w,97≤a∧a≤122) (h1:1≤W) (h2:W < 2 ^ 100 - 1)
include hw hw2 hn h1 h2
theorem iL (x0 x3:Sl):∀(n lo:Nat) (bK:Int) (c:List Pc) (a b:Sl),c.length+n≤1000→CkW W c→
    ∃(rest':Int) (c':List Pc) (a' b':Sl),dD dJ dL (j2 lo n) [x0, .sh (.str ⟨w.toArray⟩), .sh (.int W),x3, .ow (c.map bh), .ow [.int bK],a,b]=some ([x0, .sh (.str ⟨w.toArray⟩), .sh (.int W),x3, .ow (c'.map bh), .ow [.int rest'],a',b'], .nx)∧c'.length=c.length+n∧CkW W c'
  | 0,lo,bK,c,a,b,_,hc=>⟨bK,c,a,b,rfl,rfl,hc⟩
  | n+1,lo,bK,c,a,b,hl,hc=>by
    obtain ⟨y,hy,ey⟩:=wf hw bK
    have d1:fZ (w.length:Int)=true:=jE (by omega) (by omega)
    have d2:fZ (2*W+1)=true:=jE (by omega) (by omega)
    have m2:b7 2 W=true:=iU (by decide) (by decide)
    have lw:w.length≤1000000:=by omega
    have lb:c.length < 1000000:=by omega
    have tt:=sr (z:=bK / (w.length:Int)) h1 h2
    have step:(dJ (.int lo) [x0, .sh (.str ⟨w.toArray⟩), .sh (.int W),x3, .ow (c.map bh), .ow [.int bK],a,b]).bind dL=some ([x0, .sh (.str ⟨w.toArray⟩), .sh (.int W),x3, .ow ((c++[((y,bK / (w.length:Int) % (2*W+1) - W):Pc)]).map bh), .ow [.int (bK / (w.length:Int) / (2*W+1))], .sh (.int lo), .sh (.str ⟨#[y]⟩)], .nx):=by
      simp only [dJ,bM,List.length_cons,List.length_nil,Nat.zero_add,Nat.reduceAdd,Nat.reduceLT,List.set_cons_succ,List.set_cons_zero,if_true,dL,gh,Option.bind_some,aw,aF,ag,ad,List.getElem?_cons_succ,List.getElem?_cons_zero,Sl.isBr,Bool.true_and,fB,ae,aW,Bool.false_and,Bool.false_eq_true,ap,Option.map_some,if_false,dz,bj,dO,look,Sl.val,hot,aX,ax,be,lw,a_,aN,Bool.and_true,d1,ey,PL.settle,frz,frzAll,i4,gi,ip,aV,pC,cm,Int.reduceNeg,Bool.not_false,Bool.true_or,aH,bR,gT,bL,m2,d2,Nat.reduceLeDiff,List.length_map,lb,List.map_append,List.map_cons,bh,List.map_nil]
    obtain ⟨r',c',a',b',e,l,k⟩:=iL x0 x3 n (lo+1) (bK / (w.length:Int) / (2*W+1)) (c++[((y,bK / (w.length:Int) % (2*W+1) - W):Pc)]) (.sh (.int lo)) (.sh (.str ⟨#[y]⟩)) (by simp;omega) (hc.append fun q hq=>by rw [List.mem_singleton.mp hq];exact ⟨hn y hy,tt⟩)
    refine ⟨r',c',a',b',?_,by rw [l];simp;omega,k⟩
    rw [iT,dD,step]
    exact e
end
theorem lW (w:List Nat) (cell W K Ln z1 z2:Int) (y:Nat) (c:List Pc) (x3 x5 a b:Sl) (hLn:(w.length:Int)=Ln) (p1:0 < Ln) (p2:0 < 2*W+1) (lw:w.length≤1000000) (lb:c.length < 1000000) (m2:b7 2 W=true) (m3:b7 2 K=true) (ey:atI w (z1 % Ln)=some y)
    (e1:b5 [.int cell, .int (2*K+1)]=some (.sh (.int z1))) (e2:b5 [.int cell, .int (2*K+2)]=some (.sh (.int z2))):
    (cP (.int K) [.sh (.int cell), .sh (.str ⟨w.toArray⟩), .sh (.int W),x3, .ow (c.map bh),x5,a,b]).bind cQ=some ([.sh (.int cell), .sh (.str ⟨w.toArray⟩), .sh (.int W),x3, .ow ((c++[((y,z2 % (2*W+1) - W):Pc)]).map bh),x5, .sh (.int K), .sh (.str ⟨#[y]⟩)], .nx):=by
  simp only [cP,bM,List.length_cons,List.length_nil,Nat.zero_add,Nat.reduceAdd,Nat.reduceLT,List.set_cons_succ,List.set_cons_zero,if_true,cQ,cu,gh,Option.bind_some,aw,aF,ag,ad,List.getElem?_cons_succ,List.getElem?_cons_zero,Sl.isBr,Bool.false_and,Bool.false_eq_true,ar,ae,pC,cm,look,Sl.val,Int.reduceNeg,hot,aX,if_false,Bool.not_false,Bool.true_or,Bool.and_true,aH,ap,Option.map_some,aW,dz,bR,gT,dO,m3,ax,e1,be,lw,hLn,p1,decide_true,ey,PL.settle,frz,frzAll,i4,gi,ip,aV,bL,e2,m2,p2,Nat.reduceLeDiff,List.length_map,lb,List.map_append,List.map_cons,bh,List.map_nil]
section
variable (w:List Nat) (W:Int) (hw:0 < w.length) (hw2:w.length≤26) (hn:∀a∈w,97≤a∧a≤122) (h1:1≤W) (h2:W < 2 ^ 100 - 1)
include hw hw2 hn h1 h2
theorem iM (cell:Int) (x3 x5:Sl):∀(n lo:Nat) (c:List Pc) (a b:Sl),lo+n≤1000→c.length+n≤1000→CkW W c→
    ∃(c':List Pc) (a' b':Sl),dD cP cQ (j2 lo n) [.sh (.int cell), .sh (.str ⟨w.toArray⟩), .sh (.int W),x3, .ow (c.map bh),x5,a,b]=some ([.sh (.int cell), .sh (.str ⟨w.toArray⟩), .sh (.int W),x3, .ow (c'.map bh),x5,a',b'], .nx)∧c'.length=c.length+n∧CkW W c'
  | 0,lo,c,a,b,_,_,hc=>⟨c,a,b,rfl,rfl,hc⟩
  | n+1,lo,c,a,b,hlo,hl,hc=>by
    obtain ⟨z1,e1⟩:=jp cell (2*lo+1) (by omega)
    obtain ⟨z2,e2⟩:=jp cell (2*lo+2) (by omega)
    rw [show ((2*lo+1:Nat):Int)=2*(lo:Int)+1 by omega] at e1
    rw [show ((2*lo+2:Nat):Int)=2*(lo:Int)+2 by omega] at e2
    generalize hL:(lo:Int)=K at e1 e2
    obtain ⟨y,hy,ey⟩:=wf hw z1
    obtain ⟨Ln,hLn⟩:∃Ln:Int,(w.length:Int)=Ln:=⟨_,rfl⟩
    have p1:0 < Ln:=by omega
    rw [hLn] at ey
    have p2:0 < 2*W+1:=by omega
    have m2:b7 2 W=true:=iU (by decide) (by decide)
    have m3:b7 2 K=true:=iU (by decide) (by decide)
    have lw:w.length≤1000000:=by omega
    have lb:c.length < 1000000:=by omega
    have tt:=sr (z:=z2) h1 h2
    have step:=lW w cell W K Ln z1 z2 y c x3 x5 a b hLn p1 p2 lw lb m2 m3 ey e1 e2
    obtain ⟨c',a',b',e,l,k⟩:=iM cell x3 x5 n (lo+1) (c++[((y,z2 % (2*W+1) - W):Pc)]) (.sh (.int K)) (.sh (.str ⟨#[y]⟩)) (by omega) (by simp;omega) (hc.append fun q hq=>by rw [List.mem_singleton.mp hq];exact ⟨hn y hy,tt⟩)
    refine ⟨c',a',b',?_,by rw [l];simp;omega,k⟩
    rw [iT,dD,step]
    show dD cP cQ (j2 (K+1) n) _=_
    rw [←hL] at e ⊢
    exact e
end
section
variable (w:List Nat) (W:Int) (hw:0 < w.length) (hw2:w.length≤26) (hn:∀a∈w,97≤a∧a≤122) (h1:1≤W) (h2:W < 2 ^ 100 - 1)
include hw hw2 hn h1 h2
theorem kx (cell:Int) (most:Nat) (hm:most≤100):∃c:List Pc,bC [.int cell, .str ⟨w.toArray⟩, .int W, .int most]=some (.ow (c.map bh))∧c.length≤most∧CkW W c:=by
  have dm:fZ ((most:Int)+1)=true:=jE (by omega) (by omega)
  have pm:0 < (most:Int)+1:=by omega
  by_cases big: -1000000000000000000 < cell∧cell < 1000000000000000000
  · obtain ⟨z,ez⟩:=jp cell 0 (by omega)
    simp only [Int.natCast_zero] at ez
    have m0:=Int.emod_nonneg z (show (most:Int)+1≠0 by omega)
    have m1:=Int.emod_lt_of_pos z pm
    obtain ⟨n,hn'⟩:∃n:Nat,z % ((most:Int)+1)=n:=⟨(z % ((most:Int)+1)).toNat,by omega⟩
    obtain ⟨c',a',b',e,l,k⟩:=iM w W hw hw2 hn h1 h2 cell (.sh (.int most)) .no n 0 [] .no .no (by omega) (by simp;omega) sk
    refine ⟨c',?_,by rw [l];simp;omega,k⟩
    have ob: -1000000≤(n:Int)∧(n:Int)≤1000000:=by omega
    simp only [List.map_nil,Int.natCast_zero] at e
    simp only [bC,bS,List.length_cons,List.length_nil,Nat.zero_add,Nat.reduceAdd,bF,eR,aw,aF,cz,bL,ay,List.map_cons,List.map_nil,Nat.reduceSub,List.replicate,List.cons_append,List.nil_append,Option.bind_some,Nat.reduceLeDiff,if_true,PL.settle,frz,frzAll,Nat.reduceLT,List.set_cons_succ,List.set_cons_zero,aP,b8,bD,a9,dB,ag,pC,Sl.isBr,Bool.false_and,Bool.false_eq_true,jx,bR,look,Sl.val,gT,Int.reducePow,Int.reduceNeg,if_false,Int.reduceLE,Int.reduceLT,and_self,decide_true,Int.reduceToNat,Option.map_some,eQ,Bool.or_false,ad,aQ,Cm.i,Cm.s,aV,jc,gV,ae,fB,aH,hot,aX,Bool.not_false,Bool.true_or,Bool.and_true,ap,aA,az,ar,cu,List.getElem?_cons_zero,big.2,big.1,Bool.not_true,List.getElem?_cons_succ,a_,aN,ax,ez,pm,hn',ob,Int.toNat_natCast,e,bv,aO,bw]
  · have m0:=Int.emod_nonneg cell (show (most:Int)+1≠0 by omega)
    have m1:=Int.emod_lt_of_pos cell pm
    obtain ⟨n,hn'⟩:∃n:Nat,cell % ((most:Int)+1)=n:=⟨(cell % ((most:Int)+1)).toNat,by omega⟩
    obtain ⟨r',c',a',b',e,l,k⟩:=iL w W hw hw2 hn h1 h2 (.sh (.int cell)) (.sh (.int most)) n 0 (cell / ((most:Int)+1)) [] .no .no (by simp;omega) sk
    refine ⟨c',?_,by rw [l];simp;omega,k⟩
    have ob: -1000000≤(n:Int)∧(n:Int)≤1000000:=by omega
    simp only [List.map_nil,Int.natCast_zero] at e
    by_cases b1: -1000000000000000000 < cell
    · have b2:¬cell < 1000000000000000000:=fun z=>big ⟨b1,z⟩
      simp only [bC,bS,List.length_cons,List.length_nil,Nat.zero_add,Nat.reduceAdd,bF,eR,aw,aF,cz,bL,ay,List.map_cons,List.map_nil,Nat.reduceSub,List.replicate,List.cons_append,List.nil_append,Option.bind_some,Nat.reduceLeDiff,if_true,PL.settle,frz,frzAll,Nat.reduceLT,List.set_cons_succ,List.set_cons_zero,aP,b8,bD,a9,dB,ag,pC,Sl.isBr,Bool.false_and,Bool.false_eq_true,jx,bR,look,Sl.val,gT,Int.reducePow,Int.reduceNeg,if_false,Int.reduceLE,Int.reduceLT,and_self,decide_true,Int.reduceToNat,Option.map_some,eQ,Bool.or_false,ad,aQ,Cm.i,Cm.s,aV,jc,gV,ae,fB,aH,hot,aX,Bool.not_false,Bool.true_or,Bool.and_true,ap,bj,aA,az,ar,cu,List.getElem?_cons_zero,b2,decide_false,b1,List.getElem?_cons_succ,a_,aN,ax,dm,hn',ob,Int.toNat_natCast,e,bv,aO,bw]
    · simp only [bC,bS,List.length_cons,List.length_nil,Nat.zero_add,Nat.reduceAdd,bF,eR,aw,aF,cz,bL,ay,List.map_cons,List.map_nil,Nat.reduceSub,List.replicate,List.cons_append,List.nil_append,Option.bind_some,Nat.reduceLeDiff,if_true,PL.settle,frz,frzAll,Nat.reduceLT,List.set_cons_succ,List.set_cons_zero,aP,b8,bD,a9,dB,ag,pC,Sl.isBr,Bool.false_and,Bool.false_eq_true,jx,bR,look,Sl.val,gT,Int.reducePow,Int.reduceNeg,if_false,Int.reduceLE,Int.reduceLT,and_self,decide_true,Int.reduceToNat,Option.map_some,eQ,Bool.or_false,ad,aQ,Cm.i,Cm.s,aV,jc,gV,ae,fB,aH,hot,aX,Bool.not_false,Bool.true_or,Bool.and_true,ap,bj,aA,az,ar,cu,List.getElem?_cons_zero,b1,decide_false,List.getElem?_cons_succ,a_,aN,ax,dm,hn',ob,Int.toNat_natCast,e,bv,aO,bw]
end
theorem io:∀(d:List Pc) (x0 x1:Sl),i5 c8 kq cr (d.map bh) [x0,x1]=some ((d.map fun p=>((p.1,-p.2):Pc)).map bh)
  | [],x0,x1=>rfl
  | p::d,x0,x1=>by
    have e:(c8 (bh p) [x0,x1])=some [.sh (.str ⟨#[p.1]⟩), .sh (.int p.2)]:=rfl
    have e2:cr [.sh (.str ⟨#[p.1]⟩), .sh (.int p.2)]=some (.sh (bh (p.1,-p.2)),[.sh (.str ⟨#[p.1]⟩), .sh (.int p.2)]):=by
      simp only [cr,ip,aV,ad,List.getElem?_cons_zero,frz,dB,look,Sl.val,eQ,bL,Option.map_some,Option.bind_some,List.getElem?_cons_succ,List.length_cons,List.length_nil,Nat.zero_add,Nat.reduceAdd,Nat.reduceLeDiff,if_true,bh]
    rw [List.map_cons,i5,e,Option.bind_some]
    simp only [kq,frz,Option.bind_some,e2,io d,Option.map_some,if_true,List.map_cons]
theorem fq (c:List Pc) (h:c.length≤1000000):bn [.list (c.map bh)]=some (.ow ((NH.contr c).map bh)):=by
  have hl:(NH.contr c).length=c.length:=NH.bt c
  have e:(c.reverse.map fun p=>((p.1,-p.2):Pc))=NH.contr c:=rfl
  have k:=io c.reverse .no .no
  rw [e,List.map_reverse] at k
  simp only [bn,bS,List.length_cons,List.length_nil,Nat.zero_add,bF,eI,aA,lE,pB,ad,ay,List.map_cons,List.map_nil,Nat.sub_self,List.replicate,List.cons_append,List.nil_append,List.getElem?_cons_zero,frz,Option.bind_some,j5,rW,k,bw,List.length_map,hl,h,decide_true,Bool.and_true,if_true,bv,aO]
theorem ky:∀(d:List Pc) (x0 x1:Sl),i5 eU kq dE (d.map bh) [x0,x1]=some ((d.map fun p=>((p.1,-p.2):Pc)).map bh)
  | [],x0,x1=>rfl
  | p::d,x0,x1=>by
    have e:(eU (bh p) [x0,x1])=some [.sh (.str ⟨#[p.1]⟩), .sh (.int p.2)]:=rfl
    have e2:dE [.sh (.str ⟨#[p.1]⟩), .sh (.int p.2)]=some (.sh (bh (p.1,-p.2)),[.sh (.str ⟨#[p.1]⟩), .sh (.int p.2)]):=by
      simp only [dE,ip,aV,ad,List.getElem?_cons_zero,frz,dB,look,Sl.val,eQ,bL,Option.map_some,Option.bind_some,List.getElem?_cons_succ,List.length_cons,List.length_nil,Nat.zero_add,Nat.reduceAdd,Nat.reduceLeDiff,if_true,bh]
    rw [List.map_cons,i5,e,Option.bind_some]
    simp only [kq,frz,Option.bind_some,e2,ky d,Option.map_some,if_true,List.map_cons]
theorem iN (c:List Pc) (h:c.length≤1000000):cq [.list (c.map bh)]=some (.ow ((NH.contr c).map bh)):=by
  have hl:(NH.contr c).length=c.length:=NH.bt c
  have e:(c.reverse.map fun p=>((p.1,-p.2):Pc))=NH.contr c:=rfl
  have k:=ky c.reverse .no .no
  rw [e,List.map_reverse] at k
  simp only [cq,bS,List.length_cons,List.length_nil,Nat.zero_add,bF,g7,aA,lE,pB,ad,ay,List.map_cons,List.map_nil,Nat.sub_self,List.replicate,List.cons_append,List.nil_append,List.getElem?_cons_zero,frz,Option.bind_some,j5,rW,k,bw,List.length_map,hl,h,decide_true,Bool.and_true,if_true,bv,aO]
theorem jP (x0 x1:Sl):∀(W:List Pc) (a b:Sl),NailsOk W→∃a' b',dD di dk (jC (W.map bh) (W.map bh)) [x0,x1,a,b]=some ([x0,x1,a',b'], .nx)
  | [],a,b,_=>⟨a,b,rfl⟩
  | p::W,a,b,h=>by
    have q:=qP (h p (List.mem_cons_self ..)) (h p (List.mem_cons_self ..))
    rw [decide_eq_true rfl] at q
    have q2:qd (.tuple [.str ⟨#[p.1]⟩, .int p.2]) (.tuple [.str ⟨#[p.1]⟩, .int p.2])=some true:=q
    have e:(di (.tuple [bh p,bh p]) [x0,x1,a,b]).bind dk=some ([x0,x1, .sh (bh p), .sh (bh p)], .nx):=by
      simp only [di,ik,bh,List.length_cons,List.length_nil,Nat.zero_add,Nat.reduceAdd,df,bM,Nat.reduceLT,List.set_cons_succ,List.set_cons_zero,if_true,Option.bind_some,ij,List.isEmpty_nil,dk,mn,aw,aP,cF,b8,de,dB,ad,List.getElem?_cons_succ,List.getElem?_cons_zero,look,Sl.val,gx,Ty.is,vq,Option.map_some,f9,Bool.not_true,bD,ag,aW,ae,Sl.isBr,Bool.false_and,Bool.false_eq_true,ap,if_false,dz,pC,bR,dO,hot,aX,ax,Int.cast_ofNat_Int,aR,decide_true,nz,aA,az,nC,q2]
    obtain ⟨a',b',ih⟩:=jP x0 x1 W (.sh (bh p)) (.sh (bh p)) fun r hr=>h r (List.mem_cons_of_mem _ hr)
    refine ⟨a',b',?_⟩
    rw [List.map_cons,jC,dD,e]
    exact ih
theorem jQ (W:List Pc) (h:NailsOk W) (hl:W.length≤100000):bz [.list (W.map bh), .list (W.map bh)]=some (.sh (.bool true)):=by
  obtain ⟨a,b,e⟩:=jP (.sh (.list (W.map bh))) (.sh (.list (W.map bh))) W .no .no h
  have lb:W.length≤1000000:=by omega
  simp only [bz,bS,List.length_cons,List.length_nil,Nat.zero_add,Nat.reduceAdd,bF,gm,aw,aP,cF,b8,de,dB,ad,ay,List.map_cons,List.map_nil,Nat.reduceSub,List.replicate,List.cons_append,List.nil_append,List.getElem?_cons_zero,look,Sl.val,gx,Ty.is,vq,Option.bind_some,Option.map_some,f9,Bool.not_true,bD,ag,aW,ae,Sl.isBr,Bool.false_and,Bool.false_eq_true,ap,if_false,dz,mn,bR,ax,List.length_map,List.getElem?_cons_succ,aR,decide_true,aA,pC,az,jc,vC,frz,e,bv,aO,aN,if_true]
theorem p6:(Str.ofString "0").cps.toList=[48]:=by decide+kernel
theorem wg:(Str.ofString "9").cps.toList=[57]:=by decide+kernel
theorem yV:(Str.ofString "-").cps.toList=[45]:=by decide+kernel
theorem lX (a b:Nat):decide ([a] < [b])=decide (a < b):=by
  by_cases h:a < b
  · rw [decide_eq_true h,decide_eq_true (List.cons_lt_cons_iff.mpr (.inl h))]
  · rw [decide_eq_false h]
    refine decide_eq_false fun z=>?_
    rcases List.cons_lt_cons_iff.mp z with z | z
    · omega
    · exact absurd z.2 (by simp)
def Dg (c:Nat):Prop:=48≤c∧c≤57
def yW (R:List Nat):Prop:=∀c,R.head? =some c→c≠45∧¬Dg c
theorem wj (T:List Nat) (x1:Sl) (n:Nat) (N c:Nat) (hN:T.length=N) (hT:N≤1000000) (hn:n < N) (hc:T[n]? =some c) (d:Dg c):aT [.sh (.str ⟨T.toArray⟩),x1, .sh (.int n)]=some (true,[.sh (.str ⟨T.toArray⟩),x1, .sh (.int n)]):=by
  have h1:decide (c < 48)=false:=decide_eq_false (by have:=d.1;omega)
  have h2:decide (57 < c)=false:=decide_eq_false (by have:=d.2;omega)
  have e1:((n:Int) < (N:Int))=True:=eq_true (by omega)
  simp only [aT,jy,bD,ag,ad,List.getElem?_cons_succ,List.getElem?_cons_zero,Sl.isBr,Bool.false_and,Bool.false_eq_true,aW,ae,ap,Option.map_some,if_false,dz,bR,look,Sl.val,aQ,Cm.i,Cm.s,Option.bind_some,ax,be,hN,hT,if_true,e1,decide_true,a9,pC,Bool.or_false,dO,hot,aX,cB,hc,wg,lX,h2,Bool.not_false,p6,h1]
theorem wk (T:List Nat) (x1:Sl) (n:Nat) (N c:Nat) (hN:T.length=N) (hT:N≤1000000) (hn:n < N) (hc:T[n]? =some c) (d:¬Dg c):aT [.sh (.str ⟨T.toArray⟩),x1, .sh (.int n)]=some (false,[.sh (.str ⟨T.toArray⟩),x1, .sh (.int n)]):=by
  have e1:((n:Int) < (N:Int))=True:=eq_true (by omega)
  by_cases h:c < 48
  · have h1:decide (c < 48)=true:=decide_eq_true h
    simp only [aT,jy,bD,ag,ad,List.getElem?_cons_succ,List.getElem?_cons_zero,Sl.isBr,Bool.false_and,Bool.false_eq_true,aW,ae,ap,Option.map_some,if_false,dz,bR,look,Sl.val,aQ,Cm.i,Cm.s,Option.bind_some,ax,be,hN,hT,if_true,e1,decide_true,a9,pC,Bool.or_false,dO,hot,aX,cB,hc,wg,lX,p6,h1,Bool.not_true]
  · have h1:decide (c < 48)=false:=decide_eq_false h
    have h2:decide (57 < c)=true:=decide_eq_true (by unfold Dg at d;omega)
    simp only [aT,jy,bD,ag,ad,List.getElem?_cons_succ,List.getElem?_cons_zero,Sl.isBr,Bool.false_and,Bool.false_eq_true,aW,ae,ap,Option.map_some,if_false,dz,bR,look,Sl.val,aQ,Cm.i,Cm.s,Option.bind_some,ax,be,hN,hT,if_true,e1,decide_true,a9,pC,Bool.or_false,dO,hot,aX,cB,hc,wg,lX,h2,Bool.not_true,p6,h1,Bool.not_false]
theorem wm (T:List Nat) (x1:Sl) (n:Nat) (N:Nat) (hN:T.length=N) (hT:N≤1000000) (hn:¬n < N):aT [.sh (.str ⟨T.toArray⟩),x1, .sh (.int n)]=some (false,[.sh (.str ⟨T.toArray⟩),x1, .sh (.int n)]):=by
  have e1:((n:Int) < (N:Int))=False:=eq_false (by omega)
  simp only [aT,jy,bD,ag,ad,List.getElem?_cons_succ,List.getElem?_cons_zero,Sl.isBr,Bool.false_and,Bool.false_eq_true,aW,ae,ap,Option.map_some,if_false,dz,bR,look,Sl.val,aQ,Cm.i,Cm.s,Option.bind_some,ax,be,hN,hT,if_true,e1,decide_false,a9,pC,Bool.or_false,dO,hot,aX]
theorem wn (x0 x1:Sl) (n:Nat):cC [x0,x1, .sh (.int n)]=some ([x0,x1, .sh (.int ((n+1:Nat):Int))], .nx):=by
  simp only [cC,aF,ag,ad,List.getElem?_cons_succ,List.getElem?_cons_zero,Sl.isBr,Bool.false_and,Bool.false_eq_true,pC,aH,look,Sl.val,hot,aX,Option.bind_some,Bool.not_false,Bool.true_or,Bool.and_true,if_false,PL.settle,frz,frzAll,List.length_cons,List.length_nil,Nat.zero_add,Nat.reduceAdd,Nat.reduceLT,List.set_cons_succ,List.set_cons_zero,if_true]
  rfl
theorem dP {T D:List Nat} {n c:Nat} (h:T.drop n=c::D):T[n]? =some c∧n < T.length∧T.drop (n+1)=D:=by
  have hn:n < T.length:=by
    rcases Nat.lt_or_ge n T.length with z | z
    · exact z
    · rw [List.drop_of_length_le z] at h;cases h
  rw [List.drop_eq_getElem_cons hn] at h
  injection h with h1 h2
  exact ⟨by rw [List.getElem?_eq_getElem hn,h1],hn,h2⟩
theorem wo (T:List Nat) (x1:Sl) (hT:T.length≤1000000):∀(D R:List Nat) (n:Nat),n≤T.length→T.drop n=D++R→(∀c∈D,Dg c)→yW R→b6 aT cC (D.length+1) [.sh (.str ⟨T.toArray⟩),x1, .sh (.int n)]=some ([.sh (.str ⟨T.toArray⟩),x1, .sh (.int ((n+D.length:Nat):Int))], .nx)
  | [],R,n,hn,h,hd,hs=>by
    have e:aT [.sh (.str ⟨T.toArray⟩),x1, .sh (.int n)]=some (false,[.sh (.str ⟨T.toArray⟩),x1, .sh (.int n)]):=by
      cases R with
      | nil=>
        refine wm T x1 n _ rfl hT fun z=>?_
        have:=congrArg List.length h
        simp at this
        omega
      | cons c R=>
        obtain ⟨a1,a2,a3⟩:=dP (by simpa using h)
        exact wk T x1 n _ c rfl hT a2 a1 (hs c rfl).2
    rw [b6,e]
    rfl
  | d::D,R,n,hn,h,hd,hs=>by
    obtain ⟨a1,a2,a3⟩:=dP (D:=D++R) (by simpa using h)
    have e:=wj T x1 n _ d rfl hT a2 a1 (hd d (List.mem_cons_self ..))
    rw [b6,e,Option.bind_some]
    simp only [if_true,wn,Option.bind_some]
    have:=wo T x1 hT D R (n+1) a2 a3 (fun c hc=>hd c (List.mem_cons_of_mem _ hc)) hs
    rw [show n+(d::D).length=n+1+D.length by simp;omega]
    exact this
theorem gf (T D R:List Nat) (n:Nat) (hT:T.length≤1000000) (hn:n≤T.length) (h:T.drop n=D++R) (hd:∀c∈D,Dg c) (hs:yW R):bZ [.str ⟨T.toArray⟩, .int n]=some (.sh (.int ((n+D.length:Nat):Int))):=by
  have w:=nE (wo T (.sh (.int n)) hT D R n hn h hd hs)
  simp only [bZ,bS,List.length_cons,List.length_nil,Nat.zero_add,Nat.reduceAdd,bF,eW,aw,aF,ad,ay,List.map_cons,List.map_nil,Nat.reduceSub,List.replicate,List.cons_append,List.nil_append,List.getElem?_cons_succ,List.getElem?_cons_zero,PL.settle,frz,frzAll,Option.bind_some,Nat.reduceLT,List.set_cons_succ,List.set_cons_zero,if_true,aA,w,bv,aO,aN]
theorem yi (T:List Nat) (n:Nat):qe ⟨T.toArray⟩ (n:Int) (Str.ofString "0")=decide (T[n]? =some 48):=by
  unfold qe;rw [p6];simp
theorem BO (T:List Nat) (n:Nat):qe ⟨T.toArray⟩ (n:Int) (Str.ofString "-")=decide (T[n]? =some 45):=by
  unfold qe;rw [yV];simp
theorem kz:((Str.ofString "0").cps.toList.length=1)=True:=eq_true (by rw [p6];rfl)
theorem lY:((Str.ofString "-").cps.toList.length=1)=True:=eq_true (by rw [yV];rfl)
def ie (t:Int):List Nat:=if t=1 then [] else NH.jS t
theorem gC (T:List Nat) (n a b:Nat) (res:Int) (h0:(T[n]? =some 48)=False) (ha:(if T[n]? =some 45 then n+1 else n)=a) (fe:bZ [.str ⟨T.toArray⟩, .int a]=some (.sh (.int b)))
    (hr:(if T[a]? =some 48∨¬(1≤(b:Int) - a∧(b:Int) - a≤30) then (n:Int) else b)=res):aJ [.str ⟨T.toArray⟩, .int n]=some (.sh (.int res)):=by
  have z:(0≤(n:Int))=True:=eq_true (by omega)
  have za:(0≤(a:Int))=True:=eq_true (by omega)
  have a0:qe ⟨T.toArray⟩ (n:Int) (Str.ofString "0")=false:=(yi T n).trans (decide_eq_false (of_eq_false h0))
  by_cases hm:T[n]? =some 45
  · have am:qe ⟨T.toArray⟩ (n:Int) (Str.ofString "-")=true:=(BO T n).trans (decide_eq_true hm)
    rw [if_pos hm] at ha
    have ea:(n:Int)+1=(a:Int):=by omega
    by_cases q:T[a]? =some 48
    · have aq:qe ⟨T.toArray⟩ (a:Int) (Str.ofString "0")=true:=(yi T a).trans (decide_eq_true q)
      rw [if_pos (.inl q)] at hr
      rw [←hr]
      simp only [aJ,bS,List.length_cons,List.length_nil,Nat.zero_add,Nat.reduceAdd,bF,bx,aw,aP,de,cN,ay,List.map_cons,List.map_nil,Nat.reduceSub,List.replicate,List.cons_append,List.nil_append,List.getElem?_cons_zero,ae,pC,Sl.isBr,Bool.false_and,Bool.false_eq_true,ad,ap,Option.map_some,if_false,Option.bind_some,List.getElem?_cons_succ,ax,look,Sl.val,kz,z,and_self,a0,if_true,f9,aA,ag,aH,hot,aX,Bool.not_false,Bool.true_or,Bool.and_true,az,ea,aF,nw,PL.settle,frz,frzAll,ar,cF,b8,bD,a9,Bool.or_false,gh,bR,gT,aQ,Cm.i,Cm.s,lY,am,Nat.reduceLT,List.set_cons_succ,List.set_cons_zero,fe,za,aq,bv,aO,aN]
    · have aq:qe ⟨T.toArray⟩ (a:Int) (Str.ofString "0")=false:=(yi T a).trans (decide_eq_false q)
      by_cases l1:1≤(b:Int) - a
      · by_cases l2:(b:Int) - a≤30
        · rw [if_neg (by simp [q,l1,l2])] at hr
          rw [←hr]
          simp only [aJ,bS,List.length_cons,List.length_nil,Nat.zero_add,Nat.reduceAdd,bF,bx,aw,aP,de,cN,ay,List.map_cons,List.map_nil,Nat.reduceSub,List.replicate,List.cons_append,List.nil_append,List.getElem?_cons_zero,ae,pC,Sl.isBr,Bool.false_and,Bool.false_eq_true,ad,ap,Option.map_some,if_false,Option.bind_some,List.getElem?_cons_succ,ax,look,Sl.val,kz,z,and_self,a0,if_true,f9,aA,ag,aH,hot,aX,Bool.not_false,Bool.true_or,Bool.and_true,az,ea,aF,nw,PL.settle,frz,frzAll,ar,cF,b8,bD,a9,Bool.or_false,gh,bR,gT,aQ,Cm.i,Cm.s,lY,am,Nat.reduceLT,List.set_cons_succ,List.set_cons_zero,fe,za,aq,l2,decide_true,l1,Bool.not_true,bv,aO,aN]
        · rw [if_pos (by simp [q,l1,l2])] at hr
          rw [←hr]
          simp only [aJ,bS,List.length_cons,List.length_nil,Nat.zero_add,Nat.reduceAdd,bF,bx,aw,aP,de,cN,ay,List.map_cons,List.map_nil,Nat.reduceSub,List.replicate,List.cons_append,List.nil_append,List.getElem?_cons_zero,ae,pC,Sl.isBr,Bool.false_and,Bool.false_eq_true,ad,ap,Option.map_some,if_false,Option.bind_some,List.getElem?_cons_succ,ax,look,Sl.val,kz,z,and_self,a0,if_true,f9,aA,ag,aH,hot,aX,Bool.not_false,Bool.true_or,Bool.and_true,az,ea,aF,nw,PL.settle,frz,frzAll,ar,cF,b8,bD,a9,Bool.or_false,gh,bR,gT,aQ,Cm.i,Cm.s,lY,am,Nat.reduceLT,List.set_cons_succ,List.set_cons_zero,fe,za,aq,l2,decide_false,l1,decide_true,bv,aO,aN]
      · rw [if_pos (by simp [q,l1])] at hr
        rw [←hr]
        simp only [aJ,bS,List.length_cons,List.length_nil,Nat.zero_add,Nat.reduceAdd,bF,bx,aw,aP,de,cN,ay,List.map_cons,List.map_nil,Nat.reduceSub,List.replicate,List.cons_append,List.nil_append,List.getElem?_cons_zero,ae,pC,Sl.isBr,Bool.false_and,Bool.false_eq_true,ad,ap,Option.map_some,if_false,Option.bind_some,List.getElem?_cons_succ,ax,look,Sl.val,kz,z,and_self,a0,if_true,f9,aA,ag,aH,hot,aX,Bool.not_false,Bool.true_or,Bool.and_true,az,ea,aF,nw,PL.settle,frz,frzAll,ar,cF,b8,bD,a9,Bool.or_false,gh,bR,gT,aQ,Cm.i,Cm.s,lY,am,Nat.reduceLT,List.set_cons_succ,List.set_cons_zero,fe,za,aq,l1,decide_false,bv,aO,aN]
  · have am:qe ⟨T.toArray⟩ (n:Int) (Str.ofString "-")=false:=(BO T n).trans (decide_eq_false hm)
    rw [if_neg hm] at ha
    subst ha
    by_cases l1:1≤(b:Int) - n
    · by_cases l2:(b:Int) - n≤30
      · rw [if_neg (by simp [h0,l1,l2])] at hr
        rw [←hr]
        simp only [aJ,bS,List.length_cons,List.length_nil,Nat.zero_add,Nat.reduceAdd,bF,bx,aw,aP,de,cN,ay,List.map_cons,List.map_nil,Nat.reduceSub,List.replicate,List.cons_append,List.nil_append,List.getElem?_cons_zero,ae,pC,Sl.isBr,Bool.false_and,Bool.false_eq_true,ad,ap,Option.map_some,if_false,Option.bind_some,List.getElem?_cons_succ,ax,look,Sl.val,kz,z,and_self,a0,if_true,f9,aA,ag,aH,hot,aX,Bool.not_false,Bool.true_or,Bool.and_true,az,aF,nw,PL.settle,frz,frzAll,ar,cF,b8,bD,a9,Bool.or_false,gh,bR,gT,aQ,Cm.i,Cm.s,lY,am,Nat.reduceLT,List.set_cons_succ,List.set_cons_zero,fe,l2,decide_true,l1,Bool.not_true,bv,aO,aN]
      · rw [if_pos (by simp [l1,l2])] at hr
        rw [←hr]
        simp only [aJ,bS,List.length_cons,List.length_nil,Nat.zero_add,Nat.reduceAdd,bF,bx,aw,aP,de,cN,ay,List.map_cons,List.map_nil,Nat.reduceSub,List.replicate,List.cons_append,List.nil_append,List.getElem?_cons_zero,ae,pC,Sl.isBr,Bool.false_and,Bool.false_eq_true,ad,ap,Option.map_some,if_false,Option.bind_some,List.getElem?_cons_succ,ax,look,Sl.val,kz,z,and_self,a0,if_true,f9,aA,ag,aH,hot,aX,Bool.not_false,Bool.true_or,Bool.and_true,az,aF,nw,PL.settle,frz,frzAll,ar,cF,b8,bD,a9,Bool.or_false,gh,bR,gT,aQ,Cm.i,Cm.s,lY,am,Nat.reduceLT,List.set_cons_succ,List.set_cons_zero,fe,l2,decide_false,l1,decide_true,bv,aO,aN]
    · rw [if_pos (by simp [l1])] at hr
      rw [←hr]
      simp only [aJ,bS,List.length_cons,List.length_nil,Nat.zero_add,Nat.reduceAdd,bF,bx,aw,aP,de,cN,ay,List.map_cons,List.map_nil,Nat.reduceSub,List.replicate,List.cons_append,List.nil_append,List.getElem?_cons_zero,ae,pC,Sl.isBr,Bool.false_and,Bool.false_eq_true,ad,ap,Option.map_some,if_false,Option.bind_some,List.getElem?_cons_succ,ax,look,Sl.val,kz,z,and_self,a0,if_true,f9,aA,ag,aH,hot,aX,Bool.not_false,Bool.true_or,Bool.and_true,az,aF,nw,PL.settle,frz,frzAll,ar,cF,b8,bD,a9,Bool.or_false,gh,bR,gT,aQ,Cm.i,Cm.s,lY,am,Nat.reduceLT,List.set_cons_succ,List.set_cons_zero,fe,l1,decide_false,bv,aO,aN]
theorem lZ (T:List Nat) (n:Nat) (h0:T[n]? =some 48):aJ [.str ⟨T.toArray⟩, .int n]=some (.sh (.int ((n+1:Nat):Int))):=by
  have z:(0≤(n:Int))=True:=eq_true (by omega)
  have a0:qe ⟨T.toArray⟩ (n:Int) (Str.ofString "0")=true:=(yi T n).trans (decide_eq_true h0)
  simp only [aJ,bS,List.length_cons,List.length_nil,Nat.zero_add,Nat.reduceAdd,bF,bx,aw,aP,de,cN,ay,List.map_cons,List.map_nil,Nat.reduceSub,List.replicate,List.cons_append,List.nil_append,List.getElem?_cons_zero,ae,pC,Sl.isBr,Bool.false_and,Bool.false_eq_true,ad,ap,Option.map_some,if_false,Option.bind_some,List.getElem?_cons_succ,ax,look,Sl.val,kz,z,and_self,a0,if_true,f9,aA,ag,aH,hot,aX,Bool.not_false,Bool.true_or,Bool.and_true,az,aF,nw,PL.settle,frz,frzAll,ar,cF,b8,bD,a9,Bool.or_false,gh,bR,gT,aQ,Cm.i,Cm.s,bv,aO,aN]
  rfl
theorem BP:NH.jS 0=[48]:=by decide+kernel
theorem BQ:ie 0=[48]:=by unfold ie;rw [if_neg (by decide),BP]
theorem oY {T R:List Nat} {n:Nat} (h:T.drop n=R):T[n]? =R.head? :=by
  rw [←h,List.head?_drop]
theorem mX (T R:List Nat) (n:Nat) (t:Int) (hT:T.length≤1000000) (hn:n≤T.length) (h:T.drop n=ie t++R) (tb:t.natAbs < 10 ^ 30) (hs:yW R):aJ [.str ⟨T.toArray⟩, .int n]=some (.sh (.int ((n+(ie t).length:Nat):Int))):=by
  by_cases t0:t=0
  · subst t0
    rw [BQ] at h ⊢
    obtain ⟨a1,a2,a3⟩:=dP (D:=R) (by simpa using h)
    exact lZ T n a1
  by_cases h1:t=1
  · unfold ie at h ⊢
    rw [if_pos h1] at h ⊢
    have hh:=oY h
    have nh:∀c,(c=45∨c=48)→(T[n]? =some c)=False:=fun c hc=>eq_false fun z=>by
      rw [hh] at z
      have:=hs c z
      unfold Dg at this
      omega
    have fe:=gf T [] R n hT hn h (fun _ z=>nomatch z) hs
    refine gC T n n n _ (nh 48 (.inr rfl)) (if_neg (by rw [nh 45 (.inl rfl)];exact id)) fe ?_
    rw [if_pos (.inr (by omega))]
    simp
  · obtain ⟨s,D,e,hs1,hD,hne,hh,hl,_⟩:=NH.pU t0 tb
    unfold ie at h ⊢
    rw [if_neg h1] at h ⊢
    rw [e] at h ⊢
    have hdg:∀c∈D,Dg c:=hD
    have l1:1≤D.length:=by cases D with | nil=>exact absurd rfl hne | cons=>simp
    obtain ⟨d0,D',eD⟩:∃d0 D',D=d0::D':=by cases D with | nil=>exact absurd rfl hne | cons a b=>exact ⟨a,b,rfl⟩
    have d0g:Dg d0:=hdg d0 (by rw [eD];simp)
    have d0n:d0≠48:=fun z=>hh (by rw [eD,z];rfl)
    rcases hs1 with rfl | rfl
    · have h':T.drop n=D++R:=by simpa using h
      have hh2:=oY h'
      rw [eD] at hh2
      have hh3:T[n]? =some d0:=by simpa using hh2
      have fe:=gf T D R n hT hn h' hdg hs
      have n48:(T[n]? =some 48)=False:=eq_false fun z=>d0n (Option.some.inj (hh3.symm.trans z))
      have n45:¬T[n]? =some 45:=fun z=>by
        have:=Option.some.inj (hh3.symm.trans z)
        have:=d0g.1
        omega
      refine gC T n n (n+D.length) _ n48 (if_neg n45) fe ?_
      rw [if_neg (by rw [n48];simp;omega)]
      simp
    · obtain ⟨a1,a2,a3⟩:=dP (D:=D++R) (by simpa using h)
      have hh2:=oY a3
      rw [eD] at hh2
      have hh3:T[n+1]? =some d0:=by simpa using hh2
      have fe:=gf T D R (n+1) hT a2 a3 hdg hs
      refine gC T n (n+1) (n+1+D.length) _ (eq_false fun z=>by rw [a1] at z;cases z) (if_pos a1) fe ?_
      rw [if_neg (by rw [hh3];simp;omega)]
      simp
      omega
def wM (n:Nat):Prop:=97≤n∧n≤122
theorem yX:(Str.ofString "a").cps.toList=[97]:=by decide+kernel
theorem yY:(Str.ofString "z").cps.toList=[122]:=by decide+kernel
theorem qX (n:Nat) (h:wM n):bY [.str ⟨#[n]⟩]=some (.sh (.bool true)):=by
  have l:(⟨#[n]⟩:Str).length=1:=rfl
  have a:decide (n < 97)=false:=decide_eq_false (by have:=h.1;omega)
  have z:decide (122 < n)=false:=decide_eq_false (by have:=h.2;omega)
  simp only [bY,bS,List.length_cons,List.length_nil,Nat.zero_add,bF,gO,aA,dU,dB,ad,ay,List.map_cons,List.map_nil,Nat.sub_self,List.replicate,List.cons_append,List.nil_append,List.getElem?_cons_zero,look,Sl.val,gx,Ty.is,vq,Option.bind_some,Option.map_some,ag,aW,ae,Sl.isBr,Bool.false_and,Bool.false_eq_true,ap,if_false,dz,pC,d_,bR,a9,Bool.or_false,aQ,Cm.i,Cm.s,ax,l,Nat.reduceLeDiff,Int.cast_ofNat_Int,if_true,aR,decide_true,yY,lX,z,Bool.not_false,yX,a,bv,aO,aN]
theorem l7 (n:Nat) (h:n < 97):bY [.str ⟨#[n]⟩]=some (.sh (.bool false)):=by
  have l:(⟨#[n]⟩:Str).length=1:=rfl
  have a:decide (n < 97)=true:=decide_eq_true h
  simp only [bY,bS,List.length_cons,List.length_nil,Nat.zero_add,bF,gO,aA,dU,dB,ad,ay,List.map_cons,List.map_nil,Nat.sub_self,List.replicate,List.cons_append,List.nil_append,List.getElem?_cons_zero,look,Sl.val,gx,Ty.is,vq,Option.bind_some,Option.map_some,ag,aW,ae,Sl.isBr,Bool.false_and,Bool.false_eq_true,ap,if_false,dz,pC,d_,bR,a9,Bool.or_false,aQ,Cm.i,Cm.s,ax,l,Nat.reduceLeDiff,Int.cast_ofNat_Int,if_true,aR,decide_true,yY,lX,yX,a,Bool.not_true,bv,aO,aN]
theorem kf (T:List Nat) (n:Nat) (e:aJ [.str ⟨T.toArray⟩, .int n]=some (.sh (.int n))):aM [.str ⟨T.toArray⟩, .int n]=some (.sh (.tuple [.int 1, .int n])):=by
  simp only [aM,bS,List.length_cons,List.length_nil,Nat.zero_add,Nat.reduceAdd,bF,dI,aw,aF,ar,ae,ad,ay,List.map_cons,List.map_nil,Nat.reduceSub,List.replicate,List.cons_append,List.nil_append,List.getElem?_cons_zero,Sl.isBr,Bool.false_and,Bool.false_eq_true,ap,Option.map_some,if_false,Option.bind_some,List.getElem?_cons_succ,ax,look,Sl.val,e,PL.settle,frz,frzAll,Nat.reduceLT,List.set_cons_succ,List.set_cons_zero,if_true,aA,fz,fw,dh,nw,bD,ag,d_,bR,pC,aW,mv,iB,hot,aX,takeP,i0,aR,decide_true,Nat.reduceLeDiff,List.all_cons,ot,List.all_nil,Bool.and_true,Pt.val,bv,aO,aN,a_]
theorem kg (T:List Nat) (n m:Nat) (t:Int) (x:Str) (hT:(T.length≤1000000)=True) (hne:((m:Int)=(n:Int))=False) (hx:Txt.slice ⟨T.toArray⟩ (some (n:Int)) (some (m:Int))=x) (xl:(x.length≤640)=True) (xt:PySem.intText? x=some t) (e:aJ [.str ⟨T.toArray⟩, .int n]=some (.sh (.int m))):aM [.str ⟨T.toArray⟩, .int n]=some (.sh (.tuple [.int t, .int m])):=by
  simp only [aM,bS,List.length_cons,List.length_nil,Nat.zero_add,Nat.reduceAdd,bF,dI,aw,aF,ar,ae,ad,ay,List.map_cons,List.map_nil,Nat.reduceSub,List.replicate,List.cons_append,List.nil_append,List.getElem?_cons_zero,Sl.isBr,Bool.false_and,Bool.false_eq_true,ap,Option.map_some,if_false,Option.bind_some,List.getElem?_cons_succ,ax,look,Sl.val,e,PL.settle,frz,frzAll,Nat.reduceLT,List.set_cons_succ,List.set_cons_zero,if_true,aA,fz,fw,dh,nw,bD,ag,d_,bR,pC,aW,mv,iB,hot,aX,sg,takeP,i0,aR,hne,decide_false,be,hT,hx,xl,xt,Nat.reduceLeDiff,List.all_cons,ot,List.all_nil,Bool.and_true,Pt.val,bv,aO,aN,a_]
def wN (p:Pc):PyData:=eO "Piece" [(.str "nail", .str ⟨#[p.1]⟩),(.str "turns", .int p.2),(.str "size", .int 1)]
theorem mY (T:List Nat) (n m c:Nat) (t:Int) (hT:(T.length≤1000000)=True) (hc:T[n]? =some c) (e:aM [.str ⟨T.toArray⟩, .int ((n:Int)+1)]=some (.sh (.tuple [.int t, .int m]))):bI [.str ⟨T.toArray⟩, .int n]=some (.sh (.tuple [wN (c,t), .int m])):=by
  simp only [bI,bS,List.length_cons,List.length_nil,Nat.zero_add,Nat.reduceAdd,bF,fI,aw,aF,ar,ae,ad,ay,List.map_cons,List.map_nil,Nat.reduceSub,List.replicate,List.cons_append,List.nil_append,List.getElem?_cons_zero,Sl.isBr,Bool.false_and,Bool.false_eq_true,ag,pC,aH,look,Sl.val,hot,aX,Option.bind_some,Bool.not_false,Bool.true_or,Bool.and_true,if_false,ap,Option.map_some,List.getElem?_cons_succ,ax,e,PL.settle,frz,frzAll,Nat.reduceLT,List.set_cons_succ,List.set_cons_zero,if_true,aA,fz,fw,dh,jF,dO,gZ,takeP,i0,be,hT,cB,hc,nz,nC,Nat.reduceLeDiff,List.all_cons,ot,List.all_nil,Pt.val,bv,aO,aN,a_]
  rfl
theorem ul (w:List Nat) (i j:Nat) (h1:i≤j) (h2:j≤w.length):Txt.slice (⟨w.toArray⟩:Str) (some (i:Int)) (some (j:Int))=⟨((w.drop i).take (j - i)).toArray⟩:=by
  have e:(⟨w.toArray⟩:Str).cps.toList=w:=by simp
  show PySem.StrLaws.sliceText _ _ _=_
  rw [PySem.StrLaws.sliceText_plain ⟨by omega,by omega,by rw [e];omega⟩,e]
  rw [show ((j:Int) - (i:Int)).toNat=j - i by omega,Int.toNat_natCast]
theorem iO (T R:List Nat) (n:Nat) (t:Int) (hT:T.length≤1000000) (hn:n≤T.length) (h:T.drop n=ie t++R) (tb:t.natAbs < 10 ^ 30) (hs:yW R):aM [.str ⟨T.toArray⟩, .int n]=some (.sh (.tuple [.int t, .int ((n+(ie t).length:Nat):Int)])):=by
  have e:=mX T R n t hT hn h tb hs
  by_cases h1:t=1
  · have z:ie t=[]:=by unfold ie;rw [if_pos h1]
    rw [z] at e ⊢
    subst h1
    exact kf T n (by simpa using e)
  · have z:ie t=NH.jS t:=by unfold ie;rw [if_neg h1]
    rw [z] at e h ⊢
    obtain ⟨l1,hv⟩:1≤(NH.jS t).length∧PySem.intText? ⟨(NH.jS t).toArray⟩=some t:=by
      by_cases t0:t=0
      · subst t0
        rw [BP]
        exact ⟨by decide,by decide+kernel⟩
      · obtain ⟨s,D,e2,hs1,hD,hne,hh,hl,hv⟩:=NH.pU t0 tb
        refine ⟨?_,hv⟩
        rw [e2,List.length_append]
        cases D with
        | nil=>exact absurd rfl hne
        | cons a b=>simp;omega
    have l2:=NH.oG tb
    have lt:n+(NH.jS t).length≤T.length:=by
      have:=congrArg List.length h
      simp only [List.length_drop,List.length_append] at this
      omega
    refine kg T n _ t ⟨(NH.jS t).toArray⟩ (eq_true hT) (eq_false (by omega)) ?_ (eq_true (by rw [be];omega)) hv e
    rw [ul T n _ (by omega) lt,h,Nat.add_sub_cancel_left,List.take_left]
def qY (p:Pc):List Nat:=p.1::ie p.2
def yj (r:List Pc):List Nat:=r.flatMap qY
theorem um (self:List PyData→Option Sl) (T:List Nat) (n c:Nat) (r:PyData) (hT:(T.length≤1000000)=True) (hc:T[n]? =some c) (hn:bY [.str ⟨#[c]⟩]=some (.sh (.bool true))) (e:bI [.str ⟨T.toArray⟩, .int n]=some (.sh r)) (hf:aN r=true) (z:PyData):bB self [.str ⟨T.toArray⟩, .int n,z]=some (.sh r):=by
  simp only [bB,bS,List.length_cons,List.length_nil,Nat.zero_add,Nat.reduceAdd,bF,dX,aw,aP,de,ar,ae,ag,ad,ay,List.map_cons,List.map_nil,Nat.sub_self,List.replicate,List.cons_append,List.nil_append,List.getElem?_cons_zero,Sl.isBr,Bool.false_and,Bool.false_eq_true,dO,look,Sl.val,hot,aX,if_false,Option.bind_some,List.getElem?_cons_succ,be,hT,if_true,cB,hc,Option.map_some,ap,ax,hn,f9,aA,az,e,bD,pC,d_,bR,bv,aO,hf]
theorem yZ:(Str.ofString "(")=⟨#[40]⟩:=by decide+kernel
theorem BR:(Str.ofString "[")=⟨#[91]⟩:=by decide+kernel
theorem Ax:qd (.str ⟨#[40]⟩) (.str (Str.ofString "("))=some true:=by rw [yZ];show some (decide _)=_;rw [decide_eq_true rfl]
theorem Ay:qd (.str ⟨#[91]⟩) (.str (Str.ofString "["))=some true:=by rw [BR];show some (decide _)=_;rw [decide_eq_true rfl]
theorem yk:qd (.str ⟨#[91]⟩) (.str (Str.ofString "("))=some false:=by rw [yZ];show some (decide _)=_;rw [decide_eq_false (by decide)]
theorem uo (self:List PyData→Option Sl) (T:List Nat) (n:Nat) (r:PyData) (hT:(T.length≤1000000)=True) (hc:T[n]? =some 40) (z:PyData) (e:cw self [.str ⟨T.toArray⟩, .int n,z]=some (.sh r)) (hf:aN r=true):bB self [.str ⟨T.toArray⟩, .int n,z]=some (.sh r):=by
  have hn:=l7 40 (by decide)
  have q:=Ax
  simp only [bB,bS,List.length_cons,List.length_nil,Nat.zero_add,Nat.reduceAdd,bF,dX,aw,aP,de,ar,ae,ag,ad,ay,List.map_cons,List.map_nil,Nat.sub_self,List.replicate,List.cons_append,List.nil_append,List.getElem?_cons_zero,Sl.isBr,Bool.false_and,Bool.false_eq_true,dO,look,Sl.val,hot,aX,if_false,Option.bind_some,List.getElem?_cons_succ,be,hT,if_true,cB,hc,Option.map_some,ap,ax,hn,f9,aA,az,bD,pC,d_,bR,q,e,bv,aO,hf]
theorem uq (self:List PyData→Option Sl) (T:List Nat) (n:Nat) (r:PyData) (hT:(T.length≤1000000)=True) (hc:T[n]? =some 91) (z:PyData) (e:cO self [.str ⟨T.toArray⟩, .int n,z]=some (.sh r)) (hf:aN r=true):bB self [.str ⟨T.toArray⟩, .int n,z]=some (.sh r):=by
  have hn:=l7 91 (by decide)
  have q:=Ay
  have q4:=yk
  simp only [bB,bS,List.length_cons,List.length_nil,Nat.zero_add,Nat.reduceAdd,bF,dX,aw,aP,de,ar,ae,ag,ad,ay,List.map_cons,List.map_nil,Nat.sub_self,List.replicate,List.cons_append,List.nil_append,List.getElem?_cons_zero,Sl.isBr,Bool.false_and,Bool.false_eq_true,dO,look,Sl.val,hot,aX,if_false,Option.bind_some,List.getElem?_cons_succ,be,hT,if_true,cB,hc,Option.map_some,ap,ax,hn,f9,aA,az,bD,pC,d_,bR,q4,q,e,bv,aO,hf]
theorem iP {cs:List Str} {f cn:Str} {kvs:List (PyData×PyData)} {d:PyData} {E:List Sl} {i:Nat} (e:E[i]? =some (.sh (eO cn kvs))) (hc:cs.contains cn=true) (l:gM f kvs=some d):eg cs f (ad i) E=some (.sh d,E):=by
  simp only [eg,ad,e,Option.bind_some,look,Sl.val,hc,if_true,l,hot,aX,Bool.not_false,Bool.true_or]
theorem ym {f:Str} {d:PyData} {r:List (PyData×PyData)}:gM f ((.str f,d)::r)=some d:=by unfold gM;rw [if_pos rfl]
theorem AT {f g:Str} {d:PyData} {r:List (PyData×PyData)} (h:g≠f):gM f ((.str g,d)::r)=gM f r:=by
  conv=>lhs;unfold gM
  rw [if_neg h]
theorem Dh {f a b:Str} {x y d:PyData} {r:List (PyData×PyData)} (h1:a≠f) (h2:b≠f):gM f ((.str a,x)::(.str b,y)::(.str f,d)::r)=some d:=(AT h1).trans ((AT h2).trans ym)
section
variable {a b c e:List PyData→Option Sl} {kvs:List (PyData×PyData)}
theorem wq:i3 [("Piece",a),("Parts",b),("Times",c),("Back",e)] [eO "Piece" kvs]=a [eO "Piece" kvs]:=by
  unfold i3 eO
  simp only [List.lookup_cons,beq_self_eq_true,Option.bind_some]
theorem wr:i3 [("Piece",a),("Parts",b),("Times",c),("Back",e)] [eO "Parts" kvs]=b [eO "Parts" kvs]:=by
  have z:(Str.ofString "Parts" == Str.ofString "Piece")=false:=by decide+kernel
  unfold i3 eO
  simp only [List.lookup_cons,z,beq_self_eq_true,Option.bind_some]
theorem wt:i3 [("Piece",a),("Parts",b),("Times",c),("Back",e)] [eO "Times" kvs]=c [eO "Times" kvs]:=by
  have z:(Str.ofString "Times" == Str.ofString "Piece")=false:=by decide+kernel
  have y:(Str.ofString "Times" == Str.ofString "Parts")=false:=by decide+kernel
  unfold i3 eO
  simp only [List.lookup_cons,z,y,beq_self_eq_true,Option.bind_some]
theorem wu:i3 [("Piece",a),("Parts",b),("Times",c),("Back",e)] [eO "Back" kvs]=e [eO "Back" kvs]:=by
  have z:(Str.ofString "Back" == Str.ofString "Piece")=false:=by decide+kernel
  have y:(Str.ofString "Back" == Str.ofString "Parts")=false:=by decide+kernel
  have x:(Str.ofString "Back" == Str.ofString "Times")=false:=by decide+kernel
  unfold i3 eO
  simp only [List.lookup_cons,z,y,x,beq_self_eq_true,Option.bind_some]
end
def Cn (cn:Str):Prop:=cn="Piece"∨cn="Parts"∨cn="Times"∨cn="Back"
theorem qZ {a:List PyData→Option Sl} {cn:Str} {kvs:List (PyData×PyData)} (h:Cn cn):i3 [("Piece",a),("Parts",a),("Times",a),("Back",a)] [eO cn kvs]=a [eO cn kvs]:=by
  rcases h with rfl | rfl | rfl | rfl
  · exact wq
  · exact wr
  · exact wt
  · exact wu
theorem c4 {cn:Str} (h:Cn cn):(["Piece","Parts","Times","Back"]:List Str).contains cn=true:=by
  rcases h with rfl | rfl | rfl | rfl <;> decide+kernel
theorem c1 (s:Str):([s]:List Str).contains s=true:=by simp
structure Tk (d:PyData) (z:Int):Prop where
  ex:∃cn kvs,d=eO cn kvs∧Cn cn∧gM "size" kvs=some (.int z)
  fl:aN d=true
theorem Tk.fld {d:PyData} {z:Int} (h:Tk d z) {E:List Sl} {i:Nat} (e:E[i]? =some (.sh d)):eg ["Piece","Parts","Times","Back"] "size" (ad i) E=some (.sh (.int z),E):=by
  obtain ⟨⟨cn,kvs,rfl,hc,l⟩,_⟩:=h
  exact iP e (c4 hc) l
theorem Tk.sz {d:PyData} {z:Int} (h:Tk d z):aB [d]=some (.sh (.int z)):=by
  have f:=h.fld (E:=[.sh d]) (i:=0) rfl
  have e:aB [d]=bN [d]:=by
    obtain ⟨⟨cn,kvs,rfl,hc,l⟩,_⟩:=h
    exact qZ hc
  rw [e]
  simp only [bN,bS,List.length_cons,List.length_nil,Nat.zero_add,bF,eV,aA,ay,List.map_cons,List.map_nil,Nat.sub_self,List.replicate,List.cons_append,List.nil_append,f,Option.bind_some,bv,aO,aN,if_true]
def AU (ds:List PyData) (z:Int):PyData:=eO "Parts" [(.str "kept", .tuple ds),(.str "size", .int z)]
def BS (d:PyData) (k z:Int):PyData:=eO "Times" [(.str "body",d),(.str "number", .int k),(.str "size", .int z)]
def BT (d e:PyData) (z:Int):PyData:=eO "Back" [(.str "one",d),(.str "other",e),(.str "size", .int z)]
theorem y1 (p:Pc):Tk (wN p) 1:=⟨⟨_,_,rfl, .inl rfl,Dh (by decide+kernel) (by decide+kernel)⟩,rfl⟩
theorem y2 {ds:List PyData} (z:Int) (h:a_ ds=true):Tk (AU ds z) z:=⟨⟨_,_,rfl, .inr (.inl rfl),(AT (by decide+kernel)).trans ym⟩,by simp [AU,aN,nv,lf,ph,sX,h]⟩
theorem su {d:PyData} (k z:Int) (h:aN d=true):Tk (BS d k z) z:=⟨⟨_,_,rfl, .inr (.inr (.inl rfl)),Dh (by decide+kernel) (by decide+kernel)⟩,by simp [BS,aN,nv,lf,ph,sX,h]⟩
theorem sw {d e:PyData} (z:Int) (h:aN d=true) (h':aN e=true):Tk (BT d e z) z:=⟨⟨_,_,rfl, .inr (.inr (.inr rfl)),Dh (by decide+kernel) (by decide+kernel)⟩,by simp [BT,aN,nv,lf,ph,sX,h,h']⟩
theorem q9 {d:PyData} {z:Int} (h:Tk d z):wL aB d=some z:=by unfold wL;rw [h.sz]
structure It where
  A:List Nat
  d:PyData
  z:Int
  c:List Pc
def Fin (R:List Nat):Prop:=∀c,R.head? =some c→c=41∨c=44∨c=93
theorem Fin.stp {R:List Nat} (h:Fin R):yW R:=fun c hc=>by
  unfold Dg
  rcases h c hc with rfl | rfl | rfl <;> decide
def Bg (A:List Nat):Prop:=∃c,A.head? =some c∧(wM c∨c=40∨c=91)
theorem Bg.stp {A R:List Nat} (h:Bg A):yW (A++R):=fun c hc=>by
  obtain ⟨c',e,k⟩:=h
  cases A with
  | nil=>cases e
  | cons a A=>
    cases e
    have:c=c':=by simpa using hc.symm
    subst this
    unfold Dg
    unfold wM at k
    omega
structure Itm (n:Nat) (dep:Int) (x:It):Prop where
  bg:Bg x.A
  tk:Tk x.d x.z
  rd:∀(T:List Nat) (i:Nat) (R:List Nat),T.length≤1000000→T.drop i=x.A++R→yW R→bB (aE n) [.str ⟨T.toArray⟩, .int i, .int dep]=some (.sh (.tuple [x.d, .int ((i+x.A.length:Nat):Int)]))
structure Prt (n:Nat) (dep:Int) (x:It):Prop where
  tk:Tk x.d x.z
  rd:∀(T:List Nat) (i:Nat) (R:List Nat),T.length≤1000000→i≤T.length→T.drop i=x.A++R→Fin R→aE n [.str ⟨T.toArray⟩, .int i, .int dep]=some (.sh (.tuple [x.d, .int ((i+x.A.length:Nat):Int)]))
def qf (p:Pc):It:=⟨qY p,wN p,1,[p]⟩
theorem AV {d:PyData} {k:Int} (h:aN d=true):aN (.tuple [d, .int k])=true:=by simp [aN,a_,h]
theorem BU (n:Nat) (dep:Int) {p:Pc} (h:wM p.1) (hb:p.2.natAbs < 10 ^ 30):Itm n dep (qf p):=by
  refine ⟨⟨p.1,rfl, .inl h⟩,y1 p,fun T i R hT hd hs=>?_⟩
  have h':T.drop i=p.1::(ie p.2++R):=hd
  obtain ⟨a1,a2,a3⟩:=dP h'
  have e:=iO T R (i+1) p.2 hT a2 a3 hb hs
  have e2:=mY T i _ p.1 p.2 (eq_true hT) a1 (by rw [show ((i:Int)+1)=((i+1:Nat):Int) by omega];exact e)
  have e3:=um (aE n) T i p.1 _ (eq_true hT) a1 (qX _ h) e2 rfl (.int dep)
  rw [show i+(qf p).A.length=i+1+(ie p.2).length by simp [qf,qY];omega]
  exact e3
theorem BV (s:Str) (c:Nat) (h:s.cps.toList=[c]) (T:List Nat) (n:Nat):qe ⟨T.toArray⟩ (n:Int) s=decide (T[n]? =some c):=by
  unfold qe;rw [h];simp
theorem kh (s:Str) (c:Nat) (T:List Nat) (n:Nat) (h:s.cps.toList=[c]) (hc:T[n]? =some c):bT [.str s, .str ⟨T.toArray⟩, .int n]=some (.sh (.int ((n:Int)+1))):=by
  have z:(0≤(n:Int))=True:=eq_true (by omega)
  have a0:qe ⟨T.toArray⟩ (n:Int) s=true:=(BV s c h T n).trans (decide_eq_true hc)
  have o:(s.cps.toList.length=1)=True:=eq_true (by rw [h];rfl)
  simp only [bT,bS,List.length_cons,List.length_nil,Nat.zero_add,Nat.reduceAdd,bF,jI,aw,aP,b8,de,cN,ay,List.map_cons,List.map_nil,Nat.sub_self,List.replicate,List.cons_append,List.nil_append,List.getElem?_cons_succ,List.getElem?_cons_zero,ae,ad,Sl.isBr,Bool.false_and,Bool.false_eq_true,ap,Option.map_some,if_false,Option.bind_some,ax,look,Sl.val,o,z,and_self,a0,if_true,f9,Bool.not_true,az,aA,ag,pC,aH,hot,aX,Bool.not_false,Bool.true_or,Bool.and_true,bv,aO,aN]
theorem mZ (self:List PyData→Option Sl) (T:Str) (I dep J k m z:Int) (d:PyData) (hf:aN d=true) (hz:wL aB d=some z) (hm:b7 z (aK k)=true) (e1:self [.str T, .int (I+1), .int (dep+1)]=some (.sh (.tuple [d, .int J]))) (e2:bT [.str ")", .str T, .int J]=some (.sh (.int (J+1)))) (e3:aM [.str T, .int (J+1)]=some (.sh (.tuple [.int k, .int m]))):cw self [.str T, .int I, .int dep]=some (.sh (.tuple [BS d k (z*aK k), .int m])):=by
  have ff:=(su k (z*aK k) hf).fl
  unfold BS at ff ⊢
  have ft:aN (.tuple [d, .int J])=true:=AV hf
  simp only [cw,bS,List.length_cons,List.length_nil,Nat.zero_add,Nat.reduceAdd,bF,fK,aw,aF,ar,ae,ad,ay,List.map_cons,List.map_nil,Nat.reduceSub,List.replicate,List.cons_append,List.nil_append,List.getElem?_cons_zero,Sl.isBr,Bool.false_and,Bool.false_eq_true,ag,pC,aH,look,Sl.val,hot,aX,Option.bind_some,Bool.not_false,Bool.true_or,Bool.and_true,if_false,ap,Option.map_some,List.getElem?_cons_succ,ax,e1,PL.settle,frz,frzAll,Nat.reduceLT,List.set_cons_succ,List.set_cons_zero,if_true,dO,aA,fz,fw,dh,jF,fE,takeP,i0,nC,e2,e3,nz,hz,hf,Bool.true_and,hm,Nat.reduceLeDiff,List.all_cons,ot,List.all_nil,Pt.val,bv,aO,aN,a_]
  exact if_pos ff
theorem oZ (self:List PyData→Option Sl) (T:Str) (I dep J M z y:Int) (d e:PyData) (hf:aN d=true) (hg:aN e=true) (hz:wL aB d=some z) (hy:wL aB e=some y) (e1:self [.str T, .int (I+1), .int (dep+1)]=some (.sh (.tuple [d, .int J]))) (e2:bT [.str ",", .str T, .int J]=some (.sh (.int (J+1)))) (e3:self [.str T, .int (J+1), .int (dep+1)]=some (.sh (.tuple [e, .int M]))) (e4:bT [.str "]", .str T, .int M]=some (.sh (.int (M+1)))):cO self [.str T, .int I, .int dep]=some (.sh (.tuple [BT d e (2*(z+y)), .int (M+1)])):=by
  have ff:=(sw (2*(z+y)) hf hg).fl
  unfold BT at ff ⊢
  have ft:aN (.tuple [d, .int J])=true:=AV hf
  have fu:aN (.tuple [e, .int M])=true:=AV hg
  simp only [cO,bS,List.length_cons,List.length_nil,Nat.zero_add,Nat.reduceAdd,bF,gn,aw,aF,ar,ae,ad,ay,List.map_cons,List.map_nil,Nat.reduceSub,List.replicate,List.cons_append,List.nil_append,List.getElem?_cons_zero,Sl.isBr,Bool.false_and,Bool.false_eq_true,ag,pC,aH,look,Sl.val,hot,aX,Option.bind_some,Bool.not_false,Bool.true_or,Bool.and_true,if_false,ap,Option.map_some,List.getElem?_cons_succ,ax,e1,PL.settle,frz,frzAll,Nat.reduceLT,List.set_cons_succ,List.set_cons_zero,if_true,dO,aA,fz,fw,dh,jF,g3,takeP,i0,nC,e2,e3,nz,hz,hy,hf,hg,e4,Nat.reduceLeDiff,List.all_cons,ot,List.all_nil,Pt.val,bv,aO,aN,a_]
  exact if_pos ff
theorem Az:(Str.ofString ")").cps.toList=[41]:=by decide+kernel
theorem AA:(Str.ofString ",").cps.toList=[44]:=by decide+kernel
theorem AB:(Str.ofString "]").cps.toList=[93]:=by decide+kernel
theorem wv {c:Nat} {R:List Nat} (h:c=41∨c=44∨c=93):Fin (c::R):=fun x hx=>by cases hx;exact h
def kK (x:It) (k:Int) (c:List Pc):It:=⟨40::(x.A++41::ie k),BS x.d k (x.z*aK k),x.z*aK k,c⟩
theorem BW {n:Nat} {dep:Int} {x:It} {k:Int} (c:List Pc) (P:Prt n (dep+1) x) (hb:k.natAbs < 10 ^ 30) (hm:b7 x.z (aK k)=true):Itm n dep (kK x k c):=by
  refine ⟨⟨40,rfl, .inr (.inl rfl)⟩,su k _ P.tk.fl,fun T i R hT hd hs=>?_⟩
  have h':T.drop i=40::(x.A++41::(ie k++R)):=by rw [hd];simp [kK]
  obtain ⟨a1,a2,a3⟩:=dP h'
  have r1:=P.rd T (i+1) (41::(ie k++R)) hT a2 a3 (wv (.inl rfl))
  have a4:T.drop (i+1+x.A.length)=41::(ie k++R):=by rw [←List.drop_drop,a3,List.drop_left]
  obtain ⟨b1,b2,b3⟩:=dP a4
  have e2:=kh ")" 41 T _ Az b1
  have e3:=iO T R _ k hT b2 b3 hb hs
  have g1:((i:Int)+1)=((i+1:Nat):Int):=by omega
  have g2:(((i+1+x.A.length:Nat):Int)+1)=((i+1+x.A.length+1:Nat):Int):=by omega
  have e:=mZ (aE n) ⟨T.toArray⟩ i dep _ k _ x.z x.d P.tk.fl (q9 P.tk) hm (by rw [g1];exact r1) e2 (by rw [g2];exact e3)
  have ff:=(su k (x.z*aK k) P.tk.fl).fl
  have:=uo (aE n) T i _ (eq_true hT) a1 _ e (AV ff)
  rw [show i+(kK x k c).A.length=i+1+x.A.length+1+(ie k).length by simp [kK];omega]
  exact this
def p7 (x y:It):It:=⟨91::(x.A++44::(y.A++[93])),BT x.d y.d (2*(x.z+y.z)),2*(x.z+y.z),x.c++y.c++NH.contr x.c++NH.contr y.c⟩
theorem BX {n:Nat} {dep:Int} {x y:It} (P:Prt n (dep+1) x) (Q:Prt n (dep+1) y):Itm n dep (p7 x y):=by
  refine ⟨⟨91,rfl, .inr (.inr rfl)⟩,sw _ P.tk.fl Q.tk.fl,fun T i R hT hd hs=>?_⟩
  have h':T.drop i=91::(x.A++44::(y.A++93::R)):=by rw [hd];simp [p7]
  obtain ⟨a1,a2,a3⟩:=dP h'
  have r1:=P.rd T (i+1) (44::(y.A++93::R)) hT a2 a3 (wv (.inr (.inl rfl)))
  have a4:T.drop (i+1+x.A.length)=44::(y.A++93::R):=by rw [←List.drop_drop,a3,List.drop_left]
  obtain ⟨b1,b2,b3⟩:=dP a4
  have e2:=kh "," 44 T _ AA b1
  have r2:=Q.rd T (i+1+x.A.length+1) (93::R) hT b2 b3 (wv (.inr (.inr rfl)))
  have a5:T.drop (i+1+x.A.length+1+y.A.length)=93::R:=by rw [←List.drop_drop,b3,List.drop_left]
  obtain ⟨c1,c2,c3⟩:=dP a5
  have e4:=kh "]" 93 T _ AB c1
  have g1:((i:Int)+1)=((i+1:Nat):Int):=by omega
  have g2:(((i+1+x.A.length:Nat):Int)+1)=((i+1+x.A.length+1:Nat):Int):=by omega
  have e:=oZ (aE n) ⟨T.toArray⟩ i dep _ _ x.z y.z x.d y.d P.tk.fl Q.tk.fl (q9 P.tk) (q9 Q.tk) (by rw [g1];exact r1) e2 (by rw [g2];exact r2) e4
  have ff:=(sw (2*(x.z+y.z)) P.tk.fl Q.tk.fl).fl
  have:=uq (aE n) T i _ (eq_true hT) a1 _ e (AV ff)
  rw [show ((i+(p7 x y).A.length:Nat):Int)=((i+1+x.A.length+1+y.A.length:Nat):Int)+1 by simp [p7];omega]
  exact this
theorem BY {c:Nat} (b:Bool) (h:decide (c∈[41,44,93])=b):(Builtin.Str.occurrences (Str.ofString "),]") ⟨#[c]⟩ 0 (Str.ofString "),]").length 1).isEmpty= !b:=by
  have h1:=PySem.StrLaws.found_one (Str.ofString "),]") c
  have e:(Str.ofString "),]").cps.toList=[41,44,93]:=by decide+kernel
  rw [e,h] at h1
  cases b <;> simpa using h1
section
variable (self:List PyData→Option Sl)
theorem sx (T:List Nat) (x1 x2 x3 x5:Sl) (n N c:Nat) (b:Bool) (hN:T.length=N) (hT:(N≤1000000)=True) (hn:n < N) (hc:T[n]? =some c) (h:decide (c∈[41,44,93])=b):bo self [.sh (.str ⟨T.toArray⟩),x1,x2,x3, .sh (.int n),x5]=some (!b,[.sh (.str ⟨T.toArray⟩),x1,x2,x3, .sh (.int n),x5]):=by
  have e1:((n:Int) < (N:Int))=True:=eq_true (by omega)
  have e2:=BY b h
  cases b <;> simp only [Bool.not_true,Bool.not_false] at e2 <;> simp only [bo,jy,bD,ag,ad,List.getElem?_cons_succ,List.getElem?_cons_zero,Sl.isBr,Bool.false_and,Bool.false_eq_true,aW,ae,ap,Option.map_some,if_false,dz,bR,look,Sl.val,aQ,Cm.i,Cm.s,Option.bind_some,ax,be,hN,hT,if_true,e1,decide_true,dO,hot,aX,pC,Cq,BH,cB,hc,e2,Bool.not_true,Bool.not_false]
theorem yo (T:List Nat) (x1 x2 x3 x5:Sl) (n N:Nat) (hN:T.length=N) (hT:(N≤1000000)=True) (hn:¬n < N):bo self [.sh (.str ⟨T.toArray⟩),x1,x2,x3, .sh (.int n),x5]=some (false,[.sh (.str ⟨T.toArray⟩),x1,x2,x3, .sh (.int n),x5]):=by
  have e1:((n:Int) < (N:Int))=False:=eq_false (by omega)
  simp only [bo,jy,bD,ag,ad,List.getElem?_cons_succ,List.getElem?_cons_zero,Sl.isBr,Bool.false_and,Bool.false_eq_true,aW,ae,ap,Option.map_some,if_false,dz,bR,look,Sl.val,aQ,Cm.i,Cm.s,Option.bind_some,ax,be,hN,hT,if_true,e1,decide_false,dO,hot,aX,pC,Cq,BH]
theorem yp (T:List Nat) (x1:Sl) (z o:PyData) (ds:List PyData) (n m:Int) (x5:Sl) (e:bB self [.str ⟨T.toArray⟩, .int n,z]=some (.sh (.tuple [o, .int m]))) (hl:(ds.length < 1000000)=True):ci self [.sh (.str ⟨T.toArray⟩),x1, .sh z, .ow ds, .sh (.int n),x5]=some ([.sh (.str ⟨T.toArray⟩),x1, .sh z, .ow (ds++[o]), .sh (.int m), .sh (.tuple [o, .int m])], .nx):=by
  simp only [ci,aw,aF,ar,ae,ad,List.getElem?_cons_zero,Sl.isBr,Bool.false_and,Bool.false_eq_true,ap,Option.map_some,if_false,Option.bind_some,List.getElem?_cons_succ,ax,look,Sl.val,e,PL.settle,frz,frzAll,List.length_cons,List.length_nil,Nat.zero_add,Nat.reduceAdd,Nat.reduceLT,List.set_cons_succ,List.set_cons_zero,if_true,i4,gi,ag,pC,dO,hot,aX,nz,hl,nC]
end
theorem yq {r:List It} {R:List Nat} (h:∀x∈r,Bg x.A) (hR:Fin R):yW (r.flatMap It.A++R):=by
  cases r with
  | nil=>exact hR.stp
  | cons x r=>rw [List.flatMap_cons,List.append_assoc];exact (h x (List.mem_cons_self ..)).stp
theorem y3 (k:Nat) (dep:Int) (T:List Nat) (x1:Sl) (hT:T.length≤1000000) (R:List Nat) (hR:Fin R):∀(r acc:List It) (n:Nat) (x5:Sl),n≤T.length→T.drop n=r.flatMap It.A++R→(∀q∈r,Itm k dep q)→acc.length+r.length≤900000→∃x5',b6 (bo (aE k)) (ci (aE k)) (r.length+1) [.sh (.str ⟨T.toArray⟩),x1, .sh (.int dep), .ow (acc.map It.d), .sh (.int n),x5]=some ([.sh (.str ⟨T.toArray⟩),x1, .sh (.int dep), .ow ((acc++r).map It.d), .sh (.int ((n+(r.flatMap It.A).length:Nat):Int)),x5'], .nx)
  | [],acc,n,x5,hn,h,hr,hl=>by
    refine ⟨x5,?_⟩
    have e:bo (aE k) [.sh (.str ⟨T.toArray⟩),x1, .sh (.int dep), .ow (acc.map It.d), .sh (.int n),x5]=some (false,[.sh (.str ⟨T.toArray⟩),x1, .sh (.int dep), .ow (acc.map It.d), .sh (.int n),x5]):=by
      cases R with
      | nil=>
        refine yo _ T x1 _ _ x5 n _ rfl (eq_true hT) fun z=>?_
        have:=congrArg List.length h
        simp at this
        omega
      | cons c R=>
        obtain ⟨a1,a2,a3⟩:=dP (by simpa using h)
        exact sx _ T x1 _ _ x5 n _ c true rfl (eq_true hT) a2 a1 (decide_eq_true (by have:=hR c rfl;simp;omega))
    rw [b6,e,List.append_nil]
    rfl
  | x::r,acc,n,x5,hn,h,hr,hl=>by
    have hx:=hr x (List.mem_cons_self ..)
    have h2:T.drop n=x.A++(r.flatMap It.A++R):=by rw [h,List.flatMap_cons,List.append_assoc]
    have e:=hx.rd T n _ hT h2 (yq (fun q hq=>(hr q (List.mem_cons_of_mem _ hq)).bg) hR)
    obtain ⟨c,hc,hk⟩:=hx.bg
    obtain ⟨A',hA⟩:∃A',x.A=c::A':=by
      cases hq:x.A with
      | nil=>rw [hq] at hc;cases hc
      | cons a A=>rw [hq] at hc;cases hc;exact ⟨A,rfl⟩
    obtain ⟨a1,a2,a3⟩:=dP (D:=A'++(r.flatMap It.A++R)) (by rw [h2,hA];rfl)
    have hcc:=sx (aE k) T x1 (.sh (.int dep)) (.ow (acc.map It.d)) x5 n _ c false rfl (eq_true hT) a2 a1 (decide_eq_false (by unfold wM at hk;simp;omega))
    have hg:=yp (aE k) T x1 (.int dep) x.d (acc.map It.d) n _ x5 e (eq_true (by rw [List.length_map];simp at hl;omega))
    have n2:n+x.A.length≤T.length:=by
      have:=congrArg List.length h2
      simp at this
      omega
    have a4:T.drop (n+x.A.length)=r.flatMap It.A++R:=by rw [←List.drop_drop,h2,List.drop_left]
    obtain ⟨x5',ih⟩:=y3 k dep T x1 hT R hR r (acc++[x]) (n+x.A.length) (.sh (.tuple [x.d, .int ((n+x.A.length:Nat):Int)])) n2 a4 (fun q hq=>hr q (List.mem_cons_of_mem _ hq)) (by simp at hl ⊢;omega)
    refine ⟨x5',?_⟩
    rw [List.length_cons,b6,hcc,Option.bind_some]
    simp only [if_true,Bool.not_false,hg,Option.bind_some]
    rw [show acc++x::r=acc++[x]++r by simp,List.flatMap_cons,List.length_append,←Nat.add_assoc,←ih,List.map_append]
    rfl
theorem ww:∀r:List It,(∀x∈r,Tk x.d x.z)→AS aB (r.map It.d)=some (r.map It.z)
  | [],_=>rfl
  | x::r,h=>by
    have ih:=ww r fun q hq=>h q (List.mem_cons_of_mem _ hq)
    rw [List.map_cons,AS,(h x (List.mem_cons_self ..)).sz]
    simp only [ih,Option.map_some,List.map_cons]
theorem o0:∀r:List It,(∀x∈r,Tk x.d x.z)→a_ (r.map It.d)=true
  | [],_=>rfl
  | x::r,h=>by rw [List.map_cons,a_,(h x (List.mem_cons_self ..)).fl,o0 r fun q hq=>h q (List.mem_cons_of_mem _ hq)];rfl
def i7 (r:List It):It:=⟨r.flatMap It.A,AU (r.map It.d) (r.map It.z).sum,(r.map It.z).sum,r.flatMap It.c⟩
theorem m6 (self:List PyData→Option Sl) (T:Str) (I dep J z:Int) (ds:List PyData) (x5:Sl) (hd:dep≤30) (hf:aN (AU ds z)=true) (hz:fD aB [.list ds]=some [(.str "kept", .tuple ds),(.str "size", .int z)]) (w:jd (bo self) (ci self) [.sh (.str T), .sh (.int I), .sh (.int dep), .ow [], .sh (.int I), .no]=some ([.sh (.str T), .sh (.int I), .sh (.int dep), .ow ds, .sh (.int J),x5], .nx)):bS 3 6 (dq self) [.str T, .int I, .int dep]=some (.sh (.tuple [AU ds z, .int J])):=by
  have l:(30 < dep)=False:=eq_false (by omega)
  unfold AU at hf ⊢
  simp only [bS,List.length_cons,List.length_nil,Nat.zero_add,Nat.reduceAdd,bF,dq,aw,aP,bD,ag,ad,ay,List.map_cons,List.map_nil,Nat.reduceSub,List.replicate,List.cons_append,List.nil_append,List.getElem?_cons_succ,List.getElem?_cons_zero,Sl.isBr,Bool.false_and,Bool.false_eq_true,pC,bR,look,Sl.val,aQ,Cm.i,Cm.s,Option.bind_some,if_false,l,decide_false,Option.map_some,az,aF,cz,bL,Nat.reduceLeDiff,if_true,PL.settle,frz,frzAll,aA,fz,fw,dh,jF,ae,ap,takeP,i0,Nat.reduceLT,List.set_cons_succ,List.set_cons_zero,w,ax,hz,List.all_cons,ot,List.all_nil,Bool.and_true,Pt.val,bv,aO,aN,a_]
  exact if_pos hf
theorem BZ {n:Nat} {dep:Int} {r:List It} (hd:dep≤30) (h:∀x∈r,Itm n dep x) (hl:r.length≤900000):Prt (n+1) dep (i7 r):=by
  have ht:∀x∈r,Tk x.d x.z:=fun x hx=>(h x hx).tk
  have hf:=o0 r ht
  have tk:=y2 (r.map It.z).sum hf
  refine ⟨tk,fun T i R hT hi nX hR=>?_⟩
  obtain ⟨x5,e⟩:=y3 n dep T (.sh (.int i)) hT R hR r [] i .no hi nX h (by simpa using hl)
  have w:=nE e
  rw [List.nil_append] at w
  refine m6 (aE n) ⟨T.toArray⟩ i dep _ (r.map It.z).sum (r.map It.d) x5 hd tk.fl ?_ w
  have hl2:decide ((r.map It.d).length≤1000000)=true:=decide_eq_true (by rw [List.length_map];omega)
  unfold fD
  simp only [ww r ht,Option.bind_some,hf,hl2,Bool.and_self,if_true]
theorem yr {x:It} (P:Prt 33 0 x) (hl:x.A.length≤1000000):gp [.str ⟨x.A.toArray⟩]=some (.sh x.d):=by
  have e:=P.rd x.A 0 [] hl (by omega) (by simp) fun c hc=>nomatch hc
  rw [Nat.zero_add] at e
  have e':eX [.str ⟨x.A.toArray⟩, .int 0, .int 0]=_:=e
  have f:=P.tk.fl
  have t:(x.A.length≤1000000)=True:=eq_true hl
  have ft:aN (.tuple [x.d, .int (x.A.length:Int)])=true:=AV f
  simp only [gp,bS,List.length_cons,List.length_nil,Nat.zero_add,bF,oH,aw,aP,b8,de,dB,ad,ay,List.map_cons,List.map_nil,Nat.reduceSub,List.replicate,List.cons_append,List.nil_append,List.getElem?_cons_zero,look,Sl.val,gx,Ty.is,vq,Option.bind_some,Option.map_some,f9,Bool.not_true,az,Bool.false_eq_true,if_false,aF,ar,ae,Sl.isBr,Bool.false_and,pC,ap,PL.settle,frz,frzAll,bD,ag,dO,hot,aX,aW,dz,bR,aQ,Cm.i,Cm.s,aA,ax,e',Nat.reduceAdd,Nat.reduceLT,List.set_cons_succ,List.set_cons_zero,if_true,List.getElem?_cons_succ,nC,be,t,Int.lt_irrefl,decide_false,nz,bv,aO,f]
theorem yt {self:List PyData→Option Sl} {d:PyData} {z:Int} {ds:List PyData} (h:Tk d z) (h1:0 < z) (h2:z≤4000) (e:self [d]=some (.ow ds)) (hf:a_ ds=true):qS self [d]=some (.ow ds):=by
  have f:=h.fld (E:=[.sh d]) (i:=0) rfl
  have e0:qS self [d]=bH self [d]:=by
    obtain ⟨⟨cn,kvs,rfl,hc,l⟩,_⟩:=h
    exact qZ hc
  have l1:(4000 < z)=False:=eq_false (by omega)
  have l2:(0 < z)=True:=eq_true h1
  rw [e0]
  simp only [bH,bS,List.length_cons,List.length_nil,Nat.zero_add,bF,fc,aw,aP,bD,ag,ay,List.map_cons,List.map_nil,Nat.sub_self,List.replicate,List.cons_append,List.nil_append,f,Sl.isBr,Bool.false_and,Bool.false_eq_true,pC,bR,look,Sl.val,aQ,Cm.i,Cm.s,Option.bind_some,if_false,l1,decide_false,Option.map_some,az,aA,nw,cH,ad,cz,bL,Nat.reduceLeDiff,if_true,l2,decide_true,List.getElem?_cons_zero,e,bv,aO,hf]
theorem yu {self:List PyData→Option Sl} {d:PyData} (h:Tk d 0):qS self [d]=some (.ow []):=by
  have f:=h.fld (E:=[.sh d]) (i:=0) rfl
  have e0:qS self [d]=bH self [d]:=by
    obtain ⟨⟨cn,kvs,rfl,hc,l⟩,_⟩:=h
    exact qZ hc
  rw [e0]
  simp only [bH,bS,List.length_cons,List.length_nil,Nat.zero_add,bF,fc,aw,aP,bD,ag,ay,List.map_cons,List.map_nil,Nat.sub_self,List.replicate,List.cons_append,List.nil_append,f,Sl.isBr,Bool.false_and,Bool.false_eq_true,pC,bR,look,Sl.val,aQ,Cm.i,Cm.s,Option.bind_some,if_false,Int.reduceLT,decide_false,Option.map_some,az,aA,nw,cz,bL,Nat.reduceLeDiff,if_true,bv,aO,a_]
theorem wx {d:PyData} {z:Int} (h:Tk d z) (h2:4000 < z):dW [d]=some ("TooLong":Str):=by
  have f:=h.fld (E:=[.sh d]) (i:=0) rfl
  have e0:dW [d]=eF [d]:=by
    obtain ⟨⟨cn,kvs,rfl,hc,l⟩,_⟩:=h
    exact if_pos (c4 hc)
  have l2:(4000 < z)=True:=eq_true h2
  rw [e0]
  simp only [eF,BM,List.length_cons,List.length_nil,Nat.zero_add,gk,Ct,bD,ag,ay,List.map_cons,List.map_nil,Nat.sub_self,List.replicate,List.cons_append,List.nil_append,f,Sl.isBr,Bool.false_and,Bool.false_eq_true,pC,bR,look,Sl.val,aQ,Cm.i,Cm.s,Option.bind_some,if_false,l2,decide_true,Option.map_some,vX,if_true]
structure Co (n:Nat) (x:It):Prop where
  tk:Tk x.d x.z
  nn:0≤x.z
  co:x.z≤4000→qS (cM n) [x.d]=some (.ow (x.c.map bh))∧(x.c.length:Int)=x.z
theorem Co.mk' {n:Nat} {x:It} (tk:Tk x.d x.z) (nn:0≤x.z) (hl:x.z≤4000→(x.c.length:Int)=x.z) (h:0 < x.z→x.z≤4000→cM n [x.d]=some (.ow (x.c.map bh))):Co n x:=by
  refine ⟨tk,nn,fun h4=>⟨?_,hl h4⟩⟩
  by_cases z:x.z=0
  · have hc:x.c=[]:=List.eq_nil_of_length_eq_zero (by have:=hl h4;omega)
    rw [hc]
    rw [z] at tk
    exact yu tk
  · exact yt tk (by omega) h4 (h (by omega) h4) (bw _)
theorem B1 (n:Nat) (p:Pc):Co (n+1) (qf p):=by
  refine .mk' (y1 p) (show (0:Int)≤1 by decide) (fun _=>rfl) fun _ _=>?_
  have e2:cM (n+1) [wN p]=dF [wN p]:=wq
  have f1:eg ["Piece"] "nail" (ad 0) [.sh (wN p)]=some (.sh (.str ⟨#[p.1]⟩),[.sh (wN p)]):=iP rfl (c1 _) ym
  have f2:eg ["Piece"] "turns" (ad 0) [.sh (wN p)]=some (.sh (.int p.2),[.sh (wN p)]):=iP rfl (c1 _) ((AT (by decide+kernel)).trans ym)
  show cM (n+1) [wN p]=_
  rw [e2]
  simp only [dF,bS,List.length_cons,List.length_nil,Nat.zero_add,bF,fF,aA,cz,aV,ip,ay,List.map_cons,List.map_nil,Nat.sub_self,List.replicate,List.cons_append,List.nil_append,f1,frz,bL,Option.map_some,Option.bind_some,f2,Nat.reduceAdd,Nat.reduceLeDiff,if_true,bv,aO,a_,aN,Bool.and_true,qf,bh]
theorem sy (self:List PyData→Option Sl) (x0:Sl):∀(r:List It) (acc:List Pc) (a:Sl),(∀x∈r,self [x.d]=some (.ow (x.c.map bh)))→acc.length+(r.flatMap It.c).length≤900000→∃a',dD ce (cg self) (r.map It.d) [x0, .ow (acc.map bh),a]=some ([x0, .ow ((acc++r.flatMap It.c).map bh),a'], .nx)
  | [],acc,a,_,_=>⟨a,by rw [List.flatMap_nil,List.append_nil];rfl⟩
  | x::r,acc,a,h,hl=>by
    have hs:=h x (List.mem_cons_self ..)
    have h1:((acc.map bh).length+(x.c.map bh).length≤1000000)=True:=eq_true (by rw [List.length_map,List.length_map];simp at hl;omega)
    have ff:=bw x.c
    have st:(ce x.d [x0, .ow (acc.map bh),a]).bind (cg self)=some ([x0, .ow ((acc++x.c).map bh), .sh x.d], .nx):=by
      rw [List.map_append]
      generalize x.c.map bh=q at hs h1 ff
      simp only [ce,bM,List.length_cons,List.length_nil,Nat.zero_add,Nat.reduceAdd,Nat.reduceLT,List.set_cons_succ,List.set_cons_zero,if_true,cg,Option.bind_some,i4,kO,List.getElem?_cons_succ,List.getElem?_cons_zero,cH,ad,look,Sl.val,hs,Option.map_some,h1]
    obtain ⟨a',e⟩:=sy self x0 r (acc++x.c) (.sh x.d) (fun q hq=>h q (List.mem_cons_of_mem _ hq)) (by simp at hl ⊢;omega)
    refine ⟨a',?_⟩
    rw [List.map_cons,dD,st]
    rw [List.flatMap_cons,←List.append_assoc]
    exact e
theorem wy:∀r:List It,(∀x∈r,(x.c.length:Int)=x.z)→((r.flatMap It.c).length:Int)=(r.map It.z).sum
  | [],_=>rfl
  | x::r,h=>by
    have ih:=wy r fun q hq=>h q (List.mem_cons_of_mem _ hq)
    have:=h x (List.mem_cons_self ..)
    rw [List.flatMap_cons,List.length_append,List.map_cons,List.sum_cons,←ih,←this]
    omega
theorem q_:∀r:List It,(∀x∈r,0≤x.z)→0≤(r.map It.z).sum
  | [],_=>Int.le_refl _
  | x::r,h=>by
    have ih:=q_ r fun q hq=>h q (List.mem_cons_of_mem _ hq)
    have:=h x (List.mem_cons_self ..)
    rw [List.map_cons,List.sum_cons]
    omega
theorem wz:∀r:List It,(∀x∈r,0≤x.z)→∀x∈r,x.z≤(r.map It.z).sum
  | [],_,_,hx=>nomatch hx
  | y::r,h,x,hx=>by
    have s:=q_ r fun q hq=>h q (List.mem_cons_of_mem _ hq)
    rw [List.map_cons,List.sum_cons]
    rcases List.mem_cons.mp hx with e | e
    · rw [e];omega
    · have:=wz r (fun q hq=>h q (List.mem_cons_of_mem _ hq)) x e
      have:=h y (List.mem_cons_self ..)
      omega
theorem B3 {n:Nat} {r:List It} (h:∀x∈r,Co n x):Co (n+1) (i7 r):=by
  have nn:∀x∈r,0≤x.z:=fun x hx=>(h x hx).nn
  have hf:=o0 r fun x hx=>(h x hx).tk
  have sm:(i7 r).z≤4000→∀x∈r,x.z≤4000:=fun z x hx=>Int.le_trans (wz r nn x hx) z
  have hl:(i7 r).z≤4000→((i7 r).c.length:Int)=(i7 r).z:=fun z=>wy r fun x hx=>((h x hx).co (sm z x hx)).2
  refine .mk' (y2 _ hf) (q_ r nn) hl fun z0 z4=>?_
  have e2:cM (n+1) [(i7 r).d]=dG (qS (cM n)) [(i7 r).d]:=wr
  rw [e2]
  have l4:=hl z4
  obtain ⟨a',l⟩:=sy (qS (cM n)) (.sh (i7 r).d) r [] .no (fun x hx=>((h x hx).co (sm z4 x hx)).1) (by
    have:(r.flatMap It.c).length=(i7 r).c.length:=rfl
    simp only [List.length_nil]
    omega)
  rw [List.nil_append] at l
  have k:eg ["Parts"] "kept" (ad 0) [.sh (i7 r).d, .ow [], .no]=some (.sh (.tuple (r.map It.d)),[.sh (i7 r).d, .ow [], .no]):=iP rfl (c1 _) ym
  have l':dD ce (cg (qS (cM n))) (r.map It.d) [.sh (i7 r).d, .ow [], .no]=_:=l
  have fy:a_ ((i7 r).c.map bh)=true:=bw _
  have cc:(i7 r).c=r.flatMap It.c:=rfl
  rw [cc] at fy ⊢
  generalize r.map It.d=q at k l'
  generalize (r.flatMap It.c).map bh=y at l' fy ⊢
  simp only [dG,bS,List.length_cons,List.length_nil,Nat.zero_add,bF,fG,aw,aF,cz,bL,ay,List.map_cons,List.map_nil,Nat.reduceSub,List.replicate,List.cons_append,List.nil_append,Option.bind_some,Nat.reduceLeDiff,if_true,PL.settle,frz,frzAll,Nat.reduceAdd,Nat.reduceLT,List.set_cons_succ,List.set_cons_zero,jc,tF,aA,ad,k,l',List.getElem?_cons_succ,List.getElem?_cons_zero,Option.map_some,bv,aO,fy]
def rp (c:List Pc) (k:Int):List Pc:=if k < 0 then (List.replicate (-k).toNat (NH.contr c)).flatten else (List.replicate k.toNat c).flatten
theorem sC {α:Type} (k:Nat) (l:List α):(List.replicate k l).flatten.length=k*l.length:=by simp
theorem wA (c:List Pc) (k:Int):((rp c k).length:Int)=c.length*aK k:=by
  unfold rp aK
  split
  · rename_i h
    rw [sC,NH.bt,Int.natCast_mul,Int.toNat_of_nonneg (by omega),Int.mul_comm]
  · rename_i h
    rw [sC,Int.natCast_mul,Int.toNat_of_nonneg (by omega),Int.mul_comm]
theorem p8 (c:List Pc) (k:Int) (h1:0 < c.length) (h:(c.length:Int)*aK k≤4000) (h2:0 < (c.length:Int)*aK k):cI [.list (c.map bh), .int k]=some (.ow ((rp c k).map bh)):=by
  have ak:0≤aK k:=by unfold aK;split <;> omega
  have kb:aK k≤4000:=by
    have:1*aK k≤(c.length:Int)*aK k:=Int.mul_le_mul_of_nonneg_right (by omega) ak
    omega
  have cb:(c.length:Int)≤4000:=by
    have a1:1≤aK k:=by
      rcases Int.lt_or_le (aK k) 1 with z | z
      · have:aK k=0:=by omega
        rw [this] at h2
        simp at h2
      · exact z
    have:(c.length:Int)*1≤(c.length:Int)*aK k:=Int.mul_le_mul_of_nonneg_left a1 (by omega)
    omega
  have lm:(c.length*(aK k).toNat≤1000000)=True:=eq_true (by
    have:((c.length*(aK k).toNat:Nat):Int)=(c.length:Int)*aK k:=by rw [Int.natCast_mul,Int.toNat_of_nonneg ak]
    omega)
  have k1:(-1000000≤aK k)=True:=eq_true (by omega)
  have k2:(aK k≤1000000)=True:=eq_true (by omega)
  by_cases hk:k < 0
  · have ea:aK k= -k:=if_pos hk
    have er:rp c k=(List.replicate (-k).toNat (NH.contr c)).flatten:=if_pos hk
    have ec:=iN c (by omega)
    have lc:(NH.contr c).length=c.length:=NH.bt c
    rw [ea] at lm k1 k2
    rw [er]
    simp only [cI,bS,List.length_cons,List.length_nil,Nat.zero_add,Nat.reduceAdd,bF,gb,aA,ag,nw,bD,ad,ay,List.map_cons,List.map_nil,Nat.sub_self,List.replicate,List.cons_append,List.nil_append,List.getElem?_cons_succ,List.getElem?_cons_zero,Sl.isBr,Bool.false_and,Bool.false_eq_true,pC,bR,look,Sl.val,aQ,Cm.i,Cm.s,Option.bind_some,if_false,hk,decide_true,Option.map_some,ar,ae,ap,ax,ec,if_true,aW,iZ,cm,hot,aX,Bool.not_false,Bool.true_or,Bool.and_true,List.length_map,lc,lm,k1,k2,and_self,kN,bv,aO,bw]
  · have ea:aK k=k:=if_neg hk
    have er:rp c k=(List.replicate k.toNat c).flatten:=if_neg hk
    rw [ea] at lm k1 k2
    rw [er]
    simp only [cI,bS,List.length_cons,List.length_nil,Nat.zero_add,Nat.reduceAdd,bF,gb,aA,ag,nw,bD,ad,ay,List.map_cons,List.map_nil,Nat.sub_self,List.replicate,List.cons_append,List.nil_append,List.getElem?_cons_succ,List.getElem?_cons_zero,Sl.isBr,Bool.false_and,Bool.false_eq_true,pC,bR,look,Sl.val,aQ,Cm.i,Cm.s,Option.bind_some,if_false,hk,decide_false,Option.map_some,ar,ae,ap,ax,aW,iZ,cm,hot,aX,Bool.not_false,Bool.true_or,Bool.and_true,List.length_map,lm,k1,k2,and_self,decide_true,kN,if_true,bv,aO,bw]
theorem B4 {n:Nat} {x:It} {k:Int} {c:List Pc} (h:Co n x) (hc:x.z*aK k≤4000→c=rp x.c k):Co (n+1) (kK x k c):=by
  have ak:0≤aK k:=by unfold aK;split <;> omega
  have z4:x.z*aK k≤4000→0 < x.z*aK k→x.z≤4000:=fun a b=>by
    have a1:1≤aK k:=by
      rcases Int.lt_or_le (aK k) 1 with z | z
      · have:aK k=0:=by omega
        rw [this] at b
        simp at b
      · exact z
    have:x.z*1≤x.z*aK k:=Int.mul_le_mul_of_nonneg_left a1 h.nn
    omega
  have lr:x.z*aK k≤4000→((rp x.c k).length:Int)=x.z*aK k:=fun a=>by
    rw [wA]
    by_cases b:0 < x.z*aK k
    · rw [(h.co (z4 a b)).2]
    · have b0:x.z*aK k=0:=by have:=Int.mul_nonneg h.nn ak;omega
      rcases Int.mul_eq_zero.mp b0 with q | q
      · have:=(h.co (by omega)).2
        rw [this]
      · rw [q];simp
  refine .mk' (su k _ h.tk.fl) (Int.mul_nonneg h.nn ak) (fun a=>by
    show (c.length:Int)=x.z*aK k
    rw [hc a];exact lr a) fun z0 z4'=>?_
  have a0:0 < x.z*aK k:=z0
  have a4:x.z*aK k≤4000:=z4'
  obtain ⟨e1,e2⟩:=h.co (z4 a4 a0)
  have p1:0 < x.c.length:=by
    rcases Nat.eq_zero_or_pos x.c.length with q | q
    · rw [q] at e2
      rw [←e2] at a0
      simp at a0
    · exact q
  have er:=p8 x.c k p1 (by rw [e2];exact a4) (by rw [e2];exact a0)
  have e3:cM (n+1) [(kK x k c).d]=dH (qS (cM n)) [(kK x k c).d]:=wt
  rw [e3]
  have f1:eg ["Times"] "body" (ad 0) [.sh (kK x k c).d]=some (.sh x.d,[.sh (kK x k c).d]):=iP rfl (c1 _) ym
  have f2:eg ["Times"] "number" (ad 0) [.sh (kK x k c).d]=some (.sh (.int k),[.sh (kK x k c).d]):=iP rfl (c1 _) ((AT (by decide+kernel)).trans ym)
  have cc:(kK x k c).c=rp x.c k:=hc a4
  have fy:=bw (rp x.c k)
  rw [cc]
  generalize (rp x.c k).map bh=y at er fy ⊢
  simp only [dH,bS,List.length_cons,List.length_nil,Nat.zero_add,bF,fH,aA,ar,ae,cH,ay,List.map_cons,List.map_nil,Nat.sub_self,List.replicate,List.cons_append,List.nil_append,f1,look,Sl.val,Option.bind_some,e1,Option.map_some,Sl.isBr,Bool.false_and,Bool.false_eq_true,ap,if_false,f2,ax,er,bv,aO,fy,if_true]
theorem AC (a b:List Pc) (h:a.length+b.length≤10000):ba [.list (a.map bh), .list (b.map bh)]=some (.ow ((a++b++NH.contr a++NH.contr b).map bh)):=by
  have e1:=iN a (by omega)
  have e2:=iN b (by omega)
  have la:(NH.contr a).length=a.length:=NH.bt a
  have lb:(NH.contr b).length=b.length:=NH.bt b
  have l1:(a.length+b.length≤1000000)=True:=eq_true (by omega)
  have l2:((a++b).length+(NH.contr a).length≤1000000)=True:=eq_true (by rw [List.length_append];omega)
  have l3:((a++b++NH.contr a).length+(NH.contr b).length≤1000000)=True:=eq_true (by rw [List.length_append,List.length_append];omega)
  simp only [ba,bS,List.length_cons,List.length_nil,Nat.zero_add,Nat.reduceAdd,bF,dl,aA,ag,ad,ay,List.map_cons,List.map_nil,Nat.sub_self,List.replicate,List.cons_append,List.nil_append,List.getElem?_cons_zero,Sl.isBr,Bool.false_and,Bool.false_eq_true,aH,look,Sl.val,hot,aX,if_false,Option.bind_some,List.getElem?_cons_succ,Bool.not_false,Bool.true_or,Bool.and_true,List.length_map,l1,decide_true,←List.map_append,if_true,ar,ae,ap,Option.map_some,ax,e1,l2,e2,l3,bv,aO,bw]
theorem B5 {n:Nat} {x y:It} (h:Co n x) (k:Co n y):Co (n+1) (p7 x y):=by
  have hx:=h.nn
  have hy:=k.nn
  have nn:(p7 x y).z=2*(x.z+y.z):=rfl
  refine .mk' (sw _ h.tk.fl k.tk.fl) (by omega) (fun a=>?_) fun z0 z4=>?_
  · have e1:=(h.co (by omega)).2
    have e2:=(k.co (by omega)).2
    show ((x.c++y.c++NH.contr x.c++NH.contr y.c).length:Int)=_
    simp only [List.length_append,NH.bt]
    omega
  · obtain ⟨e1,q1⟩:=h.co (by omega)
    obtain ⟨e2,q2⟩:=k.co (by omega)
    have er:=AC x.c y.c (by omega)
    have e3:cM (n+1) [(p7 x y).d]=eG (qS (cM n)) [(p7 x y).d]:=wu
    rw [e3]
    have f1:eg ["Back"] "one" (ad 0) [.sh (p7 x y).d]=some (.sh x.d,[.sh (p7 x y).d]):=iP rfl (c1 _) ym
    have f2:eg ["Back"] "other" (ad 0) [.sh (p7 x y).d]=some (.sh y.d,[.sh (p7 x y).d]):=iP rfl (c1 _) ((AT (by decide+kernel)).trans ym)
    have fy:=bw (p7 x y).c
    have er':ba [.list (x.c.map bh), .list (y.c.map bh)]=some (.ow ((p7 x y).c.map bh)):=er
    generalize (p7 x y).c.map bh=w at er' fy ⊢
    simp only [eG,bS,List.length_cons,List.length_nil,Nat.zero_add,bF,gl,aA,ar,ae,cH,ay,List.map_cons,List.map_nil,Nat.sub_self,List.replicate,List.cons_append,List.nil_append,f1,look,Sl.val,Option.bind_some,e1,Option.map_some,Sl.isBr,Bool.false_and,Bool.false_eq_true,ap,if_false,f2,e2,ax,er',bv,aO,fy,if_true]
theorem y4 (t:Int):Str.ofString (toString t)=⟨(NH.jS t).toArray⟩:=by
  unfold NH.jS
  generalize Str.ofString (toString t)=x
  cases x
  simp
theorem jR (u v:List Nat):(⟨u.toArray⟩:Str)++(⟨v.toArray⟩:Str)=⟨(u++v).toArray⟩:=by
  show (⟨u.toArray++v.toArray⟩:Str)=_
  simp
theorem wB {t:Int} (h:t.natAbs < 10 ^ 30):t.natAbs.log2 < 1920:=by
  by_cases z:t.natAbs=0
  · rw [z];decide
  · exact (Nat.log2_lt z).mpr (Nat.lt_of_lt_of_le h (by decide+kernel))
theorem kR {t:Int} (h:t.natAbs < 10 ^ 30):(ie t).length≤31:=by
  unfold ie
  split
  · simp
  · exact NH.oG h
theorem o6:∀{r:List Pc},(∀p∈r,p.2.natAbs < 10 ^ 30)→(yj r).length≤32*r.length
  | [],_=>Nat.le_refl _
  | p::r,h=>by
    have l:=kR (h p (List.mem_cons_self ..))
    have ih:=o6 fun q hq=>h q (List.mem_cons_of_mem _ hq)
    have e:yj (p::r)=qY p++yj r:=rfl
    rw [e,List.length_append]
    simp only [qY,List.length_cons] at *
    omega
theorem wC (w:List Nat):Txt.mul ⟨w.toArray⟩ 0=⟨([]:List Nat).toArray⟩:=rfl
theorem sD (w:List Nat):Txt.mul ⟨w.toArray⟩ 1=⟨w.toArray⟩:=by
  unfold Txt.mul
  rw [if_neg (by decide)]
  exact if_pos (by simp)
theorem p9 (x0 a b:Sl) (acc:List Nat) (p:Pc) (h:p.2.natAbs < 10 ^ 30) (la:acc.length≤900000):(cS (bh p) [x0, .sh (.str ⟨acc.toArray⟩),a,b]).bind cU=some ([x0, .sh (.str ⟨(acc++qY p).toArray⟩), .sh (.str ⟨#[p.1]⟩), .sh (.int p.2)], .nx):=by
  have l1:((⟨acc.toArray⟩:Str).length+(⟨#[p.1]⟩:Str).length≤1000000)=True:=eq_true (by show acc.toArray.size+1≤_;rw [List.size_toArray];omega)
  have a1:(⟨acc.toArray⟩:Str)++(⟨#[p.1]⟩:Str)=⟨(acc++[p.1]).toArray⟩:=jR acc [p.1]
  have lg:(p.2.natAbs.log2 < 1920)=True:=eq_true (wB h)
  have nl:=NH.oG h
  have e0:=y4 p.2
  have ml:((⟨(NH.jS p.2).toArray⟩:Str).length≤1000)=True:=eq_true (by rw [be];omega)
  by_cases h1:p.2=1
  · have e:ie p.2=[]:=by unfold ie;rw [if_pos h1]
    have l2:((⟨(acc++[p.1]).toArray⟩:Str).length+(⟨([]:List Nat).toArray⟩:Str).length≤1000000)=True:=eq_true (by rw [be,be];simp;omega)
    have a2:(⟨(acc++[p.1]).toArray⟩:Str)++(⟨([]:List Nat).toArray⟩:Str)=⟨(acc++qY p).toArray⟩:=by rw [jR];unfold qY;rw [e];simp
    have hd:decide (p.2=1)=true:=decide_eq_true h1
    have m0:=wC (NH.jS p.2)
    simp only [cS,ik,bh,List.length_cons,List.length_nil,Nat.zero_add,Nat.reduceAdd,df,bM,Nat.reduceLT,List.set_cons_succ,List.set_cons_zero,if_true,Option.bind_some,ij,List.isEmpty_nil,cU,ku,mn,aF,ag,ad,List.getElem?_cons_succ,List.getElem?_cons_zero,Sl.isBr,Bool.false_and,Bool.false_eq_true,aH,look,Sl.val,hot,aX,if_false,Bool.not_false,Bool.true_or,Bool.and_true,l1,a1,aW,ae,ap,Option.map_some,i6,pC,bR,oq,lK,Int.reduceNeg,ax,lg,e0,aR,hd,Bool.not_true,ml,Int.reduceLE,and_self,m0,l2,a2,PL.settle,frz,frzAll]
  · have e:ie p.2=NH.jS p.2:=by unfold ie;rw [if_neg h1]
    have l2:((⟨(acc++[p.1]).toArray⟩:Str).length+(⟨(NH.jS p.2).toArray⟩:Str).length≤1000000)=True:=eq_true (by rw [be,be];simp;omega)
    have a2:(⟨(acc++[p.1]).toArray⟩:Str)++(⟨(NH.jS p.2).toArray⟩:Str)=⟨(acc++qY p).toArray⟩:=by rw [jR];unfold qY;rw [e];simp
    have hd:decide (p.2=1)=false:=decide_eq_false h1
    have m0:=sD (NH.jS p.2)
    simp only [cS,ik,bh,List.length_cons,List.length_nil,Nat.zero_add,Nat.reduceAdd,df,bM,Nat.reduceLT,List.set_cons_succ,List.set_cons_zero,if_true,Option.bind_some,ij,List.isEmpty_nil,cU,ku,mn,aF,ag,ad,List.getElem?_cons_succ,List.getElem?_cons_zero,Sl.isBr,Bool.false_and,Bool.false_eq_true,aH,look,Sl.val,hot,aX,if_false,Bool.not_false,Bool.true_or,Bool.and_true,l1,a1,aW,ae,ap,Option.map_some,i6,pC,bR,oq,lK,Int.reduceNeg,ax,lg,e0,aR,hd,ml,Int.reduceLE,and_self,m0,l2,a2,PL.settle,frz,frzAll]
theorem kA (x0:Sl):∀(r:List Pc) (acc:List Nat) (a b:Sl),(∀p∈r,p.2.natAbs < 10 ^ 30)→acc.length+32*r.length≤900000→∃a' b',dD cS cU (r.map bh) [x0, .sh (.str ⟨acc.toArray⟩),a,b]=some ([x0, .sh (.str ⟨(acc++yj r).toArray⟩),a',b'], .nx)
  | [],acc,a,b,_,_=>⟨a,b,by rw [show yj []=[] from rfl,List.append_nil];rfl⟩
  | p::r,acc,a,b,h,hl=>by
    have hp:=h p (List.mem_cons_self ..)
    have st:=p9 x0 a b acc p hp (by omega)
    have ln:=kR hp
    obtain ⟨a',b',e⟩:=kA x0 r (acc++qY p) (.sh (.str ⟨#[p.1]⟩)) (.sh (.int p.2)) (fun q hq=>h q (List.mem_cons_of_mem _ hq)) (by simp only [List.length_append,qY,List.length_cons] at hl ⊢;omega)
    refine ⟨a',b',?_⟩
    rw [List.map_cons,dD,st]
    rw [show acc++yj (p::r)=acc++qY p++yj r by rw [List.append_assoc];rfl]
    exact e
theorem kB (r:List Pc) (h:∀p∈r,p.2.natAbs < 10 ^ 30) (hl:r.length≤20000):bO [.list (r.map bh)]=some (.sh (.str ⟨(yj r).toArray⟩)):=by
  obtain ⟨a',b',e⟩:=kA (.sh (.list (r.map bh))) r [] .no .no h (by simp;omega)
  rw [List.nil_append] at e
  have e0:Str.ofString ""=⟨([]:List Nat).toArray⟩:=by decide+kernel
  simp only [bO,bS,List.length_cons,List.length_nil,Nat.zero_add,bF,hO,aw,aF,pC,e0,ay,List.map_cons,List.map_nil,Nat.reduceSub,List.replicate,List.cons_append,List.nil_append,PL.settle,frz,frzAll,Option.bind_some,Nat.reduceAdd,Nat.reduceLT,List.set_cons_succ,List.set_cons_zero,if_true,jc,tF,ad,aA,List.getElem?_cons_zero,e,List.getElem?_cons_succ,bv,aO,aN]
theorem AD (z:Int):∃s:Int,(s=1∨s= -1)∧atI [PyData.int 1, .int (-1)] (z % 2)=some (.int s):=by
  have m0:=Int.emod_nonneg z (show (2:Int)≠0 by decide)
  have m1:=Int.emod_lt_of_pos z (show (0:Int) < 2 by decide)
  rcases (show z % 2=0∨z % 2=1 by omega) with h | h
  · exact ⟨1, .inl rfl,by rw [h];rfl⟩
  · exact ⟨-1, .inr rfl,by rw [h];rfl⟩
theorem ki {s x:Int} (h:s=1∨s= -1):(s*x).natAbs=x.natAbs:=by
  rcases h with rfl | rfl
  · rw [Int.one_mul]
  · rw [Int.neg_mul,Int.one_mul,Int.natAbs_neg]
theorem m7 (z M:Int) (h0:0≤M) (hM:M < 2 ^ 400):∃k:Int,aU [.int z, .int M]=some (.sh (.int k))∧k.natAbs < 10 ^ 30:=by
  have m0:=Int.emod_nonneg z (show (6:Int)≠0 by decide)
  have m1:=Int.emod_lt_of_pos z (show (0:Int) < 6 by decide)
  obtain ⟨w,hw⟩:∃w,z % 6=w:=⟨_,rfl⟩
  rw [hw] at m0 m1
  obtain ⟨s,hs,es⟩:=AD (z / 6)
  have ms:∀x,b7 s x=true:=fun x=>iU (by rcases hs with rfl | rfl <;> decide) (by rcases hs with rfl | rfl <;> decide)
  have dd:fZ 6=true∧fZ 12=true:=by decide
  by_cases w0:w=0
  · have n0:=Int.emod_nonneg (z / 12) (show (9:Int)≠0 by decide)
    have n1:=Int.emod_lt_of_pos (z / 12) (show (0:Int) < 9 by decide)
    refine ⟨s*(z / 12 % 9),?_,by rw [ki hs];omega⟩
    simp only [aU,bS,List.length_cons,List.length_nil,Nat.zero_add,Nat.reduceAdd,bF,bJ,aw,aF,ag,ad,ay,List.map_cons,List.map_nil,Nat.reduceSub,List.replicate,List.cons_append,List.nil_append,List.getElem?_cons_zero,Sl.isBr,Bool.false_and,Bool.false_eq_true,pC,cu,bR,look,Sl.val,gT,Option.bind_some,if_false,Int.reduceLT,decide_true,hw,w0,if_true,Option.map_some,PL.settle,frz,frzAll,Nat.reduceLT,List.set_cons_succ,List.set_cons_zero,cz,aV,dB,eQ,Int.reduceNeg,bL,Nat.reduceLeDiff,cG,dO,hot,aX,aP,cF,bD,d_,aA,cm,az,aQ,Cm.i,Cm.s,aW,ae,gh,ap,mr,aH,Bool.not_false,Bool.true_or,Bool.and_true,jx,Int.reducePow,Int.reduceLE,and_self,Int.reduceToNat,dd.1,es,List.getElem?_cons_succ,aR,dd.2,ms,bv,aO,aN]
  by_cases M0:M=0
  · have n0:=Int.emod_nonneg (z / 12) (show (9:Int)≠0 by decide)
    have n1:=Int.emod_lt_of_pos (z / 12) (show (0:Int) < 9 by decide)
    refine ⟨s*(z / 12 % 9),?_,by rw [ki hs];omega⟩
    have w0':(w=0)=False:=eq_false w0
    simp only [aU,bS,M0,List.length_cons,List.length_nil,Nat.zero_add,Nat.reduceAdd,bF,bJ,aw,aF,ag,ad,ay,List.map_cons,List.map_nil,Nat.reduceSub,List.replicate,List.cons_append,List.nil_append,List.getElem?_cons_zero,Sl.isBr,Bool.false_and,Bool.false_eq_true,pC,cu,bR,look,Sl.val,gT,Option.bind_some,if_false,Int.reduceLT,decide_true,hw,if_true,Option.map_some,PL.settle,frz,frzAll,Nat.reduceLT,List.set_cons_succ,List.set_cons_zero,cz,aV,dB,eQ,Int.reduceNeg,bL,Nat.reduceLeDiff,cG,dO,hot,aX,aP,cF,bD,d_,aA,cm,az,aQ,Cm.i,Cm.s,aW,ae,gh,ap,mr,aH,Bool.not_false,Bool.true_or,Bool.and_true,jx,Int.reducePow,Int.reduceLE,and_self,Int.reduceToNat,dd.1,es,List.getElem?_cons_succ,aR,w0',decide_false,dd.2,ms,bv,aO,aN]
  have w0':(w=0)=False:=eq_false w0
  have M0':(M=0)=False:=eq_false M0
  have dM:fZ M=true:=jE (by omega) hM
  have q0:0≤4000 / M:=Int.ediv_nonneg (by decide) h0
  have q1:4000 / M≤4000:=Int.ediv_le_self M (by decide)
  obtain ⟨q,hq⟩:∃q,4000 / M=q:=⟨_,rfl⟩
  rw [hq] at q0 q1
  by_cases w3:w < 3
  · have n0:=Int.emod_nonneg (z / 12) (show (3:Int)≠0 by decide)
    have n1:=Int.emod_lt_of_pos (z / 12) (show (0:Int) < 3 by decide)
    obtain ⟨u,hu⟩:∃u,z / 12 % 3=u:=⟨_,rfl⟩
    rw [hu] at n0 n1
    have w3':(w < 3)=True:=eq_true w3
    by_cases g:q - u > 0
    · refine ⟨s*(q - u),?_,by rw [ki hs];omega⟩
      have g':(0 < q - u)=True:=eq_true (by omega)
      simp only [aU,bS,List.length_cons,List.length_nil,Nat.zero_add,Nat.reduceAdd,bF,bJ,aw,aF,ag,ad,ay,List.map_cons,List.map_nil,Nat.reduceSub,List.replicate,List.cons_append,List.nil_append,List.getElem?_cons_zero,Sl.isBr,Bool.false_and,Bool.false_eq_true,pC,cu,bR,look,Sl.val,gT,Option.bind_some,if_false,Int.reduceLT,decide_true,hw,if_true,Option.map_some,PL.settle,frz,frzAll,Nat.reduceLT,List.set_cons_succ,List.set_cons_zero,cz,aV,dB,eQ,Int.reduceNeg,bL,Nat.reduceLeDiff,cG,dO,hot,aX,aP,cF,bD,d_,aA,cm,az,aQ,Cm.i,Cm.s,aW,ae,gh,ap,mr,aH,Bool.not_false,Bool.true_or,Bool.and_true,jx,Int.reducePow,Int.reduceLE,and_self,Int.reduceToNat,dd.1,es,List.getElem?_cons_succ,aR,w0',decide_false,M0',dd.2,ms,w3',dM,hq,hu,ax,g',bv,aO,aN]
    · refine ⟨s*0,?_,by rw [ki hs];decide⟩
      have g':(0 < q - u)=False:=eq_false (by omega)
      simp only [aU,bS,List.length_cons,List.length_nil,Nat.zero_add,Nat.reduceAdd,bF,bJ,aw,aF,ag,ad,ay,List.map_cons,List.map_nil,Nat.reduceSub,List.replicate,List.cons_append,List.nil_append,List.getElem?_cons_zero,Sl.isBr,Bool.false_and,Bool.false_eq_true,pC,cu,bR,look,Sl.val,gT,Option.bind_some,if_false,Int.reduceLT,decide_true,hw,if_true,Option.map_some,PL.settle,frz,frzAll,Nat.reduceLT,List.set_cons_succ,List.set_cons_zero,cz,aV,dB,eQ,Int.reduceNeg,bL,Nat.reduceLeDiff,cG,dO,hot,aX,aP,cF,bD,d_,aA,cm,az,aQ,Cm.i,Cm.s,aW,ae,gh,ap,mr,aH,Bool.not_false,Bool.true_or,Bool.and_true,jx,Int.reducePow,Int.reduceLE,and_self,Int.reduceToNat,dd.1,es,List.getElem?_cons_succ,aR,w0',decide_false,M0',dd.2,ms,w3',dM,hq,hu,ax,g',bv,aO,aN]
  have w3':(w < 3)=False:=eq_false w3
  by_cases w3e:w=3
  · refine ⟨s*(q+1),?_,by rw [ki hs];omega⟩
    have w3e':(w=3)=True:=eq_true w3e
    simp only [aU,bS,List.length_cons,List.length_nil,Nat.zero_add,Nat.reduceAdd,bF,bJ,aw,aF,ag,ad,ay,List.map_cons,List.map_nil,Nat.reduceSub,List.replicate,List.cons_append,List.nil_append,List.getElem?_cons_zero,Sl.isBr,Bool.false_and,Bool.false_eq_true,pC,cu,bR,look,Sl.val,gT,Option.bind_some,if_false,Int.reduceLT,decide_true,hw,if_true,Option.map_some,PL.settle,frz,frzAll,Nat.reduceLT,List.set_cons_succ,List.set_cons_zero,cz,aV,dB,eQ,Int.reduceNeg,bL,Nat.reduceLeDiff,cG,dO,hot,aX,aP,cF,bD,d_,aA,cm,az,aQ,Cm.i,Cm.s,aW,ae,gh,ap,mr,aH,Bool.not_false,Bool.true_or,Bool.and_true,jx,Int.reducePow,Int.reduceLE,and_self,Int.reduceToNat,dd.1,es,List.getElem?_cons_succ,aR,w0',decide_false,M0',dd.2,ms,w3',dM,hq,ax,w3e',bv,aO,aN]
  have w3e':(w=3)=False:=eq_false w3e
  by_cases w4:w=4
  · have n0:=Int.emod_nonneg (z / 12) (show (1000000000000000000000000000000:Int)≠0 by decide)
    have n1:=Int.emod_lt_of_pos (z / 12) (show (0:Int) < 1000000000000000000000000000000 by decide)
    refine ⟨s*(z / 12 % 1000000000000000000000000000000),?_,by rw [ki hs];omega⟩
    have w4':(w=4)=True:=eq_true w4
    simp only [aU,bS,List.length_cons,List.length_nil,Nat.zero_add,Nat.reduceAdd,bF,bJ,aw,aF,ag,ad,ay,List.map_cons,List.map_nil,Nat.reduceSub,List.replicate,List.cons_append,List.nil_append,List.getElem?_cons_zero,Sl.isBr,Bool.false_and,Bool.false_eq_true,pC,cu,bR,look,Sl.val,gT,Option.bind_some,if_false,Int.reduceLT,decide_true,hw,if_true,Option.map_some,PL.settle,frz,frzAll,Nat.reduceLT,List.set_cons_succ,List.set_cons_zero,cz,aV,dB,eQ,Int.reduceNeg,bL,Nat.reduceLeDiff,cG,dO,hot,aX,aP,cF,bD,d_,aA,cm,az,aQ,Cm.i,Cm.s,aW,ae,gh,ap,mr,aH,Bool.not_false,Bool.true_or,Bool.and_true,jx,Int.reducePow,Int.reduceLE,and_self,Int.reduceToNat,dd.1,es,List.getElem?_cons_succ,aR,w0',decide_false,M0',dd.2,ms,w3',w3e',w4',bv,aO,aN]
  have w4':(w=4)=False:=eq_false w4
  refine ⟨s,?_,by rcases hs with rfl | rfl <;> decide⟩
  simp only [aU,bS,List.length_cons,List.length_nil,Nat.zero_add,Nat.reduceAdd,bF,bJ,aw,aF,ag,ad,ay,List.map_cons,List.map_nil,Nat.reduceSub,List.replicate,List.cons_append,List.nil_append,List.getElem?_cons_zero,Sl.isBr,Bool.false_and,Bool.false_eq_true,pC,cu,bR,look,Sl.val,gT,Option.bind_some,if_false,Int.reduceLT,decide_true,hw,if_true,Option.map_some,PL.settle,frz,frzAll,Nat.reduceLT,List.set_cons_succ,List.set_cons_zero,cz,aV,dB,eQ,Int.reduceNeg,bL,Nat.reduceLeDiff,cG,dO,hot,aX,aP,cF,bD,d_,aA,cm,az,aQ,Cm.i,Cm.s,aW,ae,gh,ap,mr,aH,Bool.not_false,Bool.true_or,Bool.and_true,jx,Int.reducePow,Int.reduceLE,and_self,Int.reduceToNat,dd.1,es,List.getElem?_cons_succ,aR,w0',decide_false,M0',dd.2,ms,w3',w3e',w4',bv,aO,aN]
def Rd (c:List Pc):Prop:=∀p∈c,wM p.1∧p.2.natAbs < 10 ^ 30
theorem ur (ns:List Int) (c:List Pc) (W:Str) (h:(ns.getD 2 0 % 3=1)=False) (e:bC [.int (ns.getD 1 0), .str "abcdefghijklmnopqrstuvwxyz", .int 3, .int 7]=some (.ow (c.map bh))) (et:bO [.list (c.map bh)]=some (.sh (.str W))):bP [.list (ns.map .int)]=some (.tx [.fl (.str W), .ol (c.map bh)]):=by
  have a1:=cV ns 1
  have a2:=cV ns 2
  rw [show ((1:Nat):Int)=1 from rfl] at a1
  rw [show ((2:Nat):Int)=2 from rfl] at a2
  simp only [bP,bS,List.length_cons,List.length_nil,Nat.zero_add,bF,gd,aw,aF,ar,ae,ad,ay,List.map_cons,List.map_nil,Nat.reduceSub,List.replicate,List.cons_append,List.nil_append,List.getElem?_cons_zero,Sl.isBr,Bool.false_and,Bool.false_eq_true,pC,ap,Option.map_some,if_false,Option.bind_some,ax,look,Sl.val,a1,e,PL.settle,frz,frzAll,Nat.reduceAdd,Nat.reduceLT,List.set_cons_succ,List.set_cons_zero,if_true,aP,bD,ag,cu,bR,gT,d_,cG,aH,hot,aX,aA,fz,fw,dh,Bool.not_false,Bool.true_or,Bool.and_true,takeP,i0,az,a2,Int.reduceLT,decide_true,aR,h,decide_false,List.getElem?_cons_succ,et,Nat.reduceLeDiff,List.all_cons,ot,List.all_nil,Bool.and_false,Pt.val,bv,aO,aN,bw]
theorem ut (ns:List Int) (c d:List Pc) (A B:List Nat) (h:(ns.getD 2 0 % 3=1)=True) (e:bC [.int (ns.getD 1 0), .str "abcdefghijklmnopqrstuvwxyz", .int 3, .int 7]=some (.ow (c.map bh))) (e2:bC [.int (ns.getD 2 0 / 3), .str "nailhung", .int 2, .int 5]=some (.ow (d.map bh))) (lc:c.length≤1000) (ld:d.length≤1000) (lA:A.length≤10000) (lB:B.length≤10000) (et:bO [.list (c.map bh)]=some (.sh (.str ⟨A.toArray⟩))) (et2:bO [.list (d.map bh)]=some (.sh (.str ⟨B.toArray⟩))):bP [.list (ns.map .int)]=some (.tx [.fl (.str ⟨(91::(A++44::(B++[93]))).toArray⟩), .ol ((c++d++NH.contr c++NH.contr d).map bh)]):=by
  have a1:=cV ns 1
  have a2:=cV ns 2
  rw [show ((1:Nat):Int)=1 from rfl] at a1
  rw [show ((2:Nat):Int)=2 from rfl] at a2
  have dd:fZ 3=true:=by decide
  have c1:=fq c (by omega)
  have c2:=fq d (by omega)
  have la:(NH.contr c).length=c.length:=NH.bt c
  have lb:(NH.contr d).length=d.length:=NH.bt d
  have l1:(c.length+d.length≤1000000)=True:=eq_true (by omega)
  have l2:((c++d).length+(NH.contr c).length≤1000000)=True:=eq_true (by rw [List.length_append];omega)
  have l3:((c++d++NH.contr c).length+(NH.contr d).length≤1000000)=True:=eq_true (by rw [List.length_append,List.length_append];omega)
  obtain ⟨L1,s1,h1⟩:∃L:List Nat,Str.ofString "["=⟨L.toArray⟩∧L=[91]:=⟨[91],by decide+kernel,rfl⟩
  obtain ⟨L2,s2,h2⟩:∃L:List Nat,Str.ofString ","=⟨L.toArray⟩∧L=[44]:=⟨[44],by decide+kernel,rfl⟩
  obtain ⟨L3,s3,h3⟩:∃L:List Nat,Str.ofString "]"=⟨L.toArray⟩∧L=[93]:=⟨[93],by decide+kernel,rfl⟩
  have k1:(L1.length+A.length≤1000000)=True:=eq_true (by rw [h1];simp;omega)
  have k2:((L1++A).length+L2.length≤1000000)=True:=eq_true (by rw [h1,h2];simp;omega)
  have k3:((L1++A++L2).length+B.length≤1000000)=True:=eq_true (by rw [h1,h2];simp;omega)
  have k4:((L1++A++L2++B).length+L3.length≤1000000)=True:=eq_true (by rw [h1,h2,h3];simp;omega)
  have fin:L1++A++L2++B++L3=91::(A++44::(B++[93])):=by rw [h1,h2,h3];simp
  rw [←fin]
  simp only [bP,bS,List.length_cons,List.length_nil,Nat.zero_add,bF,gd,aw,aF,ar,ae,ad,ay,List.map_cons,List.map_nil,Nat.reduceSub,List.replicate,List.cons_append,List.nil_append,List.getElem?_cons_zero,Sl.isBr,Bool.false_and,Bool.false_eq_true,pC,ap,Option.map_some,if_false,Option.bind_some,ax,look,Sl.val,a1,e,PL.settle,frz,frzAll,Nat.reduceAdd,Nat.reduceLT,List.set_cons_succ,List.set_cons_zero,if_true,aP,bD,ag,cu,bR,gT,d_,cG,aH,hot,aX,aA,fz,fw,dh,s1,Bool.not_false,Bool.true_or,Bool.and_true,s2,s3,takeP,i0,az,a2,Int.reduceLT,decide_true,aR,h,dd,e2,List.getElem?_cons_succ,Option.any_some,List.length_map,l1,←List.map_append,c1,l2,c2,l3,et,be,k1,jR,k2,et2,k3,k4,Nat.reduceLeDiff,List.all_cons,ot,List.all_nil,Bool.and_false,Pt.val,bv,aO,aN,bw]
theorem dS {f g:bU} {E E1:List Sl} (h:f E=some (E1, .nx)):aw f g E=g E1:=by
  unfold aw
  rw [h]
  rfl
structure TrO (h:Nat) (x:It):Prop where
  rd:∀(n:Nat) (dep:Int),dep+h≤31→Prt (n+h) dep x
  co:∀n:Nat,Co (n+2*h) x
structure ItO (h:Nat) (x:It):Prop where
  rd:∀(n:Nat) (dep:Int),dep+h≤30→Itm (n+h) dep x
  co:∀n:Nat,Co (n+2*h+1) x
theorem AE {h:Nat} {x:It} {k:Int} {c:List Pc} (t:TrO h x) (hb:k.natAbs < 10 ^ 30) (hm:b7 x.z (aK k)=true) (hc:x.z*aK k≤4000→c=rp x.c k):ItO h (kK x k c):=
  ⟨fun n dep hd=>BW c (t.rd n (dep+1) (by omega)) hb hm,fun n=>B4 (t.co n) hc⟩
theorem l_ {h:Nat} {r:List It} (t:∀x∈r,ItO h x) (hl:r.length≤900000):TrO (h+1) (i7 r):=
  ⟨fun n dep hd=>BZ (n:=n+h) (by omega) (fun x hx=>(t x hx).rd n dep (by omega)) hl,fun n=>B3 (n:=n+2*h+1) fun x hx=>(t x hx).co n⟩
theorem wD {p:Pc} (h:wM p.1) (hb:p.2.natAbs < 10 ^ 30) (m:Nat):ItO m (qf p):=⟨fun n dep _=>BU _ dep h hb,fun n=>B1 (n+2*m) p⟩
theorem AF {h:Nat} {x y:It} (a:TrO h x) (b:TrO h y):ItO h (p7 x y):=
  ⟨fun n dep hd=>BX (a.rd n (dep+1) (by omega)) (b.rd n (dep+1) (by omega)),fun n=>B5 (a.co n) (b.co n)⟩
def kj (r:List Pc):It:=i7 (r.map qf)
theorem uv (r:List Pc):(kj r).A=yj r:=by
  show (r.map qf).flatMap It.A=_
  rw [List.flatMap_map]
  rfl
theorem o7 (r:List Pc):(kj r).c=r:=by
  show (r.map qf).flatMap It.c=_
  induction r with
  | nil=>rfl
  | cons p r ih=>rw [List.map_cons,List.flatMap_cons,ih];rfl
theorem uw (r:List Pc):(kj r).z=r.length:=by
  show ((r.map qf).map It.z).sum=_
  induction r with
  | nil=>rfl
  | cons p r ih=>
    rw [List.map_cons,List.map_cons,List.sum_cons,ih]
    show (1:Int)+_=_
    rw [List.length_cons]
    omega
theorem re {r:List Pc} (h:Rd r) (hl:r.length≤900000) (m:Nat):TrO (m+1) (kj r):=l_ (fun x hx=>by
  obtain ⟨p,hp,rfl⟩:=List.mem_map.mp hx
  exact wD (h p hp).1 (h p hp).2 m) (by rw [List.length_map];exact hl)
theorem p_ (x:It):(i7 [x]).A=x.A:=by show x.A++[]=_;simp
theorem nN (x:It):(i7 [x]).c=x.c:=by show x.c++[]=_;simp
theorem sE (x:It):(i7 [x]).z=x.z:=by show x.z+0=_;simp
def Cs (c:List Pc) (x:Sl):Prop:=x= .sh (.list (c.map bh))∨x= .ow (c.map bh)
theorem rh (c:List Pc) (k:Int) (lm:c.length*(aK k).toNat≤1000000) (kb:aK k≤1000000) (cb:c.length≤1000000):bA [.list (c.map bh), .int k]=some (.ow ((rp c k).map bh)):=by
  have lm:=eq_true lm
  have k1:(-1000000≤aK k)=True:=eq_true (by unfold aK;split <;> omega)
  have k2:=eq_true kb
  by_cases hk:k < 0
  · have ea:aK k= -k:=if_pos hk
    have er:rp c k=(List.replicate (-k).toNat (NH.contr c)).flatten:=if_pos hk
    have ec:=fq c cb
    have lc:(NH.contr c).length=c.length:=NH.bt c
    rw [ea] at lm k1 k2
    rw [er]
    simp only [bA,bS,List.length_cons,List.length_nil,Nat.zero_add,Nat.reduceAdd,bF,dN,aw,aP,bD,ag,ad,ay,List.map_cons,List.map_nil,Nat.sub_self,List.replicate,List.cons_append,List.nil_append,List.getElem?_cons_succ,List.getElem?_cons_zero,Sl.isBr,Bool.false_and,Bool.false_eq_true,pC,bR,look,Sl.val,aQ,Cm.i,Cm.s,Option.bind_some,if_false,hk,decide_true,Option.map_some,aA,ar,ae,ap,dB,eQ,cm,hot,aX,az,ax,ec,Bool.not_false,Bool.true_or,Bool.and_true,List.length_map,lc,lm,k1,k2,and_self,kN,if_true,bv,aO,bw]
  · have ea:aK k=k:=if_neg hk
    have er:rp c k=(List.replicate k.toNat c).flatten:=if_neg hk
    rw [ea] at lm k1 k2
    rw [er]
    simp only [bA,bS,List.length_cons,List.length_nil,Nat.zero_add,Nat.reduceAdd,bF,dN,aw,aP,bD,ag,ad,ay,List.map_cons,List.map_nil,Nat.sub_self,List.replicate,List.cons_append,List.nil_append,List.getElem?_cons_succ,List.getElem?_cons_zero,Sl.isBr,Bool.false_and,Bool.false_eq_true,pC,bR,look,Sl.val,aQ,Cm.i,Cm.s,Option.bind_some,if_false,hk,decide_false,Option.map_some,aA,ar,ae,ap,dB,eQ,cm,hot,aX,az,ax,Bool.not_false,Bool.true_or,Bool.and_true,List.length_map,lm,k1,k2,and_self,decide_true,kN,if_true,bv,aO,bw]
def Di:bU:=(aF 6 (ar aU (ae false (ar bp (ae false (ad 0) (ae false (ag aH false (pC (.int 4)) (ad 5)) ap))) (ae false (ad 3) ap))))
def Cy:bU:=(aF 1 (ag aH false (ag aH false (ag aH false (pC (.str "(")) (ad 1)) (pC (.str ")"))) (ag ku false (aW i6 (ae false (ad 6) ap)) (aW oq (ae false (ag mn false (ad 6) (pC (.int 1))) ap)))))
def wE:bU:=(aP (bD (a9 (aQ .lt) (aQ .le) false false (pC (.int 0)) (ag cm false (ad 3) (aW iZ (ae false (ad 6) ap))) (pC (.int 4000))))
  (aF 2 (ar bA (ae false (ad 2) (ae false (ad 6) ap))))
  (aP (bD (ag d_ false (ad 6) (pC (.int 0))))
  (aF 2 (cz bL))
  az))
def Dj:bU:=(aF 3 (ag cm false (ad 3) (aW iZ (ae false (ad 6) ap))))
theorem qa:fi=aw Di (aw Cy (aw wE Dj)):=rfl
def SL (ns:List Int):Sl:= .sh (.list (ns.map .int))
theorem s0 (ns:List Int) (x1 x2 x4 x6:Sl) (M k:Int) (j:Nat) (e:aU [.int (ns.getD (4+j) 0), .int M]=some (.sh (.int k))):Di [SL ns,x1,x2, .sh (.int M),x4, .sh (.int j),x6, .no, .no]=some ([SL ns,x1,x2, .sh (.int M),x4, .sh (.int j), .sh (.int k), .no, .no], .nx):=by
  have a:=cV ns (4+j)
  rw [show ((4+j:Nat):Int)=4+(j:Int) by omega] at a
  simp only [Di,aF,ar,ae,ad,SL,List.getElem?_cons_zero,Sl.isBr,Bool.false_and,Bool.false_eq_true,ag,pC,aH,look,Sl.val,hot,aX,if_false,Option.bind_some,Bool.not_false,Bool.true_or,Bool.and_true,ap,Option.map_some,List.getElem?_cons_succ,ax,a,e,PL.settle,frz,frzAll,List.length_cons,List.length_nil,Nat.zero_add,Nat.reduceAdd,Nat.reduceLT,List.set_cons_succ,List.set_cons_zero,if_true]
theorem s1 (x0 x2 x3 x4 x5:Sl) (A:List Nat) (k:Int) (hb:k.natAbs < 10 ^ 30) (la:A.length≤900000):Cy [x0, .sh (.str ⟨A.toArray⟩),x2,x3,x4,x5, .sh (.int k), .no, .no]=some ([x0, .sh (.str ⟨(40::(A++41::ie k)).toArray⟩),x2,x3,x4,x5, .sh (.int k), .no, .no], .nx):=by
  obtain ⟨L1,s1,h1⟩:∃L:List Nat,Str.ofString "("=⟨L.toArray⟩∧L=[40]:=⟨[40],by decide+kernel,rfl⟩
  obtain ⟨L2,s2,h2⟩:∃L:List Nat,Str.ofString ")"=⟨L.toArray⟩∧L=[41]:=⟨[41],by decide+kernel,rfl⟩
  have nl:=NH.oG hb
  have k1:(L1.length+A.length≤1000000)=True:=eq_true (by rw [h1];simp;omega)
  have k2:((L1++A).length+L2.length≤1000000)=True:=eq_true (by rw [h1,h2];simp;omega)
  have fin:L1++A++L2++ie k=40::(A++41::ie k):=by rw [h1,h2];simp
  have lg:(k.natAbs.log2 < 1920)=True:=eq_true (wB hb)
  have e0:=y4 k
  have ml:((NH.jS k).length≤1000)=True:=eq_true (by omega)
  rw [←fin]
  by_cases hk:k=1
  · have e:ie k=[]:=by unfold ie;rw [if_pos hk]
    have hd:decide (k=1)=true:=decide_eq_true hk
    have m0:=wC (NH.jS k)
    rw [e]
    obtain ⟨N,hN⟩:∃N:List Nat,N=[]:=⟨_,rfl⟩
    have k3:((L1++A++L2).length+N.length≤1000000)=True:=eq_true (by rw [h1,h2,hN];simp;omega)
    rw [←hN] at m0 ⊢
    simp only [Cy,aF,ag,pC,s1,Sl.isBr,Bool.false_and,Bool.false_eq_true,ad,aH,look,Sl.val,hot,aX,if_false,Option.bind_some,List.getElem?_cons_succ,List.getElem?_cons_zero,Bool.not_false,Bool.true_or,Bool.and_true,be,k1,jR,if_true,s2,k2,aW,ae,ap,Option.map_some,i6,mn,bR,oq,ku,lK,Int.reduceNeg,ax,lg,e0,aR,hd,Bool.not_true,ml,Int.reduceLE,and_self,m0,k3,PL.settle,frz,frzAll,List.length_cons,List.length_nil,Nat.zero_add,Nat.reduceAdd,Nat.reduceLT,List.set_cons_succ,List.set_cons_zero]
  · have e:ie k=NH.jS k:=by unfold ie;rw [if_neg hk]
    have hd:decide (k=1)=false:=decide_eq_false hk
    have m0:=sD (NH.jS k)
    have k3:((L1++A++L2).length+(NH.jS k).length≤1000000)=True:=eq_true (by rw [h1,h2];simp;omega)
    rw [e]
    simp only [Cy,aF,ag,pC,s1,Sl.isBr,Bool.false_and,Bool.false_eq_true,ad,aH,look,Sl.val,hot,aX,if_false,Option.bind_some,List.getElem?_cons_succ,List.getElem?_cons_zero,Bool.not_false,Bool.true_or,Bool.and_true,be,k1,jR,if_true,s2,k2,aW,ae,ap,Option.map_some,i6,mn,bR,oq,ku,lK,Int.reduceNeg,ax,lg,e0,aR,hd,ml,Int.reduceLE,and_self,m0,k3,PL.settle,frz,frzAll,List.length_cons,List.length_nil,Nat.zero_add,Nat.reduceAdd,Nat.reduceLT,List.set_cons_succ,List.set_cons_zero]
theorem ma (k:Int):(if k < 0 then -k else k)=aK k:=rfl
theorem DW (x0 x1 x2 x4 x5:Sl) (c:List Pc) (M k:Int) (hx:Cs c x2) (hm:b7 M (aK k)=true) (h0:(0 < M*aK k)=True) (h4:(M*aK k≤4000)=True) (e:bA [.list (c.map bh), .int k]=some (.ow ((rp c k).map bh))):wE [x0,x1,x2, .sh (.int M),x4,x5, .sh (.int k), .no, .no]=some ([x0,x1, .ow ((rp c k).map bh), .sh (.int M),x4,x5, .sh (.int k), .no, .no], .nx):=by
  rcases hx with rfl | rfl
  · simp only [wE,aP,bD,a9,pC,Bool.or_false,Sl.isBr,Bool.false_and,Bool.false_eq_true,ag,ad,aW,ae,ap,Option.map_some,if_false,iZ,ma,cm,look,Sl.val,Int.reduceNeg,hot,aX,aQ,Cm.i,Cm.s,Option.bind_some,List.getElem?_cons_succ,List.getElem?_cons_zero,ax,Bool.not_false,Bool.true_or,Bool.and_true,hm,if_true,h4,decide_true,h0,aF,ar,PL.settle,frz,frzAll,d_,bR,cz,bL,List.length_nil,Nat.reduceLeDiff,az,e,List.length_cons,Nat.zero_add,Nat.reduceAdd,Nat.reduceLT,List.set_cons_succ,List.set_cons_zero,aR]
  · simp only [wE,aP,bD,a9,pC,Bool.or_false,Sl.isBr,Bool.false_and,Bool.false_eq_true,ag,ad,aW,ae,ap,Option.map_some,if_false,iZ,ma,cm,look,Sl.val,Int.reduceNeg,hot,aX,aQ,Cm.i,Cm.s,Option.bind_some,List.getElem?_cons_succ,List.getElem?_cons_zero,ax,Bool.not_false,Bool.true_or,Bool.and_true,hm,if_true,h4,decide_true,h0,aF,ar,PL.settle,frz,frzAll,d_,bR,cz,bL,List.length_nil,Nat.reduceLeDiff,az,e,List.length_cons,Nat.zero_add,Nat.reduceAdd,Nat.reduceLT,List.set_cons_succ,List.set_cons_zero,aR]
theorem DY (x0 x1 x2 x4 x5:Sl) (M k:Int) (hm:b7 M (aK k)=true) (h:¬(0 < M*aK k∧M*aK k≤4000)) (hk:k=0):wE [x0,x1,x2, .sh (.int M),x4,x5, .sh (.int k), .no, .no]=some ([x0,x1, .ow [], .sh (.int M),x4,x5, .sh (.int k), .no, .no], .nx):=by
  have hk':(k=0)=True:=eq_true hk
  by_cases h0:0 < M*aK k
  · have h4:(M*aK k≤4000)=False:=eq_false fun z=>h ⟨h0,z⟩
    simp only [wE,aP,bD,a9,pC,Bool.or_false,Sl.isBr,Bool.false_and,Bool.false_eq_true,ag,ad,aW,ae,ap,Option.map_some,if_false,iZ,ma,cm,look,Sl.val,Int.reduceNeg,hot,aX,aQ,Cm.i,Cm.s,Option.bind_some,List.getElem?_cons_succ,List.getElem?_cons_zero,ax,Bool.not_false,Bool.true_or,Bool.and_true,hm,if_true,h4,decide_false,h0,decide_true,aF,ar,PL.settle,frz,frzAll,d_,bR,cz,bL,List.length_nil,Nat.reduceLeDiff,az,aR,hk',List.length_cons,Nat.zero_add,Nat.reduceAdd,Nat.reduceLT,List.set_cons_succ,List.set_cons_zero]
  · simp only [wE,aP,bD,a9,pC,Bool.or_false,Sl.isBr,Bool.false_and,Bool.false_eq_true,ag,ad,aW,ae,ap,Option.map_some,if_false,iZ,ma,cm,look,Sl.val,Int.reduceNeg,hot,aX,aQ,Cm.i,Cm.s,Option.bind_some,List.getElem?_cons_succ,List.getElem?_cons_zero,ax,Bool.not_false,Bool.true_or,Bool.and_true,hm,if_true,h0,decide_false,aF,ar,PL.settle,frz,frzAll,d_,bR,cz,bL,List.length_nil,Nat.reduceLeDiff,az,aR,hk',decide_true,List.length_cons,Nat.zero_add,Nat.reduceAdd,Nat.reduceLT,List.set_cons_succ,List.set_cons_zero]
theorem DZ (x0 x1 x2 x4 x5:Sl) (M k:Int) (hm:b7 M (aK k)=true) (h:¬(0 < M*aK k∧M*aK k≤4000)) (hk:¬k=0):wE [x0,x1,x2, .sh (.int M),x4,x5, .sh (.int k), .no, .no]=some ([x0,x1,x2, .sh (.int M),x4,x5, .sh (.int k), .no, .no], .nx):=by
  have hk':(k=0)=False:=eq_false hk
  by_cases h0:0 < M*aK k
  · have h4:(M*aK k≤4000)=False:=eq_false fun z=>h ⟨h0,z⟩
    simp only [wE,aP,bD,a9,pC,Bool.or_false,Sl.isBr,Bool.false_and,Bool.false_eq_true,ag,ad,aW,ae,ap,Option.map_some,if_false,iZ,ma,cm,look,Sl.val,Int.reduceNeg,hot,aX,aQ,Cm.i,Cm.s,Option.bind_some,List.getElem?_cons_succ,List.getElem?_cons_zero,ax,Bool.not_false,Bool.true_or,Bool.and_true,hm,if_true,h4,decide_false,h0,decide_true,aF,ar,PL.settle,frz,frzAll,d_,bR,cz,bL,List.length_nil,Nat.reduceLeDiff,az,aR,hk',List.length_cons,Nat.zero_add,Nat.reduceAdd,Nat.reduceLT,List.set_cons_succ,List.set_cons_zero]
  · simp only [wE,aP,bD,a9,pC,Bool.or_false,Sl.isBr,Bool.false_and,Bool.false_eq_true,ag,ad,aW,ae,ap,Option.map_some,if_false,iZ,ma,cm,look,Sl.val,Int.reduceNeg,hot,aX,aQ,Cm.i,Cm.s,Option.bind_some,List.getElem?_cons_succ,List.getElem?_cons_zero,ax,Bool.not_false,Bool.true_or,Bool.and_true,hm,if_true,h0,decide_false,aF,ar,PL.settle,frz,frzAll,d_,bR,cz,bL,List.length_nil,Nat.reduceLeDiff,az,aR,hk',List.length_cons,Nat.zero_add,Nat.reduceAdd,Nat.reduceLT,List.set_cons_succ,List.set_cons_zero]
theorem s3 (x0 x1 x2 x4 x5:Sl) (M k:Int) (hm:b7 M (aK k)=true):Dj [x0,x1,x2, .sh (.int M),x4,x5, .sh (.int k), .no, .no]=some ([x0,x1,x2, .sh (.int (M*aK k)),x4,x5, .sh (.int k), .no, .no], .nx):=by
  simp only [Dj,aF,ag,ad,List.getElem?_cons_succ,List.getElem?_cons_zero,Sl.isBr,Bool.false_and,Bool.false_eq_true,aW,ae,ap,Option.map_some,if_false,iZ,ma,cm,look,Sl.val,Int.reduceNeg,hot,aX,Option.bind_some,ax,Bool.not_false,Bool.true_or,Bool.and_true,hm,if_true,PL.settle,frz,frzAll,List.length_cons,List.length_nil,Nat.zero_add,Nat.reduceAdd,Nat.reduceLT,List.set_cons_succ,List.set_cons_zero]
def qg (c:List Pc):Prop:=∀p∈c,wM p.1
theorem md {c:List Pc} (h:qg c):qg (NH.contr c):=fun p hp=>by
  obtain ⟨q,hq,rfl⟩:=List.mem_map.mp (show p∈c.reverse.map (fun p=>((p.1,-p.2):Pc)) from hp)
  exact h q (List.mem_reverse.mp hq)
theorem B6 {c:List Pc} (k:Int) (h:qg c):qg (rp c k):=by
  unfold rp
  split
  · intro p hp
    obtain ⟨l,hl,hpl⟩:=List.mem_flatten.mp hp
    rw [(List.mem_replicate.mp hl).2] at hpl
    exact md h p hpl
  · intro p hp
    obtain ⟨l,hl,hpl⟩:=List.mem_flatten.mp hp
    rw [(List.mem_replicate.mp hl).2] at hpl
    exact h p hpl
theorem y7 (k:Int):0≤aK k:=by unfold aK;split <;> omega
theorem y8 {k:Int} (h:k.natAbs < 10 ^ 30):aK k≤10 ^ 30:=by unfold aK;split <;> omega
theorem AG {M k:Int} (h0:0≤M) (hM:M < 2 ^ 400) (hb:k.natAbs < 10 ^ 30):b7 M (aK k)=true:=by
  have big:(2:Nat) ^ 400 < 2 ^ 20000:=Nat.pow_lt_pow_right (by decide) (by decide)
  refine yf (Nat.lt_trans ?_ big) (Nat.lt_trans ?_ big)
  · omega
  · have:=y7 k
    have:=y8 hb
    omega
theorem AH (k:Int):rp [] k=[]:=List.eq_nil_of_length_eq_zero (by have:=wA [] k;rw [List.length_nil,Int.natCast_zero,Int.zero_mul] at this;omega)
theorem y9 (ns:List Int) (x:It) (h:Nat) (x2 x4 x5 x6:Sl) (j:Nat) (t:TrO h x) (hx:Cs x.c x2) (hM:x.z < 2 ^ 400) (la:x.A.length≤900000) (lc:qg x.c):
    ∃(k:Int) (c:List Pc) (x2':Sl),k.natAbs < 10 ^ 30∧(fg (.int j) [SL ns, .sh (.str ⟨x.A.toArray⟩),x2, .sh (.int x.z),x4,x5,x6, .no, .no]).bind fi=some ([SL ns, .sh (.str ⟨(kK x k c).A.toArray⟩),x2', .sh (.int (kK x k c).z),x4, .sh (.int j), .sh (.int k), .no, .no], .nx)∧ItO h (kK x k c)∧Cs c x2'∧qg c:=by
  have nn:=(t.co 0).nn
  obtain ⟨k,ek,kb⟩:=m7 (ns.getD (4+j) 0) x.z nn hM
  have hm:=AG nn hM kb
  have e0:=s0 ns (.sh (.str ⟨x.A.toArray⟩)) x2 x4 x6 x.z k j ek
  have e1:=s1 (SL ns) x2 (.sh (.int x.z)) x4 (.sh (.int j)) x.A k kb la
  have et:fg (.int j) [SL ns, .sh (.str ⟨x.A.toArray⟩),x2, .sh (.int x.z),x4,x5,x6, .no, .no]=some [SL ns, .sh (.str ⟨x.A.toArray⟩),x2, .sh (.int x.z),x4, .sh (.int j),x6, .no, .no]:=rfl
  have fin:∀(c:List Pc) (x2':Sl),wE [SL ns, .sh (.str ⟨(40::(x.A++41::ie k)).toArray⟩),x2, .sh (.int x.z),x4, .sh (.int j), .sh (.int k), .no, .no]=some ([SL ns, .sh (.str ⟨(40::(x.A++41::ie k)).toArray⟩),x2', .sh (.int x.z),x4, .sh (.int j), .sh (.int k), .no, .no], .nx)→(x.z*aK k≤4000→c=rp x.c k)→Cs c x2'→qg c→
      ∃(k:Int) (c:List Pc) (x2':Sl),k.natAbs < 10 ^ 30∧(fg (.int j) [SL ns, .sh (.str ⟨x.A.toArray⟩),x2, .sh (.int x.z),x4,x5,x6, .no, .no]).bind fi=some ([SL ns, .sh (.str ⟨(kK x k c).A.toArray⟩),x2', .sh (.int (kK x k c).z),x4, .sh (.int j), .sh (.int k), .no, .no], .nx)∧ItO h (kK x k c)∧Cs c x2'∧qg c:=fun c x2' e2 hc hs hl=>by
    refine ⟨k,c,x2',kb,?_,AE t kb hm hc,hs,hl⟩
    rw [et,Option.bind_some,qa,dS e0,dS e1,dS e2]
    exact s3 _ _ _ _ _ _ _ hm
  by_cases g:0 < x.z*aK k∧x.z*aK k≤4000
  · have a1:1≤aK k:=by
      rcases Int.lt_or_le (aK k) 1 with z | z
      · have:aK k=0:=by have:=y7 k;omega
        rw [this] at g
        simp at g
      · exact z
    have z4:x.z≤4000:=by
      have:x.z*1≤x.z*aK k:=Int.mul_le_mul_of_nonneg_left a1 nn
      omega
    have cl:=((t.co 0).co z4).2
    have z1:1≤x.z:=by
      rcases Int.lt_or_le x.z 1 with z | z
      · have:x.z=0:=by omega
        rw [this] at g
        simp at g
      · exact z
    have kb4:aK k≤4000:=by
      have:1*aK k≤x.z*aK k:=Int.mul_le_mul_of_nonneg_right z1 (by omega)
      omega
    have em:=rh x.c k (by
      have:((x.c.length*(aK k).toNat:Nat):Int)=x.z*aK k:=by rw [Int.natCast_mul,Int.toNat_of_nonneg (by omega),cl]
      omega) (by omega) (by omega)
    exact fin (rp x.c k) _ (DW _ _ _ _ _ x.c x.z k hx hm (eq_true g.1) (eq_true g.2) em) (fun _=>rfl) (.inr rfl) (B6 k lc)
  · by_cases k0:k=0
    · refine fin [] _ (DY _ _ _ _ _ x.z k hm g k0) (fun _=>?_) (.inr rfl) (fun _ z=>nomatch z)
      rw [k0];rfl
    · refine fin x.c x2 (DZ _ _ _ _ _ x.z k hm g k0) (fun a4=>?_) hx lc
      have a1:1≤aK k:=by unfold aK;split <;> omega
      have p0:0≤x.z*aK k:=Int.mul_nonneg nn (by omega)
      have z0:x.z*aK k=0:=by
        rcases Int.lt_or_le 0 (x.z*aK k) with z | z
        · exact absurd ⟨z,a4⟩ g
        · omega
      have zz:x.z=0:=(Int.mul_eq_zero.mp z0).resolve_right (by omega)
      have cl:=((t.co 0).co (by omega)).2
      have:x.c=[]:=List.eq_nil_of_length_eq_zero (by omega)
      rw [this,AH]
theorem B7 (ns:List Int) (x4:Sl):∀(n lo h:Nat) (x:It) (x2 x5 x6:Sl),TrO h x→Cs x.c x2→qg x.c→x.A.length+50*n≤2000→x.z*(10 ^ 30) ^ (n+1)≤100*10 ^ 90→
    ∃(y:It) (h':Nat) (x2' x5' x6':Sl),dD fg fi (j2 lo (n+1)) [SL ns, .sh (.str ⟨x.A.toArray⟩),x2, .sh (.int x.z),x4,x5,x6, .no, .no]=some ([SL ns, .sh (.str ⟨y.A.toArray⟩),x2', .sh (.int y.z),x4,x5',x6', .no, .no], .nx)∧ItO h' y∧h'=h+n∧Cs y.c x2'∧qg y.c∧y.A.length≤2100:=by
  intro n
  induction n with
  | zero=>
    intro lo h x x2 x5 x6 t hx lc la hz
    have nn:=(t.co 0).nn
    have hM:x.z < 2 ^ 400:=by
      have:x.z*1≤x.z*(10 ^ 30) ^ (0+1):=Int.mul_le_mul_of_nonneg_left (by decide) nn
      have b:(100*10 ^ 90:Int) < 2 ^ 400:=by decide+kernel
      omega
    obtain ⟨k,c,x2',kb,e,i,hs,hl⟩:=y9 ns x h x2 x4 x5 x6 lo t hx hM (by omega) lc
    refine ⟨kK x k c,h,x2', .sh (.int lo), .sh (.int k),?_,i,rfl,hs,hl,?_⟩
    · rw [iT,dD,e]
      rfl
    · have:=kR kb
      show (40::(x.A++41::ie k)).length≤2100
      simp only [List.length_cons,List.length_append]
      omega
  | succ n ih=>
    intro lo h x x2 x5 x6 t hx lc la hz
    have nn:=(t.co 0).nn
    have hp:(1:Int)≤(10 ^ 30) ^ (n+1):=Int.pow_pos (show (0:Int) < 10 ^ 30 by decide)
    have hp2:(1:Int)≤(10 ^ 30) ^ (n+1+1):=Int.pow_pos (show (0:Int) < 10 ^ 30 by decide)
    have hM:x.z < 2 ^ 400:=by
      have:x.z*1≤x.z*(10 ^ 30) ^ (n+1+1):=Int.mul_le_mul_of_nonneg_left hp2 nn
      have b:(100*10 ^ 90:Int) < 2 ^ 400:=by decide+kernel
      omega
    obtain ⟨k,c,x2',kb,e,i,hs,hl⟩:=y9 ns x h x2 x4 x5 x6 lo t hx hM (by omega) lc
    have t2:TrO (h+1) (i7 [kK x k c]):=l_ (fun y hy=>by rw [List.mem_singleton.mp hy];exact i) (by simp)
    have hA:=p_ (kK x k c)
    have hc:=nN (kK x k c)
    have hzz:=sE (kK x k c)
    obtain ⟨y,h',x2'',x5',x6',e2,i2,q2,hs2,hl2,ly⟩:=ih (lo+1) (h+1) (i7 [kK x k c]) x2' (.sh (.int lo)) (.sh (.int k)) t2 (by rw [hc];exact hs) (by rw [hc];exact hl) (by
      rw [hA]
      have:=kR kb
      show (40::(x.A++41::ie k)).length+_≤2000
      simp only [List.length_cons,List.length_append]
      omega) (by
      rw [hzz]
      show x.z*aK k*(10 ^ 30) ^ (n+1)≤_
      have a1:x.z*aK k≤x.z*10 ^ 30:=Int.mul_le_mul_of_nonneg_left (y8 kb) nn
      have a2:x.z*aK k*(10 ^ 30) ^ (n+1)≤x.z*10 ^ 30*(10 ^ 30) ^ (n+1):=Int.mul_le_mul_of_nonneg_right a1 (by omega)
      have a3:x.z*10 ^ 30*(10 ^ 30) ^ (n+1)=x.z*(10 ^ 30) ^ (n+1+1):=by rw [Int.mul_assoc,Int.pow_succ (10 ^ 30) (n+1),Int.mul_comm ((10 ^ 30) ^ (n+1))]
      rw [a3] at a2
      exact Int.le_trans a2 hz)
    refine ⟨y,h',x2'',x5',x6',?_,i2,by omega,hs2,hl2,ly⟩
    rw [iT,dD,e]
    rw [hA,hzz] at e2
    exact e2
theorem B8:List.lookup ("TooLong":Str) [(("TooLong":Str),false)]=some false:=by decide+kernel
theorem AI:List.lookup ("TooLong":Str) [(("TooLong":Str),true)]=some true:=by decide+kernel
theorem m8:cR [tW "TooLong"]=some (.ow [.bool false, .bool false, .bool false, .bool false, .bool false, .bool false, .bool false, .bool false, .bool false]):=by
  simp only [cR,bS,tW,List.length_cons,List.length_nil,Nat.zero_add,bF,fJ,aw,aF,cz,aV,dB,ad,ay,List.map_cons,List.map_nil,Nat.reduceSub,List.replicate,List.cons_append,List.nil_append,List.getElem?_cons_zero,look,Sl.val,iq,jh,Option.bind_some,B8,Option.map_some,frz,jl,jk,iG,bL,Nat.reduceAdd,Nat.reduceLeDiff,if_true,PL.settle,frzAll,Nat.reduceLT,List.set_cons_succ,List.set_cons_zero,ag,Sl.isBr,Bool.false_and,Bool.false_eq_true,jm,g5,ji,jj,aH,hot,aX,if_false,aA,iH,List.getElem?_cons_succ,Option.any_some,Bool.not_false,Bool.true_or,Bool.and_true,decide_true,bv,aO,a_,aN]
def Dk:bU:=(xD (ar bP (ae false (ad 0) ap)) (ik 2 (df (bM 1) (df (bM 2) ij))))
def Dl:bU:=(aF 3 (aW dz (ae false (ad 2) ap)))
def Dm:bU:=(aF 4 (pC (.bool false)))
def Dn:bU:=(jc (gV (ae false (ag aH false (pC (.int 1)) (ag cu false (ar bp (ae false (ad 0) (ae false (pC (.int 3)) ap))) (pC (.int 3)))) ap)) fg
  fi)
def y_:bU:=(aP (bD (ag d_ false (ag cu false (ag cG false (ar bp (ae false (ad 0) (ae false (pC (.int 0)) ap))) (pC (.int 2))) (pC (.int 2))) (pC (.int 1))))
  (aw (aF 1 (ag aH false (ad 1) (pC (.str "q2"))))
  (aw (aF 3 (ag aH false (ad 3) (pC (.int 1))))
  (aP (bD (ag (bR (aQ .le)) false (ad 3) (pC (.int 4000))))
  (aF 2 (ag aH false (ad 2) (cz (aV (ip (aV (pC (.str "q")) (aV (pC (.int 2)) bL))) bL))))
  az)))
  az)
def B9:bU:=(aF 7 (ar gp (ae false (ad 1) ap)))
def B_:bU:=(aP (cF (b8 (de (dB (qL tab_is_Term) (ad 7)))) (cF (de (dB (gx .bool) (cH aB (ad 7)))) (bD (ag mn false (cH aB (ad 7)) (ad 3)))))
  (aA (pC (.bool false)))
  az)
def AJ:bU:=(aP (bD (ag (bR (aQ .gt)) false (ad 3) (pC (.int 4000))))
  (aA (dU (ar aZ (ae false (ad 7) ap)) (dU (ar aZ (ae false (ad 7) ap)) (ag d_ false (cH aB (ad 7)) (ad 3)))))
  az)
def Ca:bU:=(aF 8 (cH gc (ad 7)))
def Cb:bU:=(aP (cF (b8 (de (dB (gx .list) (ad 8)))) (bD (ag mn false (aW dz (ae false (ad 8) ap)) (ad 3))))
  (aA (pC (.bool false)))
  az)
def m9:bU:=(aP (cF (bD (ag (bR (aQ .le)) false (ad 3) (pC (.int 300)))) (bD (ag d_ false (ag cu false (ar bp (ae false (ad 0) (ae false (pC (.int 7)) ap))) (pC (.int 8))) (pC (.int 1)))))
  (aA (ar bz (ae false (ad 8) (ae false (ad 2) ap))))
  az)
def ux:bU:=(aA (dU (ag d_ false (ag dO false (ad 8) (pC (.int 0))) (ag dO false (ad 2) (pC (.int 0)))) (dU (ag d_ false (ag dO false (ad 8) (dB eQ (pC (.int 1)))) (ag dO false (ad 2) (dB eQ (pC (.int 1))))) (ar bz (ae false (mv false (ad 8) lz (iB (pC (.int 9)))) (ae false (mv false (ad 2) lz (iB (pC (.int 9)))) ap))))))
theorem wF:nM=aw Dk (aw Dl (aw Dm (aw Dn (aw y_ (aw B9 (aw B_ (aw AJ (aw Ca (aw Cb (aw m9 ux)))))))))):=rfl
section
variable (ns:List Int)
theorem l0 (A:Str) (c:List Pc) (e:bP [.list (ns.map .int)]=some (.tx [.fl (.str A), .ol (c.map bh)])):Dk [SL ns, .no, .no, .no, .no, .no, .no, .no, .no]=some ([SL ns, .sh (.str A), .sh (.list (c.map bh)), .no, .no, .no, .no, .no, .no], .nx):=by
  simp only [Dk,xD,ar,ae,ad,SL,List.getElem?_cons_zero,Sl.isBr,Bool.false_and,Bool.false_eq_true,ap,Option.map_some,if_false,Option.bind_some,ax,look,Sl.val,e,frz,ik,df,bM,List.map_cons,Pt.val,List.map_nil,List.length_cons,List.length_nil,Nat.zero_add,Nat.reduceAdd,Nat.reduceLT,List.set_cons_succ,List.set_cons_zero,if_true,ij,List.isEmpty_nil]
theorem l1 (x1:Sl) (c:List Pc) (lc:(c.length≤1000000)=True):Dl [SL ns,x1, .sh (.list (c.map bh)), .no, .no, .no, .no, .no, .no]=some ([SL ns,x1, .sh (.list (c.map bh)), .sh (.int c.length), .no, .no, .no, .no, .no], .nx):=by
  simp only [Dl,aF,aW,ae,ad,SL,List.getElem?_cons_succ,List.getElem?_cons_zero,Sl.isBr,Bool.false_and,Bool.false_eq_true,ap,Option.map_some,if_false,Option.bind_some,dz,ax,look,Sl.val,List.length_map,PL.settle,frz,frzAll,List.length_cons,List.length_nil,Nat.zero_add,Nat.reduceAdd,Nat.reduceLT,List.set_cons_succ,List.set_cons_zero,if_true]
theorem l2 (x1 x2 x3:Sl):Dm [SL ns,x1,x2,x3, .no, .no, .no, .no, .no]=some ([SL ns,x1,x2,x3, .sh (.bool false), .no, .no, .no, .no], .nx):=by
  simp only [Dm,aF,pC,SL,PL.settle,frz,frzAll,Option.bind_some,List.length_cons,List.length_nil,Nat.zero_add,Nat.reduceAdd,Nat.reduceLT,List.set_cons_succ,List.set_cons_zero,if_true]
theorem l3 (x1 x2 x3 x4:Sl) (n:Nat) (E:List Sl) (hn:ns.getD 3 0 % 3=n) (nb:(-1000000≤1+(n:Int)∧1+(n:Int)≤1000000)=True) (e:dD fg fi (j2 0 (n+1)) [SL ns,x1,x2,x3,x4, .no, .no, .no, .no]=some (E, .nx)):Dn [SL ns,x1,x2,x3,x4, .no, .no, .no, .no]=some (E, .nx):=by
  have a3:=cV ns 3
  rw [show ((3:Nat):Int)=3 from rfl] at a3
  have tn:(1+(n:Int)).toNat=n+1:=by omega
  unfold SL at e
  simp only [Dn,jc,gV,ae,ag,pC,SL,Sl.isBr,Bool.false_and,Bool.false_eq_true,ar,ad,ap,Option.map_some,if_false,Option.bind_some,cu,bR,look,Sl.val,gT,aH,hot,aX,List.getElem?_cons_zero,ax,a3,Int.reduceLT,decide_true,hn,if_true,Bool.not_false,Bool.true_or,Bool.and_true,Int.reduceNeg,nb,tn,e]
theorem D0 (x1 x2 x3 x4 x5 x6:Sl) (h:¬ns.getD 0 0 / 2 % 2=1):y_ [SL ns,x1,x2,x3,x4,x5,x6, .no, .no]=some ([SL ns,x1,x2,x3,x4,x5,x6, .no, .no], .nx):=by
  have a0:=cV ns 0
  rw [show ((0:Nat):Int)=0 from rfl] at a0
  have dd:fZ 2=true:=by decide
  simp only [y_,aP,bD,ag,ar,ae,ad,SL,List.getElem?_cons_zero,Sl.isBr,Bool.false_and,Bool.false_eq_true,pC,ap,Option.map_some,if_false,Option.bind_some,ax,look,Sl.val,a0,cG,bR,gT,dd,if_true,cu,Int.reduceLT,decide_true,d_,aR,h,decide_false,aw,aF,aH,hot,aX,Bool.not_false,Bool.true_or,Bool.and_true,PL.settle,frz,frzAll,aQ,Cm.i,Cm.s,cz,aV,ip,bL,List.length_cons,List.length_nil,Nat.zero_add,Nat.reduceAdd,Nat.reduceLeDiff,az,List.getElem?_cons_succ]
theorem D1 (x2 x4 x5 x6:Sl) (A:List Nat) (c:List Pc) (M:Int) (hx:Cs c x2) (lc:M+1≤4000→c.length≤4000) (lA:A.length≤100000) (h:ns.getD 0 0 / 2 % 2=1):∃x2',y_ [SL ns, .sh (.str ⟨A.toArray⟩),x2, .sh (.int M),x4,x5,x6, .no, .no]=some ([SL ns, .sh (.str ⟨(A++[113,50]).toArray⟩),x2', .sh (.int (M+1)),x4,x5,x6, .no, .no], .nx)∧(M+1≤4000→Cs (c++[((113,2):Pc)]) x2'):=by
  have a0:=cV ns 0
  rw [show ((0:Nat):Int)=0 from rfl] at a0
  have dd:fZ 2=true:=by decide
  obtain ⟨L1,s1,h1⟩:∃L:List Nat,Str.ofString "q2"=⟨L.toArray⟩∧L=[113,50]:=⟨[113,50],by decide+kernel,rfl⟩
  have k1:(A.length+L1.length≤1000000)=True:=eq_true (by rw [h1];simp;omega)
  rw [←h1]
  have sq:Str.ofString "q"=⟨#[113]⟩:=by decide+kernel
  by_cases h4:M+1≤4000
  · have h4':=eq_true h4
    have l1:((c.map bh).length≤999999)=True:=eq_true (by have:=lc h4;rw [List.length_map];omega)
    have fin:c.map bh++[.tuple [.str ⟨#[113]⟩, .int 2]]=(c++[((113,2):Pc)]).map bh:=by rw [List.map_append];rfl
    refine ⟨.ow ((c++[((113,2):Pc)]).map bh),?_,fun _=> .inr rfl⟩
    rw [←fin]
    rcases hx with rfl | rfl
    · simp only [y_,aP,bD,ag,ar,ae,ad,SL,List.getElem?_cons_zero,Sl.isBr,Bool.false_and,Bool.false_eq_true,pC,ap,Option.map_some,if_false,Option.bind_some,ax,look,Sl.val,a0,cG,bR,gT,dd,if_true,cu,Int.reduceLT,decide_true,h,d_,aR,aw,aF,s1,aH,hot,aX,Bool.not_false,Bool.true_or,Bool.and_true,PL.settle,frz,frzAll,aQ,Cm.i,Cm.s,cz,aV,ip,sq,bL,List.length_cons,List.length_nil,Nat.zero_add,Nat.reduceAdd,Nat.reduceLeDiff,az,List.getElem?_cons_succ,be,k1,jR,Nat.reduceLT,List.set_cons_succ,List.set_cons_zero,h4',l1]
    · simp only [y_,aP,bD,ag,ar,ae,ad,SL,List.getElem?_cons_zero,Sl.isBr,Bool.false_and,Bool.false_eq_true,pC,ap,Option.map_some,if_false,Option.bind_some,ax,look,Sl.val,a0,cG,bR,gT,dd,if_true,cu,Int.reduceLT,decide_true,h,d_,aR,aw,aF,s1,aH,hot,aX,Bool.not_false,Bool.true_or,Bool.and_true,PL.settle,frz,frzAll,aQ,Cm.i,Cm.s,cz,aV,ip,sq,bL,List.length_cons,List.length_nil,Nat.zero_add,Nat.reduceAdd,Nat.reduceLeDiff,az,List.getElem?_cons_succ,be,k1,jR,Nat.reduceLT,List.set_cons_succ,List.set_cons_zero,h4',Option.any_some,l1]
  · have h4':=eq_false h4
    exact ⟨x2,by simp only [y_,aP,bD,ag,ar,ae,ad,SL,List.getElem?_cons_zero,Sl.isBr,Bool.false_and,Bool.false_eq_true,pC,ap,Option.map_some,if_false,Option.bind_some,ax,look,Sl.val,a0,cG,bR,gT,dd,if_true,cu,Int.reduceLT,decide_true,h,d_,aR,aw,aF,s1,aH,hot,aX,Bool.not_false,Bool.true_or,Bool.and_true,PL.settle,frz,frzAll,aQ,Cm.i,Cm.s,cz,aV,ip,bL,List.length_cons,List.length_nil,Nat.zero_add,Nat.reduceAdd,Nat.reduceLeDiff,az,List.getElem?_cons_succ,be,k1,jR,Nat.reduceLT,List.set_cons_succ,List.set_cons_zero,h4',decide_false],fun z=>absurd z h4⟩
section
variable (x1 x2 x4 x5 x6:Sl) (M:Int) (d:PyData)
theorem l5 (A:Str) (e:gp [.str A]=some (.sh d)) (x3:Sl):B9 [SL ns, .sh (.str A),x2,x3,x4,x5,x6, .no, .no]=some ([SL ns, .sh (.str A),x2,x3,x4,x5,x6, .sh d, .no], .nx):=by
  simp only [B9,aF,ar,ae,ad,SL,List.getElem?_cons_succ,List.getElem?_cons_zero,Sl.isBr,Bool.false_and,Bool.false_eq_true,ap,Option.map_some,if_false,Option.bind_some,ax,look,Sl.val,e,PL.settle,frz,frzAll,List.length_cons,List.length_nil,Nat.zero_add,Nat.reduceAdd,Nat.reduceLT,List.set_cons_succ,List.set_cons_zero,if_true]
theorem D2 {d:PyData} {z:Int} (h:Tk d z):qL tab_is_Term d=some (.bool true):=by
  obtain ⟨⟨cn,kvs,rfl,hc,l⟩,_⟩:=h
  have e:qL tab_is_Term (eO cn kvs)=(tab_is_Term.lookup cn).map PyData.bool:=rfl
  have k:tab_is_Term.lookup cn=some true:=by rcases hc with rfl | rfl | rfl | rfl <;> decide+kernel
  rw [e,k]
  rfl
theorem l6 (t:Tk d M):B_ [SL ns,x1,x2, .sh (.int M),x4,x5,x6, .sh d, .no]=some ([SL ns,x1,x2, .sh (.int M),x4,x5,x6, .sh d, .no], .nx):=by
  have e1:=D2 t
  have e2:=t.sz
  have q:qd (.int M) (.int M)=some true:=by rw [aR,decide_eq_true rfl]
  simp only [B_,aP,cF,b8,de,dB,ad,SL,List.getElem?_cons_succ,List.getElem?_cons_zero,look,Sl.val,Option.bind_some,e1,Option.map_some,f9,Bool.not_true,cH,gx,Ty.is,vq,bD,ag,Sl.isBr,Bool.false_and,Bool.false_eq_true,mn,bR,if_false,e2,q,aA,pC,az]
theorem D3 (h:¬4000 < M) (x3:Sl) (hx3:x3= .sh (.int M)):AJ [SL ns,x1,x2,x3,x4,x5,x6, .sh d, .no]=some ([SL ns,x1,x2,x3,x4,x5,x6, .sh d, .no], .nx):=by
  subst hx3
  simp only [AJ,aP,bD,ag,ad,SL,List.getElem?_cons_succ,List.getElem?_cons_zero,Sl.isBr,Bool.false_and,Bool.false_eq_true,pC,bR,look,Sl.val,aQ,Cm.i,Cm.s,Option.bind_some,if_false,h,decide_false,Option.map_some,aA,dU,ar,ae,ap,d_,az,ax]
theorem D4 (h:4000 < M) (t:Tk d M) (e:aZ [d]=some (.sh (.bool true))):∃E,AJ [SL ns,x1,x2, .sh (.int M),x4,x5,x6, .sh d, .no]=some (E, .rt (.sh (.bool true))):=by
  have e2:=t.sz
  have q:qd (.int M) (.int M)=some true:=by rw [aR,decide_eq_true rfl]
  refine ⟨[SL ns,x1,x2, .sh (.int M),x4,x5,x6, .sh d, .no],?_⟩
  simp only [AJ,aP,bD,ag,ad,SL,List.getElem?_cons_succ,List.getElem?_cons_zero,Sl.isBr,Bool.false_and,Bool.false_eq_true,pC,bR,look,Sl.val,aQ,Cm.i,Cm.s,Option.bind_some,if_false,h,decide_true,Option.map_some,aA,dU,ar,ae,ap,cH,d_,az,ax,e,e2,q,if_true]
theorem l8 (c:List Pc) (x3:Sl) (e:gc [d]=some (.ow (c.map bh))):Ca [SL ns,x1,x2,x3,x4,x5,x6, .sh d, .no]=some ([SL ns,x1,x2,x3,x4,x5,x6, .sh d, .ow (c.map bh)], .nx):=by
  simp only [Ca,aF,cH,ad,SL,List.getElem?_cons_succ,List.getElem?_cons_zero,look,Sl.val,Option.bind_some,e,Option.map_some,PL.settle,frz,frzAll,List.length_cons,List.length_nil,Nat.zero_add,Nat.reduceAdd,Nat.reduceLT,List.set_cons_succ,List.set_cons_zero,if_true]
theorem l9 (c:List Pc) (x7:Sl) (hl:(c.length:Int)=M) (lc:(c.length≤1000000)=True):Cb [SL ns,x1,x2, .sh (.int M),x4,x5,x6,x7, .ow (c.map bh)]=some ([SL ns,x1,x2, .sh (.int M),x4,x5,x6,x7, .ow (c.map bh)], .nx):=by
  have q:qd (.int M) (.int M)=some true:=by rw [aR,decide_eq_true rfl]
  simp only [Cb,aP,cF,b8,de,dB,ad,SL,List.getElem?_cons_succ,List.getElem?_cons_zero,look,Sl.val,gx,Ty.is,vq,Option.bind_some,Option.map_some,f9,Bool.not_true,bD,ag,aW,ae,Sl.isBr,Bool.false_and,Bool.false_eq_true,ap,if_false,dz,mn,bR,ax,List.length_map,hl,q,aA,pC,az]
theorem Do (c:List Pc) (x7:Sl) (hx:Cs c x2) (h:M≤300∨ns.getD 7 0 % 8=1) (e:bz [.list (c.map bh), .list (c.map bh)]=some (.sh (.bool true))):∃E,m9 [SL ns,x1,x2, .sh (.int M),x4,x5,x6,x7, .ow (c.map bh)]=some (E, .rt (.sh (.bool true))):=by
  have a7:=cV ns 7
  rw [show ((7:Nat):Int)=7 from rfl] at a7
  by_cases h3:M≤300
  · refine ⟨[SL ns,x1,x2, .sh (.int M),x4,x5,x6,x7, .ow (c.map bh)],?_⟩
    rcases hx with rfl | rfl
    · simp only [m9,aP,cF,bD,ag,ad,SL,List.getElem?_cons_succ,List.getElem?_cons_zero,Sl.isBr,Bool.false_and,Bool.false_eq_true,pC,bR,look,Sl.val,aQ,Cm.i,Cm.s,Option.bind_some,if_false,h3,decide_true,Option.map_some,ar,ae,ap,cu,gT,d_,ax,if_true,aA,az,e]
    · simp only [m9,aP,cF,bD,ag,ad,SL,List.getElem?_cons_succ,List.getElem?_cons_zero,Sl.isBr,Bool.false_and,Bool.false_eq_true,pC,bR,look,Sl.val,aQ,Cm.i,Cm.s,Option.bind_some,if_false,h3,decide_true,Option.map_some,ar,ae,ap,cu,gT,d_,ax,if_true,aA,az,e]
  · have h8:=h.resolve_left h3
    refine ⟨[SL ns,x1,x2, .sh (.int M),x4,x5,x6,x7, .ow (c.map bh)],?_⟩
    rcases hx with rfl | rfl
    · simp only [m9,aP,cF,bD,ag,ad,SL,List.getElem?_cons_succ,List.getElem?_cons_zero,Sl.isBr,Bool.false_and,Bool.false_eq_true,pC,bR,look,Sl.val,aQ,Cm.i,Cm.s,Option.bind_some,if_false,h3,decide_false,Option.map_some,ar,ae,ap,cu,gT,d_,ax,a7,Int.reduceLT,decide_true,h8,if_true,aR,aA,az,e]
    · simp only [m9,aP,cF,bD,ag,ad,SL,List.getElem?_cons_succ,List.getElem?_cons_zero,Sl.isBr,Bool.false_and,Bool.false_eq_true,pC,bR,look,Sl.val,aQ,Cm.i,Cm.s,Option.bind_some,if_false,h3,decide_false,Option.map_some,ar,ae,ap,cu,gT,d_,ax,a7,Int.reduceLT,decide_true,h8,if_true,aR,aA,az,e]
theorem Dp (x7 x8:Sl) (h3:¬M≤300) (h8:¬ns.getD 7 0 % 8=1):m9 [SL ns,x1,x2, .sh (.int M),x4,x5,x6,x7,x8]=some ([SL ns,x1,x2, .sh (.int M),x4,x5,x6,x7,x8], .nx):=by
  have a7:=cV ns 7
  rw [show ((7:Nat):Int)=7 from rfl] at a7
  simp only [m9,aP,cF,bD,ag,ad,SL,List.getElem?_cons_succ,List.getElem?_cons_zero,Sl.isBr,Bool.false_and,Bool.false_eq_true,pC,bR,look,Sl.val,aQ,Cm.i,Cm.s,Option.bind_some,if_false,h3,decide_false,Option.map_some,ar,ae,ap,cu,gT,d_,ax,a7,Int.reduceLT,decide_true,if_true,aR,h8,aA,az]
end
end
theorem qc {d:PyData} (e:dW [d]=some ("TooLong":Str)):aZ [d]=some (.sh (.bool true)):=by
  have r:pS dW (ad 0) [.sh d, .no]=some (("TooLong":Str),([.sh d, .no]:List Sl)):=by
    simp only [pS,ad,List.getElem?_cons_zero,look,Sl.val,Option.bind_some,e,Option.map_some]
  have o:=m8
  simp only [tW] at o
  simp only [aZ,bS,List.length_cons,List.length_nil,Nat.zero_add,bF,eJ,aw,xX,ay,List.map_cons,List.map_nil,Nat.reduceSub,List.replicate,List.cons_append,List.nil_append,r,List.mem_cons,List.not_mem_nil,or_false,Nat.reduceAdd,Nat.reduceLT,true_and,aA,dU,dB,ad,tW,List.set_cons_succ,List.set_cons_zero,List.getElem?_cons_succ,List.getElem?_cons_zero,look,Sl.val,iq,iI,Option.bind_some,AI,Option.map_some,f_,ag,pC,Sl.isBr,Bool.false_and,Bool.false_eq_true,ar,ae,ap,if_false,bR,v6,if_true,ax,o,jD,List.contains_cons,List.contains_nil,Bool.or_false,bv,aO,aN]
  rfl
theorem D5 (ns:List Int) (x1 x2 x3 x4 x5 x6 x7:Sl) (c c9:List Pc) (u v:PyData) (hx:Cs c x2) (hu:aN u=true) (hv:aN v=true) (q0:atI (c.map bh) 0=some u) (q1:atI (c.map bh) (-1)=some v) (du:qd u u=some true) (dv:qd v v=some true) (ec:cutL c none (some 9)=c9) (er:bz [.list (c9.map bh), .list (c9.map bh)]=some (.sh (.bool true))):∃E,ux [SL ns,x1,x2,x3,x4,x5,x6,x7, .ow (c.map bh)]=some (E, .rt (.sh (.bool true))):=by
  refine ⟨[SL ns,x1,x2,x3,x4,x5,x6,x7, .ow (c.map bh)],?_⟩
  rcases hx with rfl | rfl
  · simp only [ux,aA,dU,ag,ad,SL,List.getElem?_cons_succ,List.getElem?_cons_zero,Sl.isBr,Bool.false_and,Bool.false_eq_true,pC,dO,look,Sl.val,hot,aX,Option.bind_some,if_false,Option.any_some,q0,Option.map_some,d_,bR,du,dB,eQ,Int.reduceNeg,ar,ae,mv,lz,iB,ap,q1,dv,Bool.not_false,pD,ec,bw,Bool.or_true,if_true,ax,er]
  · simp only [ux,aA,dU,ag,ad,SL,List.getElem?_cons_succ,List.getElem?_cons_zero,Sl.isBr,Bool.false_and,Bool.false_eq_true,pC,dO,look,Sl.val,hot,aX,Option.bind_some,if_false,Option.any_some,q0,Option.map_some,d_,bR,du,dB,eQ,Int.reduceNeg,ar,ae,mv,lz,iB,ap,q1,dv,Bool.not_false,pD,ec,bw,Bool.or_true,if_true,ax,er]
theorem Cc (p:Pc) (c:List Pc):atI ((p::c).map bh) 0=some (bh p):=by
  rw [show (0:Int)=((0:Nat):Int) from rfl,cB]
  rfl
theorem Cd (p:Pc) (c:List Pc):atI ((c++[p]).map bh) (-1)=some (bh p):=by
  have e1:(1:Int)≤(c.length:Int)+1:=by omega
  have e2:(-1+((c.length:Int)+1)).toNat=c.length:=by omega
  unfold atI zI
  simp [e1,e2]
theorem wG {c:List Pc} (h:qg c):NailsOk c:=fun p hp=>by have:=h p hp;unfold wM at this;omega
theorem sG (ns:List Int) (x1 x2 x4 x5 x6:Sl) (x:It) (P:Prt 33 0 x) (C:Co 33 x) (hx:x.z≤4000→Cs x.c x2) (lc:x.z≤4000→qg x.c) (lA:x.A.length≤1000000):
    ∃E,aw B9 (aw B_ (aw AJ (aw Ca (aw Cb (aw m9 ux))))) [SL ns, .sh (.str ⟨x.A.toArray⟩),x2, .sh (.int x.z),x4,x5,x6, .no, .no]=some (E, .rt (.sh (.bool true))):=by
  have er:=yr P lA
  rw [dS (l5 ns x2 x4 x5 x6 x.d _ er (.sh (.int x.z))),dS (l6 ns _ x2 x4 x5 x6 x.z x.d P.tk)]
  by_cases h4:4000 < x.z
  · obtain ⟨E,e⟩:=D4 ns (.sh (.str ⟨x.A.toArray⟩)) x2 x4 x5 x6 x.z x.d h4 P.tk (qc (wx P.tk h4))
    exact ⟨E,by unfold aw;rw [e];rfl⟩
  have h4':x.z≤4000:=by omega
  obtain ⟨e1,e2⟩:=C.co h4'
  have cs:=hx h4'
  have nl:=wG (lc h4')
  rw [dS (D3 ns _ x2 x4 x5 x6 x.z x.d h4 _ rfl),dS (l8 ns _ x2 x4 x5 x6 x.d x.c _ e1),dS (l9 ns _ x2 x4 x5 x6 x.z x.c _ e2 (eq_true (by omega)))]
  by_cases h3:x.z≤300∨ns.getD 7 0 % 8=1
  · obtain ⟨E,e⟩:=Do ns (.sh (.str ⟨x.A.toArray⟩)) x2 x4 x5 x6 x.z x.c (.sh x.d) cs h3 (jQ x.c nl (by omega))
    exact ⟨E,by unfold aw;rw [e];rfl⟩
  · have n3:¬x.z≤300:=fun z=>h3 (.inl z)
    rw [dS (Dp ns _ x2 x4 x5 x6 x.z _ _ n3 fun z=>h3 (.inr z))]
    obtain ⟨a,m,ea⟩:∃a m,x.c=a::m:=by
      cases hq:x.c with
      | nil=>rw [hq] at e2;simp at e2;omega
      | cons a m=>exact ⟨a,m,rfl⟩
    obtain ⟨m2,b,eb⟩:∃m2 b,x.c=m2++[b]:=⟨x.c.dropLast,x.c.getLast (by rw [ea];simp),(List.dropLast_concat_getLast _).symm⟩
    have na:a∈x.c:=by rw [ea];simp
    have nb:b∈x.c:=by rw [eb];simp
    have da:=qP (nl a na) (nl a na)
    have db:=qP (nl b nb) (nl b nb)
    rw [decide_eq_true rfl] at da db
    refine D5 ns _ x2 _ x4 x5 x6 _ x.c _ (bh a) (bh b) cs rfl rfl (by rw [ea];exact Cc a m) (by rw [eb];exact Cd b m2) da db rfl ?_
    refine jQ _ (fun p hp=>nl p (lH hp)) ?_
    have:=tE x.c (show (0:Int)≤9 by decide)
    omega
theorem zb {W:Int} {c:List Pc} (h:CkW W c) (hW:W.natAbs < 100):Rd c:=fun p hp=>⟨(h p hp).1,by have:=(h p hp).2;omega⟩
theorem yw (ns:List Int):∃(x:It) (h:Nat),bP [.list (ns.map .int)]=some (.tx [.fl (.str ⟨x.A.toArray⟩), .ol (x.c.map bh)])∧TrO h x∧h≤2∧x.z=x.c.length∧x.z≤24∧qg x.c∧x.A.length≤1000:=by
  obtain ⟨w,ew,w1,w2,w3⟩:∃w:List Nat,Str.ofString "abcdefghijklmnopqrstuvwxyz"=⟨w.toArray⟩∧0 < w.length∧w.length≤26∧∀a∈w,97≤a∧a≤122:=⟨(Str.ofString "abcdefghijklmnopqrstuvwxyz").cps.toList,by decide+kernel,by decide+kernel,by decide+kernel,by decide+kernel⟩
  obtain ⟨v,ev,v1,v2,v3⟩:∃w:List Nat,Str.ofString "nailhung"=⟨w.toArray⟩∧0 < w.length∧w.length≤26∧∀a∈w,97≤a∧a≤122:=⟨(Str.ofString "nailhung").cps.toList,by decide+kernel,by decide+kernel,by decide+kernel,by decide+kernel⟩
  obtain ⟨c,ec,lc,kc⟩:=kx w 3 w1 w2 w3 (by decide) (by decide) (ns.getD 1 0) 7 (by decide)
  obtain ⟨d,ed,ld,kd⟩:=kx v 2 v1 v2 v3 (by decide) (by decide) (ns.getD 2 0 / 3) 5 (by decide)
  rw [←ew,show ((7:Nat):Int)=7 from rfl] at ec
  rw [←ev,show ((5:Nat):Int)=5 from rfl] at ed
  have rc:=zb kc (by decide)
  have rd:=zb kd (by decide)
  have bc:∀p∈c,p.2.natAbs < 10 ^ 30:=fun p hp=>(rc p hp).2
  have bd:∀p∈d,p.2.natAbs < 10 ^ 30:=fun p hp=>(rd p hp).2
  have tc:=kB c bc (by omega)
  have td:=kB d bd (by omega)
  have lc2:=o6 bc
  have ld2:=o6 bd
  by_cases h:ns.getD 2 0 % 3=1
  · refine ⟨i7 [p7 (kj c) (kj d)],2,?_,l_ (fun x hx=>by rw [List.mem_singleton.mp hx];exact AF (re rc (by omega) 0) (re rd (by omega) 0)) (by simp),by decide,?_,?_,?_,?_⟩
    · rw [p_,nN]
      show _=some (Sl.tx [.fl (.str ⟨(91::((kj c).A++44::((kj d).A++[93]))).toArray⟩), .ol (((kj c).c++(kj d).c++NH.contr (kj c).c++NH.contr (kj d).c).map bh)])
      rw [uv,uv,o7,o7]
      exact ut ns c d _ _ (eq_true h) ec ed (by omega) (by omega) (by omega) (by omega) tc td
    · rw [sE,nN]
      show 2*((kj c).z+(kj d).z)=(((kj c).c++(kj d).c++NH.contr (kj c).c++NH.contr (kj d).c).length:Int)
      rw [uw,uw,o7,o7]
      simp only [List.length_append,NH.bt]
      omega
    · rw [sE]
      show 2*((kj c).z+(kj d).z)≤24
      rw [uw,uw]
      omega
    · rw [nN]
      show qg ((kj c).c++(kj d).c++NH.contr (kj c).c++NH.contr (kj d).c)
      rw [o7,o7]
      have a1:qg c:=fun p hp=>(rc p hp).1
      have a2:qg d:=fun p hp=>(rd p hp).1
      intro p hp
      simp only [List.mem_append] at hp
      rcases hp with ((hp | hp) | hp) | hp
      · exact a1 p hp
      · exact a2 p hp
      · exact md a1 p hp
      · exact md a2 p hp
    · rw [p_]
      show (91::((kj c).A++44::((kj d).A++[93]))).length≤1000
      rw [uv,uv]
      simp only [List.length_cons,List.length_append,List.length_nil]
      omega
  · refine ⟨kj c,1,?_,re rc (by omega) 0,by decide,?_,?_,?_,?_⟩
    · rw [uv,o7]
      exact ur ns c _ (eq_false h) ec tc
    · rw [uw,o7]
    · rw [uw];omega
    · rw [o7];exact fun p hp=>(rc p hp).1
    · rw [uv];omega
theorem AK (ns:List Int) (hl:ns.length≤63):jn [.list (ns.map .int)]=some (.sh (.bool true)):=by
  obtain ⟨x,h,eb,t,hh,zc,z24,lc,lA⟩:=yw ns
  have m0:=Int.emod_nonneg (ns.getD 3 0) (show (3:Int)≠0 by decide)
  have m1:=Int.emod_lt_of_pos (ns.getD 3 0) (show (0:Int) < 3 by decide)
  obtain ⟨n,hn⟩:∃n:Nat,ns.getD 3 0 % 3=n:=⟨(ns.getD 3 0 % 3).toNat,by omega⟩
  have n2:n≤2:=by omega
  have zn:=(t.co 0).nn
  have hz:x.z*(10 ^ 30) ^ (n+1)≤100*10 ^ 90:=by
    have b:((10:Int) ^ 30) ^ (n+1)≤10 ^ 90:=by
      rcases (show n=0∨n=1∨n=2 by omega) with rfl | rfl | rfl <;> decide+kernel
    have b0:(0:Int) < (10 ^ 30) ^ (n+1):=Int.pow_pos (show (0:Int) < 10 ^ 30 by decide)
    have:x.z*(10 ^ 30) ^ (n+1)≤24*(10 ^ 30) ^ (n+1):=Int.mul_le_mul_of_nonneg_right z24 (by omega)
    omega
  obtain ⟨y,h',x2',x5',x6',e3,iy,hy,cs,ly,lyA⟩:=B7 ns (.sh (.bool false)) n 0 h x (.sh (.list (x.c.map bh))) .no .no t (.inl rfl) lc (by omega) hz
  rw [zc] at e3
  have yn:=(iy.co 0).nn
  obtain ⟨E,he⟩:∃E,aw y_ (aw B9 (aw B_ (aw AJ (aw Ca (aw Cb (aw m9 ux)))))) [SL ns, .sh (.str ⟨y.A.toArray⟩),x2', .sh (.int y.z), .sh (.bool false),x5',x6', .no, .no]=some (E, .rt (.sh (.bool true))):=by
    by_cases hq:ns.getD 0 0 / 2 % 2=1
    · have lcc:y.z+1≤4000→y.c.length≤4000:=fun z=>by have:=((iy.co 0).co (by omega)).2;omega
      obtain ⟨x2'',e4,cs2⟩:=D1 ns x2' (.sh (.bool false)) x5' x6' y.A y.c y.z cs lcc (by omega) hq
      rw [dS e4]
      have t2:TrO (h'+1) (i7 [y,qf (113,2)]):=l_ (fun q hq=>by
        rcases List.mem_cons.mp hq with rfl | hq
        · exact iy
        · rw [List.mem_singleton.mp hq]
          exact wD (show wM 113 from ⟨by decide,by decide⟩) (by decide) h') (by simp)
      have hA:(i7 [y,qf (113,2)]).A=y.A++[113,50]:=by
        show y.A++(qY (113,2)++[])=_
        rw [List.append_nil]
        have e:qY (113,2)=[113,50]:=by
          show 113::ie 2=_
          unfold ie
          rw [if_neg (by decide)]
          decide+kernel
        rw [e]
      have hc:(i7 [y,qf (113,2)]).c=y.c++[((113,2):Pc)]:=by
        show y.c++([((113,2):Pc)]++[])=_
        rw [List.append_nil]
      have hzz:(i7 [y,qf (113,2)]).z=y.z+1:=by
        show y.z+(1+0)=_
        omega
      have P:Prt 33 0 (i7 [y,qf (113,2)]):=by have:=t2.rd (33 - (h'+1)) 0 (by omega);rwa [show 33 - (h'+1)+(h'+1)=33 by omega] at this
      have C:Co 33 (i7 [y,qf (113,2)]):=by have:=t2.co (33 - 2*(h'+1));rwa [show 33 - 2*(h'+1)+2*(h'+1)=33 by omega] at this
      rw [←hA,←hzz]
      refine sG ns (.sh (.str ⟨y.A.toArray⟩)) x2'' _ x5' x6' _ P C (fun z=>?_) (fun _=>?_) (by rw [hA];simp;omega)
      · rw [hc];exact cs2 (by omega)
      · rw [hc]
        intro p hp
        rcases List.mem_append.mp hp with hp | hp
        · exact ly p hp
        · rw [List.mem_singleton.mp hp];exact ⟨by decide,by decide⟩
    · rw [dS (D0 ns _ _ _ _ _ _ hq)]
      have t2:TrO (h'+1) (i7 [y]):=l_ (fun q hq=>by rw [List.mem_singleton.mp hq];exact iy) (by simp)
      have P:Prt 33 0 (i7 [y]):=by have:=t2.rd (33 - (h'+1)) 0 (by omega);rwa [show 33 - (h'+1)+(h'+1)=33 by omega] at this
      have C:Co 33 (i7 [y]):=by have:=t2.co (33 - 2*(h'+1));rwa [show 33 - 2*(h'+1)+2*(h'+1)=33 by omega] at this
      rw [←p_ y,←sE y]
      refine sG ns (.sh (.str ⟨y.A.toArray⟩)) x2' _ x5' x6' _ P C (fun _=>?_) (fun _=>?_) (by rw [p_];omega)
      · rw [nN];exact cs
      · rw [nN];exact ly
  have run:nM [SL ns, .no, .no, .no, .no, .no, .no, .no, .no]=some (E, .rt (.sh (.bool true))):=by
    rw [wF,dS (l0 ns _ _ eb),dS (l1 ns _ x.c (eq_true (by omega))),dS (l2 ns _ _ _),dS (l3 ns _ _ _ _ n _ hn (eq_true (by omega)) e3),he]
  simp only [jn,bS,List.length_cons,List.length_nil,if_true,ay]
  show ((nM [SL ns, .no, .no, .no, .no, .no, .no, .no, .no]).bind _)=_
  rw [run]
  rfl
end Nhk64
namespace Nhk64
open PySem L2 Nh PL
open PySem.W (nsIn codeIn keepIn fnOf)
theorem kG {fd:FuncData} {xs:List Str} (h:∀a0,bindArgs fd ⟨[a0],[]⟩=pure (xs.zip [a0])):∀us:List Value,us.length=1→bindArgs fd ⟨us,[]⟩=pure (xs.zip us)
  | [a0],_=>h a0
theorem jg {fd:FuncData} {xs:List Str} (h:∀a0 a1,bindArgs fd ⟨[a0,a1],[]⟩=pure (xs.zip [a0,a1])):∀us:List Value,us.length=2→bindArgs fd ⟨us,[]⟩=pure (xs.zip us)
  | [a0,a1],_=>h a0 a1
theorem wH {fd:FuncData} {xs:List Str} (h:∀a0 a1 a2,bindArgs fd ⟨[a0,a1,a2],[]⟩=pure (xs.zip [a0,a1,a2])):∀us:List Value,us.length=3→bindArgs fd ⟨us,[]⟩=pure (xs.zip us)
  | [a0,a1,a2],_=>h a0 a1 a2
theorem Dq {fd:FuncData} {xs:List Str} (h:∀a0 a1 a2 a3,bindArgs fd ⟨[a0,a1,a2,a3],[]⟩=pure (xs.zip [a0,a1,a2,a3])):∀us:List Value,us.length=4→bindArgs fd ⟨us,[]⟩=pure (xs.zip us)
  | [a0,a1,a2,a3],_=>h a0 a1 a2 a3
abbrev HD (K:PySem.W.Frag) (n:Str) (st:Stmt):Prop:=∃(f:Addr) (oc:Value) (od an:Option Addr) (sl:Array (Option Value)) (kV dc pm cd ct:Value),nsIn K mainGlobals n=some (some (.ref f))∧K.lookup f=some ⟨oc,od, .func (fnOf n n (cJ st) (bE st) (ai st) .none kV dc pm an cd ct),sl⟩∧codeIn K cd n=true∧keepIn K (.ref f)=true
theorem Ce {K:PySem.W.Frag} {n:Str} {st:Stmt} {f:Addr} {oc:Value} {od an:Option Addr} {sl:Array (Option Value)} {kV dc pm cd ct:Value} (a:nsIn K mainGlobals n=some (some (.ref f))) (l:K.lookup f=some ⟨oc,od, .func (fnOf n n (cJ st) (bE st) (ai st) .none kV dc pm an cd ct),sl⟩) (c:codeIn K cd n=true) (k:keepIn K (.ref f)=true):HD K n st:=⟨f,oc,od,an,sl,kV,dc,pm,cd,ct,a,l,c,k⟩
theorem cD {K:PySem.W.Frag} {h:Heap} {mg:Str→Option Value} {x:Str} {st:Stmt} {ps:List Str} (d:HD K x st) (X:K.In h) (G:h.Ns mainGlobals mg) (b:∀(kV doc pm:Value) (an:Option Addr) (cdv ct:Value) (us:List Value),us.length=ps.length→bindArgs (fnOf x x (cJ st) (bE st) (ai st) .none kV doc pm an cdv ct) ⟨us,[]⟩=pure (ps.zip us)):Def K mg x st ps:=by
  obtain ⟨f,oc,od,an,sl,kV,dc,pm,cd,ct,a,l,c,k⟩:=d
  exact zO X G a l c k b
theorem uy {K:PySem.W.Frag} {C:Addr} (c1:nsIn K mainGlobals "Piece"=some (some (.ref C))) (c2:PySem.W.plainGet K C Str.empty=true) (c3:PySem.W.hasDictIn K C=true) (c4:PySem.W.plainOver K C=true) (c5:PySem.W.findIn K (.ref C) "__setattr__"=some (some (.builtin "object.__setattr__"))) (c6:PySem.W.makesIn K C=true) (c7:keepIn K (.ref C)=true) (n1:PySem.W.findIn K (.ref C) "nail"=some none) (n2:PySem.W.findIn K (.ref C) "turns"=some none) (n3:PySem.W.findIn K (.ref C) "size"=some none) (m1:HM K C "pieces" "Term.pieces" bq) (m2:HM K C "cord" "Term.cord" bQ) (m3:HM K C "made" "Piece.made" fL) (m4:HM K C "text" "Piece.text" fM) (m5:HM K C "__init__" "Piece.__init__" fS):oN K:=⟨C,⟨c1,c2,c3,c4,c5,c6,c7⟩,n1,n2,n3,m1,m2,m3,m4,m5⟩
theorem uz {K:PySem.W.Frag} {C:Addr} (c1:nsIn K mainGlobals "Parts"=some (some (.ref C))) (c2:PySem.W.plainGet K C Str.empty=true) (c3:PySem.W.hasDictIn K C=true) (c4:PySem.W.plainOver K C=true) (c5:PySem.W.findIn K (.ref C) "__setattr__"=some (some (.builtin "object.__setattr__"))) (c6:PySem.W.makesIn K C=true) (c7:keepIn K (.ref C)=true) (n1:PySem.W.findIn K (.ref C) "parts"=some none) (n2:PySem.W.findIn K (.ref C) "kept"=some none) (n3:PySem.W.findIn K (.ref C) "size"=some none) (m1:HM K C "pieces" "Term.pieces" bq) (m2:HM K C "cord" "Term.cord" bQ) (m3:HM K C "made" "Parts.made" fO) (m4:HM K C "text" "Parts.text" fP) (m5:HM K C "__init__" "Parts.__init__" fT):oO K:=⟨C,⟨c1,c2,c3,c4,c5,c6,c7⟩,n1,n2,n3,m1,m2,m3,m4,m5⟩
theorem uA {K:PySem.W.Frag} {C:Addr} (c1:nsIn K mainGlobals "Times"=some (some (.ref C))) (c2:PySem.W.plainGet K C Str.empty=true) (c3:PySem.W.hasDictIn K C=true) (c4:PySem.W.plainOver K C=true) (c5:PySem.W.findIn K (.ref C) "__setattr__"=some (some (.builtin "object.__setattr__"))) (c6:PySem.W.makesIn K C=true) (c7:keepIn K (.ref C)=true) (n1:PySem.W.findIn K (.ref C) "body"=some none) (n2:PySem.W.findIn K (.ref C) "number"=some none) (n3:PySem.W.findIn K (.ref C) "size"=some none) (m1:HM K C "pieces" "Term.pieces" bq) (m2:HM K C "cord" "Term.cord" bQ) (m3:HM K C "made" "Times.made" fQ) (m4:HM K C "text" "Times.text" fR) (m5:HM K C "__init__" "Times.__init__" fU):oP K:=⟨C,⟨c1,c2,c3,c4,c5,c6,c7⟩,n1,n2,n3,m1,m2,m3,m4,m5⟩
theorem wI {K:PySem.W.Frag} {C:Addr} (c1:nsIn K mainGlobals "Back"=some (some (.ref C))) (c2:PySem.W.plainGet K C Str.empty=true) (c3:PySem.W.hasDictIn K C=true) (c4:PySem.W.plainOver K C=true) (c5:PySem.W.findIn K (.ref C) "__setattr__"=some (some (.builtin "object.__setattr__"))) (c6:PySem.W.makesIn K C=true) (c7:keepIn K (.ref C)=true) (n1:PySem.W.findIn K (.ref C) "one"=some none) (n2:PySem.W.findIn K (.ref C) "other"=some none) (n3:PySem.W.findIn K (.ref C) "size"=some none) (m1:HM K C "pieces" "Term.pieces" bq) (m2:HM K C "cord" "Term.cord" bQ) (m3:HM K C "made" "Back.made" gq) (m4:HM K C "text" "Back.text" gr) (m5:HM K C "__init__" "Back.__init__" gs):qT K:=⟨C,⟨c1,c2,c3,c4,c5,c6,c7⟩,n1,n2,n3,m1,m2,m3,m4,m5⟩
def Cf (K:PySem.W.Frag):Prop:=∃D,nsIn K mainGlobals "Term"=some (some (.ref D))∧IsRow K D tab_is_Term
theorem AL {K:PySem.W.Frag} {D:Addr} (a0:nsIn K mainGlobals "Term"=some (some (.ref D))) (hn:PySem.W.specialIn K (.builtin "object.__class__") "__get__"=some (some (.builtin "getset_descriptor.__get__"))) (ht:PySem.W.takesIn K (.builtin "object.__class__")=some true) {CPiece:Addr} (aPiece:nsIn K mainGlobals "Piece"=some (some (.ref CPiece))) (bPiece:PySem.W.plainGet K CPiece "__class__"=true) (dPiece:PySem.W.hasDictIn K CPiece=true) (ePiece:PySem.W.findIn K (.ref CPiece) "__class__"=some (some (.builtin "object.__class__"))) (mPiece:PySem.W.mroIn K CPiece (.type "object")=some true) (kPiece:PySem.W.kitOne K (.ref CPiece) (.ref D)=some true) {CParts:Addr} (aParts:nsIn K mainGlobals "Parts"=some (some (.ref CParts))) (bParts:PySem.W.plainGet K CParts "__class__"=true) (dParts:PySem.W.hasDictIn K CParts=true) (eParts:PySem.W.findIn K (.ref CParts) "__class__"=some (some (.builtin "object.__class__"))) (mParts:PySem.W.mroIn K CParts (.type "object")=some true) (kParts:PySem.W.kitOne K (.ref CParts) (.ref D)=some true) {CTimes:Addr} (aTimes:nsIn K mainGlobals "Times"=some (some (.ref CTimes))) (bTimes:PySem.W.plainGet K CTimes "__class__"=true) (dTimes:PySem.W.hasDictIn K CTimes=true) (eTimes:PySem.W.findIn K (.ref CTimes) "__class__"=some (some (.builtin "object.__class__"))) (mTimes:PySem.W.mroIn K CTimes (.type "object")=some true) (kTimes:PySem.W.kitOne K (.ref CTimes) (.ref D)=some true) {CBack:Addr} (aBack:nsIn K mainGlobals "Back"=some (some (.ref CBack))) (bBack:PySem.W.plainGet K CBack "__class__"=true) (dBack:PySem.W.hasDictIn K CBack=true) (eBack:PySem.W.findIn K (.ref CBack) "__class__"=some (some (.builtin "object.__class__"))) (mBack:PySem.W.mroIn K CBack (.type "object")=some true) (kBack:PySem.W.kitOne K (.ref CBack) (.ref D)=some true):Cf K:=⟨D,a0,(.cons aPiece ⟨bPiece,dPiece,ePiece,hn,ht,mPiece⟩ kPiece (.cons aParts ⟨bParts,dParts,eParts,hn,ht,mParts⟩ kParts (.cons aTimes ⟨bTimes,dTimes,eTimes,hn,ht,mTimes⟩ kTimes (.cons aBack ⟨bBack,dBack,eBack,hn,ht,mBack⟩ kBack .nil))))⟩
theorem wJ {K:PySem.W.Frag} {b:Addr}:∀l:List (Str×Str),(∀n∈l,nsIn K mainGlobals n.1=some none)→wQ K b l=none
  | [],_=>rfl
  | n::r,h=>by
    have e:uC K n.1=none:=by
      unfold uC
      rw [h n (List.mem_cons_self ..)]
    unfold wQ
    rw [e,if_neg nofun]
    exact wJ r fun m hm=>h m (List.mem_cons_of_mem _ hm)
theorem yx {K:PySem.W.Frag} {h:Heap} (t0:nsIn K mainGlobals "in_told_order"=some none) (t1:nsIn K mainGlobals "_law_moves_refused"=some none) (t2:nsIn K mainGlobals "_law_long_refused"=some none) (t3:nsIn K mainGlobals "_law_sets_refused"=some none) (t4:nsIn K mainGlobals "_law_cords_refused"=some none) (t5:nsIn K mainGlobals "_law_many_refused"=some none) (t6:nsIn K mainGlobals "_law_two_refused"=some none) (t7:nsIn K mainGlobals "_law_at_least_refused"=some none):L2.r8 K h:=fun b q z=>by
  unfold kT at z
  rw [wJ _ fun n hn=>by
    unfold yA at hn
    simp only [List.mem_cons,List.not_mem_nil,or_false] at hn
    rcases hn with rfl | rfl | rfl | rfl | rfl | rfl | rfl | rfl
    · exact t0
    · exact t1
    · exact t2
    · exact t3
    · exact t4
    · exact t5
    · exact t6
    · exact t7] at z
  cases z
theorem AM {l:PySem.W.OpenLaw} {w:World} {K:PySem.W.Frag} {h:Heap} {mg:Str→Option Value} {fa:Addr} (X:K.In h) (G:h.Ns mainGlobals mg) (hfa:mg "law"=some (.ref fa)) (B:Bn mg) (hPiece:oN K) (hParts:oO K) (hTimes:oP K) (hBack:qT K) (his:Cf K)
    (d1:HD K "contrary" hU)
    (d2:HD K "number_text" eY)
    (d3:HD K "repeated" hV)
    (d4:HD K "there_and_back" dt)
    (d5:HD K "is_nail" iX)
    (d6:HD K "figures_end" e8)
    (d7:HD K "number_end" fV)
    (d8:HD K "read_number" e9)
    (d9:HD K "behind" jN)
    (d10:HD K "read_piece" fW)
    (d11:HD K "_law_at" jO)
    (d12:HD K "_law_mix" iY)
    (d13:HD K "_law_digit" gu)
    (d14:HD K "_law_cord" h7)
    (d15:HD K "_law_contrary" eL)
    (d16:HD K "_law_right" gv)
    (d17:HD K "_law_others" fX)
    (d18:HD K "_law_too_long" eM)
    (d19:HD K "_law_text" h9)
    (d20:HD K "_law_number" fY)
    (d21:HD K "_law_body" ib)
    (d22:HD K "_law_many_of" e_)
    (d23:HD K "read_times" dw)
    (d24:HD K "read_back" dY)
    (d25:HD K "read_part" dZ)
    (d26:HD K "read_parts" eN)
    (d27:HD K "read" oX)
    (d28:HD K "law" lV)
    {t_DEEPEST:Tok} (g_DEEPEST:PySem.W.nsIn K mainGlobals "DEEPEST"=some (some (.int 30 t_DEEPEST)))
    {t_LONGEST:Tok} (g_LONGEST:PySem.W.nsIn K mainGlobals "LONGEST"=some (some (.int 4000 t_LONGEST)))
    {t_MOST_FIGURES:Tok} (g_MOST_FIGURES:PySem.W.nsIn K mainGlobals "MOST_FIGURES"=some (some (.int 30 t_MOST_FIGURES)))
    {ec_NoCord ec_NoNails ec_NoRule ec_NoText ec_NoMove ec_NoLine ec_NoName ec_NoNumber ec_TooMany ec_TooLong ec_Term ec_Piece ec_Parts ec_Times ec_Back ec_HangError:Addr}
    (qc_NoCord:PySem.W.nsIn K mainGlobals "NoCord"=some (some (.ref ec_NoCord)))
    (qc_NoNails:PySem.W.nsIn K mainGlobals "NoNails"=some (some (.ref ec_NoNails)))
    (qc_NoRule:PySem.W.nsIn K mainGlobals "NoRule"=some (some (.ref ec_NoRule)))
    (qc_NoText:PySem.W.nsIn K mainGlobals "NoText"=some (some (.ref ec_NoText)))
    (qc_NoMove:PySem.W.nsIn K mainGlobals "NoMove"=some (some (.ref ec_NoMove)))
    (qc_NoLine:PySem.W.nsIn K mainGlobals "NoLine"=some (some (.ref ec_NoLine)))
    (qc_NoName:PySem.W.nsIn K mainGlobals "NoName"=some (some (.ref ec_NoName)))
    (qc_NoNumber:PySem.W.nsIn K mainGlobals "NoNumber"=some (some (.ref ec_NoNumber)))
    (qc_TooMany:PySem.W.nsIn K mainGlobals "TooMany"=some (some (.ref ec_TooMany)))
    (qc_TooLong:PySem.W.nsIn K mainGlobals "TooLong"=some (some (.ref ec_TooLong)))
    (qc_Term:PySem.W.nsIn K mainGlobals "Term"=some (some (.ref ec_Term)))
    (qc_Piece:PySem.W.nsIn K mainGlobals "Piece"=some (some (.ref ec_Piece)))
    (qc_Parts:PySem.W.nsIn K mainGlobals "Parts"=some (some (.ref ec_Parts)))
    (qc_Times:PySem.W.nsIn K mainGlobals "Times"=some (some (.ref ec_Times)))
    (qc_Back:PySem.W.nsIn K mainGlobals "Back"=some (some (.ref ec_Back)))
    (qc_ValueError:PySem.W.nsIn K mainGlobals "ValueError"=some none)
    (qc_HangError:PySem.W.nsIn K mainGlobals "HangError"=some (some (.ref ec_HangError)))
    (w1_TooLong:PySem.W.excIn K ec_TooLong DB "ValueError.__new__"=true)
    (w2_TooLong:(PySem.W.clsIn K ec_TooLong).isSome=true)
    (w3_TooLong:PySem.W.findIn K (.ref ec_TooLong) "__getattribute__"=some (some (.builtin "BaseException.__getattribute__")))
    (w4_TooLong:PySem.W.findIn K (.ref ec_TooLong) "__getattr__"=some none)
    (w5_TooLong:PySem.W.findIn K (.ref ec_TooLong) "__class__"=some (some (.builtin "object.__class__")))
    (w6_TooLong:PySem.W.mroIn K ec_TooLong (.type "BaseException")=some true)
    (w7_TooLong:PySem.W.mroIn K ec_TooLong (.type "object")=some true)
    (y_TooLong_NoCord:PySem.W.kitOne K (.ref ec_TooLong) (.ref ec_NoCord)=some false)
    (y_TooLong_NoNails:PySem.W.kitOne K (.ref ec_TooLong) (.ref ec_NoNails)=some false)
    (y_TooLong_NoRule:PySem.W.kitOne K (.ref ec_TooLong) (.ref ec_NoRule)=some false)
    (y_TooLong_NoText:PySem.W.kitOne K (.ref ec_TooLong) (.ref ec_NoText)=some false)
    (y_TooLong_NoMove:PySem.W.kitOne K (.ref ec_TooLong) (.ref ec_NoMove)=some false)
    (y_TooLong_NoLine:PySem.W.kitOne K (.ref ec_TooLong) (.ref ec_NoLine)=some false)
    (y_TooLong_NoName:PySem.W.kitOne K (.ref ec_TooLong) (.ref ec_NoName)=some false)
    (y_TooLong_NoNumber:PySem.W.kitOne K (.ref ec_TooLong) (.ref ec_NoNumber)=some false)
    (y_TooLong_TooMany:PySem.W.kitOne K (.ref ec_TooLong) (.ref ec_TooMany)=some false)
    (y_TooLong_TooLong:PySem.W.kitOne K (.ref ec_TooLong) (.ref ec_TooLong)=some true)
    (y_TooLong_Term:PySem.W.kitOne K (.ref ec_TooLong) (.ref ec_Term)=some false)
    (y_TooLong_Piece:PySem.W.kitOne K (.ref ec_TooLong) (.ref ec_Piece)=some false)
    (y_TooLong_Parts:PySem.W.kitOne K (.ref ec_TooLong) (.ref ec_Parts)=some false)
    (y_TooLong_Times:PySem.W.kitOne K (.ref ec_TooLong) (.ref ec_Times)=some false)
    (y_TooLong_Back:PySem.W.kitOne K (.ref ec_TooLong) (.ref ec_Back)=some false)
    (y_TooLong_ValueError:PySem.W.kitOne K (.ref ec_TooLong) (.type "ValueError")=some true)
    (y_TooLong_HangError:PySem.W.exmOne K (.ref ec_TooLong) (.ref ec_HangError)=some true):
    ∃fd:FuncData,(∀(s:Shared) (v:Value),BindsTo s fd ⟨[v],[]⟩ [("_law_script",v)])∧∀base:Heap,K.In base→base.Ns mainGlobals mg→FnOk l.prog w K mg base iu 106 fa fd ["_law_script"] (bV K jn):=by
  obtain ⟨f28,oc28,od28,an28,sl28,kV28,dc28,pm28,cd28,ct28,a28,l28,c28,k28⟩:=id d28
  have e:=hfa.symm.trans (PySem.W.mg_of X G a28)
  cases e
  have F0:=jY (st:=lV) l28 c28 k28
  have G_DEEPEST:=PySem.W.mg_of X G g_DEEPEST
  have G_LONGEST:=PySem.W.mg_of X G g_LONGEST
  have G_MOST_FIGURES:=PySem.W.mg_of X G g_MOST_FIGURES
  have Z_TooLong:ExCls K ec_TooLong:=⟨Option.isSome_iff_exists.mp w2_TooLong,w3_TooLong,w4_TooLong,w5_TooLong,w6_TooLong,w7_TooLong⟩
  have XX:XF K mg:=⟨⟨ec_NoCord,PySem.W.mg_of X G qc_NoCord,(cA qc_TooLong Z_TooLong y_TooLong_NoCord dA)⟩,⟨ec_NoNails,PySem.W.mg_of X G qc_NoNails,(cA qc_TooLong Z_TooLong y_TooLong_NoNails dA)⟩,⟨ec_NoRule,PySem.W.mg_of X G qc_NoRule,(cA qc_TooLong Z_TooLong y_TooLong_NoRule dA)⟩,⟨ec_NoText,PySem.W.mg_of X G qc_NoText,(cA qc_TooLong Z_TooLong y_TooLong_NoText dA)⟩,⟨ec_NoMove,PySem.W.mg_of X G qc_NoMove,(cA qc_TooLong Z_TooLong y_TooLong_NoMove dA)⟩,⟨ec_NoLine,PySem.W.mg_of X G qc_NoLine,(cA qc_TooLong Z_TooLong y_TooLong_NoLine dA)⟩,⟨ec_NoName,PySem.W.mg_of X G qc_NoName,(cA qc_TooLong Z_TooLong y_TooLong_NoName dA)⟩,⟨ec_NoNumber,PySem.W.mg_of X G qc_NoNumber,(cA qc_TooLong Z_TooLong y_TooLong_NoNumber dA)⟩,⟨ec_TooMany,PySem.W.mg_of X G qc_TooMany,(cA qc_TooLong Z_TooLong y_TooLong_TooMany dA)⟩,⟨ec_TooLong,PySem.W.mg_of X G qc_TooLong,(cA qc_TooLong Z_TooLong y_TooLong_TooLong dA),⟨qc_TooLong,PySem.W.mg_of X G qc_TooLong,w1_TooLong,Z_TooLong⟩⟩,⟨ec_Term,PySem.W.mg_of X G qc_Term,(cA qc_TooLong Z_TooLong y_TooLong_Term dA)⟩,⟨ec_Piece,PySem.W.mg_of X G qc_Piece,(cA qc_TooLong Z_TooLong y_TooLong_Piece dA)⟩,⟨ec_Parts,PySem.W.mg_of X G qc_Parts,(cA qc_TooLong Z_TooLong y_TooLong_Parts dA)⟩,⟨ec_Times,PySem.W.mg_of X G qc_Times,(cA qc_TooLong Z_TooLong y_TooLong_Times dA)⟩,⟨ec_Back,PySem.W.mg_of X G qc_Back,(cA qc_TooLong Z_TooLong y_TooLong_Back dA)⟩,⟨PySem.W.mg_none_of X G qc_ValueError,(cA qc_TooLong Z_TooLong y_TooLong_ValueError dA)⟩,⟨ec_HangError,PySem.W.mg_of X G qc_HangError,fun n hn D hD=>by
    simp only [List.mem_cons,List.not_mem_nil,or_false] at hn
    rcases hn with rfl
    · rw [qc_TooLong] at hD;cases hD;exact y_TooLong_HangError⟩⟩
  have e_contrary:Def K mg "contrary" hU ["cord"]:=cD d1 X G fun _ _ _ _ _ _=>fun us hl=>kG (fun _=>rfl) us hl
  have e_number_text:Def K mg "number_text" eY ["number"]:=cD d2 X G fun _ _ _ _ _ _=>fun us hl=>kG (fun _=>rfl) us hl
  have e_repeated:Def K mg "repeated" hV ["cord","times"]:=cD d3 X G fun _ _ _ _ _ _=>fun us hl=>jg (fun _ _=>rfl) us hl
  have e_there_and_back:Def K mg "there_and_back" dt ["one","other"]:=cD d4 X G fun _ _ _ _ _ _=>fun us hl=>jg (fun _ _=>rfl) us hl
  have e_is_nail:Def K mg "is_nail" iX ["thing"]:=cD d5 X G fun _ _ _ _ _ _=>fun us hl=>kG (fun _=>rfl) us hl
  have e_figures_end:Def K mg "figures_end" e8 ["text","place"]:=cD d6 X G fun _ _ _ _ _ _=>fun us hl=>jg (fun _ _=>rfl) us hl
  have e_number_end:Def K mg "number_end" fV ["text","place"]:=cD d7 X G fun _ _ _ _ _ _=>fun us hl=>jg (fun _ _=>rfl) us hl
  have e_read_number:Def K mg "read_number" e9 ["text","place"]:=cD d8 X G fun _ _ _ _ _ _=>fun us hl=>jg (fun _ _=>rfl) us hl
  have e_behind:Def K mg "behind" jN ["sign","text","place"]:=cD d9 X G fun _ _ _ _ _ _=>fun us hl=>wH (fun _ _ _=>rfl) us hl
  have e_read_piece:Def K mg "read_piece" fW ["text","place"]:=cD d10 X G fun _ _ _ _ _ _=>fun us hl=>jg (fun _ _=>rfl) us hl
  have e_law_at:Def K mg "_law_at" jO ["_law_script","_law_k"]:=cD d11 X G fun _ _ _ _ _ _=>fun us hl=>jg (fun _ _=>rfl) us hl
  have e_law_mix:Def K mg "_law_mix" iY ["_law_cell","_law_k"]:=cD d12 X G fun _ _ _ _ _ _=>fun us hl=>jg (fun _ _=>rfl) us hl
  have e_law_digit:Def K mg "_law_digit" gu ["_law_rest","_law_m"]:=cD d13 X G fun _ _ _ _ _ _=>fun us hl=>jg (fun _ _=>rfl) us hl
  have e_law_cord:Def K mg "_law_cord" h7 ["_law_cell","_law_nails_here","_law_wide_here","_law_most"]:=cD d14 X G fun _ _ _ _ _ _=>fun us hl=>Dq (fun _ _ _ _=>rfl) us hl
  have e_law_contrary:Def K mg "_law_contrary" eL ["_law_cord_here"]:=cD d15 X G fun _ _ _ _ _ _=>fun us hl=>kG (fun _=>rfl) us hl
  have e_law_right:Def K mg "_law_right" gv ["_law_found","_law_due"]:=cD d16 X G fun _ _ _ _ _ _=>fun us hl=>jg (fun _ _=>rfl) us hl
  have e_law_others:Def K mg "_law_others" fX ["_law_e"]:=cD d17 X G fun _ _ _ _ _ _=>fun us hl=>kG (fun _=>rfl) us hl
  have e_law_too_long:Def K mg "_law_too_long" eM ["_law_term"]:=cD d18 X G fun _ _ _ _ _ _=>fun us hl=>kG (fun _=>rfl) us hl
  have e_law_text:Def K mg "_law_text" h9 ["_law_cord_here"]:=cD d19 X G fun _ _ _ _ _ _=>fun us hl=>kG (fun _=>rfl) us hl
  have e_law_number:Def K mg "_law_number" fY ["_law_cell","_law_many"]:=cD d20 X G fun _ _ _ _ _ _=>fun us hl=>jg (fun _ _=>rfl) us hl
  have e_law_body:Def K mg "_law_body" ib ["_law_script"]:=cD d21 X G fun _ _ _ _ _ _=>fun us hl=>kG (fun _=>rfl) us hl
  have e_law_many_of:Def K mg "_law_many_of" e_ ["_law_cord_here","_law_number_here"]:=cD d22 X G fun _ _ _ _ _ _=>fun us hl=>jg (fun _ _=>rfl) us hl
  have e_read_times:Def K mg "read_times" dw ["text","place","depth"]:=cD d23 X G fun _ _ _ _ _ _=>fun us hl=>wH (fun _ _ _=>rfl) us hl
  have e_read_back:Def K mg "read_back" dY ["text","place","depth"]:=cD d24 X G fun _ _ _ _ _ _=>fun us hl=>wH (fun _ _ _=>rfl) us hl
  have e_read_part:Def K mg "read_part" dZ ["text","place","depth"]:=cD d25 X G fun _ _ _ _ _ _=>fun us hl=>wH (fun _ _ _=>rfl) us hl
  have e_read_parts:Def K mg "read_parts" eN ["text","start","depth"]:=cD d26 X G fun _ _ _ _ _ _=>fun us hl=>wH (fun _ _ _=>rfl) us hl
  have e_read:Def K mg "read" oX ["text"]:=cD d27 X G fun _ _ _ _ _ _=>fun us hl=>kG (fun _=>rfl) us hl
  refine ⟨PySem.W.fnOf "law" "law" (cJ lV) (bE lV) (ai lV) .none kV28 dc28 pm28 an28 cd28 ct28,fun s v=> .of_eq rfl,fun base _ _=>?_⟩
  obtain ⟨DIs,aIs,rIs⟩:=his
  have D_is_Term:=And.intro (PySem.W.mg_of X G aIs) rIs
  have D_contrary:=pX (P:=l.prog) (w:=w) (base:=base) e_contrary B
  have D_number_text:=lP (P:=l.prog) (w:=w) (base:=base) e_number_text B
  have D_repeated:=pZ (P:=l.prog) (w:=w) (base:=base) e_repeated B D_contrary
  have D_there_and_back:=jL (P:=l.prog) (w:=w) (base:=base) e_there_and_back B D_contrary
  obtain ⟨D_mk_Piece,D_mk_Parts,D_mk_Times,D_mk_Back,D_m_pieces,D_m_text,D_m_cord,R_m_cord⟩:=yg (P:=l.prog) (w:=w) (base:=base) X G B XX hPiece hParts hTimes hBack G_LONGEST D_number_text D_repeated D_there_and_back
  have D_is_nail:=qV (P:=l.prog) (w:=w) (base:=base) e_is_nail B
  have D_figures_end:=lR (P:=l.prog) (w:=w) (base:=base) e_figures_end B
  have D_number_end:=mR (P:=l.prog) (w:=w) (base:=base) e_number_end B G_MOST_FIGURES D_figures_end
  have D_read_number:=lS (P:=l.prog) (w:=w) (base:=base) e_read_number B D_number_end
  have D_behind:=ug (P:=l.prog) (w:=w) (base:=base) e_behind B
  have D_read_piece:=mS (P:=l.prog) (w:=w) (base:=base) e_read_piece B D_read_number D_mk_Piece
  have D_law_at:=uk (P:=l.prog) (w:=w) (base:=base) e_law_at B
  have D_law_mix:=qW (P:=l.prog) (w:=w) (base:=base) e_law_mix B
  have D_law_digit:=oS (P:=l.prog) (w:=w) (base:=base) e_law_digit B
  have D_law_cord:=p3 (P:=l.prog) (w:=w) (base:=base) e_law_cord B D_law_digit D_law_mix
  have D_law_contrary:=kI (P:=l.prog) (w:=w) (base:=base) e_law_contrary B
  have D_law_right:=oT (P:=l.prog) (w:=w) (base:=base) e_law_right B
  have D_law_others:=mT (P:=l.prog) (w:=w) (base:=base) e_law_others B XX
  have D_law_too_long:=kJ (P:=l.prog) (w:=w) (base:=base) e_law_too_long B D_m_cord R_m_cord D_law_others XX
  have D_law_text:=p4 (P:=l.prog) (w:=w) (base:=base) e_law_text B
  have D_law_number:=mU (P:=l.prog) (w:=w) (base:=base) e_law_number B
  have D_law_body:=p5 (P:=l.prog) (w:=w) (base:=base) e_law_body B D_law_at D_law_cord D_law_contrary D_law_text
  have D_law_many_of:=lU (P:=l.prog) (w:=w) (base:=base) e_law_many_of B D_law_contrary
  have D_read_parts:=mW (P:=l.prog) (w:=w) (base:=base) e_read_parts B e_read_times e_read_back e_read_part G_DEEPEST D_behind D_read_number D_mk_Times D_mk_Back D_is_nail D_read_piece D_mk_Parts
  have D_read:=yh (P:=l.prog) (w:=w) (base:=base) e_read B D_read_parts
  exact Av F0 B D_law_body D_law_at D_law_number D_law_many_of D_read D_is_Term D_m_pieces D_law_too_long D_m_cord D_law_right
theorem Dr {l:PySem.W.OpenLaw} {q:Program} {loose:List Str} {XP:(Str→Option Value)→Heap→Prop} {YP:World→Heap→Prop} {d:DefRec} {K:Params→PySem.W.Frag} (hn:l.most=some 63) (hdf:d.params.defaults=[])
    (hY:∀(w:World) (h:Heap),YP w h→(K w.params).In h∧r8 (K w.params) h)
    (F:∀(w:World) (mg:Str→Option Value) (fa:Addr) (h:Heap),(K w.params).In h→h.Ns mainGlobals mg→mg d.name=some (.ref fa)→
      ∃fd:FuncData,(∀(s:Shared) (u:Value),BindsTo s fd ⟨[u],[]⟩ [("_law_script",u)])∧∀base:Heap,(K w.params).In base→base.Ns mainGlobals mg→FnOk l.prog w (K w.params) mg base iu 106 fa fd ["_law_script"] (bV (K w.params) jn)):
    PySem.W.WalkO q loose XP YP l.row.toRowW d [] (fun f vs=>PySem.call f vs):=
  L2.vL (n:=63) (k:=106) (x:="_law_script") (CX:=fun _=>iu) (sp:=fun w=>bV (K w.params) jn) hn (by decide) hdf ⟨rfl,by decide,by decide⟩ hY F (fun _ _ a ns hl hS=>Aa (AK ns hl) hS) fun _ _ _ _ _ z=>z
end Nhk64
open PySem PySem.W PyProof.Rows
namespace PySem.W.Fast
def tw4237255267268968480:=0
def tw5541354362659032128:=0
def tw13972560633057326176:=0
def tw8611534358385675488:=0
def tw12449300667760167136:=0
def tw12487442763402702080:=0
def tw13349950676894342528:=0
def tw11820295712360399296:=0
def tw13450143880514883040:=0
def tw4028726781303224832:=0
def tw3653277200261549600:=0
def tw4651608671908790912:=0
def tw10465088455141413504:=0
def tw9358625877236578976:=0
def tw16106711777901854464:=0
def tw17290248073777353504:=0
def tw18375899065048298400:=0
def tw16643532250040381473:=0
def tw1004867268630101121:=0
def tw14399540520518301857:=0
def tw15374583009979904193:=0
def tw10672418201094038753:=0
def tw12063226187620963585:=0
def tw17515996142058710369:=0
def tw16545930548242613633:=0
def tw5994428861614914945:=0
def tw15242171497969297857:=0
def tw17436062197097722369:=0
def tw6671105689148759553:=0
def tw18189307197517663809:=0
def tw10865470145356091009:=0
def tw3750635920075293345:=0
def tw12372078109428436705:=0
def tw5731695166728744705:=0
def tw4001835107375373089:=0
def tw321853705726069601:=0
def tw13843541317101194242:=0
def tw17480801148659253250:=0
def tw13306677880062895170:=0
def tw13345337706575944802:=0
def tw1854315924836384962:=0
def tw6604895322593256738:=0
def tw14680386634851358018:=0
def tw370002537997838658:=0
def tw9546595911567060290:=0
def tw3908549009332003170:=0
def tw16900177419379997058:=0
def tw13438015160473424258:=0
def tw14521697990172514722:=0
def tw17913120114962250242:=0
def tw17200653012004312706:=0
def tw7896623002383808130:=0
def tw18435028116342382242:=0
def tw15599856312078495554:=0
def tw10482722509707756386:=0
def tw5835781460727781218:=0
def tw16794780093043121122:=0
def tw9841685717746378722:=0
def tw8284803979147505634:=0
def tw13913404668284616707:=0
def tw5689570830393457731:=0
def tw15130499042047232163:=0
def tw1041517771293953187:=0
def tw2886211782086953155:=0
def tw16046969706481632579:=0
def tw10261784790900406627:=0
def tw1458880941425404291:=0
def tw10444560966326721987:=0
def tw2038878703941108291:=0
def tw8235264606100250371:=0
def tw16057805288712678179:=0
def tw293947921974652771:=0
def tw14573448921453466531:=0
def tw17207486342963023908:=0
def tw4475581404177840196:=0
def tw18292268804916772964:=0
def tw5482513144064966820:=0
def tw789093821653941412:=0
def tw4528137155319050532:=0
def tw12109865734899254564:=0
def tw14050076929230342468:=0
def tw2854482665663040900:=0
def tw18374495760868015524:=0
def tw1866720547880134116:=0
def tw17297585070332940900:=0
def tw2040183581395741316:=0
def tw17359174278118419268:=0
def tw10050906612170122116:=0
def tw6452861716794368900:=0
def tw11083151168259598341:=0
def tw13680233988035136517:=0
def tw2998953464474847333:=0
def tw11305036771631247621:=0
def tw13253893781509817605:=0
def tw11428513249386295557:=0
def tw17379878998126600549:=0
def tw16939096672621650277:=0
def tw4264846555256382821:=0
def tw10008580736552575365:=0
def tw17972706300990966149:=0
def tw9442354515511078277:=0
def tw2409153543225872837:=0
def tw5753981030523354853:=0
def tw13529010065304353605:=0
def tw9426697033254956901:=0
def tw353781461989737349:=0
def tw1376176820683084709:=0
def tw10627913398426343430:=0
def tw1600367199158997094:=0
def tw18438433450934834406:=0
def tw10162680279399754982:=0
def tw17840910287987123654:=0
def tw13876940207539730150:=0
def tw12142141755429907174:=0
def tw14021892451120697126:=0
def tw8429255462749267846:=0
def tw104078268859996134:=0
def tw5030267887915072519:=0
def tw15338504360401687559:=0
def tw18398048612336220199:=0
def tw16287074052458484807:=0
def tw1249354272923661639:=0
def tw14257332229410348615:=0
def tw9071893609459068487:=0
def tw17218080599652489799:=0
def tw2603967993582115463:=0
def tw14674119788072426119:=0
def tw12761267914639648423:=0
def tw13433572257649120935:=0
def tw14446477380366701287:=0
def tw3861457480928810727:=0
def tw15074052328289148679:=0
def tw4362810166959269671:=0
def tw15360608311477627815:=0
def tw11203396721010603975:=0
def tw9559631113798635495:=0
def tw3804100898887404552:=0
def tw8318557168653838408:=0
def tw2609348077250289800:=0
def tw8748982643098102952:=0
def tw12959784062235753640:=0
def tw9938396478645891368:=0
def tw559221624417527112:=0
def tw12698804465698229640:=0
def tw1077045119796138504:=0
def tw2355300367610986088:=0
def tw8600882746678894280:=0
def tw16820156368874238057:=0
def tw12848378078655883401:=0
def tw2094674982797505673:=0
def tw1772557454858631337:=0
def tw2371474387132144809:=0
def tw10087586323958958377:=0
def tw478309086316285257:=0
def tw11846584085807362377:=0
def tw7719977409229452681:=0
def tw8516611372181456457:=0
def tw5854602785811268201:=0
def tw17562461250971669097:=0
def tw17832350589121493609:=0
def tw5259926676634007241:=0
def tw4878810599118837481:=0
def tw10468165266513372937:=0
def tw2317761074740633545:=0
def tw17850071718290074666:=0
def tw12826710434054726730:=0
def tw12845405385875328138:=0
def tw4585503357529073834:=0
def tw17877234374842220714:=0
def tw2598849063967022314:=0
def tw13558376107438630122:=0
def tw5463505669648509194:=0
def tw5487320104967477610:=0
def tw5372227854120474986:=0
def tw4347352030891808202:=0
def tw7999486333757412810:=0
def tw12219294750249237962:=0
def tw7813621857228854762:=0
def tw8321757158045308490:=0
def tw12196954833860748906:=0
def tw2040296145793719946:=0
def tw11537602089046337194:=0
def tw8228224470747154186:=0
def tw15522155735097689962:=0
def tw17547429902329012170:=0
def tw5915315613364471786:=0
def tw8076439132752926731:=0
def tw15933371196297938987:=0
def tw14561730926422566987:=0
def tw6440234859215236267:=0
def tw37265895375817899:=0
def tw14084795238490143019:=0
def tw4043334074996615563:=0
def tw12070933015198182827:=0
def tw14547394108733433291:=0
def tw3052032456458701291:=0
def tw7228630446685394411:=0
def tw5253142659829148171:=0
def tw14518508961945073227:=0
def tw13432756274552395435:=0
def tw1264968022123839147:=0
def tw16321637320479306475:=0
def tw8977038949749425995:=0
def tw16618946461814635339:=0
def tw686885353903998891:=0
def tw2737148631436777387:=0
def tw406774809297622987:=0
def tw4336169421440693227:=0
def tw8137203765729935372:=0
def tw5737452369342603372:=0
def tw3903720184215190700:=0
def tw15541773490131466412:=0
def tw12802788298417670348:=0
def tw18273870985449974028:=0
def tw14681339030739061036:=0
def tw18057985291488092556:=0
def tw3193539828019101100:=0
def tw6236306765589980812:=0
def tw4806118953323046604:=0
def tw12562664987218484044:=0
def tw17873421501893334860:=0
def tw11266819985495876460:=0
def tw10044439025165365132:=0
def tw8472399723952630668:=0
def tw10261326700661454828:=0
def tw2560951189430644716:=0
def tw18325846329515804685:=0
def tw17213312786937066573:=0
def tw6596449335421820013:=0
def tw17876225531092334701:=0
def tw1418252960335800589:=0
def tw7898877569912502797:=0
def tw4159608240066821645:=0
def tw8798865373500749421:=0
def tw916798569693987437:=0
def tw14853164949849517709:=0
def tw667694223861752525:=0
def tw2663402761877032749:=0
def tw3330388689746341709:=0
def tw16749436184855026541:=0
def tw9031586322864212877:=0
def tw7747101098177308686:=0
def tw11166152406869322798:=0
def tw8538583012766699662:=0
def tw14586718131173002510:=0
def tw18096059327821473102:=0
def tw4463654840731444622:=0
def tw6887991124996729262:=0
def tw13036268026600777134:=0
def tw7280651853948391886:=0
def tw16390941039589093870:=0
def tw2140642353654138510:=0
def tw5262191135572190030:=0
def tw12549241892959527790:=0
def tw7069841282105928622:=0
def tw10141515070458297519:=0
def tw16565973089065092335:=0
def tw9983259977374170415:=0
def tw4470009913684911471:=0
def tw14201614442878307823:=0
def tw11355350854066776591:=0
def tw6869589946870005263:=0
def tw3636864948192279151:=0
def tw94859275555362447:=0
def tw836517239847527119:=0
def tw2496935411858244335:=0
def tw14854703929030187823:=0
def tw7483932956626690927:=0
def tw8378776932274062191:=0
def tw7447042948943875023:=0
def tw15263259486461269999:=0
def tw10716283001528466704:=0
def tw13064256423988644112:=0
def tw1162925086485993744:=0
def tw2398920997380879632:=0
def tw1097319124320605616:=0
def tw1698922400240108048:=0
def tw16745921090704957040:=0
def tw16495129584388487824:=0
def tw9788956596971583184:=0
def tw17347055156006175472:=0
def tw7139571584198831856:=0
def tw6182708192699180848:=0
def tw3160799389951924144:=0
def tw10480414863524183024:=0
def tw11446604405117217905:=0
def tw11700877057457075409:=0
def tw4732901695653709073:=0
def tw8413446084123464977:=0
def tw11039643680683563313:=0
def tw10701387393713677617:=0
def tw10519942311218328881:=0
def tw9422585623429630417:=0
def tw958496735590046161:=0
def tw1043796491051957745:=0
def tw8586110177164695057:=0
def tw11180042854273448497:=0
def tw8205900036582121073:=0
def tw8112266382507948689:=0
def tw1353238462169718513:=0
def tw11947901737643423537:=0
def tw10438313546367765425:=0
def tw15948835658887268305:=0
def tw1780331509603898418:=0
def tw4217200581884229682:=0
def tw1137609468442523698:=0
def tw2892132430237962386:=0
def tw10863968678226479250:=0
def tw15232221671921741010:=0
def tw7517569470337055954:=0
def tw951060148484940082:=0
def tw16969204586031698226:=0
def tw2879183126889795986:=0
def tw7181531176213972434:=0
def tw7071187488538236434:=0
def tw8806597783320621618:=0
def tw9369793809620263538:=0
def tw18355081154250787698:=0
def tw8100428484593996754:=0
def tw13793626117915460691:=0
def tw9788551223563351123:=0
def tw5759330997275642099:=0
def tw16207896015306331379:=0
def tw15657998789981844851:=0
def tw914193433022483923:=0
def tw9311989807016156659:=0
def tw6639849908614669811:=0
def tw1690363474377288211:=0
def tw4830530418597871379:=0
def tw11941629693386608467:=0
def tw3603281919782771:=0
def tw15653065754497096595:=0
def tw15178778600098653107:=0
def tw7525631206375047155:=0
def tw15956581945716390899:=0
def tw14998106596418762836:=0
def tw8910971881231078484:=0
def tw15195687617725245556:=0
def tw7862180187458514068:=0
def tw17064678741574804660:=0
def tw12743960258378236180:=0
def tw6461172108859571508:=0
def tw11378210587486628308:=0
def tw9916417474689273300:=0
def tw7308812633104611892:=0
def tw12566821561745543796:=0
def tw4963987821546503796:=0
def tw3879767977477774996:=0
def tw5477875614025971348:=0
def tw8242188581537991444:=0
def tw13831531550481349396:=0
def tw17380126305379670836:=0
def tw1559099752612420564:=0
def tw9250652183522179060:=0
def tw11922030070994939925:=0
def tw2891939038591377461:=0
def tw7554406036404581685:=0
def tw17628385067317805365:=0
def tw9689875572190290293:=0
def tw13939046377964922261:=0
def tw18039666472894511605:=0
def tw2122400248510987765:=0
def tw5031119467652313717:=0
def tw17600855411823409909:=0
def tw264686719243074325:=0
def tw15140037607138996021:=0
def tw4060679640176249653:=0
def tw4624894798168526709:=0
def tw10583306697949761525:=0
def tw3233889375049366517:=0
def tw13514616114867033110:=0
def tw4425362207986211062:=0
def tw5481062822313167126:=0
def tw11506411668940203382:=0
def tw15085226914605476214:=0
def tw326021105805022582:=0
def tw6023670471931701654:=0
def tw14117185910746664374:=0
def tw12153220412910670294:=0
def tw15236453712433892918:=0
def tw611417069186058902:=0
def tw15006342168669256438:=0
def tw15649100066989289270:=0
def tw11945023178600953654:=0
def tw12283107756503654198:=0
def tw12120275234226307990:=0
def tw443816751139014582:=0
def tw14863631963042028502:=0
def tw13171394015396284406:=0
def tw11993799894684570614:=0
def tw2803812492893924342:=0
def tw15754414493037778967:=0
def tw3085175854610634807:=0
def tw7955866677849083095:=0
def tw8652588870814001367:=0
def tw7219526455872808183:=0
def tw2197624020572872951:=0
def tw2037952019274940663:=0
def tw507824675440557399:=0
def tw8905770380685562231:=0
def tw15635470518138004855:=0
def tw8190632139308678647:=0
def tw6293860287478116887:=0
def tw10734805660345637463:=0
def tw123615614238571191:=0
def tw745293137225529047:=0
def tw5710925447313444567:=0
def tw1956738581748770519:=0
def tw1927475100320133879:=0
def tw12743822559854715671:=0
def tw7460209307065617207:=0
def tw3515171209212503895:=0
def tw11048614583504094071:=0
def tw15109447575636157303:=0
def tw2158421390276133783:=0
def tw6159678930730406807:=0
def tw15733291094089503671:=0
def tw8699897183246778359:=0
def tw8507831832389272600:=0
def tw3509452901781639320:=0
def tw6181032496288745688:=0
def tw6887361740984273144:=0
def tw10586849179421238648:=0
def tw5474901657450638968:=0
def tw210478676636602040:=0
def tw6450026480879736568:=0
def tw3730013812367708952:=0
def tw15759625601326804792:=0
def tw5522665408553482072:=0
def tw14378973626739945304:=0
def tw12724093731867551704:=0
def tw3498241508632877305:=0
def tw18220412694645813657:=0
def tw4921888148283860377:=0
def tw8329826431764157977:=0
def tw1039032857437372953:=0
def tw3152558654723224313:=0
def tw10883086197972685689:=0
def tw17988995928603424697:=0
def tw16009787391397177273:=0
def tw18398210716492845017:=0
def tw223688580062862362:=0
def tw17305856807503261754:=0
def tw18278489018510971994:=0
def tw13041320309202680954:=0
def tw7170426784428131578:=0
def tw6024252513365816730:=0
def tw14220655390457049530:=0
def tw10646899924565835194:=0
def tw10152908410202936922:=0
def tw2021023107156334202:=0
def tw10110152632504649338:=0
def tw10110581747658522266:=0
def tw15227342114008271546:=0
def tw16656017651205803738:=0
def tw700003304520369914:=0
def tw1575452195789640666:=0
def tw14821982633597503450:=0
def tw16478755668345625659:=0
def tw15312168172243462331:=0
def tw10340318056858987771:=0
def tw7843009742709440795:=0
def tw1095843714785826139:=0
def tw3366559542684328315:=0
def tw9225321499799309787:=0
def tw16798864172290745819:=0
def tw4409940206011443771:=0
def tw2099277084143408731:=0
def tw1074906648543220347:=0
def tw490407569370355387:=0
def tw14498654833120462555:=0
def tw1282163323797328635:=0
def tw1813904787887820603:=0
def tw2079893081909549915:=0
def tw14823410099139510267:=0
def tw1361181078414014524:=0
def tw3669535280095162492:=0
def tw13893846421223497852:=0
def tw4488988733813798044:=0
def tw10225123062745777308:=0
def tw16124240368605796540:=0
def tw4587628645773119740:=0
def tw16206142971404821756:=0
def tw5176991868241659196:=0
def tw17936341554081076604:=0
def tw12950541400011102716:=0
def tw5078460422878196252:=0
def tw5747766966986930716:=0
def tw9789910410980880956:=0
def tw14949106942581064316:=0
def tw2940625523864278716:=0
def tw1192783093936873148:=0
def tw13499353674828735164:=0
def tw14322572671324403452:=0
def tw3969990253053088572:=0
def tw9539069388708815772:=0
def tw14151927139538706364:=0
def tw6704070312040390620:=0
def tw8371930717391204348:=0
def tw10107679102455742493:=0
def tw1824181792484789277:=0
def tw12525199196093313053:=0
def tw17311872205324087517:=0
def tw9044205345268342013:=0
def tw9190478213682745597:=0
def tw3773658438142725437:=0
def tw14475952991260008797:=0
def tw6742917291506876893:=0
def tw4455742827875920349:=0
def tw11113503850175228477:=0
def tw4237448703141885565:=0
def tw4723427354705268413:=0
def tw6981709444687047421:=0
def tw1850565895915177853:=0
def tw8194493283104120701:=0
def tw5593423329693461373:=0
def tw6741395515199342493:=0
def tw18331334567939560381:=0
def tw15729074142520367101:=0
def tw8762280365245967710:=0
def tw1258265658154584574:=0
def tw10879994907596295742:=0
def tw11445920089618497086:=0
def tw8753084064969844350:=0
def tw722425897194238:=0
def tw11710219327260596990:=0
def tw3619713842725865310:=0
def tw9070100385424255870:=0
def tw10297607209676142494:=0
def tw18006799636970746814:=0
def tw8850416121787700158:=0
def tw17377219468445976542:=0
def tw3561043541243996351:=0
def tw2919127097512352991:=0
def tw8591935115625352447:=0
def tw8915809843146561983:=0
def tw538488071531661791:=0
def tw1855666070944919039:=0
def tw7952804554906134079:=0
def tw8259957754710798015:=0
def tw14664506439253459711:=0
def tw4987782043861708575:=0
def tw16604723466600603551:=0
def tw10879132194058350527:=0
def tw11917720890839847935:=0
def tw7433701141583933234:=0
end PySem.W.Fast
set_option maxRecDepth 100000 in
set_option maxHeartbeats 0 in
theorem PySem.Challenge.cw_nailhang_k64_too_long_holds : PySem.Challenge.rw_nailhang_k64_too_long.Holds := by
  w_on;o_law;k_head;(case hw=>w_witness2)
  k_fill
  refine Nhk64.Dr (l:=PySem.Challenge.rw_nailhang_k64_too_long) rfl rfl (fun w h Y=>⟨PySem.W.kIn_of Y,Nhk64.yx (by k_is) (by k_is) (by k_is) (by k_is) (by k_is) (by k_is) (by k_is) (by k_is)⟩) ?F
  case F=>
    intro w mg fa h KX G hmg
    refine' Nhk64.AM KX G hmg (PL.BK KX G ?_ ?_ ?_ ?_ ?_ ?_ ?_ ?_ ?_ ?_ ?_ ?_ ?_ ?_ ?_ ?_ ?_ ?_ ?_ ?_) ?hPiece ?hParts ?hTimes ?hBack ?his ?_ ?_ ?_ ?_ ?_ ?_ ?_ ?_ ?_ ?_ ?_ ?_ ?_ ?_ ?_ ?_ ?_ ?_ ?_ ?_ ?_ ?_ ?_ ?_ ?_ ?_ ?_ ?_ ?g_DEEPEST ?g_LONGEST ?g_MOST_FIGURES ?qc_NoCord ?qc_NoNails ?qc_NoRule ?qc_NoText ?qc_NoMove ?qc_NoLine ?qc_NoName ?qc_NoNumber ?qc_TooMany ?qc_TooLong ?qc_Term ?qc_Piece ?qc_Parts ?qc_Times ?qc_Back ?qc_ValueError ?qc_HangError ?w1_TooLong ?w2_TooLong ?w3_TooLong ?w4_TooLong ?w5_TooLong ?w6_TooLong ?w7_TooLong ?y_TooLong_NoCord ?y_TooLong_NoNails ?y_TooLong_NoRule ?y_TooLong_NoText ?y_TooLong_NoMove ?y_TooLong_NoLine ?y_TooLong_NoName ?y_TooLong_NoNumber ?y_TooLong_TooMany ?y_TooLong_TooLong ?y_TooLong_Term ?y_TooLong_Piece ?y_TooLong_Parts ?y_TooLong_Times ?y_TooLong_Back ?y_TooLong_ValueError ?y_TooLong_HangError
    case hPiece=>refine' Nhk64.uy ?_ ?_ ?_ ?_ ?_ ?_ ?_ ?_ ?_ ?_ ?_ ?_ ?_ ?_ ?_ <;> first | (refine' PL.sd ?_ ?_ ?_ ?_ ?_ <;> first | k_is | skip) | k_is | skip
    case hParts=>refine' Nhk64.uz ?_ ?_ ?_ ?_ ?_ ?_ ?_ ?_ ?_ ?_ ?_ ?_ ?_ ?_ ?_ <;> first | (refine' PL.sd ?_ ?_ ?_ ?_ ?_ <;> first | k_is | skip) | k_is | skip
    case hTimes=>refine' Nhk64.uA ?_ ?_ ?_ ?_ ?_ ?_ ?_ ?_ ?_ ?_ ?_ ?_ ?_ ?_ ?_ <;> first | (refine' PL.sd ?_ ?_ ?_ ?_ ?_ <;> first | k_is | skip) | k_is | skip
    case hBack=>refine' Nhk64.wI ?_ ?_ ?_ ?_ ?_ ?_ ?_ ?_ ?_ ?_ ?_ ?_ ?_ ?_ ?_ <;> first | (refine' PL.sd ?_ ?_ ?_ ?_ ?_ <;> first | k_is | skip) | k_is | skip
    case his=>refine' Nhk64.AL ?_ ?_ ?_ ?_ ?_ ?_ ?_ ?_ ?_ ?_ ?_ ?_ ?_ ?_ ?_ ?_ ?_ ?_ ?_ ?_ ?_ ?_ ?_ ?_ ?_ ?_ ?_ <;> first | k_is | kit_is | skip
    (case g_DEEPEST=>k_is)
    (case g_LONGEST=>k_is)
    (case g_MOST_FIGURES=>k_is)
    (case qc_NoCord=>k_is)
    (case qc_NoNails=>k_is)
    (case qc_NoRule=>k_is)
    (case qc_NoText=>k_is)
    (case qc_NoMove=>k_is)
    (case qc_NoLine=>k_is)
    (case qc_NoName=>k_is)
    (case qc_NoNumber=>k_is)
    (case qc_TooMany=>k_is)
    (case qc_TooLong=>k_is)
    (case qc_Term=>k_is)
    (case qc_Piece=>k_is)
    (case qc_Parts=>k_is)
    (case qc_Times=>k_is)
    (case qc_Back=>k_is)
    (case qc_ValueError=>k_is)
    (case qc_HangError=>k_is)
    (case w1_TooLong=>k_exc)
    (case w2_TooLong=>kernel_rfl)
    (case w3_TooLong=>k_is)
    (case w4_TooLong=>k_is)
    (case w5_TooLong=>k_is)
    (case w6_TooLong=>k_is)
    (case w7_TooLong=>k_is)
    (case y_TooLong_NoCord=>kit_is)
    (case y_TooLong_NoNails=>kit_is)
    (case y_TooLong_NoRule=>kit_is)
    (case y_TooLong_NoText=>kit_is)
    (case y_TooLong_NoMove=>kit_is)
    (case y_TooLong_NoLine=>kit_is)
    (case y_TooLong_NoName=>kit_is)
    (case y_TooLong_NoNumber=>kit_is)
    (case y_TooLong_TooMany=>kit_is)
    (case y_TooLong_TooLong=>kit_is)
    (case y_TooLong_Term=>kit_is)
    (case y_TooLong_Piece=>kit_is)
    (case y_TooLong_Parts=>kit_is)
    (case y_TooLong_Times=>kit_is)
    (case y_TooLong_Back=>kit_is)
    (case y_TooLong_ValueError=>kit_is)
    (case y_TooLong_HangError=>kts_exm)
    all_goals first | (refine' Nhk64.Ce ?_ ?_ ?_ ?_ <;> first | k_is | skip) | k_is
