import PyProof.Rows.All
import KE.KLam
import KE.KNestM
import PyProof.OldK
import Wide.All
import OpenK.AllK
import Wide.FinOn
import Lean
import PyProof.EqAt
import PyProof.EqKinds
import PyProof.TupleCall
import KE.KRevIter
import PyProof.Rows.SeqMore
import PyProof.Rows.ListMulArg
import PyProof.ZipIter
import PyProof.Rows.ZipGen
import PyProof.EnumMake
import PyProof.StrWalks
import PyProof.SliceStr2
import PyProof.StrBlockH
import PyProof.FString5
import PyProof.Rows.StrJoin2
import PyProof.Rows.Range3
import KE.KDictLaws
import PyProof.ConsumeWalk
import PyProof.SumWalkG
import PyProof.Rows.SeqCalls
import PyProof.Rows.SeqGen
import PyProof.Rows.MinMaxN
import PyProof.Rows.CallKwBuiltin
import PyProof.Rows.SortStr
import PyProof.StrOps2
import PyProof.Rows.StrMul
import PyProof.IsRules
import PyProof.Rows.SetFrom
import PyProof.CollectStr
import PyProof.ListStr
import PyProof.StrOps
import PyProof.TupleOfGen
import KE.KTryMore
import KE.KSortTup
import PyProof.Rows.SortRuns
import PyProof.Rows.SortKey
import PyProof.RulesTry
import PyProof.StrLawsIn
import PyProof.StrLawsNeg
import PyProof.StrLawsTight
import PyProof.StrLawsChain
import KE.RegKIsAll
import KE.RegKTryMore
import PySem.Challenge.RW_nailhang_k41_what_is_a_rule
set_option Elab.async false
set_option linter.all false
set_option maxRecDepth 100000
set_option maxHeartbeats 4000000
local macro_rules | `(tactic|omega) => `(tactic|lia)
noncomputable section
theorem Z0{α β:Type}(a:α)(f:α→Option β):(some a).bind f=f a:=rfl
theorem Z1{α β:Type}{x:α}{f:α→β}:(some x).map f=some (f x):=rfl
theorem Z2{α:Type}{a:α}{l:List α}:(a::l)[0]? =some a:=rfl
theorem Z3{α:Type}{a:α}{l:List α}{i}:(a::l)[i+1]? =l[i]? :=rfl
theorem Z4{α:Type}{a:α}{l:List α}:(a::l).length=l.length+1:=rfl
theorem Z5{α:Type}:([]:List α).length=0:=rfl
theorem Z6{α:Type}{a b:α}{l:List α}:(a::l).set 0 b=b::l:=rfl
theorem Z7{α:Type}{a b:α}{l:List α}{n}:(a::l).set (n+1) b=a::l.set n b:=rfl
theorem Z8{α:Type}{l:List α}:[]++l=l:=rfl
theorem Z9{α:Type}{a:α}{l m:List α}:a::l++m=a::(l++m):=rfl
def bQ:=@And.intro _ _ @Bool.false_and <|And.intro @Bool.false_eq_true <|And.intro @if_true.{1} <|And.intro @if_false.{1} <|And.intro @Nat.zero_add <|And.intro @Bool.not_false <|And.intro @Bool.and_true <|And.intro @decide_true <|And.intro @decide_false <|And.intro @Bool.true_or <|And.intro @Bool.true_and @Bool.not_true
def Za:=@Option.bind_eq_some_iff
def dF:=@PySem.Heap.get?_push_of_some
def Zab:=@Option.map_eq_some_iff
def fJ:=@List.mem_cons_of_mem
def dY:=@List.length_map
def gk:=@List.mem_cons_self
def Zaf:=@List.mem_cons
def dQ:=@List.map_cons
def dM:=@PySem.Heap.lt_size
def ie:=@PySem.Heap.get?_push_size
def jx:=@List.mem_append_right
def Zak:=@List.mem_singleton
def dE:=@Nat.le_refl
def eF:=@Nat.ne_of_lt
def jH:=@Nat.lt_of_lt_of_le
def Zao:=@List.mem_append
def oR:=@List.getElem?_eq_getElem
def kJ:=@List.size_toArray
def Zar:=@List.getElem?_eq_some_iff
def lQ:=@Bool.and_eq_true
def n_:=@Bool.false_ne_true
def Zau:=@List.mem_map
def vp:=@PySem.Heap.get?_update_other
def kK:=@Nat.le_trans
def vq:=@PySem.Heap.get?_update_self
def q_:=@List.getElem?_map
def Bx:=@List.getElem?_append_right
def Zb:=@List.mem_append_left
def By:=@List.drop_eq_getElem_cons
def vt:=@Nat.lt_succ_of_lt
def Zbc:=@List.nodup_append
def Bz:=@Nat.add_sub_cancel_left
def oa:=@List.map_nil
def wM:=@List.length_append
def tR:=@List.append_nil
def rh:=@PySem.Heap.size_push
def yC:=@Array.length_toList
def Zbj:=@List.all_eq_true
def tU:=@List.map_append
def wN:=@Int.toNat_natCast
open PySem.W (instObj tabObj methodObj hideAll hideAll_get of_hideAll Frag nsIn lookIn findIn mroIn kitOne kia_one kitx_list kitx_dict keepIn callWith_K cellsFrom_some fnOf codeIn codeRec_of mg_of mg_none_of OpenLaw funFrames_hide excIn exmOne codeHdIn kla_fn codeHd_of_K kla_obj envX)
local macro_rules | `(tactic|and_intros)=>`(tactic|exact⟨rfl,rfl,rfl,by decide+kernel,rfl,by decide+kernel,by decide+kernel⟩)
namespace L2
open PySem PySem.Spec PyProof.Rows
abbrev eZ:=Sum Int Str
def oS:eZ→Value→Bool
 |.inl k,v=>Value.isInt k v
 |.inr x,v=>Value.isStrOf x v
def HV(w:World):eZ→Int
 |.inl k=>hashInt k
 |.inr x=>hashStr w x
theorem ce:∀{k:eZ} {v:Value},oS k v=true→(∃i t,k=Sum.inl i∧v=Value.int i t)∨(∃x t,k=Sum.inr x∧v=Value.str x t)
 |.inl i,v,h=>by
  obtain⟨t,e⟩:=Value.isInt_shape (k:=i) (v:=v) h
  exact .inl ⟨i,t,rfl,e⟩
 |.inr x,v,h=>by
  obtain⟨t,e⟩:=Value.isStrOf_shape (x:=x) (v:=v) h
  exact .inr ⟨x,t,rfl,e⟩
theorem wO(i:Int)(t:Tok):oS (.inl i) (.int i t)=true:=by simp[oS,Value.isInt]
theorem wP(x:Str)(t:Tok):oS (.inr x) (.str x t)=true:=by simp[oS,Value.isStrOf]
theorem D7(a b:Int):decide ((Sum.inl a:eZ)=Sum.inl b)=(a == b):=by
 by_cases e:a=b
 ·subst e;simp
 ·have h:¬(Sum.inl a:eZ)=Sum.inl b:=fun q=>e (Sum.inl.inj q)
  rw[decide_eq_false h]
  exact(beq_eq_false_iff_ne.mpr e).symm
theorem D8(a b:Str):decide ((Sum.inr a:eZ)=Sum.inr b)=decide (a=b):=by
 by_cases e:a=b
 ·subst e;simp
 ·have h:¬(Sum.inr a:eZ)=Sum.inr b:=fun q=>e (Sum.inr.inj q)
  rw[decide_eq_false h,decide_eq_false e]
theorem D9(a:Int)(b:Str):decide ((Sum.inl a:eZ)=Sum.inr b)=false:=decide_eq_false (fun q=>nomatch q)
theorem D_(a:Str)(b:Int):decide ((Sum.inr a:eZ)=Sum.inl b)=false:=decide_eq_false (fun q=>nomatch q)
def eG(prog:Program)(w:World):PySem.KeyKind prog w eZ where
 is:=oS
 hash:=HV w
 inj:=fun v a b ha hb=>by
  rcases ce ha with⟨i,t,rfl,rfl⟩ |⟨x,t,rfl,rfl⟩
  ·rcases ce hb with⟨j,u,rfl,e⟩ |⟨y,u,rfl,e⟩
   ·injection e with e1 _;rw[e1]
   ·exact nomatch e
  ·rcases ce hb with⟨j,u,rfl,e⟩ |⟨y,u,rfl,e⟩
   ·exact nomatch e
   ·injection e with e1 _;rw[e1]
 byValue:=fun k v h=>by
  rcases ce h with⟨i,t,rfl,rfl⟩ |⟨x,t,rfl,rfl⟩ <;> rfl
 pyHash:=fun hv h=>by
  rcases ce hv with⟨i,t,rfl,rfl⟩ |⟨x,t,rfl,rfl⟩
  ·exact wpAny_pyHash_int h
  ·exact wpAny_pyHash_str h
 eqBool:=fun hu hv h=>by
  rcases ce hu with⟨i,t,rfl,rfl⟩ |⟨x,t,rfl,rfl⟩
  ·rcases ce hv with⟨j,u,rfl,rfl⟩ |⟨y,u,rfl,rfl⟩
   ·rw[D7]at h;exact wpAny_eqBool_int h
   ·rw[D9]at h;exact SeqAt.EqAt.int_str i t y u _ _ _ _ h
  ·rcases ce hv with⟨j,u,rfl,rfl⟩ |⟨y,u,rfl,rfl⟩
   ·rw[D_]at h;exact SeqAt.EqAt.str_int x t j u _ _ _ _ h
   ·rw[D8]at h;exact wpAny_eqBool_str h
 «strs»:=fun k x t v h=>by
  rcases ce h with⟨i,u,rfl,e⟩ |⟨y,u,rfl,e⟩
  ·exact nomatch e
  ·injection e with e1 _
   subst e1
   cases v <;> rfl
theorem rj(prog:Program)(w:World)(i:Int)(t:Tok):(eG prog w).is (.inl i) (.int i t)=true:=wO i t
theorem rl(prog:Program)(w:World)(x:Str)(t:Tok):(eG prog w).is (.inr x) (.str x t)=true:=wP x t
end L2
namespace L2
open PySem PySem.Spec PyProof.Rows
inductive V where
 |non |bl (b:Bool) |int (i:Int) |str (x:Str) |byt (b:Array UInt8) |flt (b:UInt64) |ref (a:Addr) |ty (n:String)
 deriving DecidableEq
def RelV:V→Value→Prop
 |.non,u=>u=Value.none
 |.bl b,u=>u=Value.bool b
 |.int i,u=>∃t,u=Value.int i t
 |.str x,u=>∃t,u=Value.str x t
 |.byt b,u=>∃t,u=Value.bytes b t
 |.flt b,u=>∃t,u=Value.float b t
 |.ref a,u=>u=Value.ref a
 |.ty n,u=>u=Value.type n
abbrev Vals:List V→List Value→Prop:=Paired RelV
theorem Vals.length{xs:List V}{us:List Value}(r:Vals xs us):xs.length=us.length:=Paired.length r
theorem Vals.get:∀{xs:List V} {us:List Value} {i:Nat} {x:V},Vals xs us→xs[i]? =some x→∃u,us[i]? =some u∧RelV x u
 |_,_,_,_,.nil,e=>by simp at e
 |_,_,0,_,.cons r _,e=>by simp at e;subst e;exact⟨_,rfl,r⟩
 |_,_,i+1,x,.cons _ t,e=>by
  obtain⟨u,h1,h2⟩:=Vals.get (i:=i) (x:=x) t (by simpa using e)
  exact⟨u,by simpa using h1,h2⟩
theorem Vals.append:∀{xs ys:List V} {us ws:List Value},Vals xs us→Vals ys ws→Vals (xs++ys) (us++ws)
 |_,_,_,_,.nil,s=>s
 |_,_,_,_,.cons r t,s=>.cons r (Vals.append t s)
theorem Vals.take:∀{xs:List V} {us:List Value} (n:Nat),Vals xs us→Vals (xs.take n) (us.take n)
 |_,_,0,_=>.nil
 |_,_,_+1,.nil=>.nil
 |_,_,n+1,.cons r t=>.cons r (Vals.take n t)
theorem Vals.drop:∀{xs:List V} {us:List Value} (n:Nat),Vals xs us→Vals (xs.drop n) (us.drop n)
 |_,_,0,r=>r
 |_,_,_+1,.nil=>.nil
 |_,_,n+1,.cons _ t=>Vals.drop n t
def Ea:Option V→Option Value→Prop
 |some v,some u=>RelV v u
 |none,none=>True
 |_,_=>False
def KV{κ:Type}:List (κ×V)→List (κ×Value)→Prop:=Paired fun(p:κ×V) (q:κ×Value)=>p.1=q.1∧RelV p.2 q.2
def kV:eZ→V
 |.inl i=>.int i
 |.inr x=>.str x
inductive HO where
 /-- a list -/
 |lst (xs:List V)
 /-- a tuple (never changes) -/
 |tup (xs:List V)
 /-- a dict whose keys are ints and texts;one whose keys are tuples of ints and texts (the empty one is both) -/
 |dK (kvs:List (eZ×V)) |dT (kvs:List (List eZ×V))
 /-- a set of ints:its members,its size -/
 |set (S:Int→Bool) (n:Nat)
 /-- an instance of the class at C,its dict at dx,its attributes -/
 |ins (C dx:Addr) (fs:List (Str×V))
 /-- the dict of the instance at x -/
 |own (x:Addr)
 /-- the dict of an exception -/
 |xd (fs:List (Str×V))
 /-- a bound method,f of x -/
 |met (f x:Addr)
 /-- a range object lo,lo+1,.. below hi -/
 |rng (lo hi:Int)
 /-- a thing that is known to the object (the script;a dict while a loop walks it):read,never written while it is so -/
 |frz (o:Obj) (u:HO)
 /-- a code object's table -/
 |tbl (q:Str)
 /-- any other thing,by what is true of its one object (a def of one's own:SetO a S n:=HO.ext fun h=> ..) -/
 |ext (φ:Heap→Prop)
abbrev Hp:=Addr→Option HO
def upd(H:Hp)(a:Addr)(o:HO):Hp:=fun b=>if b=a then some o else H b
theorem upd_same{H:Hp}{a:Addr}{o:HO}:upd H a o a=some o:=by unfold upd;rw[if_pos rfl]
theorem ar{H:Hp}{a b:Addr}{o:HO}(h:b≠a):upd H a o b=H b:=by unfold upd;rw[if_neg h]
theorem bj{H:Hp}{a b:Addr}{o:HO}(h:H a=some o)(h':H b=none):a≠b:=by
 intro e;subst e;rw[h]at h';cases h'
section
variable (P:Program) (w:World)
def ObjOk(H:Hp)(h:Heap)(a:Addr):HO→Prop
 |.lst xs=>xs.length≤sizeLine∧∃(its:List Value) (n:Nat),Vals xs its∧h.get? a=some {cls:=.type "list",data:=.seq its.toArray n}
 |.tup xs=>xs.length≤sizeLine∧∃its:List Value,Vals xs its∧IsTup h a its.toArray
 |.dK kvs=>kvs.length≤sizeLine∧(a == sysModules)=false∧∃vs,KV kvs vs∧h.DictOf (eG P w) a vs
 |.dT kvs=>kvs.length≤sizeLine∧(a == sysModules)=false∧∃xs:List (List eZ×Addr×Value),
   Paired (fun(p:List eZ×V) (q:List eZ×Addr×Value)=>p.1=q.1∧H q.2.1=some (.tup (p.1.map kV))∧RelV p.2 q.2.2) kvs xs∧
   ∃o es ep,h.get? a=some o∧o.ExactDict∧o.data=.dict es ep∧es.toList=xs.map (entryOfKey (tupleKind (eG P w)))∧(xs.map (·.1)).Nodup
 |.set S n=>h.SetOf (intKind P w) a S n
 |.ins C dx fs=>H dx=some (.own a)∧fs.length≤1000∧dx≠a∧h.get? a=some (instObj C dx)∧
   ∃mA,h.Ns1 dx mA∧(∀f,Ea (fs.lookup f) (mA f))∧PySem.Within mA (fs.map (·.1))
 |.own _=>∃o,h.get? a=some o
 |.xd fs=>∃mA,h.Ns1 a mA∧∀f,Ea (fs.lookup f) (mA f)
 |.rng lo hi=>∃t u v,h.get? a=some {cls:=.type "range",data:=.fields #[.int lo t,.int hi u,.int 1 v]}
 |.frz o u=>h.get? a=some o∧ObjOk H h a u
 |.tbl q=>∃ps:Array Value,h.get? a=some (tabObj ps)∧TriplesOk ps.toList∧∀pos cv,codeAmong pos ps.toList=some cv→∃c,cv=Value.ref c∧H c=some (.own a)∧h.CodeRec cv q
 |.met f x=>h.get? a=some (methodObj (.ref f) (.ref x))
 |.ext φ=>φ h∧(∃o,h.get? a=some o)∧∀h1 h2:Heap,φ h1→(∀o,h1.get? a=some o→h2.get? a=some o)→φ h2
def HOk(H:Hp)(h:Heap):Prop:=∀a o,H a=some o→ObjOk P w H h a o
end
section
variable {P:Program} {w:World} {H H':Hp} {h h':Heap} {a:Addr} {o:HO}
theorem ObjOk.lt(x:ObjOk P w H h a o):a < h.objs.size:=by
 cases o with
 |lst xs=>obtain⟨_,_,_,_,e⟩:=x;exact dM e
 |tup xs=>obtain⟨_,_,_,p⟩:=x;exact p.lt
 |dK kvs=>obtain⟨_,_,_,_,o,_,_,e,_⟩:=x;exact dM e
 |dT kvs=>obtain⟨_,_,_,_,o,_,_,e,_⟩:=x;exact dM e
 |set S n=>obtain⟨o,_,_,_,e,_⟩:=x;exact dM e
 |ins C dx fs=>obtain⟨_,_,_,e,_⟩:=x;exact dM e
 |own y=>obtain⟨_,e⟩:=x;exact dM e
 |xd fs=>obtain⟨_,⟨_,_,_,e,_⟩,_⟩:=x;exact dM e
 |rng lo hi=>obtain⟨_,_,_,e⟩:=x;exact dM e
 |frz ob u=>obtain⟨e,_⟩:=x;exact dM e
 |tbl q=>obtain⟨_,e,_⟩:=x;exact dM e
 |met f y=>exact dM (show h.get? a=some _ from x)
 |ext φ=>obtain⟨_,⟨_,e⟩,_⟩:=x;exact dM e
theorem Paired.mapP{α β:Type}{F G:α→β→Prop}{l₁:List α}{l₂:List β}(h:Paired F l₁ l₂)(f:∀a b,F a b→G a b):Paired G l₁ l₂:=by
 induction h with
 |nil=>exact .nil
 |cons r _ t=>exact .cons (f _ _ r) t
theorem ObjOk.stay(x:ObjOk P w H h a o)(k:∀b u,(b=a∨H b=some (.own a))→h.get? b=some u→h'.get? b=some u)
  (ho:∀b,H b=some (.own a)→H' b=some (.own a)) (ht:∀b xs,H b=some (.tup xs)→H' b=some (.tup xs)):ObjOk P w H' h' a o:=by
 induction o with
 |lst xs=>obtain⟨z,its,n,r,e⟩:=x;exact⟨z,its,n,r,k _ _ (.inl rfl) e⟩
 |tup xs=>obtain⟨z,its,r,ob,e,c⟩:=x;exact⟨z,its,r,ob,k _ _ (.inl rfl) e,c⟩
 |dK kvs=>obtain⟨z,y,vs,r,ob,es,ep,e,c⟩:=x;exact⟨z,y,vs,r,ob,es,ep,k _ _ (.inl rfl) e,c⟩
 |dT kvs=>
  obtain⟨z,y,xs,r,ob,es,ep,e,c⟩:=x
  exact⟨z,y,xs,Paired.mapP r fun p q z=>⟨z.1,ht _ _ z.2.1,z.2.2⟩,ob,es,ep,k _ _ (.inl rfl) e,c⟩
 |set S n=>obtain⟨ob,es,ep,t,e,c⟩:=x;exact⟨ob,es,ep,t,k _ _ (.inl rfl) e,c⟩
 |ins C dx fs=>
  obtain⟨d,z,ne,e,mA,⟨od,es,ep,e2,c⟩,r⟩:=x
  exact⟨ho _ d,z,ne,k _ _ (.inl rfl) e,mA,⟨od,es,ep,k _ _ (.inr d) e2,c⟩,r⟩
 |own y=>obtain⟨ob,e⟩:=x;exact⟨ob,k _ _ (.inl rfl) e⟩
 |xd fs=>obtain⟨mA,⟨od,es,ep,e,c⟩,r⟩:=x;exact⟨mA,⟨od,es,ep,k _ _ (.inl rfl) e,c⟩,r⟩
 |rng lo hi=>obtain⟨t,u,v,e⟩:=x;exact⟨t,u,v,k _ _ (.inl rfl) e⟩
 |frz ob u ih=>obtain⟨e,q⟩:=x;exact⟨k _ _ (.inl rfl) e,ih q⟩
 |tbl q=>
  obtain⟨ps,e,t,r⟩:=x
  refine⟨ps,k _ _ (.inl rfl) e,t,fun pos cv z=>?_⟩
  obtain⟨c,ec,ho',c2,oc,vs,tq,hc,hoc,hd⟩:=r pos cv z
  subst ec
  cases hc
  exact⟨c,rfl,ho _ ho',c,oc,vs,tq,rfl,k _ _ (.inr ho') hoc,hd⟩
 |met f y=>
  have e:h.get? a=some (methodObj (.ref f) (.ref y)):=x
  show h'.get? a=some (methodObj (.ref f) (.ref y))
  exact k a _ (.inl rfl) e
 |ext φ=>obtain⟨p,⟨o,e⟩,st⟩:=x;exact⟨st _ _ p fun o q=>k _ _ (.inl rfl) q,⟨o,k _ _ (.inl rfl) e⟩,st⟩
theorem HOk.lt(x:HOk P w H h)(e:H a=some o):a < h.objs.size:=(x a o e).lt
theorem HOk.fresh(x:HOk P w H h)(e:h.objs.size≤a):H a=none:=by
 cases q:H a with
 |none=>rfl
 |some u=>exact absurd (jH (x.lt q) e) (Nat.lt_irrefl _)
theorem HOk.kept(x:HOk P w H h)(k:∀b u,h.get? b=some u→h'.get? b=some u):HOk P w H h':=fun a o e=>
 (x a o e).stay (fun b u _ q=>k b u q) (fun _ q=>q) fun _ _ q=>q
theorem HOk.laid(x:HOk P w H h)(k:∀b u,h.get? b=some u→h'.get? b=some u)(hp:h.objs.size≤a)(new:ObjOk P w (upd H a o) h' a o):HOk P w (upd H a o) h':=fun b u e=>by
 have hn:=x.fresh hp
 by_cases hb:b=a
 ·subst hb;rw[upd_same]at e;cases e;exact new
 ·rw[ar hb]at e
  exact(x b u e).stay (fun c v _ q=>k c v q) (fun c q=>by rw[ar (bj q hn)];exact q) fun c xs q=>by rw[ar (bj q hn)];exact q
end
def Rd(H:Hp)(a:Addr)(u:HO):Prop:=H a=some u∨∃o,H a=some (.frz o u)
theorem Rd.ok{P:Program}{w:World}{H:Hp}{h:Heap}{a:Addr}{u:HO}(r:Rd H a u)(x:HOk P w H h):ObjOk P w H h a u:=by
 rcases r with r |⟨o,r⟩
 ·exact x a u r
 ·obtain⟨_,q⟩:=x a _ r
  exact q
def GA:Option HO→Prop
 |some (.lst _)=>True
 |some (.dK _)=>True
 |some (.dT _)=>True
 |some (.set _ _)=>True
 |some (.ins _ _ _)=>True
 |some (.ext _)=>True
 |_=>False
section
variable {P:Program} {w:World} {H:Hp} {h h':Heap} {x e:Addr} {o':HO}
theorem HOk.write(ok:HOk P w H h)(mu:GA (H x))(he:e=x∨H e=some (.own x))(k:∀b u,b≠e→h.get? b=some u→h'.get? b=some u)(heo:∃u,h'.get? e=some u)
  (new:ObjOk P w (upd H x o') h' x o'):HOk P w (upd H x o') h':=fun b u q=>by
 have nown:∀c y,H c=some (.own y)→c≠x:=fun c y r z=>by subst z;rw[r]at mu;exact mu
 have ntup:∀c xs,H c=some (.tup xs)→c≠x:=fun c xs r z=>by subst z;rw[r]at mu;exact mu
 by_cases hb:b=x
 ·subst hb;rw[upd_same]at q;cases q;exact new
 ·rw[ar hb]at q
  by_cases hbe:b=e
  ·have q':H b=some (.own x):=by
    rcases he with z |z
    ·exact absurd (hbe.trans z) hb
    ·rw[hbe];exact z
   rw[q]at q';cases q'
   obtain⟨v,hv⟩:=heo
   exact⟨v,by rw[hbe];exact hv⟩
  ·refine(ok b u q).stay (fun c v hc r=>k c v ?_ r) (fun c r=>by rw[ar (nown c b r)];exact r) fun c xs r=>by rw[ar (ntup c xs r)];exact r
   rcases hc with rfl |hc
   ·exact hbe
   ·rintro rfl
    rcases he with z |z
    ·exact nown c b hc z
    ·rw[hc]at z;cases z;exact hb rfl
end
structure Un (fs ex:List Addr) (H H':Hp) (h h':Heap):Prop where
 keep:∀b o,h.get? b=some o→H b=none→b∉fs→b∉ex→h'.get? b=some o
 slot:∀b o,h.get? b=some o→H b=none→b∈fs→b∉ex→∃sl,h'.get? b=some {o with slots:=sl}
 free:∀b o,h.get? b=some o→H b=none→b∉ex→H' b=none
 there:∀b o,h.get? b=some o→b∉ex→∃o',h'.get? b=some o'
 tups:∀b xs,H b=some (.tup xs)→H' b=some (.tup xs)
 frzs:∀b o u,H b=some (.frz o u)→H' b=some (.frz o u)
 tbls:∀b ps,H b=some (.tbl ps)→H' b=some (.tbl ps)
section
variable {fs fs' ex ex':List Addr} {H H1 H2:Hp} {h h1 h2 h':Heap} {a x e:Addr} {o:HO}
theorem Un.any(u:Un fs ex H H1 h h1){b:Addr}{ob:Obj}(q:h.get? b=some ob)(n:H b=none)(hx:b∉ex):∃sl,h1.get? b=some {ob with slots:=sl}:=by
 by_cases hb:b∈fs
 ·exact u.slot b ob q n hb hx
 ·exact⟨ob.slots,u.keep b ob q n hb hx⟩
theorem Un.kept(k:∀b u,h.get? b=some u→h'.get? b=some u):Un fs ex H H h h':=
 ⟨fun b ob q _ _ _=>k b ob q,fun b ob q _ _ _=>⟨ob.slots,k b ob q⟩,fun _ _ _ n _=>n,fun b ob q _=>⟨ob,k b ob q⟩,fun _ _ q=>q,fun _ _ _ q=>q,fun _ _ q=>q⟩
theorem Un.refl:Un fs ex H H h h:=Un.kept fun _ _ q=>q
theorem Un.laid(k:∀b u,h.get? b=some u→h'.get? b=some u)(hp:h.objs.size≤a)(hn:H a=none):Un fs ex H (upd H a o) h h' where
 keep:=fun b u q _ _ _=>k b u q
 slot:=fun b u q _ _ _=>⟨u.slots,k b u q⟩
 free:=fun b u q n _=>by rw[ar (eF (jH (dM q) hp))];exact n
 there:=fun b u q _=>⟨u,k b u q⟩
 tups:=fun b xs q=>by rw[ar (bj q hn)];exact q
 frzs:=fun b u xs q=>by rw[ar (bj q hn)];exact q
 tbls:=fun b ps q=>by rw[ar (bj q hn)];exact q
theorem Un.write(mu:GA (H x))(he:e=x∨H e=some (.own x))(k:∀b u,b≠e→h.get? b=some u→h'.get? b=some u)(heo:∃u,h'.get? e=some u):Un fs ex H (upd H x o) h h':=by
 have hx:∀b,H b=none→b≠x:=fun b n z=>by subst z;rw[n]at mu;exact mu
 have hb:∀b,H b=none→b≠e:=fun b n z=>by
  subst z
  rcases he with r |r
  ·exact hx b n r
  ·rw[n]at r;cases r
 have hm:∀b u,H b=some u→¬GA (some u)→b≠x:=fun b u q nm z=>by subst z;rw[q]at mu;exact nm mu
 refine⟨fun b u q n _ _=>k b u (hb b n) q,fun b u q n _ _=>⟨u.slots,k b u (hb b n) q⟩,fun b u q n _=>by rw[ar (hx b n)];exact n,fun b u q _=>?_,
  fun b xs q=>by rw[ar (hm b _ q fun z=>z)];exact q,fun b u xs q=>by rw[ar (hm b _ q fun z=>z)];exact q,fun b ps q=>by rw[ar (hm b _ q fun z=>z)];exact q⟩
 by_cases hbe:b=e
 ·subst hbe;exact heo
 ·exact⟨u,k b u hbe q⟩
end
def HK(h:Heap)(H:Hp):List Addr:=(List.range h.objs.size).filter fun a=>(H a).isSome
def rm(h:Heap)(H:Hp):Heap:=hideAll h (HK h H)
theorem wQ(h:Heap)(H:Hp):(rm h H).objs.size=h.objs.size:=PySem.W.hideAll_size _ _
theorem mj{h:Heap}{H:Hp}{b:Addr}{o:Obj}(e:h.get? b=some o)(n:H b=none):(rm h H).get? b=some o:=
 hideAll_get _ e fun hm=>by
  have q:(H b).isSome=true:=(List.mem_filter.mp hm).2
  rw[n]at q;simp at q
theorem BD{h:Heap}{H:Hp}{b:Addr}{o:Obj}(e:(rm h H).get? b=some o):h.get? b=some o∧H b=none:=by
 have e':h.get? b=some o:=of_hideAll (HK h H) e
 refine⟨e',?_⟩
 cases q:H b with
 |none=>rfl
 |some x=>
  have hm:b∈HK h H:=List.mem_filter.mpr ⟨List.mem_range.mpr (dM e'),by simp[q]⟩
  have z:(rm h H).get? b=none:=PySem.W.hideAll_none (HK h H) hm
  rw[z]at e;cases e
def BE(g h:Heap)(L:Addr):List (Addr×Obj):=(List.range h.objs.size).filterMap fun a=>if a=L∨(g.get? a).isSome=true then none else (h.get? a).map fun o=>(a,o)
def aQ(g h:Heap)(L d:Addr):List (Addr×Obj):=(BE g h L).filter fun p=>decide (p.1≠d)
end L2
namespace L2
open PySem PySem.Spec PyProof.Rows
def oU(K:Frag)(n:Str):Option Addr:=match nsIn K mainGlobals n with
 |some (some (.ref f))=>match K.lookup f with
  |some ⟨_,_,.func fd,_⟩=>match fd.code with
   |.ref c=>match K.lookup c with
    |some ⟨_,_,.fields vs,_⟩=>match (vs[11]? :Option Value)with
     |some (.ref P)=>some P
     |_=>none
    |_=>none
   |_=>none
  |_=>none
 |_=>none
def oV:List (Str×Str):=[("in_told_order","in_told_order.<locals>.<lambda>"),("_law_moves_refused","_law_moves_refused.<locals>.<lambda>"),("_law_long_refused","_law_long_refused.<locals>.<lambda>"),("_law_sets_refused","_law_sets_refused.<locals>.<lambda>"),("_law_cords_refused","_law_cords_refused.<locals>.<lambda>"),("_law_many_refused","_law_many_refused.<locals>.<lambda>"),("_law_two_refused","_law_two_refused.<locals>.<lambda>"),("_law_at_least_refused","_law_at_least_refused.<locals>.<lambda>"),("law","law.<locals>.<lambda>")]
def BF(K:Frag)(b:Addr):List (Str×Str)→Option Str
 |[]=>none
 |n::r=>if oU K n.1=some b then some n.2 else BF K b r
def io(K:Frag)(b:Addr):Option Str:=BF K b oV
structure Mod (K:Frag) (mg:Str→Option Value) (base:Heap):Prop where
 kin:K.In base
 glob:base.Ns mainGlobals mg
 blt:∃mb,base.Ns builtinsNs mb∧∀x:Str,x≠"__name__"→mb x=bootBuiltins x
 nolimit:base.NoLimit
 bmain:∃bm ob,mg "__builtins__"=some (.ref bm)∧bm≠builtinsNs∧base.get? bm=some ob∧ob.cls=.type "module"∧ob.dict=some builtinsNs∧ob.data=.plain
structure Cx where
 prog:Program
 w:World
 K:Frag
 mg:Str→Option Value
 base:Heap
 A:Around
 N:List Str
 s₀:Shared
 H₀:Hp
 env:Env
 outer:List Env
 stack:List Env
 ex:List Addr
 fn:Str→Bool
 calm:Bool
 pn:List (Addr×Obj)
 xe:Value→Shared→Prop
def fT(l:List Env):List Addr:=l.filterMap (·.frame)
abbrev Cx.fs(X:Cx):List Addr:=fT X.outer
def HL(sc:Scope)(x:Str):Prop:=sc.names.lookup x=some .local∨sc.names.lookup x=some .cell∨sc.names.lookup x=some .free
def Eb(sc:Scope)(x:Str):Prop:=sc.names.lookup x=some .local∨sc.names.lookup x=some .cell
def HW(env:Env)(h:Heap)(m:Str→Option Value)(x:Str)(u:Value):Prop:=
 (env.kindOf x=some .local∧m x=some u)∨((env.kindOf x=some .cell∨env.kindOf x=some .free)∧∃c,env.cells.lookup x=some c∧h.IsCell c (some u))
structure Cx.Ok (X:Cx):Prop where
 mod:Mod X.K X.mg X.base
 kind:X.env.scope.kind=.function
 glob:X.env.globals=mainGlobals
 blt:X.env.builtins=builtinsNs
 above:X.s₀.heap.objs.size≤X.env.locals
 inj:∀x y c,X.env.cells.lookup x=some c→X.env.cells.lookup y=some c→x=y
 has:∀x,(X.env.kindOf x=some .cell∨X.env.kindOf x=some .free)→∃c,X.env.cells.lookup x=some c
 cab:∀x c,X.fn x=true→X.env.cells.lookup x=some c→X.s₀.heap.objs.size≤c
 hd:X.calm=true→X.A.handled=none
 frames:X.A.frames=some X.stack
 stk:X.stack=X.outer∨(X.stack=X.env::X.outer∧X.env.frame=some X.env.locals)
 exf:∀b∈X.ex,b≠X.env.locals∧∀x c,X.env.cells.lookup x=some c→c≠b
 bs:∀b o,X.base.get? b=some o→X.s₀.heap.get? b=some o∧X.H₀ b=none
 bsz:X.base.objs.size≤X.s₀.heap.objs.size
 noex:∀b o,X.base.get? b=some o→b∉X.ex
 exfs:∀b∈X.ex,b∉X.fs
 funs:X.s₀.heap.FunFrames X.base X.outer
 frf:∀b∈X.fs,X.H₀ b=none
 tab:∀b q,io X.K b=some q→X.H₀ b=some (.tbl q)
structure Inv (X:Cx) (pins:List (Addr×Obj)) (σ:List (Option V)) (H:Hp) (s:Shared):Prop where
 ok:X.Ok
 os:s.os=X.s₀.os
 bare:AllBare s.gens
 base:Un X.fs X.ex X.H₀ H X.s₀.heap s.heap
 loc:∃m,s.heap.Ns X.env.locals m∧∀(i:Nat) (x:Str) (v:V),X.N[i]? =some x→σ[i]? =some (some v)→HL X.env.scope x→∃u,RelV v u∧HW X.env s.heap m x u
 cell:∀x c,X.env.cells.lookup x=some c→∃v,s.heap.IsCell c v
 free:H X.env.locals=none
 freeC:∀x c,X.env.cells.lookup x=some c→H c=none
 pin:∀p∈X.pn++pins,s.heap.get? p.1=some p.2∧H p.1=none∧p.1≠X.env.locals∧p.1∉X.fs∧∀v,p.2.data≠ .cell v
 hok:HOk X.prog X.w H s.heap
 len:σ.length=X.N.length
section
variable {X:Cx} {pins:List (Addr×Obj)} {σ:List (Option V)} {H H':Hp} {s:Shared} {h':Heap}
theorem Cx.Ok.nofr(ok:X.Ok){b:Addr}{o:Obj}(e:X.base.get? b=some o):b∉X.fs:=fun hb=>by
 have:=(ok.funs.mem hb).1
 rw[e]at this;cases this
theorem Inv.bs(I:Inv X pins σ H s):∀b o,X.base.get? b=some o→s.heap.get? b=some o∧H b=none:=fun b o e=>
 ⟨I.base.keep b o (I.ok.bs b o e).1 (I.ok.bs b o e).2 (I.ok.nofr e) (I.ok.noex b o e),I.base.free b o (I.ok.bs b o e).1 (I.ok.bs b o e).2 (I.ok.noex b o e)⟩
theorem Inv.bk(I:Inv X pins σ H s):∀b o,X.base.get? b=some o→s.heap.get? b=some o:=fun b o e=>(I.bs b o e).1
theorem Inv.mod(I:Inv X pins σ H s):Mod X.K X.mg X.base:=I.ok.mod
theorem Inv.tab(I:Inv X pins σ H s):∀b q,io X.K b=some q→H b=some (.tbl q):=fun b q e=>I.base.tbls b q (I.ok.tab b q e)
theorem Inv.kIn(I:Inv X pins σ H s):X.K.In s.heap:=I.ok.mod.kin.keeps I.bk
theorem Inv.nolimit(I:Inv X pins σ H s):s.heap.NoLimit:=I.ok.mod.nolimit.keeps I.bk
theorem Inv.lt(I:Inv X pins σ H s):X.env.locals < s.heap.objs.size:=let ⟨_,hn,_⟩:=I.loc;hn.lt
theorem Inv.sz(I:Inv X pins σ H s):X.s₀.heap.objs.size≤s.heap.objs.size:=kK I.ok.above (Nat.le_of_lt I.lt)
theorem Inv.nofs(I:Inv X pins σ H s){a:Addr}(h:s.heap.objs.size≤a):a∉X.fs:=fun hb=>by
 obtain⟨_,o,ho,_⟩:=I.ok.funs.mem hb
 exact absurd (jH (dM ho) (kK I.sz h)) (Nat.lt_irrefl _)
theorem Inv.cne(I:Inv X pins σ H s):∀x c,X.env.cells.lookup x=some c→c≠X.env.locals:=fun x c e z=>by
 obtain⟨v,o,ho,hd⟩:=I.cell x c e
 obtain⟨m,⟨o',es,ep,ho',hd',_⟩,_⟩:=I.loc
 rw[z,ho']at ho;cases ho;rw[hd']at hd;cases hd
theorem Inv.funs(I:Inv X pins σ H s):s.heap.FunFrames X.base X.outer:=by
 have all:∀(l:List Env),(∀b∈fT l,b∈X.fs)→X.s₀.heap.FunFrames X.base l→s.heap.FunFrames X.base l:=by
  intro l
  induction l with
  |nil=>intro _ _;trivial
  |cons env r ih=>
   intro hs hl
   obtain⟨hk,⟨L,o,hf,hn,ho,hd⟩,hr⟩:=hl
   have hL:L∈X.fs:=hs L (by unfold fT;rw[List.filterMap_cons,hf];exact gk)
   obtain⟨sl,e⟩:=I.base.slot L o ho (I.ok.frf L hL) hL fun z=>I.ok.exfs L z hL
   exact⟨hk,⟨L,_,hf,hn,e,hd⟩,ih (fun b hb=>hs b (by unfold fT;rw[List.filterMap_cons,hf];exact fJ _ hb)) hr⟩
 exact all X.outer (fun _ hb=>hb) I.ok.funs
theorem Inv.stack(I:Inv X pins σ H s):s.heap.FunFrames X.base X.stack:=by
 rcases I.ok.stk with e |⟨e,hf⟩
 ·rw[e];exact I.funs
 ·rw[e]
  obtain⟨m,hn,_⟩:=I.loc
  refine .cons (by rw[I.ok.kind];decide) hf hn ?_ I.funs
  exact Heap.get?_none_of_le (kK I.ok.bsz I.ok.above)
theorem Inv.stkSub(I:Inv X pins σ H s):∀b∈fT X.stack,b∈X.env.locals::X.fs:=fun b hb=>by
 rcases I.ok.stk with e |⟨e,hf⟩
 ·rw[e]at hb;exact fJ _ hb
 ·rw[e]at hb
  unfold fT at hb
  rw[List.filterMap_cons,hf]at hb
  exact hb
theorem Inv.stkFree(I:Inv X pins σ H s):∀b∈fT X.stack,H b=none:=fun b hb=>by
 rcases Zaf.mp (I.stkSub b hb)with e |hb
 ·rw[e];exact I.free
 ·obtain⟨_,o,ho,_⟩:=I.ok.funs.mem hb
  exact I.base.free b o ho (I.ok.frf b hb) fun z=>I.ok.exfs b z hb
theorem Inv.step{g':Array GenState}{t':Nat}{d':Drawn}{ch:List Addr}(I:Inv X pins σ H s)
  (hch:∀b∈ch,(b∈X.ex∨X.s₀.heap.objs.size≤b)∧b≠X.env.locals∧(∀x c,X.env.cells.lookup x=some c→c≠b)∧∀p∈X.pn++pins,p.1≠b)
  (keep:∀b o,b≠X.env.locals→b∉X.fs→b∉ch→s.heap.get? b=some o→H b=none→h'.get? b=some o)
  (slot:∀b o,b≠X.env.locals→b∈X.fs→b∉ch→s.heap.get? b=some o→H b=none→∃sl,h'.get? b=some {o with slots:=sl}) (free:∀b o,b∉ch→s.heap.get? b=some o→H b=none→H' b=none)
  (there:∀b o,b∉ch→s.heap.get? b=some o→∃o',h'.get? b=some o')
  (tups:∀b xs,H b=some (.tup xs)→H' b=some (.tup xs)) (frzs:∀b o u,H b=some (.frz o u)→H' b=some (.frz o u)) (tbls:∀b ps,H b=some (.tbl ps)→H' b=some (.tbl ps))
  (ns:∀m,s.heap.Ns X.env.locals m→h'.Ns X.env.locals m) (hok:HOk X.prog X.w H' h') (hg:AllBare g'):
  Inv X pins σ H' {s with heap:=h',gens:=g',drawn:=d',toks:=t'}:=by
 have neL:∀b o,X.s₀.heap.get? b=some o→b≠X.env.locals:=fun b o e=>eF (jH (dM e) I.ok.above)
 have neC:∀b o,X.s₀.heap.get? b=some o→b∉X.ex→b∉ch:=fun b o e hx hb=>by
  rcases(hch b hb).1 with z |z
  ·exact hx z
  ·exact absurd (jH (dM e) z) (Nat.lt_irrefl _)
 have cellK:∀x c,X.env.cells.lookup x=some c→∀v,s.heap.IsCell c v→h'.IsCell c v:=fun x c e v ⟨o,ho,hd⟩=>by
  have nch:c∉ch:=fun z=>(hch c z).2.2.1 x c e rfl
  by_cases hc:c∈X.fs
  ·obtain⟨sl,q⟩:=slot c o (I.cne x c e) hc nch ho (I.freeC x c e)
   exact⟨_,q,hd⟩
  ·exact⟨o,keep c o (I.cne x c e) hc nch ho (I.freeC x c e),hd⟩
 refine⟨I.ok,I.os,hg,⟨fun b o e n hb hx=>?_,fun b o e n hb hx=>?_,fun b o e n hx=>?_,fun b o e hx=>?_,fun b xs e=>tups b xs (I.base.tups b xs e),fun b o xs e=>frzs b o xs (I.base.frzs b o xs e),fun b ps e=>?_⟩,?_,fun x c e=>?_,?_,fun x c e=>?_,fun p hp=>?_,hok,I.len⟩
 ·exact keep b o (neL b o e) hb (neC b o e hx) (I.base.keep b o e n hb hx) (I.base.free b o e n hx)
 ·obtain⟨sl,e1⟩:=I.base.slot b o e n hb hx
  obtain⟨sl',e2⟩:=slot b _ (neL b o e) hb (neC b o e hx) e1 (I.base.free b o e n hx)
  exact⟨sl',e2⟩
 ·obtain⟨o',e1⟩:=I.base.there b o e hx
  exact free b o' (neC b o e hx) e1 (I.base.free b o e n hx)
 ·obtain⟨o',e1⟩:=I.base.there b o e hx
  exact there b o' (neC b o e hx) e1
 ·exact tbls b _ (I.base.tbls b ps e)
 ·obtain⟨m,hn,hl⟩:=I.loc
  refine⟨m,ns m hn,fun i x v e1 e2 e3=>?_⟩
  obtain⟨u,r,l⟩:=hl i x v e1 e2 e3
  refine⟨u,r,?_⟩
  rcases l with l |⟨k,c,e,z⟩
  ·exact .inl l
  ·exact .inr ⟨k,c,e,cellK x c e _ z⟩
 ·obtain⟨v,z⟩:=I.cell x c e
  exact⟨v,cellK x c e v z⟩
 ·obtain⟨m,⟨o,_,_,ho,_⟩,_⟩:=I.loc
  exact free _ o (fun z=>(hch _ z).2.1 rfl) ho I.free
 ·obtain⟨v,o,ho,hd⟩:=I.cell x c e
  exact free c o (fun z=>(hch c z).2.2.1 x c e rfl) ho (I.freeC x c e)
 ·obtain⟨e,n,ne,nf,d⟩:=I.pin p hp
  have nch:p.1∉ch:=fun z=>(hch p.1 z).2.2.2 p hp rfl
  exact⟨keep p.1 p.2 ne nf nch e n,free p.1 p.2 nch e n,ne,nf,d⟩
theorem Inv.un{t':Nat}(I:Inv X pins σ H s)(u:Un X.fs [] H H' s.heap h')(hok:HOk X.prog X.w H' h'):Inv X pins σ H' {s with heap:=h',toks:=t'}:=by
 obtain⟨m,⟨o,es,ep,ho,r⟩,_⟩:=id I.loc
 obtain⟨sl,hL⟩:=u.any ho I.free (by simp)
 exact I.step (g':=s.gens) (d':=s.drawn) (ch:=[]) (fun _ z=>nomatch z) (fun b o _ hb _ e n=>u.keep b o e n hb (by simp)) (fun b o _ hb _ e n=>u.slot b o e n hb (by simp)) (fun b o _ e n=>u.free b o e n (by simp)) (fun b o _ e=>u.there b o e (by simp)) u.tups u.frzs u.tbls (fun m' hm=>by
  obtain⟨o',es',ep',ho',r'⟩:=hm
  rw[ho]at ho';cases ho'
  exact⟨_,es',ep',hL,r'⟩) hok I.bare
theorem Inv.call{g':Array GenState}{t':Nat}{d':Drawn}{ch:List Addr}(I:Inv X pins σ H s)(u:Un (fT X.stack) ch H H' s.heap h')(hok:HOk X.prog X.w H' h')(hg:AllBare g')
  (hch:∀b∈ch,(b∈X.ex∨X.s₀.heap.objs.size≤b)∧b≠X.env.locals∧(∀x c,X.env.cells.lookup x=some c→c≠b)∧∀p∈X.pn++pins,p.1≠b):
  Inv X pins σ H' {s with heap:=h',gens:=g',drawn:=d',toks:=t'}:=by
 obtain⟨m,⟨o,es,ep,ho,r⟩,_⟩:=id I.loc
 obtain⟨sl,hL⟩:=u.any ho I.free fun z=>(hch _ z).2.1 rfl
 exact I.step (ch:=ch) hch (fun b o hL hb hc e n=>u.keep b o e n (fun z=>(Zaf.mp (I.stkSub b z)).elim hL hb) hc) (fun b o _ _ hc e n=>u.any e n hc) (fun b o hc e n=>u.free b o e n hc) (fun b o hc e=>u.there b o e hc) u.tups u.frzs u.tbls (fun m' hm=>by
  obtain⟨o',es',ep',ho',r'⟩:=hm
  rw[ho]at ho';cases ho'
  exact⟨_,es',ep',hL,r'⟩) hok hg
theorem Inv.turned{t':Nat}{it:Addr}(I:Inv X pins σ H s)(k:∀b o,b≠it→s.heap.get? b=some o→h'.get? b=some o)(hn:H it=none)(hL:it≠X.env.locals)
  (h1:it∈X.ex∨X.s₀.heap.objs.size≤it) (h2:∀x c,X.env.cells.lookup x=some c→c≠it) (h3:∀p∈X.pn++pins,p.1≠it):Inv X pins σ H {s with heap:=h',toks:=t'}:=by
 have nit:∀b u,H b=some u→b≠it:=fun b u e z=>by rw[z,hn]at e;cases e
 refine I.step (g':=s.gens) (d':=s.drawn) (ch:=[it]) (fun b hb=>?_) (fun b o _ _ hc e _=>k b o (fun z=>hc (by simp[z])) e) (fun b o _ _ hc e _=>⟨o.slots,k b o (fun z=>hc (by simp[z])) e⟩) (fun _ _ _ _ n=>n)
  (fun b o hc e=>⟨o,k b o (fun z=>hc (by simp[z])) e⟩) (fun _ _ e=>e) (fun _ _ _ e=>e) (fun _ _ e=>e) (fun m hm=>?_) (fun b u e=>?_) I.bare
 ·have e:b=it:=by simpa using hb
  subst e
  exact⟨h1,hL,h2,h3⟩
 ·obtain⟨o,es,ep,ho,r⟩:=hm
  exact⟨o,es,ep,k _ o (Ne.symm hL) ho,r⟩
 ·refine(I.hok b u e).stay (fun c v hc q=>k c v ?_ q) (fun _ q=>q) fun _ _ q=>q
  rcases hc with z |z
  ·rw[z];exact nit b u e
  ·exact nit c _ z
theorem Inv.tok(I:Inv X pins σ H s)(t:Nat):Inv X pins σ H {s with toks:=t}:=I.un (h':=s.heap) (t':=t) Un.refl I.hok
theorem Inv.kept{t':Nat}(I:Inv X pins σ H s)(k:∀b u,s.heap.get? b=some u→h'.get? b=some u):Inv X pins σ H {s with heap:=h',toks:=t'}:=I.un (Un.kept k) (I.hok.kept k)
theorem Inv.laid{a:Addr}{o:HO}{t':Nat}(I:Inv X pins σ H s)(k:∀b u,s.heap.get? b=some u→h'.get? b=some u)(hp:s.heap.objs.size≤a)(new:ObjOk X.prog X.w (upd H a o) h' a o):
  Inv X pins σ (upd H a o) {s with heap:=h',toks:=t'}:=I.un (Un.laid k hp (I.hok.fresh hp)) (I.hok.laid k hp new)
theorem Inv.write{x e:Addr}{o:HO}{t':Nat}(I:Inv X pins σ H s)(mu:GA (H x))(he:e=x∨H e=some (.own x))(k:∀b u,b≠e→s.heap.get? b=some u→h'.get? b=some u)(heo:∃u,h'.get? e=some u)
  (new:ObjOk X.prog X.w (upd H x o) h' x o):Inv X pins σ (upd H x o) {s with heap:=h',toks:=t'}:=I.un (Un.write mu he k heo) (I.hok.write mu he k heo new)
theorem Inv.pins_of{pins':List (Addr×Obj)}(I:Inv X pins σ H s)(h:∀p∈pins',s.heap.get? p.1=some p.2∧H p.1=none∧p.1≠X.env.locals∧p.1∉X.fs∧∀v,p.2.data≠ .cell v):Inv X pins' σ H s:=
 ⟨I.ok,I.os,I.bare,I.base,I.loc,I.cell,I.free,I.freeC,fun p hp=>(Zao.mp hp).elim (fun z=>I.pin p (Zb _ z)) (h p),I.hok,I.len⟩
theorem ml{N:List Str}(hN:N.Nodup){i j:Nat}{x:Str}(a:N[i]? =some x)(b:N[j]? =some x):i=j:=by
 obtain⟨h1,e1⟩:=Zar.mp a
 obtain⟨h2,e2⟩:=Zar.mp b
 exact(List.getElem_inj hN).mp (e1.trans e2.symm)
theorem wR{M:Model}{A:Around}{E:Value→Shared→Prop}{i:Nat}{x:Str}{v:V}{u:Value}{Q:Unit→Shared→Prop}(I:Inv X pins σ H s)(hN:X.N.Nodup)(hi:X.N[i]? =some x)(hx:Eb X.env.scope x)(r:RelV v u)
  (h:∀s',Inv X pins (σ.set i (some v)) H s'→(∃a,Heap.SameBut a s.heap s'.heap∧(a=X.env.locals∨X.env.cells.lookup x=some a))→Q () s') (hf:X.fn x=true∨X.env.scope.names.lookup x=some .local:=by first |exact .inl rfl |exact .inr rfl |assumption):wpAny M A (storeName X.env x u) Q E s:=by
 obtain⟨m,hn,hl⟩:=id I.loc
 have hcls:(X.env.scope.kind ==.class||(X.env.scope.kind ==.module&&X.env.locals != X.env.globals))=false:=by rw[I.ok.kind];rfl
 have hiσ:i < σ.length:=by rw[I.len];exact(Zar.mp hi).1
 have cne:=I.cne
 have tracked:∀{a:Addr} {h':Heap},(∃o,s.heap.get? a=some o∧H a=none)→Heap.SameBut a s.heap h'→HOk X.prog X.w H h':=fun {a h'} ha hs b ob e=>by
  obtain⟨_,_,hfree⟩:=ha
  refine(I.hok b ob e).stay (fun c w' hc q=>(hs.2 c ?_).trans q) (fun _ q=>q) fun _ _ q=>q
  rintro rfl
  rcases hc with rfl |hc
  ·rw[hfree]at e;cases e
  ·rw[hfree]at hc;cases hc
 rcases hx with hk |hk
 ·refine wpAny_storeName_local hk hn (fun h' hn' hs=>?_) hcls
  obtain⟨oL,_,_,hoL,_⟩:=id hn
  refine h _ ⟨I.ok,I.os,I.bare,⟨fun b o e n hb hx=>?_,fun b o e n hb hx=>?_,I.base.free,fun b o e hx=>?_,I.base.tups,I.base.frzs,I.base.tbls⟩,⟨_,hn',fun j y v' e1 e2 e3=>?_⟩,fun y c e=>?_,I.free,I.freeC,fun p hp=>?_,tracked ⟨oL,hoL,I.free⟩ hs,by simpa using I.len⟩ ⟨_,hs,.inl rfl⟩
  ·exact(hs.2 b (eF (jH (dM e) I.ok.above))).trans (I.base.keep b o e n hb hx)
  ·obtain⟨sl,e1⟩:=I.base.slot b o e n hb hx
   exact⟨sl,(hs.2 b (eF (jH (dM e) I.ok.above))).trans e1⟩
  ·obtain⟨o',e1⟩:=I.base.there b o e hx
   exact⟨o',(hs.2 b (eF (jH (dM e) I.ok.above))).trans e1⟩
  ·by_cases hj:j=i
   ·subst hj
    rw[hi]at e1;cases e1
    rw[List.getElem?_set_self hiσ]at e2
    cases e2
    exact⟨u,r,.inl ⟨hk,by simp⟩⟩
   ·rw[List.getElem?_set_ne (Ne.symm hj)]at e2
    obtain⟨u',r',q⟩:=hl j y v' e1 e2 e3
    refine⟨u',r',?_⟩
    rcases q with⟨k,e⟩ |⟨k,c,e,z⟩
    ·refine .inl ⟨k,?_⟩
     have:y≠x:=fun e=>hj (ml hN e1 (e▸hi))
     simp[this,e]
    ·exact .inr ⟨k,c,e,z.sameBut hs (cne y c e)⟩
  ·obtain⟨w',z⟩:=I.cell y c e
   exact⟨w',z.sameBut hs (cne y c e)⟩
  ·obtain⟨e,n,ne,nf,d⟩:=I.pin p hp
   exact⟨(hs.2 p.1 ne).trans e,n,ne,nf,d⟩
 ·have hfn:X.fn x=true:=by
   rcases hf with z |z
   ·exact z
   ·rw[z]at hk;cases hk
  obtain⟨c,hc⟩:=I.ok.has x (.inl hk)
  obtain⟨w',z⟩:=I.cell x c hc
  refine wpAny_storeName_cell I.ok.kind hk hc z (fun h' hc' hs=>?_)
  obtain⟨oc,hoc,hocd⟩:=id z
  refine h {s with heap:=h'} ⟨I.ok,I.os,I.bare,⟨fun b o e n hb hx=>?_,fun b o e n hb hx=>?_,I.base.free,fun b o e hx=>?_,I.base.tups,I.base.frzs,I.base.tbls⟩,⟨m,hn.sameBut hs (Ne.symm (cne x c hc)),fun j y v' e1 e2 e3=>?_⟩,fun y c' e=>?_,I.free,I.freeC,fun p hp=>?_,tracked ⟨oc,hoc,I.freeC x c hc⟩ hs,by simpa using I.len⟩ ⟨c,hs,.inr hc⟩
  ·exact(hs.2 b (eF (jH (dM e) (I.ok.cab x c hfn hc)))).trans (I.base.keep b o e n hb hx)
  ·obtain⟨sl,e1⟩:=I.base.slot b o e n hb hx
   exact⟨sl,(hs.2 b (eF (jH (dM e) (I.ok.cab x c hfn hc)))).trans e1⟩
  ·obtain⟨o',e1⟩:=I.base.there b o e hx
   exact⟨o',(hs.2 b (eF (jH (dM e) (I.ok.cab x c hfn hc)))).trans e1⟩
  ·by_cases hj:j=i
   ·subst hj
    rw[hi]at e1;cases e1
    rw[List.getElem?_set_self hiσ]at e2
    cases e2
    exact⟨u,r,.inr ⟨.inl hk,c,hc,hc'⟩⟩
   ·rw[List.getElem?_set_ne (Ne.symm hj)]at e2
    obtain⟨u',r',q⟩:=hl j y v' e1 e2 e3
    refine⟨u',r',?_⟩
    rcases q with q |⟨k,c',e,z'⟩
    ·exact .inl q
    ·refine .inr ⟨k,c',e,z'.sameBut hs ?_⟩
     rintro rfl
     exact hj (ml hN e1 (I.ok.inj _ _ _ e hc▸hi))
  ·by_cases hcc:c'=c
   ·subst hcc;exact⟨_,hc'⟩
   ·obtain⟨w2,z2⟩:=I.cell y c' e
    exact⟨w2,z2.sameBut hs hcc⟩
  ·obtain⟨e,n,ne,nf,d⟩:=I.pin p hp
   refine⟨(hs.2 p.1 ?_).trans e,n,ne,nf,d⟩
   intro q
   rw[q,hoc]at e
   have q':oc=p.2:=Option.some.inj e
   exact d w' (by rw[←q'];exact hocd)
theorem mn{M:Model}{A:Around}{E:Value→Shared→Prop}{i:Nat}{x:Str}{v:V}{u:Value}{Q:Unit→Shared→Prop}(I:Inv X pins σ H s)(hN:X.N.Nodup)(hi:X.N[i]? =some x)(hx:Eb X.env.scope x)(r:RelV v u)
  (h:∀s',Inv X pins (σ.set i (some v)) H s'→Q () s') (hf:X.fn x=true∨X.env.scope.names.lookup x=some .local:=by first |exact .inl rfl |exact .inr rfl |assumption):wpAny M A (storeName X.env x u) Q E s:=
 wR I hN hi hx r (fun s' I' _=>h s' I') hf
theorem Inv.call'{s':Shared}{ch:List Addr}(I:Inv X pins σ H s)(ho:s'.os=s.os)(u:Un (fT X.stack) ch H H' s.heap s'.heap)(hok:HOk X.prog X.w H' s'.heap)(hg:AllBare s'.gens)
  (hch:∀b∈ch,(b∈X.ex∨X.s₀.heap.objs.size≤b)∧b≠X.env.locals∧(∀x c,X.env.cells.lookup x=some c→c≠b)∧∀p∈X.pn++pins,p.1≠b):Inv X pins σ H' s':=by
 obtain⟨h',g',d',t',o'⟩:=s'
 have e:o'=s.os:=ho
 subst e
 exact I.call (g':=g') (t':=t') (d':=d') u hok hg hch
end
abbrev XK:=Value→Option Addr→Hp→Prop
abbrev St:=List (Option V)
abbrev VK:=V→Hp→Prop
abbrev TE:=St→Hp→VK→Prop
abbrev TT:=St→Hp→(Bool→Hp→Prop)→Prop
abbrev TA:=St→Hp→(List V→Hp→Prop)→Prop
structure Ends where
 nx:St→Hp→Prop
 rt:VK
 bk:St→Hp→Prop:=fun _ _=>False
 ct:St→Hp→Prop:=fun _ _=>False
abbrev TS:=Ends→St→Hp→Prop
def EP(X:Cx)(pins:List (Addr×Obj))(σ:St)(Q:VK)(u:Value)(s':Shared):Prop:=∃v H',Inv X pins σ H' s'∧RelV v u∧Q v H'
def TP(X:Cx)(pins:List (Addr×Obj))(σ:St)(Q:Bool→Hp→Prop)(b:Bool)(s':Shared):Prop:=∃H',Inv X pins σ H' s'∧Q b H'
def AP(X:Cx)(pins:List (Addr×Obj))(σ:St)(Q:List V→Hp→Prop)(us:List Value)(s':Shared):Prop:=∃vs H',Inv X pins σ H' s'∧Vals vs us∧Q vs H'
def SP(X:Cx)(pins:List (Addr×Obj))(D:Ends)(f:Flow)(s':Shared):Prop:=
 match f with
 |.next=>∃σ' H',Inv X pins σ' H' s'∧D.nx σ' H'
 |.brk=>∃σ' H',Inv X pins σ' H' s'∧D.bk σ' H'
 |.cont=>∃σ' H',Inv X pins σ' H' s'∧D.ct σ' H'
 |.ret u=>∃v σ' H',Inv X pins σ' H' s'∧RelV v u∧D.rt v H'
def PE(X:Cx)(e:Expr)(t:TE):Prop:=
 ∀(pins:List (Addr×Obj)) (s:Shared) (σ:St) (H:Hp) (Q:VK),Inv X pins σ H s→t σ H Q→wpAny (model X.prog X.w) X.A (eval e X.env) (EP X pins σ Q) X.xe s
def PT(X:Cx)(e:Expr)(t:TT):Prop:=
 ∀(pins:List (Addr×Obj)) (s:Shared) (σ:St) (H:Hp) (Q:Bool→Hp→Prop),Inv X pins σ H s→t σ H Q→wpAny (model X.prog X.w) X.A (isTrue e X.env (eval e X.env)) (TP X pins σ Q) X.xe s
def PW(X:Cx)(e:Expr)(t:TT):Prop:=
 ∀(whole:Sem Value) (pins:List (Addr×Obj)) (s:Shared) (σ:St) (H:Hp) (Q:Bool→Hp→Prop),Inv X pins σ H s→t σ H Q→wpAny (model X.prog X.w) X.A (isTrue e X.env whole) (TP X pins σ Q) X.xe s
theorem PW.pt{X:Cx}{e:Expr}{t:TT}(h:PW X e t):PT X e t:=h _
def PA(X:Cx)(es:List Expr)(t:TA):Prop:=
 ∀(pos:Pos) (pins:List (Addr×Obj)) (s:Shared) (σ:St) (H:Hp) (Q:List V→Hp→Prop),Inv X pins σ H s→t σ H Q→wpAny (model X.prog X.w) X.A (spliced (backTo pos (starEach es X.env))) (AP X pins σ Q) X.xe s
def PS(X:Cx)(st:Stmt)(t:TS):Prop:=
 ∀(pins:List (Addr×Obj)) (s:Shared) (σ:St) (H:Hp) (D:Ends),Inv X pins σ H s→t D σ H→wpAny (model X.prog X.w) X.A (exec st X.env) (SP X pins D) X.xe s
def PSs(X:Cx)(st:List Stmt)(t:TS):Prop:=
 ∀(pins:List (Addr×Obj)) (s:Shared) (σ:St) (H:Hp) (D:Ends),Inv X pins σ H s→t D σ H→wpAny (model X.prog X.w) X.A (execs st X.env) (SP X pins D) X.xe s
theorem bR{α:Type}{t:Sem α}{Q Q':α→Shared→Prop}{M:Model}{A:Around}{E:Value→Shared→Prop}{s:Shared}(h:wpAny M A t Q E s)(hQ:∀a s,Q a s→Q' a s):wpAny M A t Q' E s:=wpAny_mono h hQ fun _ _ x=>x
end L2
namespace L2
open PySem PySem.Spec PyProof.Rows
section
variable {X:Cx}
def HX(i:Nat):TE:=fun σ H Q=>∃v,σ[i]? =some (some v)∧Q v H
def tC(v:V):TE:=fun _ H Q=>Q v H
theorem yH {i:Nat} {x:Str} {pos:Pos} (hN:X.N[i]? =some x) (hv:HL X.env.scope x) (hd:(x == ("__debug__":Str))=false:=by decide) (hcd:(x == ("__classdict__":Str))=false:=by decide):PE X (.Name x pos) (HX i):=by
 intro pins s σ H Q I h
 obtain⟨v,e,h⟩:=h
 obtain⟨m,hn,hl⟩:=I.loc
 obtain⟨u,r,l⟩:=hl i x v hN e hv
 have fin:EP X pins σ Q u s:=⟨v,H,I,r,h⟩
 rcases l with⟨hk,hm⟩ |⟨hk,c,hc,hcell⟩
 ·exact wpAny_Name (wpAny_loadName_local I.ok.kind hk hn hm fin) hd
 ·rcases hk with hk |hk
  ·exact wpAny_Name (wpAny_loadName_cell I.ok.kind hk hc hcell fin) hd
  ·exact wpAny_Name (wpAny_loadName_free I.ok.kind hk hc hcell fin hcd) hd
theorem Ec{i j pos}:PE X (.Constant (.int i) j pos) (tC (.int i)):=fun _ _ _ H _ I h=>wpAny_Constant_int ⟨.int i,H,I.tok _,⟨_,rfl⟩,h⟩
theorem GB{b j pos}:PE X (.Constant (.bool b) j pos) (tC (.bl b)):=fun _ _ _ H _ I h=>Constant_bool ⟨.bl b,H,I,rfl,h⟩
theorem Ed{j pos}:PE X (.Constant .none j pos) (tC .non):=fun _ _ _ H _ I h=>Constant_none ⟨.non,H,I,rfl,h⟩
theorem pP{x j pos}:PE X (.Constant (.str x) j pos) (tC (.str x)):=fun _ _ _ H _ I h=>Calls.Constant_str ⟨.str x,H,I.tok _,⟨_,rfl⟩,h⟩
def Gl(X:Cx)(x:Str):Prop:=X.env.kindOf x=some .globalImplicit
theorem eI{E:Value→Shared→Prop}{pins:List (Addr×Obj)}{s:Shared}{σ:St}{H:Hp}{x:Str}{u:Value}{pos:Pos}{Q:Value→Shared→Prop}(I:Inv X pins σ H s)(hg:Gl X x)(hm:X.mg x=some u)(h:Q u s)
  (hd:(x == ("__debug__":Str))=false:=by decide):wpAny (model X.prog X.w) X.A (eval (.Name x pos) X.env) Q E s:=
 Calls.Name_function_global I.ok.kind hg (Calls.loadGlobal_global (by rw[I.ok.glob];exact I.mod.glob.keeps I.bk) hm h) hd
theorem fX{E:Value→Shared→Prop}{pins:List (Addr×Obj)}{s:Shared}{σ:St}{H:Hp}{x:Str}{u:Value}{pos:Pos}{Q:Value→Shared→Prop}(I:Inv X pins σ H s)(hg:Gl X x)(hm:X.mg x=none)(hv:bootBuiltins x=some u)(h:Q u s)
  (hn:x≠"__name__":=by decide) (hd:(x == ("__debug__":Str))=false:=by decide):wpAny (model X.prog X.w) X.A (eval (.Name x pos) X.env) Q E s:=by
 obtain⟨mb,h1,h2⟩:=I.mod.blt
 exact Calls.Name_function_global I.ok.kind hg (Calls.loadGlobal_builtin (by rw[I.ok.glob];exact I.mod.glob.keeps I.bk) hm (by rw[I.ok.blt];exact h1.keeps I.bk) ((h2 x hn).trans hv) h) hd
theorem vv {x:Str} {v:V} {u:Value} {pos:Pos} (hg:Gl X x) (hm:X.mg x=some u) (r:RelV v u) (hd:(x == ("__debug__":Str))=false:=by decide):PE X (.Name x pos) (tC v):=
 fun _ _ _ H _ I h=>eI I hg hm ⟨v,H,I,r,h⟩ hd
theorem vw {x:Str} {v:V} {u:Value} {pos:Pos} (hg:Gl X x) (hm:X.mg x=none) (hv:bootBuiltins x=some u) (r:RelV v u) (hn:x≠"__name__":=by decide) (hd:(x == ("__debug__":Str))=false:=by decide):PE X (.Name x pos) (tC v):=
 fun _ _ _ H _ I h=>fX I hg hm hv ⟨v,H,I,r,h⟩ hn hd
variable {a b:Expr} {ta tb:TE} {pos:Pos}
theorem yI(b:Expr){op:CmpOp}(h:op≠ .In)(h2:op≠ .NotIn):behindInMarks op b=false:=by
 have e1:(op == CmpOp.In)=false:=by cases op <;> first |rfl |exact absurd rfl h
 have e2:(op == CmpOp.NotIn)=false:=by cases op <;> first |rfl |exact absurd rfl h2
 cases b <;> simp[behindInMarks,e1,e2]
variable {tA tB':TT} {aQ:List Expr}
def HY(t u:TT):TT:=fun σ H Q=>t σ H fun c H1=>if c=true then u σ H1 Q else Q false H1
def Jt(t u:TT):TT:=fun σ H Q=>t σ H fun c H1=>if c=true then Q true H1 else u σ H1 Q
def HZ(t:TT):TT:=fun σ H Q=>t σ H fun c H1=>Q (!c) H1
theorem BG(ha:PT X a tA):PW X (.BoolOp .And [a] pos) tA:=by
 intro wh pins s σ H Q I h
 refine isTrue_and (bR (ha pins s σ H Q I h) fun c s1 e=>?_)
 cases c with
 |true=>exact isTrue_and_nil e
 |false=>exact e
theorem Ee(ha:PT X a tA):PW X (.BoolOp .Or [a] pos) tA:=by
 intro wh pins s σ H Q I h
 refine isTrue_or (bR (ha pins s σ H Q I h) fun c s1 e=>?_)
 cases c with
 |false=>exact isTrue_or_nil e
 |true=>exact e
theorem Ef(ha:PT X a tA)(hb:PW X (.BoolOp .And (b::aQ) pos) tB'):PW X (.BoolOp .And (a::b::aQ) pos) (HY tA tB'):=by
 intro wh pins s σ H Q I h
 refine isTrue_and (bR (ha pins s σ H _ I h) fun c s1 ⟨H1,I1,q1⟩=>?_)
 cases c with
 |true=>exact hb wh pins s1 σ H1 Q I1 q1
 |false=>exact⟨H1,I1,q1⟩
theorem GC(ha:PT X a tA)(hb:PW X (.BoolOp .Or (b::aQ) pos) tB'):PW X (.BoolOp .Or (a::b::aQ) pos) (Jt tA tB'):=by
 intro wh pins s σ H Q I h
 refine isTrue_or (bR (ha pins s σ H _ I h) fun c s1 ⟨H1,I1,q1⟩=>?_)
 cases c with
 |true=>exact⟨H1,I1,q1⟩
 |false=>exact hb wh pins s1 σ H1 Q I1 q1
theorem Eg(ha:PT X a tA):PT X (.UnaryOp .Not a pos) (HZ tA):=by
 intro pins s σ H Q I h
 exact isTrue_not (ha pins s σ H (fun c H1=>Q (!c) H1) I h)
def GD(ta tb:TE):TE:=fun σ H Q=>ta σ H fun x H1=>∃c,x=.bl c∧if c=true then tb σ H1 Q else Q (.bl false) H1
theorem Eh{op}{t:TE}(h:PE X a t):PE X (.BoolOp op [a] pos) t:=fun pins s σ H Q I hw=>BoolOp_one (h pins s σ H Q I hw)
theorem Ek(ha:PE X a ta)(hb:PE X (.BoolOp .And (b::aQ) pos) tb):PE X (.BoolOp .And (a::b::aQ) pos) (GD ta tb):=by
 intro pins s σ H Q I h
 refine BoolOp_and (bR (ha pins s σ H _ I h) fun v s1 ⟨x,H1,I1,r1,q1⟩=>?_)
 obtain⟨c,rfl,q1⟩:=q1
 cases r1
 refine wpAny_truthy_bool ?_
 cases c with
 |true=>exact hb pins s1 σ H1 Q I1 q1
 |false=>exact⟨.bl false,H1,I1,rfl,q1⟩
end
end L2
namespace L2
open PySem PySem.Spec PyProof.Rows
def SqL(K:Frag)(H:Hp)(a:Addr)(xs:List V):Prop:=
 Rd H a (.lst xs)∨
  ∃(o:Obj) (its:Array Value) (n:Nat),K.lookup a=some o∧o.cls=.type "list"∧o.dict=none∧o.data=.seq its n∧its.size≤sizeLine∧Vals xs its.toList
def SqT(K:Frag)(H:Hp)(a:Addr)(xs:List V):Prop:=
 Rd H a (.tup xs)∨
  ∃(o:Obj) (its:Array Value) (n:Nat),K.lookup a=some o∧o.cls=.type "tuple"∧o.data=.seq its n∧its.size≤sizeLine∧Vals xs its.toList
def H0:Value→Option V
 |.none=>some .non
 |.bool b=>some (.bl b)
 |.int i _=>some (.int i)
 |.str x _=>some (.str x)
 |.bytes b _=>some (.byt b)
 |.float b _=>some (.flt b)
 |.ref a=>some (.ref a)
 |.type n=>some (.ty n)
 |_=>none
theorem RelV.abs{x:V}{u:Value}(r:RelV x u):H0 u=some x:=by
 cases x with
 |non=>cases r;rfl
 |bl _=>cases r;rfl
 |int _=>obtain⟨t,rfl⟩:=r;rfl
 |str _=>obtain⟨t,rfl⟩:=r;rfl
 |byt _=>obtain⟨t,rfl⟩:=r;rfl
 |flt _=>obtain⟨t,rfl⟩:=r;rfl
 |ref _=>cases r;rfl
 |ty _=>cases r;rfl
theorem RelV.inj{x y:V}{u:Value}(r:RelV x u)(q:RelV y u):x=y:=Option.some.inj (r.abs.symm.trans q.abs)
theorem Vals.inj{xs ys:List V}{us:List Value}(h:Vals xs us)(k:Vals ys us):xs=ys:=by
 induction h generalizing ys with
 |nil=>cases k;rfl
 |cons r _ ih=>cases k with |cons r' t'=>rw[r.inj r',ih t']
section
variable {X:Cx} {pins:List (Addr×Obj)} {σ:St} {H:Hp} {s:Shared} {a:Addr} {xs ys:List V}
theorem SqL.of{K:Frag}(h:H a=some (.lst xs)):SqL K H a xs:=.inl (.inl h)
theorem SqT.of{K:Frag}(h:H a=some (.tup xs)):SqT K H a xs:=.inl (.inl h)
theorem Inv.list(I:Inv X pins σ H s)(h:SqL X.K H a xs):∃its:List Value,Vals xs its∧PlainL s.heap a its.toArray∧xs.length≤sizeLine:=by
 rcases h with h |⟨o,its,n,hk,hc,hd,hs,hz,r⟩
 ·obtain⟨z,its,n,r,e⟩:=h.ok I.hok
  exact⟨its,r,⟨_,n,e,rfl,rfl,rfl⟩,z⟩
 ·refine⟨its.toList,r,⟨o,n,I.kIn a o hk,hc,hd,by simpa using hs⟩,?_⟩
  have e:=r.length
  simp only[yC]at e
  omega
theorem Inv.tuple(I:Inv X pins σ H s)(h:SqT X.K H a xs):∃its:List Value,Vals xs its∧IsTup s.heap a its.toArray∧xs.length≤sizeLine:=by
 rcases h with h |⟨o,its,n,hk,hc,hs,hz,r⟩
 ·obtain⟨z,its,r,p⟩:=h.ok I.hok
  exact⟨its,r,p,z⟩
 ·refine⟨its.toList,r,⟨o,I.kIn a o hk,hc,n,by simpa using hs⟩,?_⟩
  have e:=r.length
  simp only[yC]at e
  omega
theorem Inv.list_inj(I:Inv X pins σ H s)(h:SqL X.K H a xs)(h':SqL X.K H a ys):xs=ys:=by
 obtain⟨its,r,⟨o,n,e,_,_,d⟩,_⟩:=I.list h
 obtain⟨its',r',⟨o',n',e',_,_,d'⟩,_⟩:=I.list h'
 rw[e]at e';cases e'
 rw[d]at d'
 injection d' with d1 _
 have:its=its':=by simpa using congrArg Array.toList d1
 subst this
 exact r.inj r'
theorem Inv.tuple_inj(I:Inv X pins σ H s)(h:SqT X.K H a xs)(h':SqT X.K H a ys):xs=ys:=by
 obtain⟨its,r,⟨o,e,_,n,d⟩,_⟩:=I.tuple h
 obtain⟨its',r',⟨o',e',_,n',d'⟩,_⟩:=I.tuple h'
 rw[e]at e';cases e'
 rw[d]at d'
 injection d' with d1 _
 have:its=its':=by simpa using congrArg Array.toList d1
 subst this
 exact r.inj r'
end
abbrev Cx.wish(X:Cx)(E:Value→Shared→Prop):Cx:={X with xe:=E}
abbrev Cx.nox(X:Cx):Cx:=X.wish fun _ _=>False
theorem Cx.Ok.wish{X:Cx}(ok:X.Ok)(E:Value→Shared→Prop):(X.wish E).Ok:=
 ⟨ok.mod,ok.kind,ok.glob,ok.blt,ok.above,ok.inj,ok.has,ok.cab,ok.hd,ok.frames,ok.stk,ok.exf,ok.bs,ok.bsz,ok.noex,ok.exfs,ok.funs,ok.frf,ok.tab⟩
theorem Cx.Ok.unwish{X:Cx}{E:Value→Shared→Prop}(ok:(X.wish E).Ok):X.Ok:=
 ⟨ok.mod,ok.kind,ok.glob,ok.blt,ok.above,ok.inj,ok.has,ok.cab,ok.hd,ok.frames,ok.stk,ok.exf,ok.bs,ok.bsz,ok.noex,ok.exfs,ok.funs,ok.frf,ok.tab⟩
section
variable {X:Cx} {pins:List (Addr×Obj)} {σ:St} {H:Hp} {s:Shared} {E:Value→Shared→Prop}
theorem Inv.wish(I:Inv X pins σ H s)(E:Value→Shared→Prop):Inv (X.wish E) pins σ H s:=⟨I.ok.wish E,I.os,I.bare,I.base,I.loc,I.cell,I.free,I.freeC,I.pin,I.hok,I.len⟩
theorem Inv.unwish(I:Inv (X.wish E) pins σ H s):Inv X pins σ H s:=⟨I.ok.unwish,I.os,I.bare,I.base,I.loc,I.cell,I.free,I.freeC,I.pin,I.hok,I.len⟩
theorem SP.unwish{D:Ends}{f:Flow}{s':Shared}(h:SP (X.wish E) pins D f s'):SP X pins D f s':=by
 cases f with
 |next=>obtain⟨σ',H',I,q⟩:=h;exact⟨σ',H',I.unwish,q⟩
 |brk=>obtain⟨σ',H',I,q⟩:=h;exact⟨σ',H',I.unwish,q⟩
 |cont=>obtain⟨σ',H',I,q⟩:=h;exact⟨σ',H',I.unwish,q⟩
 |ret u=>obtain⟨v,σ',H',I,r,q⟩:=h;exact⟨v,σ',H',I.unwish,r,q⟩
theorem PSs.nox{st:List Stmt}{t:TS}(h:PSs X.nox st t):PSs X st t:=fun pins s σ H D I hw=>
 wpAny_mono (h pins s σ H D (I.wish _) hw) (fun _ _ q=>q.unwish) fun _ _ z=>False.elim z
end
section
variable {X:Cx} {st:Stmt} {aQ:List Stmt} {t u:TS} {e:Expr} {te:TE} {pos:Pos}
def GE:TS:=fun D σ H=>D.nx σ H
def H_(t u:TS):TS:=fun D σ H=>t {D with nx:=u D} σ H
theorem BH:PSs X [] GE:=fun _ _ σ H _ I h=>wpAny_execs_nil ⟨σ,H,I,h⟩
theorem yJ(h1:PS X st t)(h2:PSs X aQ u):PSs X (st::aQ) (H_ t u):=by
 intro pins s σ H D I h
 refine wpAny_execs_cons (bR (h1 pins s σ H {D with nx:=u D} I h) fun f s1 q=>?_)
 cases f with
 |next=>
  obtain⟨σ',H',I',q⟩:=q
  exact h2 pins s1 σ' H' D I' q
 |ret v=>exact q
 |brk=>exact q
 |cont=>exact q
theorem BI(h1:PS X st t):PSs X [st] t:=by
 intro pins s σ H D I h
 refine wpAny_execs_cons (bR (h1 pins s σ H D I h) fun f s1 q=>?_)
 cases f with
 |next=>exact wpAny_execs_nil q
 |ret v=>exact q
 |brk=>exact q
 |cont=>exact q
theorem Inv.quiet{pins:List (Addr×Obj)}{σ:St}{H:Hp}{s:Shared}(I:Inv X pins σ H s):interactive X.env=false:=by simp[interactive,I.ok.kind]
def GF(te:TE):TS:=fun D σ H=>te σ H fun _ H1=>D.nx σ H1
theorem BJ(he:PE X e te)(hs:swapsWith e none pos.line X.env=pure false:=by rfl):PS X (.Expr e pos) (GF te):=by
 intro pins s σ H D I h
 exact wpAny_Expr_any (bR (he pins s σ H _ I h) fun v s1 ⟨x,H1,I1,r1,q1⟩=>⟨σ,H1,I1,q1⟩) I.quiet hs
def Ia(te:TE):TS:=fun D σ H=>te σ H D.rt
theorem El(he:PE X e te):PS X (.Return (some e) pos) (Ia te):=by
 intro pins s σ H D I h
 exact wpAny_Return_some (bR (he pins s σ H _ I h) fun v s1 ⟨x,H1,I1,r1,q1⟩=>⟨x,σ,H1,I1,r1,q1⟩)
def Ib(c:TT)(t u:TS):TS:=fun D σ H=>c σ H fun b H1=>if b=true then t D σ H1 else u D σ H1
theorem GG{c:Expr}{a b:List Stmt}{tc:TT}(hc:PT X c tc)(ha:PSs X a t)(hb:PSs X b u):PS X (.If c a b pos) (Ib tc t u):=by
 intro pins s σ H D I h
 refine wpAny_If (bR (hc pins s σ H _ I h) fun d s1 ⟨H1,I1,q1⟩=>?_)
 cases d with
 |true=>exact ha pins s1 σ H1 D I1 q1
 |false=>exact hb pins s1 σ H1 D I1 q1
def Em:TS:=fun _ _ _=>False
theorem yK:PS X st Em:=fun _ _ _ _ _ _ h=>h.elim
end
abbrev TG:=V→St→Hp→(St→Hp→Prop)→Prop
abbrev BK:=List V→St→Hp→(St→Hp→Prop)→Prop
def PG(X:Cx)(target:Expr)(t:TG):Prop:=
 ∀(pins:List (Addr×Obj)) (s:Shared) (σ:St) (H:Hp) (v:V) (u:Value) (Q:St→Hp→Prop),Inv X pins σ H s→RelV v u→t v σ H Q→
  wpAny (model X.prog X.w) X.A (assign target X.env u) (fun _ s'=>∃σ' H',Inv X pins σ' H' s'∧Q σ' H') X.xe s
def En(X:Cx)(ts:List Expr)(t:BK):Prop:=
 ∀(pins:List (Addr×Obj)) (s:Shared) (σ:St) (H:Hp) (vs:List V) (us:List Value) (Q:St→Hp→Prop),Inv X pins σ H s→Vals vs us→t vs σ H Q→
  wpAny (model X.prog X.w) X.A (assignInOrder ((assignEach ts X.env).map (·.2)) us) (fun _ s'=>∃σ' H',Inv X pins σ' H' s'∧Q σ' H') X.xe s
section
variable {X:Cx} {pos:Pos}
def yL(i:Nat):TG:=fun v σ H Q=>Q (σ.set i (some v)) H
theorem vx{i:Nat}{x:Str}(hN:X.N.Nodup)(hi:X.N[i]? =some x)(hx:Eb X.env.scope x)(hf:X.fn x=true∨X.env.scope.names.lookup x=some .local:=by first |exact .inl rfl |exact .inr rfl |assumption):PG X (.Name x pos) (yL i):=by
 intro pins s σ H v u Q I r h
 exact wpAny_assign_Name (mn I hN hi hx r (fun s' I'=>⟨_,H,I',h⟩) hf)
def Ic:BK:=fun vs σ H Q=>vs=[]∧Q σ H
def GH(t:TG)(u:BK):BK:=fun vs σ H Q=>∃v r,vs=v::r∧t v σ H fun σ' H'=>u r σ' H' Q
theorem BL:En X [] Ic:=by
 intro pins s σ H vs us Q I r h
 obtain⟨e,h⟩:=h
 subst e
 cases r
 exact assignInOrder_nil ⟨σ,H,I,h⟩
theorem yM{e:Expr}{es:List Expr}{t:TG}{u:BK}(h1:PG X e t)(h2:En X es u)
  (hs:(assignEach (e::es) X.env).map (·.2)=assign e X.env::(assignEach es X.env).map (·.2):=by rfl):En X (e::es) (GH t u):=by
 intro pins s σ H vs us Q I r h
 obtain⟨v,vr,e1,h⟩:=h
 subst e1
 cases r with
 |cons r rr=>
  rw[hs]
  refine assignInOrder_cons (bR (h1 pins s σ H _ _ _ I r h) fun _ s1 ⟨σ1,H1,I1,q1⟩=>?_)
  exact h2 pins s1 σ1 H1 _ _ Q I1 rr q1
def Id(K:Frag)(n:Nat)(t:BK):TG:=fun v σ H Q=>∃a xs,v=.ref a∧SqT K H a xs∧xs.length=n∧t xs σ H Q
theorem Eo{es:List Expr}{k:Nat}{t:BK}{n:Nat}(hc:X.calm=true)(h:En X es t)
  (hn:(assignEach es X.env).length=n:=by rfl) (hst:(assignEach es X.env).findIdx? (·.1)=none:=by rfl):PG X (.Tuple es k pos) (Id X.K n t):=by
 intro pins s σ H v u Q I r hw
 obtain⟨a,xs,e1,hq,hl,hw⟩:=hw
 subst e1
 cases r
 obtain⟨its,rv,ht,hz⟩:=I.tuple hq
 refine assign_Tuple_tuple (I.ok.hd hc) ht (by simp[hn,←hl,rv.length]) hst fun h' hx=>?_
 have I1:Inv X pins σ H {s with heap:=h'}:=I.kept (t':=s.toks) fun b o e=>hx b o (eF (dM e)) e
 exact h pins _ σ H xs _ Q I1 (by simpa using rv) hw
def GI(te:TE)(g:TG):TS:=fun D σ H=>te σ H fun x H1=>g x σ H1 D.nx
theorem Ep{i:Nat}{x:Str}{e:Expr}{te:TE}{pos':Pos}(hN:X.N.Nodup)(hi:X.N[i]? =some x)(hx:Eb X.env.scope x)(he:PE X e te)(hs:swapsWith e (some (.Name x pos')) pos.line X.env=pure false:=by rfl)(hf:X.fn x=true∨X.env.scope.names.lookup x=some .local:=by first |exact .inl rfl |exact .inr rfl |assumption):
  PS X (.Assign [.Name x pos'] e pos) (GI te (yL i)):=by
 intro pins s σ H D I h
 refine wpAny_Assign_Name (bR (he pins s σ H _ I h) fun v s1 ⟨y,H1,I1,r1,q1⟩=>?_) hs
 exact mn I1 hN hi hx r1 (fun s2 I2=>⟨_,H1,I2,q1⟩) hf
end
structure It where
 go:Nat→Hp→Prop
 yld:Nat→Hp→V→Hp→Prop
 stop:Nat→Hp→Prop
def ip(X:Cx)(pins:List (Addr×Obj))(H:Hp)(b:Addr):Prop:=
 H b=none∧b≠X.env.locals∧b∉X.fs∧(b∈X.ex∨X.s₀.heap.objs.size≤b)∧(∀x c,X.env.cells.lookup x=some c→c≠b)∧∀p∈X.pn++pins,p.1≠b
theorem Inv.fpOk{X:Cx}{pins:List (Addr×Obj)}{σ:St}{H H':Hp}{s:Shared}{b:Addr}(I:Inv X pins σ H s)(hb:s.heap.objs.size≤b)(hn:H' b=none):ip X pins H' b:=by
 refine⟨hn,Nat.ne_of_gt (jH I.lt hb),I.nofs hb,.inr (kK I.sz hb),fun x c e z=>?_,fun p hp z=>?_⟩
 ·obtain⟨v,q⟩:=I.cell x c e
  exact absurd (jH q.lt (by rw[z];exact hb)) (Nat.lt_irrefl _)
 ·exact absurd (jH (dM (I.pin p hp).1) (by rw[z];exact hb)) (Nat.lt_irrefl _)
structure Turn (P:Program) (w:World) (K:Frag) (tg:Expr) (J:It) (fp:List Addr) (it:Addr) (tn:Nat→Heap→Prop):Prop where
 mem:it∈fp
 obj:∀i h,tn i h→∀b∈fp,∃o,h.get? b=some o∧∀v,o.data≠ .cell v
 keep:∀i h h',tn i h→(∀b∈fp,∀o,h.get? b=some o→h'.get? b=some o)→tn i h'
 item:∀(X:Cx),X.prog=P→X.w=w→X.K=K→X.calm=true→∀(i:Nat) (pins:List (Addr×Obj)) (s:Shared) (σ:St) (H:Hp) (E:Value→Shared→Prop),Inv X pins σ H s→(∀b∈fp,ip X pins H b)→tn i s.heap→J.go i H→
  wpAny (model P w) X.A (pyNext (.ref it)) (fun r s1=>∃u,r=some u∧
   wpAny (model P w) X.A (letOwnedTupleGo tg (.ref it) u) (fun _ s2=>∃x H',Inv X pins σ H' s2∧RelV x u∧J.yld i H x H'∧tn (i+1) s2.heap∧∀b∈fp,H' b=none) E s1) E s
 done:∀(X:Cx),X.prog=P→X.w=w→X.K=K→X.calm=true→∀(i:Nat) (pins:List (Addr×Obj)) (s:Shared) (σ:St) (H:Hp) (E:Value→Shared→Prop),Inv X pins σ H s→(∀b∈fp,ip X pins H b)→tn i s.heap→J.stop i H→
  wpAny (model P w) X.A (pyNext (.ref it)) (fun r s1=>r=none∧Inv X pins σ H s1) E s
 self:∀(A:Around) (i:Nat) (s:Shared) (Q:Value→Shared→Prop) (E:Value→Shared→Prop),tn i s.heap→Q (.ref it) s→wpAny (model P w) A (pyIter (.ref it)) Q E s
abbrev TI:=St→Hp→(It→Hp→Prop)→Prop
def Ie(X:Cx)(pins:List (Addr×Obj))(σ:St)(tg:Expr)(R:It→Hp→Prop)(itv:Value)(s2:Shared):Prop:=
 ∃(it:Addr) (fp:List Addr) (tn:Nat→Heap→Prop) (J:It) (H':Hp),itv=.ref it∧Inv X pins σ H' s2∧Turn X.prog X.w X.K tg J fp it tn∧tn 0 s2.heap∧(∀b∈fp,ip X pins H' b)∧R J H'
def PI(X:Cx)(tg iter:Expr)(wi:TI):Prop:=
 ∀(pins:List (Addr×Obj)) (s:Shared) (σ:St) (H:Hp) (R:It→Hp→Prop),Inv X pins σ H s→wi σ H R→
  wpAny (model X.prog X.w) X.A (eval iter X.env) (fun v s1=>wpAny (model X.prog X.w) X.A (pyIter v) (Ie X pins σ tg R) X.xe s1) X.xe s
theorem oW{M:Model}{A:Around}{E:Value→Shared→Prop}{s:Shared}{tg:Expr}{it:Addr}{u:Value}{o:Obj}{n:String}{vs:Array Value}{Q:Unit→Shared→Prop}(ho:s.heap.get? it=some o)(hc:o.cls=.type n)(hd:o.data=.fields vs)
  (hn:["enumerate","zip","dict_itemiterator","dict_reverseitemiterator","odict_iterator","itertools.zip_longest","itertools.pairwise"].contains n=false) (hQ:Q () s):wpAny M A (letOwnedTupleGo tg (.ref it) u) Q E s:=by
 unfold letOwnedTupleGo
 cases tg <;> first
  |exact wpAny_pure hQ
  |(cases u <;> first
    |exact wpAny_pure hQ
    |(refine wpAny_bind (wpAny_load ho ?_)
      rw[hc,hd]
      show wpAny M A (if (["enumerate","zip","dict_itemiterator","dict_reverseitemiterator","odict_iterator","itertools.zip_longest","itertools.pairwise"].contains n&&vs[0]? == some (rawInt _))=true then _ else _) Q E s
      rw[if_neg (by intro h;rw[hn,Bool.false_and]at h;cases h)]
      exact wpAny_pure hQ))
def Ig(K:Frag)(a:Addr):It:=
 ⟨fun i H=>∃xs x,SqL K H a xs∧xs[i]? =some x,fun i H x H'=>H'=H∧∀xs,SqL K H a xs→xs[i]? =some x,fun i H=>∃xs,SqL K H a xs∧xs.length≤i⟩
def Ih(K:Frag)(a:Addr):It:=
 ⟨fun i H=>∃xs x,SqT K H a xs∧xs[i]? =some x,fun i H x H'=>H'=H∧∀xs,SqT K H a xs→xs[i]? =some x,fun i H=>∃xs,SqT K H a xs∧xs.length≤i⟩
def Gr(lo:Int)(n:Nat):It:=⟨fun i _=>i < n,fun i H x H'=>H'=H∧x=.int (lo+i),fun i _=>n≤i⟩
theorem wS{P:Program}{w:World}{K:Frag}{tg:Expr}(a it:Addr):Turn P w K tg (Ig K a) [it] it (fun i h=>h.IsListIter it a i) where
 mem:=by simp
 obj:=fun i h st b hb=>by
  have e:b=it:=by simpa using hb
  subst e
  obtain⟨o,e,c,d⟩:=st
  exact⟨o,e,fun v z=>by rw[d]at z;cases z⟩
 keep:=fun i h h' st k=>st.at fun o e=>k it (by simp) o e
 item:=by
  intro X hP hw hK hc i pins s σ H E I hf st hg
  subst hP hw hK
  obtain⟨xs,x,hq,hx⟩:=hg
  obtain⟨its,rv,p,hz⟩:=I.list hq
  obtain⟨u,hu,ru⟩:=rv.get hx
  obtain⟨f0,f1,f2,f3,f4,f5⟩:=hf it (by simp)
  refine wpAny_pyNext_list_item st p.isList (x:=u) (by simpa using hu) fun h' st' sb=>?_
  have I1:Inv X pins σ H {s with heap:=h'}:=I.turned (t':=s.toks) (fun b o hb e=>(sb.2 b hb).trans e) f0 f1 f3 f4 f5
  obtain⟨o,e,c,d⟩:=id st'
  exact⟨u,rfl,oW (s:={s with heap:=h'}) e c d (by decide) ⟨x,H,I1,ru,⟨rfl,fun ys hy=>by rw[I.list_inj hy hq];exact hx⟩,st',fun b hb=>(hf b hb).1⟩⟩
 done:=by
  intro X hP hw hK hc i pins s σ H E I hf st hg
  subst hP hw hK
  obtain⟨xs,hq,hx⟩:=hg
  obtain⟨its,rv,p,hz⟩:=I.list hq
  obtain⟨f0,f1,f2,f3,f4,f5⟩:=hf it (by simp)
  have hl:=rv.length
  exact wpAny_pyNext_list_end (I.ok.hd hc) st p.isList (by simp;omega) fun h' eb=>⟨rfl,I.turned (t':=s.toks) (fun b o hb e=>eb b o hb e) f0 f1 f3 f4 f5⟩
 self:=fun _ _ _ _ _ st h=>wpAny_pyIter_listiter st h
theorem tV{P:Program}{w:World}{K:Frag}{tg:Expr}(a it:Addr):Turn P w K tg (Ih K a) [it] it (fun i h=>h.IsTupleIter it a i) where
 mem:=by simp
 obj:=fun i h st b hb=>by
  have e:b=it:=by simpa using hb
  subst e
  obtain⟨o,e,c,d⟩:=st
  exact⟨o,e,fun v z=>by rw[d]at z;cases z⟩
 keep:=fun i h h' st k=>st.at fun o e=>k it (by simp) o e
 item:=by
  intro X hP hw hK hc i pins s σ H E I hf st hg
  subst hP hw hK
  obtain⟨xs,x,hq,hx⟩:=hg
  obtain⟨its,rv,p,hz⟩:=I.tuple hq
  obtain⟨u,hu,ru⟩:=rv.get hx
  obtain⟨f0,f1,f2,f3,f4,f5⟩:=hf it (by simp)
  refine wpAny_pyNext_tuple_item st (show s.heap.IsTuple a its.toArray from p) (x:=u) (by simpa using hu) fun h' st' sb=>?_
  have I1:Inv X pins σ H {s with heap:=h'}:=I.turned (t':=s.toks) (fun b o hb e=>(sb.2 b hb).trans e) f0 f1 f3 f4 f5
  obtain⟨o,e,c,d⟩:=id st'
  exact⟨u,rfl,oW (s:={s with heap:=h'}) e c d (by decide) ⟨x,H,I1,ru,⟨rfl,fun ys hy=>by rw[I.tuple_inj hy hq];exact hx⟩,st',fun b hb=>(hf b hb).1⟩⟩
 done:=by
  intro X hP hw hK hc i pins s σ H E I hf st hg
  subst hP hw hK
  obtain⟨xs,hq,hx⟩:=hg
  obtain⟨its,rv,p,hz⟩:=I.tuple hq
  obtain⟨f0,f1,f2,f3,f4,f5⟩:=hf it (by simp)
  have hl:=rv.length
  exact wpAny_pyNext_tuple_end (I.ok.hd hc) st (show s.heap.IsTuple a its.toArray from p) (by simp;omega) fun h' eb=>⟨rfl,I.turned (t':=s.toks) (fun b o hb e=>eb b o hb e) f0 f1 f3 f4 f5⟩
 self:=fun _ _ _ _ _ st h=>wpAny_pyIter_tupleiter st h
theorem tW{P:Program}{w:World}{K:Frag}{tg:Expr}(it:Addr)(lo:Int)(n:Nat):Turn P w K tg (Gr lo n) [it] it (fun i h=>IsRangeIter h it (lo+(i:Nat)*1) ((n:Int) - (i:Nat)) 1) where
 mem:=by simp
 obj:=fun i h st b hb=>by
  have e:b=it:=by simpa using hb
  subst e
  exact⟨_,st,fun v z=>by
   have z':Data.fields _=Data.cell v:=z
   cases z'⟩
 keep:=fun i h h' st k=>k it (by simp) _ st
 item:=by
  intro X hP hw hK hc i pins s σ H E I hf st hg
  subst hP hw hK
  obtain⟨f0,f1,f2,f3,f4,f5⟩:=hf it (by simp)
  have W:=Walks.range (prog:=X.prog) (w:=X.w) (I.ok.hd hc) it lo 1 n
  refine W.item i s _ _ hg st fun v h' tk hv st' kk=>?_
  obtain⟨t,rfl⟩:=hv
  have I1:Inv X pins σ H {s with heap:=h',toks:=tk}:=I.turned (fun b o hb e=>kk b o (by simpa using hb) e) f0 f1 f3 f4 f5
  refine⟨_,rfl,oW (s:={s with heap:=h',toks:=tk}) (n:="range_iterator") st' rfl rfl (by decide) ⟨.int (lo+i),H,I1,⟨t,?_⟩,⟨rfl,rfl⟩,st',fun b hb=>(hf b hb).1⟩⟩
  rw[Int.mul_one]
 done:=by
  intro X hP hw hK hc i pins s σ H E I hf st hg
  subst hP hw hK
  obtain⟨f0,f1,f2,f3,f4,f5⟩:=hf it (by simp)
  exact wpAny_pyNext_range_end (I.ok.hd hc) st (by have:n≤i:=hg;omega) fun h' eb=>⟨rfl,I.turned (t':=s.toks) (fun b o hb e=>eb b o hb e) f0 f1 f3 f4 f5⟩
 self:=fun _ _ _ _ _ st h=>wpAny_pyIter_rangeiter st h
end L2
namespace L2
open PySem PySem.Spec PyProof.Rows
section
variable {X:Cx} {tg:Expr}
def GJ(K:Frag)(tl:TE):TI:=fun σ H R=>tl σ H fun x H1=>∃a,x=.ref a∧(∃xs,SqL K H1 a xs)∧R (Ig K a) H1
def Ii(K:Frag)(tl:TE):TI:=fun σ H R=>tl σ H fun x H1=>∃a,x=.ref a∧(∃xs,SqT K H1 a xs)∧R (Ih K a) H1
theorem BM{l:Expr}{tl:TE}(hl:PE X l tl):PI X tg l (GJ X.K tl):=by
 intro pins s σ H R I h
 refine bR (hl pins s σ H _ I h) fun v s1 ⟨x,H1,I1,r1,q1⟩=>?_
 obtain⟨a,e,⟨xs,hq⟩,q⟩:=q1
 subst e
 cases r1
 obtain⟨its,rv,p,hz⟩:=I1.list hq
 refine wpAny_pyIter_list p.isList ?_
 refine⟨s1.heap.objs.size,[s1.heap.objs.size],_,_,H1,rfl,I1.kept (t':=s1.toks) fun b o e=>dF _ e,wS a _,⟨_,ie _ rfl,rfl,rfl⟩,fun b hb=>?_,q⟩
 have e:b=s1.heap.objs.size:=by simpa using hb
 subst e
 exact I1.fpOk (dE _) (I1.hok.fresh (dE _))
theorem Er{l:Expr}{tl:TE}(hl:PE X l tl):PI X tg l (Ii X.K tl):=by
 intro pins s σ H R I h
 refine bR (hl pins s σ H _ I h) fun v s1 ⟨x,H1,I1,r1,q1⟩=>?_
 obtain⟨a,e,⟨xs,hq⟩,q⟩:=q1
 subst e
 cases r1
 obtain⟨its,rv,p,hz⟩:=I1.tuple hq
 refine wpAny_pyIter_tuple (show s1.heap.IsTuple a its.toArray from p) ?_
 refine⟨s1.heap.objs.size,[s1.heap.objs.size],_,_,H1,rfl,I1.kept (t':=s1.toks) fun b o e=>dF _ e,tV a _,⟨_,ie _ rfl,rfl,rfl⟩,fun b hb=>?_,q⟩
 have e:b=s1.heap.objs.size:=by simpa using hb
 subst e
 exact I1.fpOk (dE _) (I1.hok.fresh (dE _))
theorem yN{pins:List (Addr×Obj)}{σ:St}{H:Hp}{s:Shared}{R:It→Hp→Prop}{E:Value→Shared→Prop}{lo hi:Int}{t u v:Tok}{tk:Nat}(I:Inv X pins σ H s)(h1: -(2 ^ 62)≤lo)(h2:lo < 2 ^ 62)(h3: -(2 ^ 62)≤hi)(h4:hi < 2 ^ 62)
  (q:R (Gr lo (hi - lo).toNat) H):wpAny (model X.prog X.w) X.A (pyIter (.ref s.heap.objs.size)) (Ie X pins σ tg R) E {s with heap:=s.heap.push {cls:=.type "range",data:=.fields #[.int lo t,.int hi u,.int 1 v]},toks:=tk}:=by
 refine wpAny_pyIter_range (IsRange.new ..) (small_one h1 h2 h3 h4) ?_
 have I1:Inv X pins σ H {s with heap:=s.heap.push {cls:=.type "range",data:=.fields #[.int lo t,.int hi u,.int 1 v]},toks:=tk}:=I.kept fun b o e=>dF _ e
 refine⟨(s.heap.push {cls:=.type "range",data:=.fields #[.int lo t,.int hi u,.int 1 v]}).objs.size,[(s.heap.push {cls:=.type "range",data:=.fields #[.int lo t,.int hi u,.int 1 v]}).objs.size],_,_,H,rfl,
  I1.kept (t':=tk) fun b o e=>dF _ e,tW _ lo (hi - lo).toNat,?_,fun b hb=>?_,q⟩
 ·have e1:lo+((0:Nat):Int)*1=lo:=by simp
  have e2:(((hi - lo).toNat:Nat):Int) - ((0:Nat):Int)=Builtin.Range.rangeSize lo hi 1:=by rw[rangeSize_one];split <;> omega
  show IsRangeIter _ _ (lo+((0:Nat):Int)*1) ((((hi - lo).toNat:Nat):Int) - ((0:Nat):Int)) 1
  rw[e1,e2]
  exact ie _ rfl
 ·have e:b=(s.heap.push {cls:=.type "range",data:=.fields #[.int lo t,.int hi u,.int 1 v]}).objs.size:=by simpa using hb
  subst e
  exact I1.fpOk (dE _) (I1.hok.fresh (dE _))
def DD(ta:TA):TI:=fun σ H R=>ta σ H fun vs H1=>∃j:Int,vs=[.int j]∧ -(2 ^ 62)≤j∧j < 2 ^ 62∧R (Gr 0 j.toNat) H1
theorem wT {a:Expr} {ta:TA} {p pos:Pos} (hg:Gl X "range") (hm:X.mg "range"=none) (ha:PA X [a] ta) (hs:starEach [a] X.env=[(false,eval a X.env)]:=by rfl):PI X tg (.Call (.Name "range" p) [a] [] pos) (DD ta):=by
 intro pins s σ H R I h
 refine Call_ (fX I hg hm boot_range (PyProof.Rows.callWith_type1 (bR (ha pos pins s σ H _ I h) fun us s1 ⟨vs,H1,I1,r1,q1⟩=>?_) hs rfl))
 obtain⟨j,e,q1,q2,q⟩:=q1
 subst e
 cases r1 with
 |cons r rr=>
  cases rr
  obtain⟨t,rfl⟩:=r
  exact call_range_1 (yN I1 (by omega) (by omega) q1 q2 (by simpa using q))
def Ij(wi:TI)(g:TG)(tb:TS):TS:=fun D σ H=>wi σ H fun J H1=>∃W:Nat→Nat→St→Hp→Prop,(∃m,W 0 m σ H1)∧∀i m σ H,W i m σ H→
 (J.stop i H∧D.nx σ H)∨(J.go i H∧∃N:St→Hp→Prop,(∀σ' H',N σ' H'→∃m',m' < m∧W (i+1) m' σ' H')∧∀x H',J.yld i H x H'→g x σ H' fun σ2 H2=>tb {D with nx:=N,ct:=N,bk:=D.nx} σ2 H2)
def jI(fp:List Addr)(h:Heap):List (Addr×Obj):=fp.filterMap fun b=>(h.get? b).map fun o=>(b,o)
theorem c_{fp:List Addr}{h:Heap}{b:Addr}{o:Obj}(hb:b∈fp)(e:h.get? b=some o):(b,o)∈jI fp h:=List.mem_filterMap.mpr ⟨b,hb,by rw[e];rfl⟩
theorem wU{fp:List Addr}{h:Heap}{p:Addr×Obj}(hp:p∈jI fp h):p.1∈fp∧h.get? p.1=some p.2:=by
 obtain⟨b,hb,e⟩:=List.mem_filterMap.mp hp
 cases q:h.get? b with
 |none=>rw[q]at e;cases e
 |some o=>
  rw[q]at e
  have e':(b,o)=p:=Option.some.inj e
  subst e'
  exact⟨hb,q⟩
theorem Inv.pinned{pins:List (Addr×Obj)}{σ:St}{H:Hp}{s:Shared}{fp:List Addr}(I:Inv X pins σ H s)(hf:∀b∈fp,ip X pins H b)(ho:∀b∈fp,∃o,s.heap.get? b=some o∧∀v,o.data≠ .cell v):Inv X (pins++jI fp s.heap) σ H s:=
 I.pins_of fun p hp=>(Zao.mp hp).elim (fun z=>I.pin p (jx _ z)) fun z=>by
  obtain⟨hb,e⟩:=wU z
  obtain⟨f0,f1,f2,_⟩:=hf p.1 hb
  obtain⟨o,e',d⟩:=ho p.1 hb
  rw[e]at e';cases e'
  exact⟨e,f0,f1,f2,d⟩
theorem Inv.unpinned{pins pl:List (Addr×Obj)}{σ:St}{H:Hp}{s:Shared}(I:Inv X (pins++pl) σ H s):Inv X pins σ H s:=I.pins_of fun p hp=>I.pin p (jx _ (Zb _ hp))
theorem yO{iter:Expr}{body:List Stmt}{wi:TI}{g:TG}{tb:TS}{pos:Pos}(hp:PassesOwn (model X.prog X.w) X.A X.env X.xe)(hc:X.calm=true)(hi:PI X tg iter wi)(hg:PG X tg g)(hb:PSs X body tb)
  (hs:∀x,foldedSetIterable iter X.env x=pure x:=by intro _;rfl):PS X (.For tg iter body [] pos) (Ij wi g tb):=by
 intro pins s σ H D I h
 refine wpAny_For (bR (hi pins s σ H _ I h) fun v s1 h1=>bR h1 fun itv s2 h2=>?_) hs
 obtain⟨it,fp,tn,J,H2,e,I2,T,st2,f2,W,⟨m0,w0⟩,turn⟩:=h2
 subst e
 -- what stays true of the iterator's objects through the loop
 have stat:∀{H':Hp},(∀b∈fp,H' b=none)→∀b∈fp,ip X pins H' b:=fun hn b hb=>⟨hn b hb,(f2 b hb).2⟩
 refine codeAny_forLoop_any (fun n s'=>∃i σ' H',Inv X pins σ' H' s'∧tn i s'.heap∧(∀b∈fp,H' b=none)∧W i n σ' H') ?_ m0 ⟨0,σ,H2,I2,st2,fun b hb=>(f2 b hb).1,w0⟩
 rintro n s3 ⟨i,σ3,H3,I3,st3,fr3,w3⟩
 rcases turn i n σ3 H3 w3 with⟨stop,qn⟩ |⟨go,N,hN,step⟩
 ·refine wpAny_passesOwn hp (bR (T.done X rfl rfl rfl hc i pins s3 σ3 H3 X.xe I3 (stat fr3) st3 stop) fun r s4 ⟨hr,I4⟩=>?_)
  subst hr
  exact wpAny_execs_nil ⟨σ3,H3,I4,qn⟩
 ·refine wpAny_passesOwn hp (bR (T.item X rfl rfl rfl hc i pins s3 σ3 H3 X.xe I3 (stat fr3) st3 go) fun r s4 ⟨u,hr,h4⟩=>?_)
  subst hr
  refine wpAny_passesOwn hp (bR h4 fun _ s5 ⟨x,H5,I5,r5,y5,st5,fr5⟩=>?_)
  have I5':=I5.pinned (stat fr5) (T.obj _ _ st5)
  refine wpAny_passesOwn hp (bR (hg _ s5 σ3 H5 x u _ I5' r5 (step x H5 y5)) fun _ s6 ⟨σ6,H6,I6,q6⟩=>?_)
  refine wpAny_passesOwn hp (bR (hb _ s6 σ6 H6 _ I6 q6) fun f s7 q7=>?_)
  have again:∀{σ7:St} {H7:Hp},Inv X (pins++jI fp s5.heap) σ7 H7 s7→N σ7 H7→∃m,m < n∧∃i σ' H',Inv X pins σ' H' s7∧tn i s7.heap∧(∀b∈fp,H' b=none)∧W i m σ' H':=fun {σ7 H7} I7 n7=>by
   obtain⟨m',hm,w7⟩:=hN σ7 H7 n7
   refine⟨m',hm,i+1,σ7,H7,I7.unpinned,T.keep _ _ _ st5 fun b hb o e=>(I7.pin (b,o) (jx _ (jx _ (c_ hb e)))).1,fun b hb=>?_,w7⟩
   obtain⟨o,e,d⟩:=T.obj _ _ st5 b hb
   exact(I7.pin (b,o) (jx _ (jx _ (c_ hb e)))).2.1
  cases f with
  |next=>obtain⟨σ7,H7,I7,n7⟩:=q7;exact again I7 n7
  |cont=>obtain⟨σ7,H7,I7,n7⟩:=q7;exact again I7 n7
  |brk=>obtain⟨σ7,H7,I7,q7⟩:=q7;exact⟨σ7,H7,I7.unpinned,q7⟩
  |ret v=>obtain⟨x7,σ7,H7,I7,r7,q7⟩:=q7;exact⟨x7,σ7,H7,I7.unpinned,r7,q7⟩
end
end L2
namespace L2
open PySem PySem.Spec PyProof.Rows
abbrev R2:=V→V→Hp→VK→Prop
def OpR(X:Cx)(f:Value→Value→Sem Value)(r:R2):Prop:=
 ∀(pins:List (Addr×Obj)) (s:Shared) (σ:St) (H:Hp) (x y:V) (v u:Value) (Q:VK),Inv X pins σ H s→RelV x v→RelV y u→r x y H Q→
  wpAny (model X.prog X.w) X.A (f v u) (EP X pins σ Q) X.xe s
def Ik(X:Cx)(f:Value→Sem Value)(r:V→Hp→VK→Prop):Prop:=
 ∀(pins:List (Addr×Obj)) (s:Shared) (σ:St) (H:Hp) (x:V) (v:Value) (Q:VK),Inv X pins σ H s→RelV x v→r x H Q→
  wpAny (model X.prog X.w) X.A (f v) (EP X pins σ Q) X.xe s
def CallR(X:Cx)(f:Value)(r:List V→Hp→VK→Prop):Prop:=
 ∀(pins:List (Addr×Obj)) (s:Shared) (σ:St) (H:Hp) (xs:List V) (us:List Value) (Q:VK),Inv X pins σ H s→Vals xs us→r xs H Q→
  wpAny (model X.prog X.w) X.A (call f us) (EP X pins σ Q) X.xe s
def Il(X:Cx)(r:V→Hp→(Bool→Hp→Prop)→Prop):Prop:=
 ∀(pins:List (Addr×Obj)) (s:Shared) (σ:St) (H:Hp) (x:V) (v:Value) (Q:Bool→Hp→Prop),Inv X pins σ H s→RelV x v→r x H Q→
  wpAny (model X.prog X.w) X.A (truthy v) (TP X pins σ Q) X.xe s
def GK(r:R2)(ta tb:TE):TE:=fun σ H Q=>ta σ H fun x H1=>tb σ H1 fun y H2=>r x y H2 Q
def Ju(r:V→Hp→VK→Prop)(ta:TE):TE:=fun σ H Q=>ta σ H fun x H1=>r x H1 Q
def rI(C:Int→Int→Prop)(g:Int→Int→V):R2:=fun x y H Q=>∃i j,x=.int i∧y=.int j∧C i j∧Q (g i j) H
def BN(g:Int→Int→V):R2:=fun x y H Q=>∃i j,x=.int i∧y=.int j∧Q (g i j) H
def rU(g:Int→V):V→Hp→VK→Prop:=fun x H Q=>∃i,x=.int i∧Q (g i) H
section
variable {X:Cx} {a b c:Expr} {ta tb tc:TE} {pos:Pos}
theorem Es(ha:PE X a ta)(hb:PE X b tb){pins:List (Addr×Obj)}{s:Shared}{σ:St}{H:Hp}{R:V→V→Hp→Prop}(I:Inv X pins σ H s)
  (h:ta σ H fun x H1=>tb σ H1 fun y H2=>R x y H2) {Q:Value→Shared→Prop} {f:Value→Value→Sem Value}
  (hf:∀v u s2 x y H2,Inv X pins σ H2 s2→RelV x v→RelV y u→R x y H2→wpAny (model X.prog X.w) X.A (f v u) Q X.xe s2):
  wpAny (model X.prog X.w) X.A (eval a X.env) (fun v s₁=>wpAny (model X.prog X.w) X.A (eval b X.env) (fun u s₂=>wpAny (model X.prog X.w) X.A (f v u) Q X.xe s₂) X.xe s₁) X.xe s:=by
 refine bR (ha pins s σ H _ I h) fun v s1 ⟨x,H1,I1,r1,q1⟩=>?_
 refine bR (hb pins s1 σ H1 _ I1 q1) fun u s2 ⟨y,H2,I2,r2,q2⟩=>?_
 exact hf v u s2 x y H2 I2 r1 r2 q2
theorem GL{op:Operator}{r:R2}(ho:OpR X (binaryOp op) r)(ha:PE X a ta)(hb:PE X b tb):PE X (.BinOp a op b pos) (GK r ta tb):=by
 intro pins s σ H Q I h
 exact wpAny_BinOp (Es ha hb I h fun v u s2 x y H2 I2 rx ry q=>ho pins s2 σ H2 x y v u Q I2 rx ry q)
theorem GM{op:UnaryOp}{r:V→Hp→VK→Prop}(ho:Ik X (unaryOp op) r)(ha:PE X a ta):PE X (.UnaryOp op a pos) (Ju r ta):=by
 intro pins s σ H Q I h
 exact UnaryOp_ (bR (ha pins s σ H _ I h) fun v s1 ⟨x,H1,I1,r1,q1⟩=>ho pins s1 σ H1 x v Q I1 r1 q1)
theorem Gs{f:Value→Value→Sem Value}{C:Int→Int→Prop}{g:Int→Int→Int}
  (rule:∀(i j:Int) (t u:Tok) (s:Shared) (Q:Value→Shared→Prop) (E:Value→Shared→Prop),C i j→Q (.int (g i j) s.toks) {s with toks:=s.toks+1}→wpAny (model X.prog X.w) X.A (f (.int i t) (.int j u)) Q E s):
  OpR X f (rI C fun i j=>.int (g i j)):=by
 intro pins s σ H x y v u Q I rx ry h
 obtain⟨i,j,rfl,rfl,hc,q⟩:=h
 obtain⟨t,rfl⟩:=rx
 obtain⟨t',rfl⟩:=ry
 exact rule i j t t' s _ _ hc ⟨.int (g i j),H,I.tok _,⟨_,rfl⟩,q⟩
theorem Et{f:Value→Value→Sem Value}{g:Int→Int→Int}
  (rule:∀(i j:Int) (t u:Tok) (s:Shared) (Q:Value→Shared→Prop) (E:Value→Shared→Prop),Q (.int (g i j) s.toks) {s with toks:=s.toks+1}→wpAny (model X.prog X.w) X.A (f (.int i t) (.int j u)) Q E s):
  OpR X f (BN fun i j=>.int (g i j)):=by
 intro pins s σ H x y v u Q I rx ry h
 obtain⟨i,j,rfl,rfl,q⟩:=h
 obtain⟨t,rfl⟩:=rx
 obtain⟨t',rfl⟩:=ry
 exact rule i j t t' s _ _ ⟨.int (g i j),H,I.tok _,⟨_,rfl⟩,q⟩
theorem BO{f:Value→Value→Sem Value}{g:Int→Int→Bool}
  (rule:∀(i j:Int) (t u:Tok) (s:Shared) (Q:Value→Shared→Prop) (E:Value→Shared→Prop),Q (.bool (g i j)) s→wpAny (model X.prog X.w) X.A (f (.int i t) (.int j u)) Q E s):
  OpR X f (BN fun i j=>.bl (g i j)):=by
 intro pins s σ H x y v u Q I rx ry h
 obtain⟨i,j,rfl,rfl,q⟩:=h
 obtain⟨t,rfl⟩:=rx
 obtain⟨t',rfl⟩:=ry
 exact rule i j t t' s _ _ ⟨.bl (g i j),H,I,rfl,q⟩
def Eu(i j:Int):Prop:=0≤j∧j≤1000000∧i.natAbs < 2 ^ 64
def CMul(i j:Int):Prop:=(-(2 ^ 64) < i∧i < 2 ^ 64)∨(-(2 ^ 64) < j∧j < 2 ^ 64)
theorem CMul.ok{i j:Int}(h:CMul i j):IntMulOk i j:=by
 rcases h with⟨h1,h2⟩ |⟨h1,h2⟩
 ·exact .of_left (intBits_le_64 h1 h2)
 ·exact .of_right (intBits_le_64 h1 h2)
theorem tX(k:Nat):(0:Int)≤2 ^ k:=by
 rw[two_pow_cast]
 exact Int.natCast_nonneg _
theorem Ev:OpR X (binaryOp .Add) (BN fun i j=>.int (i+j)):=Et fun _ _ _ _ _ _ _ q=>add_int q
theorem Ew:OpR X (binaryOp .Sub) (BN fun i j=>.int (i - j)):=Et fun _ _ _ _ _ _ _ q=>sub_int q
theorem Ex:OpR X (binaryOp .Mod) (rI (fun _ j=>0 < j) fun i j=>.int (i % j)):=Gs fun i j _ _ _ _ _ hc q=>by
 have h1:(0:Int) < j:=hc
 exact mod_int' (by omega) (by rw[Int.fmod_eq_emod_of_nonneg i (by omega)];exact q)
theorem Ey:OpR X (binaryOp .Pow) (rI Eu fun i j=>.int (i ^ j.toNat)):=Gs fun _ _ _ _ _ _ _ hc q=>pow_int_small hc.1 hc.2.1 hc.2.2 q
theorem Ez:OpR X (binaryOp .LShift) (rI Eu fun i j=>.int (i*2 ^ j.toNat)):=Gs fun _ _ _ _ _ _ _ hc q=>lshift_int_small hc.1 hc.2.1 hc.2.2 q
theorem EA:OpR X (binaryOp .RShift) (rI (fun _ j=>0≤j) fun i j=>.int (i / 2 ^ j.toNat)):=Gs fun i j _ _ _ _ _ hc q=>
 rshift_int hc (by rw[Int.fdiv_eq_ediv_of_nonneg i (tX _)];exact q)
theorem EB:OpR X (binaryOp .BitAnd) (BN fun i j=>.int (Builtin.bitAnd i j)):=Et fun _ _ _ _ _ _ _ q=>and_int q
theorem Jv{f:Value→Sem Value}{g:Int→Int}
  (rule:∀(i:Int) (t:Tok) (s:Shared) (Q:Value→Shared→Prop) (E:Value→Shared→Prop),Q (.int (g i) s.toks) {s with toks:=s.toks+1}→wpAny (model X.prog X.w) X.A (f (.int i t)) Q E s):
  Ik X f (rU fun i=>.int (g i)):=by
 intro pins s σ H x v Q I rx h
 obtain⟨i,rfl,q⟩:=h
 obtain⟨t,rfl⟩:=rx
 exact rule i t s _ _ ⟨.int (g i),H,I.tok _,⟨_,rfl⟩,q⟩
theorem EC:Ik X (unaryOp .USub) (rU fun i=>.int (-i)):=Jv fun _ _ _ _ _ q=>neg_int q
end
def ED:V→V→Bool
 |.non,.non=>true |.non,.int _=>true |.int _,.non=>true |.non,.bl _=>true |.bl _,.non=>true |.non,.str _=>true |.str _,.non=>true
 |.int _,.int _=>true |.bl _,.bl _=>true |.str _,.str _=>true |.byt _,.byt _=>true
 |.int _,.str _=>true |.str _,.int _=>true |.bl _,.str _=>true |.str _,.bl _=>true
 |_,_=>false
def Jk:R2:=fun x y H Q=>ED x y=true∧Q (.bl (decide (x=y))) H
def Jl:R2:=fun x y H Q=>ED x y=true∧Q (.bl (!decide (x=y))) H
theorem vy{i j:Int}:decide (V.int i=V.int j)=(i == j):=by
 rw[Bool.eq_iff_iff]
 simp
theorem yP{i j:Bool}:decide (V.bl i=V.bl j)=(i == j):=by
 rw[Bool.eq_iff_iff]
 simp
theorem vz{i j:Str}:decide (V.str i=V.str j)=(i == j):=by
 rw[Bool.eq_iff_iff]
 simp
theorem vA{i j:Array UInt8}:decide (V.byt i=V.byt j)=(i.toList == j.toList):=by
 rw[Bool.eq_iff_iff]
 cases i
 cases j
 simp
section
variable {X:Cx} {a b c:Expr} {ta tb tc:TE} {pos:Pos}
theorem aN{pins:List (Addr×Obj)}{σ:St}{H:Hp}{s:Shared}{Q:VK}{k k':Bool}(I:Inv X pins σ H s)(q:Q (.bl k) H)(e:k=k'):EP X pins σ Q (.bool k') s:=by
 subst e
 exact⟨.bl k,H,I,rfl,q⟩
theorem DE:OpR X (compareOp .Eq) Jk:=by
 intro pins s σ H x y v u Q I rx ry h
 obtain⟨hs,q⟩:=h
 cases x with
 |non=>
  cases rx
  cases y with
  |non=>cases ry;exact PySem.EqNone.eq_none_none (aN I q (by simp))
  |bl j=>cases ry;exact PySem.EqNone.eq_none_bool (aN I q (by simp))
  |int j=>obtain⟨t',rfl⟩:=ry;exact PySem.EqNone.eq_none_int (aN I q (by simp))
  |str j=>obtain⟨t',rfl⟩:=ry;exact PySem.EqNone.eq_none_str (aN I q (by simp))
  |_=>exact absurd (show false=true from hs) n_
 |bl i=>
  cases rx
  cases y with
  |non=>cases ry;exact PySem.EqNone.eq_bool_none (aN I q (by simp))
  |bl j=>cases ry;exact eq_bool (aN I q yP)
  |str j=>obtain⟨t',rfl⟩:=ry;exact PySem.EqMixed.eq_bool_str (aN I q (by simp))
  |_=>exact absurd (show false=true from hs) n_
 |int i=>
  obtain⟨t,rfl⟩:=rx
  cases y with
  |non=>cases ry;exact PySem.EqNone.eq_int_none (aN I q (by simp))
  |int j=>obtain⟨t',rfl⟩:=ry;exact eq_int (aN I q vy)
  |str j=>obtain⟨t',rfl⟩:=ry;exact PySem.EqMixed.eq_int_str (aN I q (by simp))
  |_=>exact absurd (show false=true from hs) n_
 |str i=>
  obtain⟨t,rfl⟩:=rx
  cases y with
  |non=>cases ry;exact PySem.EqNone.eq_str_none (aN I q (by simp))
  |bl j=>cases ry;exact PySem.EqMixed.eq_str_bool (aN I q (by simp))
  |int j=>obtain⟨t',rfl⟩:=ry;exact PySem.EqMixed.eq_str_int (aN I q (by simp))
  |str j=>obtain⟨t',rfl⟩:=ry;exact eq_str (aN I q vz)
  |_=>exact absurd (show false=true from hs) n_
 |byt i=>
  obtain⟨t,rfl⟩:=rx
  cases y with
  |byt j=>obtain⟨t',rfl⟩:=ry;exact PySem.W.eq_bytes (aN I q vA)
  |_=>exact absurd (show false=true from hs) n_
 |_=>cases y <;> exact absurd (show false=true from hs) n_
theorem GN:OpR X (compareOp .NotEq) Jl:=by
 intro pins s σ H x y v u Q I rx ry h
 obtain⟨hs,q⟩:=h
 cases x with
 |non=>
  cases rx
  cases y with
  |non=>cases ry;exact PySem.EqNone.ne_none_none (aN I q (by simp))
  |bl j=>cases ry;exact PySem.EqNone.ne_none_bool (aN I q (by simp))
  |int j=>obtain⟨t',rfl⟩:=ry;exact PySem.EqNone.ne_none_int (aN I q (by simp))
  |str j=>obtain⟨t',rfl⟩:=ry;exact PySem.EqNone.ne_none_str (aN I q (by simp))
  |_=>exact absurd (show false=true from hs) n_
 |bl i=>
  cases rx
  cases y with
  |non=>cases ry;exact PySem.EqNone.ne_bool_none (aN I q (by simp))
  |bl j=>cases ry;exact ne_bool (aN I q (congrArg not yP))
  |str j=>obtain⟨t',rfl⟩:=ry;exact PySem.EqMixed.ne_bool_str (aN I q (by simp))
  |_=>exact absurd (show false=true from hs) n_
 |int i=>
  obtain⟨t,rfl⟩:=rx
  cases y with
  |non=>cases ry;exact PySem.EqNone.ne_int_none (aN I q (by simp))
  |int j=>obtain⟨t',rfl⟩:=ry;exact ne_int (aN I q (congrArg not vy))
  |str j=>obtain⟨t',rfl⟩:=ry;exact PySem.EqMixed.ne_int_str (aN I q (by simp))
  |_=>exact absurd (show false=true from hs) n_
 |str i=>
  obtain⟨t,rfl⟩:=rx
  cases y with
  |non=>cases ry;exact PySem.EqNone.ne_str_none (aN I q (by simp))
  |bl j=>cases ry;exact PySem.EqMixed.ne_str_bool (aN I q (by simp))
  |int j=>obtain⟨t',rfl⟩:=ry;exact PySem.EqMixed.ne_str_int (aN I q (by simp))
  |str j=>obtain⟨t',rfl⟩:=ry;exact ne_str (aN I q (congrArg not vz))
  |_=>exact absurd (show false=true from hs) n_
 |byt i=>
  obtain⟨t,rfl⟩:=rx
  cases y with
  |byt j=>obtain⟨t',rfl⟩:=ry;exact PySem.W.ne_bytes (aN I q (congrArg not vA))
  |_=>exact absurd (show false=true from hs) n_
 |_=>cases y <;> exact absurd (show false=true from hs) n_
theorem GO:OpR X (compareOp .Lt) (BN fun i j=>.bl (decide (i < j))):=BO fun _ _ _ _ _ _ _ q=>lt_int q
theorem GP:OpR X (compareOp .LtE) (BN fun i j=>.bl (decide (i≤j))):=BO fun _ _ _ _ _ _ _ q=>le_int q
theorem GQ:OpR X (compareOp .Gt) (BN fun i j=>.bl (decide (j < i))):=BO fun _ _ _ _ _ _ _ q=>gt_int q
theorem GR:OpR X (compareOp .GtE) (BN fun i j=>.bl (decide (j≤i))):=BO fun _ _ _ _ _ _ _ q=>ge_int q
theorem wV:OpR X (compareOp .Lt) (fun x y H Q=>∃i j,x=.str i∧y=.str j∧Q (.bl (decide (i.cps.toList < j.cps.toList))) H):=by
 intro pins s σ H x y v u Q I rx ry h
 obtain⟨i,j,rfl,rfl,q⟩:=h
 obtain⟨t,rfl⟩:=rx
 obtain⟨t',rfl⟩:=ry
 exact lt_str (aN I q rfl)
theorem wW:OpR X (compareOp .In) (fun x y H Q=>∃i j,x=.str i∧y=.str j∧Q (.bl (!(Builtin.Str.occurrences j i 0 j.length 1).isEmpty)) H):=by
 intro pins s σ H x y v u Q I rx ry h
 obtain⟨i,j,rfl,rfl,q⟩:=h
 obtain⟨t,rfl⟩:=rx
 obtain⟨t',rfl⟩:=ry
 exact in_str (aN I q rfl)
theorem BP:OpR X (compareOp .IsNot) (fun x y H Q=>y=.non∧Q (.bl (!decide (x=.non))) H):=by
 intro pins s σ H x y v u Q I rx ry h
 obtain⟨rfl,q⟩:=h
 cases ry
 refine isnot_none_gen (aN I q ?_)
 cases x <;> first
  |(cases rx;rfl)
  |(obtain⟨t,rfl⟩:=rx;rfl)
theorem OpR.or{f:Value→Value→Sem Value}{r r':R2}(h:OpR X f r)(h':OpR X f r'):OpR X f (fun x y H Q=>r x y H Q∨r' x y H Q):=by
 intro pins s σ H x y v u Q I rx ry q
 rcases q with q |q
 ·exact h pins s σ H x y v u Q I rx ry q
 ·exact h' pins s σ H x y v u Q I rx ry q
theorem kM(b:Expr){op:CmpOp}(h:op≠ .In:=by decide)(h2:op≠ .NotIn:=by decide):behindInMarks op b=false:=by
 have e1:(op == CmpOp.In)=false:=by cases op <;> first |rfl |exact absurd rfl h
 have e2:(op == CmpOp.NotIn)=false:=by cases op <;> first |rfl |exact absurd rfl h2
 cases b <;> simp[behindInMarks,e1,e2]
theorem BQ{op:CmpOp}{r:R2}(ho:OpR X (compareOp op) r)(ha:PE X a ta)(hb:PE X b tb)(hm:behindInMarks op b=false):PE X (.Compare a [op] [b] pos) (GK r ta tb):=by
 intro pins s σ H Q I h
 exact wpAny_Compare1 (Es ha hb I h fun v u s2 x y H2 I2 rx ry q=>ho pins s2 σ H2 x y v u Q I2 rx ry q) hm
def DF(t:TE):TT:=fun σ H Q=>t σ H fun x H'=>∃k,x=.bl k∧Q k H'
theorem BR{op:CmpOp}{r:R2}(ho:OpR X (compareOp op) r)(ha:PE X a ta)(hb:PE X b tb)(hm:behindInMarks op b=false):PT X (.Compare a [op] [b] pos) (DF (GK r ta tb)):=by
 intro pins s σ H Q I h
 refine wpAny_isTrue_Compare1 (bR (ha pins s σ H _ I h) fun v s1 ⟨x,H1,I1,r1,q1⟩=>bR (hb pins s1 σ H1 _ I1 q1) fun u s2 ⟨y,H2,I2,r2,q2⟩=>
  bR (ho pins s2 σ H2 x y v u _ I2 r1 r2 q2) fun c s3 ⟨z,H3,I3,r3,k,e,q3⟩=>?_) hm
 subst e
 cases r3
 exact wpAny_truthy_bool ⟨H3,I3,q3⟩
def tY(r r':R2)(ta tb tc:TE):TE:=fun σ H Q=>ta σ H fun x H1=>tb σ H1 fun y H2=>r x y H2 fun z H3=>∃k,z=.bl k∧
 (if k=true then tc σ H3 fun w' H4=>r' y w' H4 Q else Q (.bl false) H3)
theorem yQ{op op':CmpOp}{r r':R2}(ho:OpR X (compareOp op) r)(ho':OpR X (compareOp op') r')(ha:PE X a ta)(hb:PE X b tb)(hc:PE X c tc)
  (hm:lastMarks [op,op'] [b,c]=false:=by with_unfolding_all rfl):PE X (.Compare a [op,op'] [b,c] pos) (tY r r' ta tb tc):=by
 intro pins s σ H Q I h
 refine Compare_chain (bR (ha pins s σ H _ I h) fun v s1 ⟨x,H1,I1,r1,q1⟩=>chain_link (bR (hb pins s1 σ H1 _ I1 q1) fun u s2 ⟨y,H2,I2,r2,q2⟩=>
  bR (ho pins s2 σ H2 x y v u _ I2 r1 r2 q2) fun d s3 ⟨z,H3,I3,r3,k,e,q3⟩=>?_)) hm
 subst e
 cases r3
 refine wpAny_truthy_bool ?_
 cases k with
 |false=>exact ite_ff ⟨.bl false,H3,I3,rfl,q3⟩
 |true=>exact ite_tt (chain_last (bR (hc pins s3 σ H3 _ I3 q3) fun w' s4 ⟨z',H4,I4,r4,q4⟩=>ho' pins s4 σ H4 y z' u w' Q I4 r2 r4 q4))
theorem yR{op op':CmpOp}{r r':R2}(ho:OpR X (compareOp op) r)(ho':OpR X (compareOp op') r')(ha:PE X a ta)(hb:PE X b tb)(hc:PE X c tc)
  (hm:lastMarks [op,op'] [b,c]=false:=by with_unfolding_all rfl):PT X (.Compare a [op,op'] [b,c] pos) (DF (tY r r' ta tb tc)):=by
 intro pins s σ H Q I h
 refine isTrue_chain (bR (ha pins s σ H _ I h) fun v s1 ⟨x,H1,I1,r1,q1⟩=>test_link (bR (hb pins s1 σ H1 _ I1 q1) fun u s2 ⟨y,H2,I2,r2,q2⟩=>
  bR (ho pins s2 σ H2 x y v u _ I2 r1 r2 q2) fun d s3 ⟨z,H3,I3,r3,k,e,q3⟩=>?_)) hm
 subst e
 cases r3
 refine wpAny_truthy_bool ?_
 cases k with
 |false=>
  obtain⟨k',e',q'⟩:=q3
  cases e'
  exact ite_ff ⟨H3,I3,q'⟩
 |true=>
  refine ite_tt (test_last (bR (hc pins s3 σ H3 _ I3 q3) fun w' s4 ⟨z',H4,I4,r4,q4⟩=>bR (ho' pins s4 σ H4 y z' u w' _ I4 r2 r4 q4) fun d' s5 ⟨z2,H5,I5,r5,k2,e2,q5⟩=>?_))
  subst e2
  cases r5
  exact wpAny_truthy_bool ⟨H5,I5,q5⟩
def yS(K:Frag)(x:V)(H:Hp)(k:Bool):Prop:=
 match x with
 |.non=>k=false
 |.bl b=>k=b
 |.int i=>k=(i != 0)
 |.str y=>y.length≤sizeLine∧k=((y.length:Int) != 0)
 |.byt y=>y.size≤sizeLine∧k=((y.size:Int) != 0)
 |.ref p=>(∃xs,SqL K H p xs∧k= !xs.isEmpty)∨(∃xs,SqT K H p xs∧k= !xs.isEmpty)∨∃kvs,H p=some (.dK kvs)∧k= !kvs.isEmpty
 |_=>False
theorem tZ{κ:Type}{kvs:List (κ×V)}{vs:List (κ×Value)}(r:KV kvs vs):(!vs.isEmpty)= !kvs.isEmpty:=by
 cases r <;> rfl
theorem mq{xs:List V}{its:List Value}(r:Vals xs its):(!its.toArray.isEmpty)= !xs.isEmpty:=by
 cases r <;> simp
theorem kN:(sizeLine:Nat) < 2 ^ 63:=by rw[sizeLine_eq];decide
theorem EE:Il X (fun x H Q=>∃k,yS X.K x H k∧Q k H):=by
 intro pins s σ H x v Q I rx h
 obtain⟨k,e,q⟩:=h
 have hl:=kN
 have hs:sizeLine=16777216:=sizeLine_eq
 cases x with
 |non=>
  cases rx
  have e':k=false:=e
  subst e'
  exact truthy_none ⟨H,I,q⟩
 |bl b=>
  cases rx
  have e':k=b:=e
  subst e'
  exact wpAny_truthy_bool ⟨H,I,q⟩
 |int i=>
  obtain⟨t,rfl⟩:=rx
  have e':k=(i != 0):=e
  subst e'
  exact PySem.P.truthy_int ⟨H,I,q⟩
 |str y=>
  obtain⟨t,rfl⟩:=rx
  obtain⟨hy,e'⟩:y.length≤sizeLine∧k=((y.length:Int) != 0):=e
  subst e'
  exact PySem.P.truthy_str (by omega) ⟨H,I.tok _,q⟩
 |byt y=>
  obtain⟨t,rfl⟩:=rx
  obtain⟨hy,e'⟩:y.size≤sizeLine∧k=((y.size:Int) != 0):=e
  subst e'
  exact PySem.W.truthy_bytes (by omega) ⟨H,I.tok _,q⟩
 |ref p=>
  cases rx
  have e':(∃xs,SqL X.K H p xs∧k= !xs.isEmpty)∨(∃xs,SqT X.K H p xs∧k= !xs.isEmpty)∨∃kvs,H p=some (.dK kvs)∧k= !kvs.isEmpty:=e
  rcases e' with⟨xs,hx,e'⟩ |⟨xs,hx,e'⟩ |⟨kvs,hx,e'⟩
  ·subst e'
   obtain⟨its,r,pl,hz⟩:=I.list hx
   have hlen:=r.length
   exact wpAny_truthy_list pl.isList (by simp only[kJ];omega) ⟨H,I.tok _,by rw[mq r];exact q⟩
  ·subst e'
   obtain⟨its,r,pl,hz⟩:=I.tuple hx
   have hlen:=r.length
   exact truthy_tuple pl (by simp only[kJ];omega) ⟨H,I.tok _,by rw[mq r];exact q⟩
  ·subst e'
   obtain⟨hz,hS,vs,r,m⟩:kvs.length≤sizeLine∧(p == sysModules)=false∧∃vs,KV kvs vs∧s.heap.DictOf (eG X.prog X.w) p vs:=I.hok p _ hx
   have hlen:kvs.length=vs.length:=Paired.length r
   exact wpAny_truthy_dict hS m (by omega) ⟨H,I.tok _,by rw[tZ r];exact q⟩
 |_=>exact(show False from e).elim
theorem yT(ha:PE X a ta)(he:∀whole,isTrue a X.env whole=(do let v ←whole;standAt a.pos;holding [v] (truthy v))):
  PT X a (fun σ H Q=>ta σ H fun x H'=>∃k,yS X.K x H' k∧Q k H'):=by
 intro pins s σ H Q I h
 exact isTrue_plain (bR (ha pins s σ H _ I h) fun v s1 ⟨x,H1,I1,r1,q1⟩=>EE pins s1 σ H1 x v Q I1 r1 q1) (he _)
theorem t4:OpR X (binaryOp .Add) (fun x y H Q=>∃i j,x=.str i∧y=.str j∧i.length+j.length≤sizeLine∧Q (.str (i++j)) H):=by
 intro pins s σ H x y v u Q I rx ry h
 obtain⟨i,j,rfl,rfl,hz,q⟩:=h
 obtain⟨t,rfl⟩:=rx
 obtain⟨t',rfl⟩:=ry
 exact add_str (fun t' tk=>⟨.str (i++j),H,I.tok _,⟨_,rfl⟩,q⟩) hz
theorem vB{x:V}{us:List Value}(r:Vals [x] us):∃u,us=[u]∧RelV x u:=by
 cases r with
 |cons r1 r2=>cases r2;exact⟨_,rfl,r1⟩
theorem DG{x y:V}{us:List Value}(r:Vals [x,y] us):∃u w',us=[u,w']∧RelV x u∧RelV y w':=by
 cases r with
 |cons r1 r2=>
  cases r2 with
  |cons r3 r4=>cases r4;exact⟨_,_,rfl,r1,r3⟩
theorem wX(hc:X.calm=true):CallR X (.builtin "max") (fun xs H Q=>∃i j,xs=[.int i,.int j]∧Q (.int (if j > i then j else i)) H):=by
 intro pins s σ H xs us Q I r h
 obtain⟨i,j,rfl,q⟩:=h
 obtain⟨u,w',rfl,⟨t,rfl⟩,⟨t',rfl⟩⟩:=DG r
 refine max_two_ints (I.ok.hd hc) fun h' tk k=>⟨_,H,I.kept k,?_,q⟩
 by_cases hj:j > i
 ·rw[if_pos hj,if_pos hj];exact⟨_,rfl⟩
 ·rw[if_neg hj,if_neg hj];exact⟨_,rfl⟩
theorem wY(hc:X.calm=true):CallR X (.builtin "min") (fun xs H Q=>∃i j,xs=[.int i,.int j]∧Q (.int (if j < i then j else i)) H):=by
 intro pins s σ H xs us Q I r h
 obtain⟨i,j,rfl,q⟩:=h
 obtain⟨u,w',rfl,⟨t,rfl⟩,⟨t',rfl⟩⟩:=DG r
 refine min_two_ints (I.ok.hd hc) fun h' tk k=>⟨_,H,I.kept k,?_,q⟩
 by_cases hj:j < i
 ·rw[if_pos hj,if_pos hj];exact⟨_,rfl⟩
 ·rw[if_neg hj,if_neg hj];exact⟨_,rfl⟩
end
end L2
namespace L2
open PySem PySem.Spec PyProof.Rows
structure ObjM (h:Heap) (x dx C:Addr) (mA:Str→Option Value):Prop where
 obj:h.get? x=some (instObj C dx)
 ns:h.Ns1 dx mA
 ne:dx≠x
theorem wZ{h:Heap}{dx:Addr}{mA:Str→Option Value}(n:h.Ns1 dx mA):∃od,h.get? dx=some od∧∀name,lookIn name od=some (mA name):=by
 obtain⟨o,es,ep,ho,hd,hk,_,hm⟩:=n
 refine⟨o,ho,fun name=>?_⟩
 have e:=hm name
 unfold nsFind findBy at e
 rw[←Array.find?_toList]at e
 unfold lookIn
 rw[hd]
 dsimp only
 split
 ·rename_i y q
  rw[q]at e
  exact congrArg some e
 ·rename_i q
  rw[q]at e
  have a:es.toList.any (·.refKey)=false:=by
   rw[List.any_eq_false]
   intro y hy
   obtain⟨z,t,hkey⟩:=hk y (Array.mem_toList_iff.mp hy)
   simp[DictEntry.refKey,hkey]
  have a':¬es.toList.any (·.refKey)=true:=by rw[a];exact n_
  rw[if_neg a']
  exact congrArg some e
theorem ObjM.look{h:Heap}{x dx C:Addr}{mA:Str→Option Value}(I:ObjM h x dx C mA):∃od,PySem.W.InstAt h x (instObj C dx) C (some od)∧∀name,lookIn name od=some (mA name):=
 let ⟨od,ho,hl⟩:=wZ I.ns
 ⟨od,⟨I.obj,rfl,rfl,ho⟩,hl⟩
section
variable {P:Program} {w:World} {H H':Hp} {h h':Heap} {a C dx:Addr} {fs fs':List (Str×V)}
theorem BS(hok:HOk P w H h)(e:H a=some (.ins C dx fs)):∃mA,ObjM h a dx C mA∧(∀f,Ea (fs.lookup f) (mA f))∧PySem.Within mA (fs.map (·.1))∧fs.length≤1000∧H dx=some (.own a):=by
 obtain⟨d,z,ne,ob,mA,n,r,q⟩:=(show ObjOk P w H h a (.ins C dx fs)from hok a _ e)
 exact⟨mA,⟨ob,n,ne⟩,r,q,z,d⟩
end
structure Cls (K:Frag) (C:Addr):Prop where
 pg:PySem.W.plainGet K C Str.empty=true
 hd:PySem.W.hasDictIn K C=true
 po:PySem.W.plainOver K C=true
 sa:findIn K (.ref C) "__setattr__"=some (some (.builtin "object.__setattr__"))
theorem Cls.get{K:Frag}{C:Addr}(c:Cls K C)(f:Str):PySem.W.plainGet K C f=true:=c.pg
section
variable {X:Cx} {pins:List (Addr×Obj)} {σ:St} {H:Hp} {s:Shared} {A:Around} {E:Value→Shared→Prop} {Q:Value→Shared→Prop} {c:Value} {b:Bool}
inductive TyOf (K:Frag) (H:Hp):V→Value→Prop where
 |non:TyOf K H .non (.type "NoneType")
 |bl (x:Bool):TyOf K H (.bl x) (.type "bool")
 |int (i:Int):TyOf K H (.int i) (.type "int")
 |str (x:Str):TyOf K H (.str x) (.type "str")
 |flt (x:UInt64):TyOf K H (.flt x) (.type "float")
 |lst {a:Addr} {xs:List V} (e:H a=some (.lst xs)):TyOf K H (.ref a) (.type "list")
 |frz {a:Addr} {o:Obj} {xs:List V} (e:H a=some (.frz o (.lst xs))):TyOf K H (.ref a) (.type "list")
 |tup {a:Addr} {xs:List V} (e:H a=some (.tup xs)):TyOf K H (.ref a) (.type "tuple")
 |dK {a:Addr} {kvs:List (eZ×V)} (e:H a=some (.dK kvs)):TyOf K H (.ref a) (.type "dict")
 |dT {a:Addr} {kvs:List (List eZ×V)} (e:H a=some (.dT kvs)):TyOf K H (.ref a) (.type "dict")
 |ins {a C dx:Addr} {fs:List (Str×V)} (e:H a=some (.ins C dx fs)) (cl:Cls K C) (ha:findIn K (.ref C) "__class__"=some (some (.builtin "object.__class__")))
   (hn:PySem.W.specialIn K (.builtin "object.__class__") "__get__"=some (some (.builtin "getset_descriptor.__get__"))) (htk:PySem.W.takesIn K (.builtin "object.__class__")=some true)
   (hm:mroIn K C (.type "object")=some true):TyOf K H (.ref a) (.ref C)
theorem iV{x:V}{u t:Value}(I:Inv X pins σ H s)(rx:RelV x u)(ty:TyOf X.K H x t)(e:kitOne X.K t c=some b)(h:∀tk,Q (.bool b) {s with toks:=tk}):
  wpAny (model X.prog X.w) A (call (.builtin "isinstance") [u,c]) Q E s:=by
 cases ty with
 |non=>cases(show u=Value.none from rx);exact kia_one PySem.W.kitx_none I.kIn True.intro e (fun z=>nomatch z) h
 |bl y=>cases(show u=Value.bool y from rx);exact kia_one PySem.W.kitx_bool I.kIn True.intro e (fun z=>nomatch z) h
 |int i=>obtain⟨t,q⟩:=(show ∃t,u=Value.int i t from rx);cases q;exact kia_one PySem.W.kitx_int I.kIn True.intro e (fun z=>nomatch z) h
 |str y=>obtain⟨t,q⟩:=(show ∃t,u=Value.str y t from rx);cases q;exact kia_one PySem.W.kitx_str I.kIn True.intro e (fun z=>nomatch z) h
 |flt y=>obtain⟨t,q⟩:=(show ∃t,u=Value.float y t from rx);cases q;exact kia_one PySem.W.kitx_float I.kIn True.intro e (fun z=>nomatch z) h
 | @lst a xs ea=>
  cases(show u=Value.ref a from rx)
  obtain⟨_,_,n,_,h1⟩:=(show ObjOk X.prog X.w H s.heap a (.lst xs)from I.hok a _ ea)
  exact kia_one kitx_list I.kIn ⟨_,h1,rfl⟩ e (fun z=>nomatch z) h
 | @frz a ob xs ea=>
  cases(show u=Value.ref a from rx)
  obtain⟨_,_,_,n,_,h1⟩:=(show ObjOk X.prog X.w H s.heap a (.frz ob (.lst xs))from I.hok a _ ea)
  exact kia_one kitx_list I.kIn ⟨_,h1,rfl⟩ e (fun z=>nomatch z) h
 | @tup a xs ea=>
  cases(show u=Value.ref a from rx)
  obtain⟨_,_,_,p⟩:=(show ObjOk X.prog X.w H s.heap a (.tup xs)from I.hok a _ ea)
  obtain⟨o,h1,h2,_⟩:=p
  exact kia_one PySem.W.kitx_tuple I.kIn ⟨o,h1,h2⟩ e (fun z=>nomatch z) h
 | @dK a kvs ea=>
  cases(show u=Value.ref a from rx)
  obtain⟨_,_,vs,_,p⟩:=(show ObjOk X.prog X.w H s.heap a (.dK kvs)from I.hok a _ ea)
  obtain⟨o,es,ep,h1,h2,_⟩:=p
  exact kia_one kitx_dict I.kIn ⟨o,h1,h2.1⟩ e (fun z=>nomatch z) h
 | @dT a kvs ea=>
  cases(show u=Value.ref a from rx)
  obtain⟨_,_,xs,_,o,es,ep,h1,h2,_⟩:=(show ObjOk X.prog X.w H s.heap a (.dT kvs)from I.hok a _ ea)
  exact kia_one kitx_dict I.kIn ⟨o,h1,h2.1⟩ e (fun z=>nomatch z) h
 | @ins a C dx fs ea cl ha hn htk hm=>
  cases(show u=Value.ref a from rx)
  obtain⟨mA,O,_⟩:=BS I.hok ea
  obtain⟨od,J,_⟩:=O.look
  exact kia_one (PySem.W.kitx_own (cl.get _) cl.hd ha hn htk hm) I.kIn J e (fun z=>nomatch z) h
end
end L2
namespace L2
open PySem PySem.Spec PyProof.Rows
structure Room (k:Nat) (A:Around):Prop where
 hd:A.handled=none
 dp:A.depth+3*k+5 < recursionLimit
 un:A.units+16*k+200 < cLine
theorem Room.mono{j k:Nat}{A:Around}(r:Room k A)(h:j≤k):Room j A:=⟨r.hd,by have:=r.dp;omega,by have:=r.un;omega⟩
theorem Room.deeper{k:Nat}{A:Around}(r:Room (k+1) A)(env:Env):Room k (A.deeper env):=
 ⟨r.hd,by have:=r.dp;show A.depth+1+3*k+5 < _;omega,by have:=r.un;show A.units+3+16*k+200 < _;omega⟩
theorem Room.depth{k:Nat}{A:Around}(r:Room k A):A.depth < recursionLimit:=by have:=r.dp;omega
theorem Room.units{k:Nat}{A:Around}(r:Room k A):A.units+64 < cLine:=by have:=r.un;omega
def Im:TA:=fun _ H Q=>Q [] H
def GS(ta:TE)(tr:TA):TA:=fun σ H Q=>ta σ H fun x H1=>tr σ H1 fun xs H2=>Q (x::xs) H2
section
variable {X:Cx} {e:Expr} {es:List Expr} {te:TE} {t:TA} {pos:Pos}
theorem dG:PA X [] Im:=fun _ _ _ _ H Q I h=>Calls.spliced_nil ⟨[],H,I,.nil,h⟩
theorem bZ(ha:PE X e te)(hr:PA X es t)(hs:starEach (e::es) X.env=(false,eval e X.env)::starEach es X.env:=by rfl):PA X (e::es) (GS te t):=by
 intro pos pins s σ H Q I h
 rw[hs]
 show wpAny _ _ (spliced ((false,eval e X.env)::backTo pos (starEach es X.env))) _ _ s
 refine Calls.spliced_cons (bR (ha pins s σ H _ I h) fun u s1 ⟨x,H1,I1,r1,q1⟩=>?_)
 exact bR (hr pos pins s1 σ H1 _ I1 q1) fun us s2 ⟨xs,H2,I2,r2,q2⟩=>⟨x::xs,H2,I2,.cons r1 r2,q2⟩
def Io(t:TA):TE:=fun σ H Q=>t σ H fun xs H1=>xs.length≤sizeLine∧∀p,H1 p=none→Q (.ref p) (upd H1 p (.tup xs))
def Ip(t:TA):TE:=fun σ H Q=>t σ H fun xs H1=>xs.length≤sizeLine∧∀p,H1 p=none→Q (.ref p) (upd H1 p (.lst xs))
theorem EF{x1}(h:PA X es t):PE X (.Tuple es x1 pos) (Io t):=by
 intro pins s σ H Q I hq
 refine wpAny_Tuple_spliced (bR (h pos pins s σ H _ I hq) fun us s1 ⟨xs,H1,I1,r,z,q⟩=>⟨by rw[←r.length];exact z,?_⟩)
 have hf:H1 s1.heap.objs.size=none:=I1.hok.fresh (dE _)
 refine⟨.ref s1.heap.objs.size,upd H1 s1.heap.objs.size (.tup xs),I1.laid (t':=s1.toks) (fun b u e=>dF _ e) (dE _) ?_,rfl,q _ hf⟩
 exact⟨z,us,r,⟨_,ie _ rfl,rfl,_,rfl⟩⟩
theorem EG(h:PA X es t):PE X (.List es pos) (Ip t):=by
 intro pins s σ H Q I hq
 refine wpAny_List_spliced (bR (h pos pins s σ H _ I hq) fun us s1 ⟨xs,H1,I1,r,z,q⟩=>⟨by rw[←r.length];exact z,?_⟩)
 have hf:H1 s1.heap.objs.size=none:=I1.hok.fresh (dE _)
 refine⟨.ref s1.heap.objs.size,upd H1 s1.heap.objs.size (.lst xs),I1.laid (t':=s1.toks) (fun b u e=>dF _ e) (dE _) ?_,rfl,q _ hf⟩
 exact⟨z,us,0,r,ie _ rfl⟩
end
abbrev Sp:=List V→Hp→VK→XK→Prop
abbrev yU:=List Env→Hp→Shared→XK→Value→Shared→Prop
structure Env0 (P:Program) (w:World) (K:Frag) (mg:Str→Option Value) (base:Heap) (A:Around) (outer:List Env) (s:Shared) (H:Hp):Prop where
 frames:A.frames=some outer
 mod:Mod K mg base
 bs:∀b o,base.get? b=some o→s.heap.get? b=some o∧H b=none
 bsz:base.objs.size≤s.heap.objs.size
 funs:s.heap.FunFrames base outer
 frf:∀b∈fT outer,H b=none
 hok:HOk P w H s.heap
 bare:AllBare s.gens
 tab:∀b q,io K b=some q→H b=some (.tbl q)
def CE(outer:List Env)(P:Program)(w:World)(H:Hp)(s:Shared)(Q:VK)(u:Value)(s':Shared):Prop:=
 ∃v H',s'.os=s.os∧AllBare s'.gens∧Un (fT outer) [] H H' s.heap s'.heap∧HOk P w H' s'.heap∧RelV v u∧Q v H'
def CR(CX:yU)(outer:List Env)(P:Program)(w:World)(H:Hp)(s:Shared)(Q:VK)(E:XK)(r:Result)(s':Shared):Prop:=
 match r with
 |.ok (.ret u)=>CE outer P w H s Q u s'
 |.ok _=>False
 |.error e=>CX outer H s E e s'
structure FnOk (P:Program) (w:World) (K:Frag) (mg:Str→Option Value) (base:Heap) (CX:yU) (k:Nat) (f:Addr) (fd:FuncData) (ps:List Str) (sp:Sp):Prop where
 len:∀vs H Q E,sp vs H Q E→vs.length=ps.length
 run:∀(A:Around) (outer:List Env) (s:Shared) (H:Hp) (args:Args) (us:List Value) (vs:List V) (Q:VK) (E:XK),Room k A→Env0 P w K mg base A outer s H→BindsTo s fd args (ps.zip us)→Vals vs us→sp vs H Q E→
  codeAny (model P w) A (.call (.ref f) args) (CR CX outer P w H s Q E) s
section
variable {X:Cx} {pins:List (Addr×Obj)} {σ:St} {H:Hp} {s s':Shared}
theorem Inv.env0(I:Inv X pins σ H s):Env0 X.prog X.w X.K X.mg X.base X.A X.stack s H:=
 ⟨I.ok.frames,I.ok.mod,I.bs,kK I.ok.bsz I.sz,I.stack,I.stkFree,I.hok,I.bare,I.tab⟩
theorem Inv.after{Q:VK}{u:Value}(I:Inv X pins σ H s)(h:CE X.stack X.prog X.w H s Q u s'):EP X pins σ Q u s':=by
 obtain⟨v,H',os,bare,un,hok,r,q⟩:=h
 obtain⟨hh,g,d,t,os'⟩:=s'
 obtain rfl:os'=s.os:=os
 exact⟨v,H',I.call (h':=hh) (g':=g) (d':=d) (t':=t) (ch:=[]) un hok bare (fun b z=>absurd z (by simp)),r,q⟩
end
def yV(sp:Sp)(dvs:List V)(E:XK)(t:TA):TE:=fun σ H Q=>t σ H fun vs H1=>sp (vs++dvs) H1 Q E
def Binds(K:Frag)(fd:FuncData)(ps:List Str)(ds:List Value):Prop:=
 ∀(s:Shared) (us:List Value),K.In s.heap→(us++ds).length=ps.length→BindsTo s fd ⟨us,[]⟩ (ps.zip (us++ds))
theorem Binds.all{K:Frag}{fd:FuncData}{ps:List Str}(h:∀us:List Value,us.length=ps.length→bindArgs fd ⟨us,[]⟩=pure (ps.zip us)):Binds K fd ps []:=fun s us _ hl=>by
 rw[tR]at hl ⊢
 exact .of_eq (h us hl)
def t5(CX:yU)(X:Cx)(E:XK):Prop:=∀(pins:List (Addr×Obj)) (σ:St) (H:Hp) (s:Shared) (e:Value) (s':Shared),Inv X pins σ H s→CX X.stack H s E e s'→X.xe e s'
section
variable {X:Cx} {CX:yU} {k:Nat} {f C:Addr} {fd:FuncData} {ps:List Str} {sp:Sp} {dvs:List V} {ds:List Value} {E:XK} {x m:Str} {p pos apos:Pos} {e o:Expr} {es:List Expr} {ta:TE} {t:TA}
theorem EH{pins:List (Addr×Obj)}{σ:St}{H:Hp}{s:Shared}{Q:VK}{us:List Value}{vs:List V}(F:FnOk X.prog X.w X.K X.mg X.base CX k f fd ps sp)(hr:Room k X.A)(hb:Binds X.K fd ps ds)(hd:Vals dvs ds)(hx:t5 CX X E)
  (I:Inv X pins σ H s) (r:Vals vs us) (h:sp (vs++dvs) H Q E):wpAny (model X.prog X.w) X.A (call (.ref f) us) (EP X pins σ Q) X.xe s:=by
 have r2:Vals (vs++dvs) (us++ds):=r.append hd
 have hl:(us++ds).length=ps.length:=by rw[←r2.length];exact F.len _ _ _ _ h
 refine wpAny_call (codeAny_mono (F.run X.A X.stack s H ⟨us,[]⟩ (us++ds) (vs++dvs) Q E hr I.env0 (hb s us I.kIn hl) r2 h) fun r s' hq=>?_)
 cases r with
 |error e=>exact hx pins σ H s e s' I hq
 |ok fl=>
  cases fl with
  |ret u=>exact I.after hq
  |next=>exact False.elim hq
  |brk=>exact False.elim hq
  |cont=>exact False.elim hq
theorem BT(F:FnOk X.prog X.w X.K X.mg X.base CX k f fd ps sp)(hr:Room k X.A)(hg:Gl X x)(hm:X.mg x=some (.ref f))(hk:keepIn X.K (.ref f)=true)(hb:Binds X.K fd ps ds)(hd:Vals dvs ds)(hx:t5 CX X E)
  (ha:PA X (e::es) t) (hdb:(x == ("__debug__":Str))=false:=by decide) (he:starEach (e::es) X.env=(false,eval e X.env)::starEach es X.env:=by rfl) (hpl:(backTo pos (starEach es X.env)).any (·.1)=false:=by rfl):
  PE X (.Call (.Name x p) (e::es) [] pos) (yV sp dvs E t):=by
 intro pins s σ H Q I h
 refine wpAny_Call_Name_kw (eI I hg hm ?_ hdb)
 refine callWith_K (h₀:=X.base) I.ok.mod.kin hk (bR (ha pos pins s σ H _ I h) fun us s1 ⟨vs,H1,I1,r,q⟩=>⟨I1.kIn,?_⟩) he hpl
 exact EH F hr hb hd hx I1 r q
end
structure FnScope (N P:List Str) (sc:Scope):Prop where
 kind:sc.kind=.function
 co:sc.isCoroutine=false
 gen:sc.isGenerator=false
 nd:N.Nodup
 pre:N.take P.length=P
 par:∀x∈P,sc.names.lookup x=some .local∨sc.names.lookup x=some .cell
 nofree:∀y∈sc.names,y.2≠ .free
theorem oX{kindOf:Str→Option NameKind}{x:Str}:∀{binds:List (Str×Value)} {m:Str→Option Value},(∀v,(x,v)∉binds)→bindL kindOf binds m x=m x
 |[],_,_=>rfl
 |(n,v)::r,m,h=>by
  unfold bindL
  rw[oX fun w hw=>h w (fJ _ hw)]
  split
  ·have:x≠n:=by rintro rfl;exact h v gk
   simp[this]
  ·rfl
theorem oY{kindOf:Str→Option NameKind}{x:Str}:∀{binds:List (Str×Value)} {m:Str→Option Value},(∀v,(x,v)∉binds)→bindC kindOf binds m x=m x
 |[],_,_=>rfl
 |(n,v)::r,m,h=>by
  unfold bindC
  rw[oY fun w hw=>h w (fJ _ hw)]
  split
  ·rfl
  ·have:x≠n:=by rintro rfl;exact h v gk
   simp[this]
theorem oZ{kindOf:Str→Option NameKind}{x:Str}{v:Value}:∀{P:List Str} {vs:List Value} {i:Nat} {m:Str→Option Value},P.Nodup→P[i]? =some x→vs[i]? =some v→kindOf x=some .local→
  bindL kindOf (P.zip vs) m x=some v
 |[],_,_,_,_,h,_,_=>by simp at h
 |_::_,[],_,_,_,_,h,_=>by simp at h
 |p::P,w::vs,0,m,nd,h1,h2,hk=>by
  simp at h1 h2;subst h1;subst h2
  show bindL kindOf ((p,w)::P.zip vs) m p=_
  unfold bindL
  rw[oX fun v hv=>(List.nodup_cons.mp nd).1 (List.of_mem_zip hv).1,if_pos hk]
  simp
 |p::P,w::vs,i+1,m,nd,h1,h2,hk=>by
  show bindL kindOf ((p,w)::P.zip vs) m x=_
  unfold bindL
  exact oZ (i:=i) (List.nodup_cons.mp nd).2 (by simpa using h1) (by simpa using h2) hk
theorem o0{kindOf:Str→Option NameKind}{x:Str}{v:Value}:∀{P:List Str} {vs:List Value} {i:Nat} {m:Str→Option Value},P.Nodup→P[i]? =some x→vs[i]? =some v→kindOf x≠some .local→
  bindC kindOf (P.zip vs) m x=some v
 |[],_,_,_,_,h,_,_=>by simp at h
 |_::_,[],_,_,_,_,h,_=>by simp at h
 |p::P,w::vs,0,m,nd,h1,h2,hk=>by
  simp at h1 h2;subst h1;subst h2
  show bindC kindOf ((p,w)::P.zip vs) m p=_
  unfold bindC
  rw[oY fun v hv=>(List.nodup_cons.mp nd).1 (List.of_mem_zip hv).1,if_neg hk]
  simp
 |p::P,w::vs,i+1,m,nd,h1,h2,hk=>by
  show bindC kindOf ((p,w)::P.zip vs) m x=_
  unfold bindC
  exact o0 (i:=i) (List.nodup_cons.mp nd).2 (by simpa using h1) (by simpa using h2) hk
def de(N:List Str)(vs:List V):St:=vs.map some++List.replicate (N.length - vs.length) none
def fY(CX:yU)(P:Program)(w:World)(K:Frag)(mg:Str→Option Value)(base:Heap)(N:List Str)(qual:Str)(scope:Scope)(f:Addr)(cd:Value)(A:Around)(outer:List Env)(s:Shared)(H:Hp)(E:XK):Cx where
 prog:=P
 w:=w
 K:=K
 mg:=mg
 base:=base
 A:=A.deeper (envOfC qual scope s.heap.objs.size f cd)
 N:=N
 s₀:=s
 H₀:=H
 env:=envOfC qual scope s.heap.objs.size f cd
 outer:=outer
 stack:=envOfC qual scope s.heap.objs.size f cd::outer
 ex:=[]
 calm:=true
 fn:=fun _=>true
 pn:=[]
 xe:=fun e s'=>wpAny (model P w) (A.deeper (envOfC qual scope s.heap.objs.size f cd)) (leaving (envOfC qual scope s.heap.objs.size f cd) e) (fun _ s''=>CX outer H s E e s'') (fun e' s''=>CX outer H s E e' s'') s'
theorem rn{sc:Scope}{n:Nat}{x:Str}(h:sc.names.lookup x=some .cell):∃c,(cellsFrom n sc.names []).lookup x=some c:=by
 have q:=cellsFrom_some sc.names n [] (.inl h)
 exact Option.isSome_iff_exists.mp q
theorem kP{CX:yU}{P:Program}{w:World}{K:Frag}{mg:Str→Option Value}{base:Heap}{N ps:List Str}{qual:Str}{scope:Scope}{f:Addr}{cd:Value}{A:Around}{outer:List Env}{s s1:Shared}{H:Hp}{E:XK}{us:List Value}{vs:List V}
  (S:FnScope N ps scope) (hd:A.handled=none) (e0:Env0 P w K mg base A outer s H) (hl:vs.length=ps.length) (r:Vals vs us)
  (x:InCallC s s.heap.objs.size (bindL (envOfC qual scope s.heap.objs.size f cd).kindOf (ps.zip us) fun _=>none) (cellsFrom (s.heap.objs.size+1) scope.names []) (bindC (envOfC qual scope s.heap.objs.size f cd).kindOf (ps.zip us) fun _=>none) s1):
  Inv (fY CX P w K mg base N qual scope f cd A outer s H E) [] (de N vs) H s1:=by
 have hpl:ps.length≤N.length:=by have:=congrArg List.length S.pre;rw[List.length_take]at this;omega
 obtain⟨h1,tk,rfl,hk⟩:=x.done
 have noA:∀b:Addr,b∉(fY CX P w K mg base N qual scope f cd A outer s H E).ex:=fun b z=>absurd (show b∈([]:List Addr)from z) (by simp)
 refine⟨⟨e0.mod,S.kind,rfl,rfl,dE _,fun y z c h1 h2=>?_,fun y hy=>?_,fun y c _ h=>?_,fun _=>hd,Around.frames_deeper e0.frames,.inr ⟨rfl,rfl⟩,fun b z=>absurd z (noA b),e0.bs,e0.bsz,fun b _ _=>noA b,fun b z=>absurd z (noA b),e0.funs,e0.frf,e0.tab⟩,
  rfl,e0.bare,Un.kept hk,⟨_,x.toInCall.ns,fun i y v h1 h2 h3=>?_⟩,fun y c h=>⟨_,x.cell y c h⟩,e0.hok.fresh (dE _),fun y c h=>?_,fun p hp=>absurd (show p∈([]:List (Addr×Obj))from hp) (by simp),e0.hok.kept hk,?_⟩
 ·exact name_of_addr x.apart (PySem.mem_of_lookup h1) (PySem.mem_of_lookup h2)
 ·have hy:scope.names.lookup y=some .cell∨scope.names.lookup y=some .free:=hy
  rcases hy with hy |hy
  ·exact rn hy
  ·exact absurd rfl (S.nofree _ (PySem.mem_of_lookup hy))
 ·exact Nat.le_of_lt (x.above y c (PySem.mem_of_lookup h))
 ·have hi:i < vs.length:=by
   unfold de at h2
   by_cases hi:i < vs.length
   ·exact hi
   ·rw[Bx (by simpa using hi)]at h2
    rw[List.getElem?_replicate]at h2
    split at h2 <;> cases h2
  have ha:vs[i]? =some v:=by
   unfold de at h2
   rw[List.getElem?_append_left (by simpa using hi),q_]at h2
   cases e:vs[i]? with
   |none=>rw[e]at h2;cases h2
   |some a=>rw[e]at h2;cases h2;rfl
  obtain⟨u,hu,rv⟩:=r.get ha
  have hp:ps[i]? =some y:=by
   rw[←S.pre,List.getElem?_take_of_lt (by omega)];exact h1
  have ndP:ps.Nodup:=by rw[←S.pre];exact S.nd.sublist (List.take_sublist _ _)
  refine⟨u,rv,?_⟩
  rcases S.par y (List.mem_of_getElem? hp)with k |k
  ·exact .inl ⟨k,oZ ndP hp hu k⟩
  ·obtain⟨c,e⟩:=rn (n:=s.heap.objs.size+1) k
   refine .inr ⟨.inl k,c,e,?_⟩
   have q:=x.cell y c e
   rw[o0 ndP hp hu (by show scope.names.lookup y≠_;rw[k];decide)]at q
   exact q
 ·exact e0.hok.fresh (Nat.le_of_lt (x.above y c (PySem.mem_of_lookup h)))
 ·unfold de
  show _=N.length
  rw[wM,dY,List.length_replicate]
  omega
theorem vC{CX:yU}{P:Program}{w:World}{K:Frag}{mg:Str→Option Value}{base:Heap}{k:Nat}{f:Addr}{name qual:Str}{params:Arguments}{body:List Stmt}{scope:Scope}{dV kV doc pm cdv ct oc:Value}{an od:Option Addr}
  {osl:Array (Option Value)} {N ps:List Str} {sp:Sp} (lk:K.lookup f=some ⟨oc,od,.func (fnOf name qual params body scope dV kV doc pm an cdv ct),osl⟩) (hcd:codeIn K cdv qual=true) (S:FnScope N ps scope)
  (len:∀vs H Q E,sp vs H Q E→vs.length=ps.length)
  (hbody:∀(A:Around) (outer:List Env) (s:Shared) (H:Hp) (vs:List V) (Q:VK) (E:XK),Room k (A.deeper (envOfC qual scope s.heap.objs.size f cdv))→sp vs H Q E→
   ∃t,PSs (fY CX P w K mg base N qual scope f cdv A outer s H E) body t∧t {nx:=fun _ H'=>Q .non H',rt:=Q} (de N vs) H):
  FnOk P w K mg base CX (k+1) f (fnOf name qual params body scope dV kV doc pm an cdv ct) ps sp:=by
 refine⟨len,fun A outer s H args us vs Q E hr e0 hb r hsp=>?_⟩
 have hl:=len _ _ _ _ hsp
 have KX:K.In s.heap:=e0.mod.kin.keeps fun b o e=>(e0.bs b o e).1
 have lim:s.heap.NoLimit:=e0.mod.nolimit.keeps fun b o e=>(e0.bs b o e).1
 have hkind:∀y∈ps.zip us,scope.names.lookup y.1=some .local∨(scope.names.lookup y.1=some .cell∧((cellsFrom (s.heap.objs.size+1) scope.names []).lookup y.1).isSome=true):=fun⟨n,v⟩ hy=>by
  rcases S.par n (List.of_mem_zip hy).1 with q |q
  ·exact .inl q
  ·exact .inr ⟨q,cellsFrom_some _ _ _ (.inl q)⟩
 refine codeAny_call_function hr.depth (KX _ _ lk) rfl S.co S.gen rfl (codeRec_of KX hcd) (hb _ _ _ _ ?_)
 refine wpAny_newFunctionEnv_cells S.kind hkind fun env he s1 x=>?_
 subst he
 refine⟨lim.keeps x.toInCall.keep,codeAny_func ?_⟩
 obtain⟨t,ht,hq⟩:=hbody A outer s H vs Q E (hr.deeper _) hsp
 have I:Inv (fY CX P w K mg base N qual scope f cdv A outer s H E) [] (de N vs) H s1:=kP S hr.hd e0 hl r x
 refine wpAny_mono (ht [] s1 (de N vs) H _ I hq) (fun fl s' hs=>?_) fun e s' hs=>hs
 have fin:∀{σ':St} {H':Hp} {v:V} {u:Value},Inv (fY CX P w K mg base N qual scope f cdv A outer s H E) [] σ' H' s'→RelV v u→Q v H'→CE outer P w H s Q u s':=
  fun {σ' H' v u} J rv q=>⟨v,H',J.os,J.bare,J.base,J.hok,rv,q⟩
 cases fl with
 |ret u=>
  obtain⟨v,σ',H',J,rv,q⟩:=hs
  exact fin J rv q
 |next=>
  obtain⟨σ',H',J,q⟩:=hs
  exact fin (v:=V.non) (u:=Value.none) J rfl q
 |brk=>
  obtain⟨_,_,_,q⟩:=hs
  exact False.elim q
 |cont=>
  obtain⟨_,_,_,q⟩:=hs
  exact False.elim q
end L2
namespace L2
open PySem PySem.Spec PyProof.Rows
section
variable {X:Cx} {x:Str} {p pos:Pos} {e:Expr} {es:List Expr} {t:TA} {id T:String} {r:List V→Hp→VK→Prop}
def HM(r:List V→Hp→VK→Prop)(t:TA):TE:=fun σ H Q=>t σ H fun vs H1=>r vs H1 Q
theorem iq (hc:CallR X (.builtin id) r) (hg:Gl X x) (hm:X.mg x=none) (hv:bootBuiltins x=some (.builtin id)) (ha:PA X (e::es) t) (hn:x≠"__name__":=by decide) (hdb:(x == ("__debug__":Str))=false:=by decide)
  (he:starEach (e::es) X.env=(false,eval e X.env)::starEach es X.env:=by rfl) (hpl:(backTo pos (starEach es X.env)).any (·.1)=false:=by rfl):PE X (.Call (.Name x p) (e::es) [] pos) (HM r t):=by
 intro pins s σ H Q I h
 refine wpAny_Call_Name_kw (fX I hg hm hv ?_ hn hdb)
 exact PyProof.Rows.callWith_builtin1 (bR (ha pos pins s σ H _ I h) fun us s1 ⟨vs,H1,I1,r1,q1⟩=>hc pins s1 σ H1 vs us Q I1 r1 q1) he hpl
theorem o5 (hc:CallR X (.type T) r) (hg:Gl X x) (hm:X.mg x=none) (hv:bootBuiltins x=some (.type T)) (ha:PA X (e::es) t) (hn:x≠"__name__":=by decide) (hdb:(x == ("__debug__":Str))=false:=by decide)
  (he:starEach (e::es) X.env=(false,eval e X.env)::starEach es X.env:=by rfl) (hpl:(backTo pos (starEach es X.env)).any (·.1)=false:=by rfl):PE X (.Call (.Name x p) (e::es) [] pos) (HM r t):=by
 intro pins s σ H Q I h
 refine wpAny_Call_Name_kw (fX I hg hm hv ?_ hn hdb)
 exact PyProof.Rows.callWith_type1 (bR (ha pos pins s σ H _ I h) fun us s1 ⟨vs,H1,I1,r1,q1⟩=>hc pins s1 σ H1 vs us Q I1 r1 q1) he hpl
end
end L2
namespace HT
open PySem PyProof.Rows
section
open PySem.SeqAt
open PySem.AutoSeq1 (wpAny_loadPart')
open PySem.MeetsSeq PySem.MeetsSeq2 PySem.MeetsSeq3
end
section
variable {prog:Program} {w:World} {A:Around} {E:Value→Shared→Prop} {s:Shared}
def lR(n d:Nat):Option Int→Nat
 |none=>d
 |some v=>if v < 0 then (v+(n:Int)).toNat else min v.toNat n
theorem rq(n d:Nat):lR n d none=d:=rfl
theorem vD(n d k:Nat):lR n d (some (k:Int))=min k n:=by
 show(if (k:Int) < 0 then ((k:Int)+(n:Int)).toNat else min (k:Int).toNat n)=min k n
 rw[if_neg (by omega),wN]
end
end HT
namespace L2
open PySem PySem.Spec PyProof.Rows
abbrev TO:=St→Hp→(Option Int→Hp→Prop)→Prop
def PO(X:Cx)(e:Option Expr)(t:TO):Prop:=
 ∀(pins:List (Addr×Obj)) (s:Shared) (σ:St) (H:Hp) (Q:Option Int→Hp→Prop),Inv X pins σ H s→t σ H Q→
  wpAny (model X.prog X.w) X.A (evalPart e X.env) (fun u s'=>∃o H',Inv X pins σ H' s'∧IsPart u o∧Q o H') X.xe s
def BU:TO:=fun _ H Q=>Q none H
def GT(t:TE):TO:=fun σ H Q=>t σ H fun x H1=>∃i,x=.int i∧Q (some i) H1
section
variable {X:Cx} {e:Expr} {te:TE} {lo hi:Option Expr} {tl th:TO} {pos p2:Pos}
theorem BV:PO X none BU:=by
 intro pins s σ H Q I h
 rw[evalPart_none]
 exact wpAny_pure ⟨none,H,I,.none,h⟩
theorem BW(h:PE X e te):PO X (some e) (GT te):=by
 intro pins s σ H Q I hw
 rw[evalPart_some]
 refine bR (h pins s σ H _ I hw) fun u s1 ⟨x,H1,I1,r1,q1⟩=>?_
 obtain⟨i,rfl,q⟩:=q1
 obtain⟨t,rfl⟩:=r1
 exact⟨some i,H1,I1,.int i t,q⟩
def SlR(X:Cx)(r:V→Option Int→Option Int→Hp→VK→Prop):Prop:=
 ∀(pins:List (Addr×Obj)) (s:Shared) (σ:St) (H:Hp) (x:V) (v vl vu:Value) (lo hi:Option Int) (sl:Addr) (Q:VK),Inv X pins σ H s→RelV x v→s.heap.IsSliceOf sl vl vu .none→IsPart vl lo→IsPart vu hi→r x lo hi H Q→
  ∃T id,typeLookup (.type T) "__getitem__"=pure (some (.builtin id))∧s.TypeIs v T∧wpAny (model X.prog X.w) X.A (getItem v (.ref sl)) (EP X pins σ Q) X.xe s
theorem SlR.or{r r':V→Option Int→Option Int→Hp→VK→Prop}(h:SlR X r)(h':SlR X r'):SlR X (fun x lo hi H Q=>r x lo hi H Q∨r' x lo hi H Q):=by
 intro pins s σ H x v vl vu lo hi sl Q I rx hs pl pu q
 rcases q with q |q
 ·exact h pins s σ H x v vl vu lo hi sl Q I rx hs pl pu q
 ·exact h' pins s σ H x v vl vu lo hi sl Q I rx hs pl pu q
def Jw(r:V→Option Int→Option Int→Hp→VK→Prop)(te:TE)(tl th:TO):TE:=fun σ H Q=>te σ H fun x H1=>tl σ H1 fun l H2=>th σ H2 fun u H3=>r x l u H3 Q
theorem yW{r:V→Option Int→Option Int→Hp→VK→Prop}(hr:SlR X r)(he:PE X e te)(hl:PO X lo tl)(hu:PO X hi th):PE X (.Subscript e (.Slice lo hi none p2) pos) (Jw r te tl th):=by
 intro pins s σ H Q I h
 refine Subscript_ (bR (he pins s σ H _ I h) fun v s1 ⟨x,H1,I1,r1,q1⟩=>?_)
 refine wpAny_Slice (bR (hl pins s1 σ H1 _ I1 q1) fun vl s2 ⟨l,H2,I2,pl,q2⟩=>bR (hu pins s2 σ H2 _ I2 q2) fun vu s3 ⟨u,H3,I3,pu,q3⟩=>?_)
 rw[evalPart_none]
 refine wpAny_pure ?_
 have I4:Inv X pins σ H3 {s3 with heap:=s3.heap.push {cls:=.type "slice",data:=.fields #[vl,vu,.none]}}:=I3.kept (t':=s3.toks) fun b ob q=>dF _ q
 obtain⟨T,id,hT,ht,hg⟩:=hr pins {s3 with heap:=s3.heap.push {cls:=.type "slice",data:=.fields #[vl,vu,.none]}} σ H3 x v vl vu l u s3.heap.objs.size Q I4 r1 (Heap.IsSliceOf.new ..) pl pu q3
 show wpAny (model X.prog X.w) X.A (subscriptTail e (.Slice lo hi none p2) v (.ref s3.heap.objs.size)) (EP X pins σ Q) X.xe {s3 with heap:=s3.heap.push {cls:=.type "slice",data:=.fields #[vl,vu,.none]}}
 exact tail_any (ops:=[.ref s3.heap.objs.size,v]) ht hT hg (by with_unfolding_all rfl)
def w5(xs:List V)(lo hi:Option Int):List V:=(xs.drop (HT.lR xs.length 0 lo)).take (HT.lR xs.length xs.length hi - HT.lR xs.length 0 lo)
theorem rz(xs:List V)(lo hi:Option Int):(w5 xs lo hi).length≤xs.length:=by
 unfold w5
 rw[List.length_take,List.length_drop]
 omega
end
end L2
namespace L2
open PySem PySem.Spec PyProof.Rows
def GU(n:Nat)(i:Int):Option Nat:=if 0≤i then (if i < n then some i.toNat else none)else if -(n:Int)≤i then some (i+n).toNat else none
def atI{α:Type}(xs:List α)(i:Int):Option α:=(GU xs.length i).bind fun j=>xs[j]?
theorem BX{n:Nat}{i:Int}{j:Nat}(h:GU n i=some j):seqIndex? i n=some j∧j < n∧ -(n:Int)≤i∧i < n:=by
 unfold GU at h
 by_cases h0:0≤i
 ·rw[if_pos h0]at h
  by_cases h1:i < n
  ·rw[if_pos h1]at h
   have e:i.toNat=j:=Option.some.inj h
   exact⟨by rw[seqIndex_of h0 h1,e],by omega,by omega,h1⟩
  ·rw[if_neg h1]at h;cases h
 ·rw[if_neg h0]at h
  by_cases h1: -(n:Int)≤i
  ·rw[if_pos h1]at h
   have e:(i+n).toNat=j:=Option.some.inj h
   exact⟨by rw[seqIndex_neg (by omega) h1,e],by omega,h1,by omega⟩
  ·rw[if_neg h1]at h;cases h
theorem pQ{α:Type}{xs:List α}{i:Int}{v:α}(h:atI xs i=some v):∃j,seqIndex? i xs.length=some j∧xs[j]? =some v∧j < xs.length∧ -(xs.length:Int)≤i∧i < xs.length:=by
 unfold atI at h
 cases e:GU xs.length i with
 |none=>rw[e]at h;cases h
 |some j=>
  rw[e]at h
  obtain⟨h1,h2,h3,h4⟩:=BX e
  exact⟨j,h1,h,h2,h3,h4⟩
def vE(b:Expr):Prop:=∀o i,subscripted b false o i=operate [o,i] (getItem o i)
def IxR(X:Cx)(r:R2):Prop:=
 ∀(value slice:Expr) (pins:List (Addr×Obj)) (s:Shared) (σ:St) (H:Hp) (x y:V) (v u:Value) (Q:VK),Inv X pins σ H s→RelV x v→RelV y u→r x y H Q→
  subscripted slice false v u=operate [v,u] (getItem v u)→wpAny (model X.prog X.w) X.A (subscriptTail value slice v u) (EP X pins σ Q) X.xe s
def Jm(X:Cx)(id:String)(r:V→List V→Hp→VK→Prop):Prop:=
 ∀(pins:List (Addr×Obj)) (s:Shared) (σ:St) (H:Hp) (x:V) (xs:List V) (v:Value) (us:List Value) (Q:VK),Inv X pins σ H s→RelV x v→Vals xs us→r x xs H Q→
  wpAny (model X.prog X.w) X.A (call (.builtin id) (v::us)) (EP X pins σ Q) X.xe s
section
variable {X:Cx} {a b:Expr} {ta tb:TE} {pos:Pos}
theorem IxR.or{r r':R2}(h:IxR X r)(h':IxR X r'):IxR X (fun x y H Q=>r x y H Q∨r' x y H Q):=by
 intro value slice pins s σ H x y v u Q I rx ry q hs
 rcases q with q |q
 ·exact h value slice pins s σ H x y v u Q I rx ry q hs
 ·exact h' value slice pins s σ H x y v u Q I rx ry q hs
theorem GV{r:R2}(hr:IxR X r)(ha:PE X a ta)(hb:PE X b tb)(hs:vE b):PE X (.Subscript a b pos) (GK r ta tb):=by
 intro pins s σ H Q I h
 exact Subscript_ (Es ha hb I h fun v u s2 x y H2 I2 rx ry q=>hr a b pins s2 σ H2 x y v u Q I2 rx ry q (hs _ _))
def GW(K:Frag):R2:=fun x y H Q=>∃p xs i v,x=.ref p∧y=.int i∧SqL K H p xs∧atI xs i=some v∧Q v H
def GY(K:Frag):R2:=fun x y H Q=>∃p xs i v,x=.ref p∧y=.int i∧SqT K H p xs∧atI xs i=some v∧Q v H
def GZ:R2:=fun x y H Q=>∃z i c,x=.str z∧y=.int i∧z.length≤sizeLine∧atI z.cps.toList i=some c∧Q (.str ⟨#[c]⟩) H
theorem ix_list:IxR X (GW X.K):=by
 intro value slice pins s σ H x y v u Q I rx ry h hs
 obtain⟨p,xs,i,z,rfl,rfl,hq,he,q⟩:=h
 cases rx
 obtain⟨t,rfl⟩:=ry
 obtain⟨its,r,pl,hz⟩:=I.list hq
 obtain⟨j,h1,h2,h3,h4,h5⟩:=pQ he
 obtain⟨w,ew,rw'⟩:=r.get h2
 have hl:=r.length
 have hn:=kN
 have fin:EP X pins σ Q w s:=⟨z,H,I,rw',q⟩
 by_cases h0:0≤i
 ·have hj:i.toNat=j:=by
   rw[seqIndex_of h0 h5]at h1
   exact Option.some.inj h1
  exact item_listR pl.isList h0 (by omega) (by rw[hj];simpa using ew) fin hs
 ·have hj:(i+(its.toArray.size:Int)).toNat=j:=by
   rw[seqIndex_neg (by omega) h4]at h1
   rw[kJ,←hl]
   exact Option.some.inj h1
  exact subscriptTail_builtinR (x:=w) pl.isList.typeIs slot_list_getitem.lookup
   (wpAny_getItem_list_neg (Q:=fun r s'=>r=w∧EP X pins σ Q r s') pl.isList (by omega) (by rw[kJ] <;> omega) (by omega) (by rw[hj];simpa using ew) ⟨rfl,fin⟩) hs
theorem ix_tup:IxR X (GY X.K):=by
 intro value slice pins s σ H x y v u Q I rx ry h hs
 obtain⟨p,xs,i,z,rfl,rfl,hq,he,q⟩:=h
 cases rx
 obtain⟨t,rfl⟩:=ry
 obtain⟨its,r,pl,hz⟩:=I.tuple hq
 obtain⟨j,h1,h2,h3,h4,h5⟩:=pQ he
 obtain⟨w,ew,rw'⟩:=r.get h2
 have hl:=r.length
 have hn:=kN
 have fin:EP X pins σ Q w s:=⟨z,H,I,rw',q⟩
 exact subscriptTail_builtinR (x:=w) pl.typeIs slot_tuple_getitem.lookup
  (getItem_tuple (j:=j) (Q:=fun r s'=>r=w∧EP X pins σ Q r s') pl (by omega) (by omega) (by rw[kJ,←hl];exact h1) (by simpa using ew) ⟨rfl,fin⟩) hs
theorem EI:IxR X GZ:=by
 intro value slice pins s σ H x y v u Q I rx ry h hs
 obtain⟨z,i,c,rfl,rfl,hz,he,q⟩:=h
 obtain⟨t,rfl⟩:=rx
 obtain⟨t',rfl⟩:=ry
 obtain⟨j,h1,h2,h3,h4,h5⟩:=pQ he
 have hl:z.cps.toList.length=z.length:=by simp[Str.length]
 rw[hl]at h1 h4 h5
 have hn:=kN
 exact tail_any (typeIs_str s z t) slot_str_getitem.lookup (getItem_str (c:=c) (by
  have e1:decide (i < -(2 ^ 63:Int))=false:=decide_eq_false (by omega)
  have e2:decide (i≥2 ^ 63)=false:=decide_eq_false (by omega)
  rw[e1,e2,Bool.or_false]) (by rw[h1];simpa using h2) ⟨.str ⟨#[c]⟩,H,I.tok _,⟨_,rfl⟩,q⟩) hs
def Jn(K:Frag):R2:=fun x y H Q=>GW K x y H Q∨GY K x y H Q∨GZ x y H Q
theorem EJ:IxR X (Jn X.K):=ix_list.or (ix_tup.or EI)
theorem pR(lo hi:Option Int)(n:Nat):(sliceBounds lo hi none n).1=((HT.lR n 0 lo:Nat):Int)∧(sliceBounds lo hi none n).2.1=((HT.lR n n hi:Nat):Int)∧(sliceBounds lo hi none n).2.2=1:=by
 refine⟨?_,?_,rfl⟩
 ·cases lo with
  |none=>simp[sliceBounds,HT.lR]
  |some i=>
   simp only[sliceBounds,HT.lR,Option.getD_none,show(1:Int) > 0 by decide,if_true]
   by_cases h:i < 0
   ·simp only[h,if_true] <;> omega
   ·simp only[h,if_false] <;> omega
 ·cases hi with
  |none=>simp[sliceBounds,HT.lR]
  |some i=>
   simp only[sliceBounds,HT.lR,Option.getD_none,show(1:Int) > 0 by decide,if_true]
   by_cases h:i < 0
   ·simp only[h,if_true] <;> omega
   ·simp only[h,if_false] <;> omega
theorem og(its:List Value)(lo hi:Option Int):slicePick its.toArray lo hi none=((its.drop (HT.lR its.length 0 lo)).take (HT.lR its.length its.length hi - HT.lR its.length 0 lo)).toArray:=by
 obtain⟨h1,h2,h3⟩:=pR lo hi its.toArray.size
 unfold slicePick
 rw[h1,h2,h3]
 simp only[sliceRange_one,pick_run,kJ] <;> rfl
def Iq(K:Frag):V→Option Int→Option Int→Hp→VK→Prop:=fun x lo hi H Q=>∃a xs,x=.ref a∧SqL K H a xs∧∀p,H p=none→Q (.ref p) (upd H p (.lst (w5 xs lo hi)))
theorem BY:SlR X (Iq X.K):=by
 intro pins s σ H x v vl vu lo hi sl Q I rx hs pl pu h
 obtain⟨a,xs,rfl,hx,q⟩:=h
 cases rx
 obtain⟨its,r,ht,hz⟩:=I.list hx
 have hlen:=r.length
 refine⟨"list",_,slot_list_getitem.lookup,ht.isList.typeIs,?_⟩
 refine wpAny_getItem_list_slice ht.isList hs pl pu .none (by simp) ?_ (by rw[kJ] <;> omega)
 rw[og,←hlen]
 refine⟨.ref s.heap.objs.size,_,I.laid (t':=s.toks) (o:=.lst (w5 xs lo hi)) (fun b ob q=>dF _ q) (dE _) ?_,rfl,q _ (I.hok.fresh (dE _))⟩
 exact⟨kK (rz xs lo hi) hz,_,0,(r.drop (HT.lR xs.length 0 lo)).take (HT.lR xs.length xs.length hi - HT.lR xs.length 0 lo),ie _ rfl⟩
def hG:V→Bool
 |.non=>true
 |.bl _=>true
 |.int _=>true
 |.str _=>true
 |_=>false
def BA:V→V→Bool
 |.non,.non=>true
 |.bl a,.bl b=>a == b
 |.bl a,.int b=>(if a then 1 else 0) == b
 |.int a,.bl b=>a == (if b then 1 else 0)
 |.int a,.int b=>a == b
 |.str a,.str b=>a == b
 |_,_=>false
theorem EK{A:Around}{s:Shared}{y x:V}{u v:Value}(ry:RelV y u)(rx:RelV x v)(fy:hG y=true)(fx:hG x=true):SeqAt.EqAt A s u v (BA y x):=by
 cases y with
 |non=>
  cases ry
  cases x with
  |non=>cases rx;exact SeqAt.EqAt.same _
  |bl b=>cases rx;exact SeqAt.EqAt.none_bool b
  |int b=>obtain⟨t,rfl⟩:=rx;exact SeqAt.EqAt.none_int b t
  |str b=>obtain⟨t,rfl⟩:=rx;exact SeqAt.EqAt.none_str b t
  |_=>exact absurd (show false=true from fx) n_
 |bl a=>
  cases ry
  cases x with
  |non=>cases rx;exact SeqAt.EqAt.bool_none a
  |bl b=>cases rx;exact SeqAt.EqAt.bool_bool a b
  |int b=>obtain⟨t,rfl⟩:=rx;exact SeqAt.EqAt.bool_int a b t
  |str b=>obtain⟨t,rfl⟩:=rx;exact SeqAt.EqAt.bool_str a b t
  |_=>exact absurd (show false=true from fx) n_
 |int a=>
  obtain⟨t',rfl⟩:=ry
  cases x with
  |non=>cases rx;exact SeqAt.EqAt.int_none a t'
  |bl b=>cases rx;exact SeqAt.EqAt.int_bool a t' b
  |int b=>obtain⟨t,rfl⟩:=rx;exact SeqAt.EqAt.int_int a t' b t
  |str b=>obtain⟨t,rfl⟩:=rx;exact SeqAt.EqAt.int_str a t' b t
  |_=>exact absurd (show false=true from fx) n_
 |str a=>
  obtain⟨t',rfl⟩:=ry
  cases x with
  |non=>cases rx;exact SeqAt.EqAt.str_none a t'
  |bl b=>cases rx;exact SeqAt.EqAt.str_bool a t' b
  |int b=>obtain⟨t,rfl⟩:=rx;exact SeqAt.EqAt.str_int a t' b t
  |str b=>obtain⟨t,rfl⟩:=rx;exact SeqAt.EqAt.str_str a t' b t
  |_=>exact absurd (show false=true from fx) n_
 |_=>exact absurd (show false=true from fy) n_
def t6(x:V)(u:Value):Bool:=match u with
 |.none=>BA .non x
 |.bool b=>BA (.bl b) x
 |.int i _=>BA (.int i) x
 |.str z _=>BA (.str z) x
 |_=>false
theorem yX{x y:V}{u:Value}(r:RelV y u)(f:hG y=true):t6 x u=BA y x:=by
 cases y with
 |non=>cases r;rfl
 |bl b=>cases r;rfl
 |int i=>obtain⟨t,rfl⟩:=r;rfl
 |str z=>obtain⟨t,rfl⟩:=r;rfl
 |_=>exact absurd (show false=true from f) n_
theorem j1{x:V}:∀{xs:List V} {us:List Value},Vals xs us→xs.all hG=true→us.any (t6 x)=xs.any fun y=>BA y x
 |_,_,.nil,_=>rfl
 |y::xs,u::us,.cons r t,f=>by
  rw[List.all_cons,lQ]at f
  rw[List.any_cons,List.any_cons,yX r f.1,j1 t f.2]
theorem ir{A:Around}{s:Shared}{x:V}{v:Value}(rx:RelV x v)(fx:hG x=true):∀{xs:List V} {us:List Value},Vals xs us→xs.all hG=true→∀u∈us,SeqAt.EqAt A s u v (t6 x u)
 |_,_,.nil,_=>fun u hu=>by cases hu
 |y::xs,u::us,.cons r t,f=>fun u' hu=>by
  rw[List.all_cons,lQ]at f
  rcases Zaf.mp hu with rfl |hu
  ·rw[yX r f.1];exact EK r rx f.1 fx
  ·exact ir rx fx t f.2 u' hu
def Gu(x:V)(xs:List V):Bool:=xs.any fun y=>BA y x
def Ir(K:Frag)(neg:Bool):R2:=fun x y H Q=>∃p xs,y=.ref p∧(SqL K H p xs∨SqT K H p xs)∧hG x=true∧xs.all hG=true∧Q (.bl (if neg then !Gu x xs else Gu x xs)) H
theorem w6:OpR X (compareOp .In) (Ir X.K false):=by
 intro pins s σ H x y v u Q I rx ry h
 obtain⟨p,xs,rfl,hq,fx,fs,q⟩:=h
 cases ry
 rcases hq with hq |hq
 ·obtain⟨its,r,pl,hz⟩:=I.list hq
  refine SeqAt.in_listAt (t6 x) pl.isList (fun w hw=>ir rx fx r fs w (by simpa using hw)) ⟨.bl _,H,I,rfl,?_⟩
  rw[show its.toArray.any (t6 x)=its.any (t6 x) by simp,j1 r fs]
  exact q
 ·obtain⟨its,r,pl,hz⟩:=I.tuple hq
  refine SeqAt.in_tupleAt (t6 x) pl (fun w hw=>ir rx fx r fs w (by simpa using hw)) ⟨.bl _,H,I,rfl,?_⟩
  rw[show its.toArray.any (t6 x)=its.any (t6 x) by simp,j1 r fs]
  exact q
theorem pS:OpR X (compareOp .NotIn) (Ir X.K true):=by
 intro pins s σ H x y v u Q I rx ry h
 obtain⟨p,xs,rfl,hq,fx,fs,q⟩:=h
 cases ry
 rcases hq with hq |hq
 ·obtain⟨its,r,pl,hz⟩:=I.list hq
  refine SeqAt.notIn_listAt (t6 x) pl.isList (fun w hw=>ir rx fx r fs w (by simpa using hw)) ⟨.bl _,H,I,rfl,?_⟩
  rw[show its.toArray.any (t6 x)=its.any (t6 x) by simp,j1 r fs]
  exact q
 ·obtain⟨its,r,pl,hz⟩:=I.tuple hq
  refine SeqAt.notIn_tupleAt (t6 x) pl (fun w hw=>ir rx fx r fs w (by simpa using hw)) ⟨.bl _,H,I,rfl,?_⟩
  rw[show its.toArray.any (t6 x)=its.any (t6 x) by simp,j1 r fs]
  exact q
theorem pT:OpR X (compareOp .NotIn) (fun x y H Q=>∃i j,x=.str i∧y=.str j∧Q (.bl (!(!(Builtin.Str.occurrences j i 0 j.length 1).isEmpty))) H):=by
 intro pins s σ H x y v u Q I rx ry h
 obtain⟨i,j,rfl,rfl,q⟩:=h
 obtain⟨t,rfl⟩:=rx
 obtain⟨t',rfl⟩:=ry
 exact notIn_str ⟨.bl _,H,I,rfl,q⟩
theorem pU:CallR X (.builtin "len") (fun xs H Q=>∃p ys,xs=[.ref p]∧(SqL X.K H p ys∨SqT X.K H p ys)∧Q (.int ys.length) H):=by
 intro pins s σ H xs us Q I r h
 obtain⟨p,ys,rfl,hq,q⟩:=h
 obtain⟨u,rfl,rx⟩:=vB r
 cases rx
 have hn:=kN
 rcases hq with hq |hq
 ·obtain⟨its,r',pl,hz⟩:=I.list hq
  have hlen:=r'.length
  exact Calls.call_len_list pl.isList (by simp only[kJ] <;> omega) ⟨.int ys.length,H,I.tok _,⟨s.toks+1,by rw[kJ,hlen]⟩,q⟩
 ·obtain⟨its,r',pl,hz⟩:=I.tuple hq
  have hlen:=r'.length
  exact len_tuple pl (by simp only[kJ] <;> omega) ⟨.int ys.length,H,I.tok _,⟨s.toks+1,by rw[kJ,hlen]⟩,q⟩
theorem pV:CallR X (.builtin "len") (fun xs H Q=>∃z,xs=[.str z]∧z.length≤sizeLine∧Q (.int z.length) H):=by
 intro pins s σ H xs us Q I r h
 obtain⟨z,rfl,hz,q⟩:=h
 obtain⟨u,rfl,t,rfl⟩:=vB r
 have hn:=kN
 exact len_str (by omega) ⟨.int z.length,H,I.tok _,⟨_,rfl⟩,q⟩
theorem CallR.or{f:Value}{r r':List V→Hp→VK→Prop}(h:CallR X f r)(h':CallR X f r'):CallR X f (fun xs H Q=>r xs H Q∨r' xs H Q):=by
 intro pins s σ H xs us Q I rs q
 rcases q with q |q
 ·exact h pins s σ H xs us Q I rs q
 ·exact h' pins s σ H xs us Q I rs q
theorem oh:CallR X (.type "tuple") (fun xs H Q=>∃p ys,xs=[.ref p]∧((SqL X.K H p ys∧∀l,H l=none→Q (.ref l) (upd H l (.tup ys)))∨(SqT X.K H p ys∧Q (.ref p) H))):=by
 intro pins s σ H xs us Q I r h
 obtain⟨p,ys,rfl,h⟩:=h
 obtain⟨u,rfl,rx⟩:=vB r
 cases rx
 rcases h with⟨hq,q⟩ |⟨hq,q⟩
 ·obtain⟨its,r',pl,hz⟩:=I.list hq
  have hlen:=r'.length
  refine call_tuple_list pl.isList (fun h' kp=>?_) (by simp only[kJ] <;> omega)
  have I1:Inv X pins σ H {s with heap:=h'}:=I.kept (t':=s.toks) kp
  have I2:Inv X pins σ (upd H h'.objs.size (.tup ys)) {s with heap:=h'.push {cls:=.type "tuple",data:=.seq its.toArray}}:=
   I1.laid (t':=s.toks) (fun b o e=>dF _ e) (dE _) (show ObjOk X.prog X.w _ _ _ (.tup ys)from⟨hz,its,r',IsTup.new _ _⟩)
  exact⟨.ref h'.objs.size,_,I2,rfl,q _ (I1.hok.fresh (dE _))⟩
 ·obtain⟨its,r',pl,hz⟩:=I.tuple hq
  exact call_tuple_same pl ⟨.ref p,H,I,rfl,q⟩
def Jo(K:Frag)(T:String)(x:V)(H:Hp):Prop:=match x with
 |.str _=>T="str"
 |.int _=>T="int"
 |.ref p=>(T="list"∧∃xs,SqL K H p xs)∨(T="tuple"∧∃o,K.lookup p=some o∧o.cls=.type "tuple"∧o.dict=none)∨
   (T="dict"∧((∃kvs,H p=some (.dK kvs))∨∃kvs,H p=some (.dT kvs)))∨(T="set"∧∃S n,H p=some (.set S n))
 |_=>False
theorem EL{pins:List (Addr×Obj)}{σ:St}{H:Hp}{s:Shared}{T:String}{x:V}{v:Value}(I:Inv X pins σ H s)(r:RelV x v)(ty:Jo X.K T x H):
  s.TypeIs v T∧∀a,v=.ref a→∃ob,s.heap.get? a=some ob∧ob.dict=none:=by
 cases x with
 |str z=>
  obtain⟨t,rfl⟩:=r
  cases(show T="str" from ty)
  exact⟨typeIs_str s z t,fun _ e=>nomatch e⟩
 |int i=>
  obtain⟨t,rfl⟩:=r
  cases(show T="int" from ty)
  exact⟨typeIs_int s i t,fun _ e=>nomatch e⟩
 |ref p=>
  cases r
  rcases ty with⟨rfl,xs,hq⟩ |⟨rfl,o,hk,hc,hd⟩ |⟨rfl,hk⟩ |⟨rfl,S,n,hk⟩
  ·obtain⟨its,_,pl,_⟩:=I.list hq
   refine⟨pl.isList.typeIs,fun a e=>?_⟩
   cases e
   obtain⟨o,n,e,c,hd,_⟩:=pl
   exact⟨o,e,hd⟩
  ·refine⟨⟨o,I.kIn p o hk,hc⟩,fun a e=>?_⟩
   cases e
   exact⟨o,I.kIn _ o hk,hd⟩
  ·have z:∃o,s.heap.get? p=some o∧o.ExactDict:=by
    rcases hk with⟨kvs,hk⟩ |⟨kvs,hk⟩
    ·obtain⟨_,_,_,_,o,_,_,e,ex,_⟩:=I.hok p _ hk
     exact⟨o,e,ex⟩
    ·obtain⟨_,_,_,_,o,_,_,e,ex,_⟩:=I.hok p _ hk
     exact⟨o,e,ex⟩
   obtain⟨o,e,ex⟩:=z
   refine⟨⟨o,e,ex.1⟩,fun a e2=>?_⟩
   cases e2
   exact⟨o,e,ex.2.1⟩
  ·obtain⟨o,_,_,_,e,ex,_⟩:=I.hok p _ hk
   refine⟨⟨o,e,ex.1⟩,fun a e2=>?_⟩
   cases e2
   exact⟨o,e,ex.2.1⟩
 |_=>exact False.elim ty
def Jx(K:Frag)(T:String)(r:V→List V→Hp→VK→Prop)(to:TE)(t:TA):TE:=fun σ H Q=>to σ H fun x H1=>Jo K T x H1∧t σ H1 fun xs H2=>r x xs H2 Q
variable {o e:Expr} {es:List Expr} {to:TE} {t:TA} {name:Str} {apos cpos:Pos} {T id:String} {r:V→List V→Hp→VK→Prop}
theorem DH (pa:PlainAttrs T) (slot:Slot T name id) (hty:typeOf (.builtin id)=pure (.type "method_descriptor")) (hm:Jm X id r) (ho:PE X o to) (ha:PA X (e::es) t)
  (hbase:attributeBase o name X.env (eval o X.env)=eval o X.env:=by rfl)
  (hfew:((backTo cpos (starEach (e::es) X.env)).all (fun x=> !x.1)&&(backToKw cpos (keywordEach [] X.env)).all (fun x=>x.1.isSome)
   &&decide ((e::es).length+([]:List Keyword).length+(if ([]:List Keyword).isEmpty then 0 else 1) < 30))=true:=by rfl)
  (hline:(apos.endLine == cpos.line)=true:=by rfl) (hs:starEach (e::es) X.env=(false,eval e X.env)::starEach es X.env:=by rfl) (hplain:(backTo cpos (starEach es X.env)).any (·.1)=false:=by rfl):
  PE X (.Call (.Attribute o name apos) (e::es) [] cpos) (Jx X.K T r to t):=by
 intro pins s σ H Q I h
 refine wpAny_Call_method_late hbase hfew hline rfl (bR (ho pins s σ H _ I h) fun v s1 ⟨x,H1,I1,r1,ty,q1⟩=>?_)
 obtain⟨h1,h2⟩:=EL I1 r1 ty
 refine⟨T,id,pa,slot,hty,h1,h2,?_⟩
 have hA:=ha cpos pins s1 σ H1 _ I1 q1
 rw[hs]at hA ⊢
 refine Calls.callWith_builtin (by show(false||(backTo cpos (starEach es X.env)).any (·.1))=false;rw[hplain] <;> rfl) (Calls.evalArgs_plain ?_)
 exact bR hA fun us s2 ⟨vs,H2,I2,r2,q2⟩=>hm pins s2 σ H2 x vs v us Q I2 r1 r2 q2
end
end L2
namespace L2
open PySem PySem.Spec PyProof.Rows
def Jy(X:Cx)(id:String)(r:V→List V→Hp→VK→Prop):Prop:=
 ∀(pins:List (Addr×Obj)) (s:Shared) (σ:St) (H:Hp) (x:V) (xs:List V) (v:Value) (us:List Value) (Q:VK),Inv X pins σ H s→RelV x v→Vals xs us→r x xs H Q→
  wpAny (model X.prog X.w) X.A (call (.builtin id) (v::us)) (EP X pins σ Q) X.xe s
theorem Vals.one{x:V}{us:List Value}(h:Vals [x] us):∃u,us=[u]∧RelV x u:=by
 cases h with
 |cons r t=>cases t;exact⟨_,rfl,r⟩
theorem Vals.two{x y:V}{us:List Value}(h:Vals [x,y] us):∃u v,us=[u,v]∧RelV x u∧RelV y v:=by
 cases h with
 |cons r t=>
  obtain⟨v,rfl,q⟩:=Vals.one t
  exact⟨_,_,rfl,r,q⟩
theorem Vals.rep{xs:List V}{us:List Value}(h:Vals xs us):∀k:Nat,Vals (List.replicate k xs).flatten (List.replicate k us).flatten
 | 0=>.nil
 |k+1=>by
  rw[List.replicate_succ,List.replicate_succ,List.flatten_cons,List.flatten_cons]
  exact Vals.append h (Vals.rep h k)
section
variable {X:Cx} {pins:List (Addr×Obj)} {σ:St} {H:Hp} {s:Shared} {l b:Addr} {xs ys zs:List V}
theorem Inv.lset{its its':List Value}{n:Nat}{f:Array Value→Array Value}{t':Nat}(I:Inv X pins σ H s)(hH:H l=some (.lst xs))
  (e:s.heap.get? l=some {cls:=.type "list",data:=.seq its.toArray n}) (hf:f its.toArray=its'.toArray) (hv:Vals ys its') (hz:ys.length≤sizeLine):
  Inv X pins σ (upd H l (.lst ys)) {s with heap:=s.heap.update l (Obj.mapSeq f),toks:=t'}:=by
 have q:=PySem.IsL.update e f
 rw[hf]at q
 refine I.write (x:=l) (e:=l) (by rw[hH];exact trivial) (.inl rfl) (fun b' u hb hu=>(vp s.heap (Obj.mapSeq f) (Ne.symm hb)).trans hu) ⟨_,q⟩ ?_
 exact⟨hz,its',_,hv,q⟩
theorem Inv.lnew{its:List Value}{t':Nat}(I:Inv X pins σ H s)(hv:Vals ys its)(hz:ys.length≤sizeLine):
  Inv X pins σ (upd H s.heap.objs.size (.lst ys)) {s with heap:=s.heap.push {cls:=.type "list",data:=.seq its.toArray},toks:=t'}:=
 I.laid (fun _ _ q=>dF _ q) (dE _) ⟨hz,its,0,hv,ie _ rfl⟩
theorem Inv.fresh(I:Inv X pins σ H s):H s.heap.objs.size=none:=I.hok.fresh (dE _)
theorem Inv.lstM(I:Inv X pins σ H s)(hH:H l=some (.lst xs)):xs.length≤sizeLine∧∃(its:List Value) (n:Nat),Vals xs its∧xs.length=its.length∧s.heap.get? l=some {cls:=.type "list",data:=.seq its.toArray n}:=by
 obtain⟨z,its,n,r,e⟩:=I.hok l _ hH
 exact⟨z,its,n,r,r.length,e⟩
end
section
variable {X:Cx}
def BZ:V→List V→Hp→VK→Prop:=fun x vs H Q=>∃l xs y,x=.ref l∧vs=[y]∧H l=some (.lst xs)∧xs.length < sizeLine∧Q .non (upd H l (.lst (xs++[y])))
theorem iW:Jy X "list.append" BZ:=by
 intro pins s σ H x vs v us Q I rx rv h
 obtain⟨l,xs,y,rfl,rfl,hH,hz,q⟩:=h
 cases rx
 obtain⟨u,rfl,ru⟩:=rv.one
 obtain⟨z,its,n,r,hl,e⟩:=I.lstM hH
 refine call_meets F.slot_list_append ⟨_,e,rfl⟩ F.entry_list_append (F.args_list_append_2 _ _) (PySem.list_append l its.toArray n u (by rw[kJ];omega)) ⟨e,?_⟩
 refine⟨.non,_,I.lset (its':=its++[u]) hH e (by simp) (r.append (.cons ru .nil)) ?_,rfl,q⟩
 rw[wM,List.length_singleton]
 omega
theorem B3{α:Type}(xs:List α)(k:Nat):(List.replicate k xs).flatten.length=k*xs.length:=by
 induction k with
 |zero=>simp
 |succ k ih=>rw[List.replicate_succ,List.flatten_cons,wM,ih,Nat.succ_mul,Nat.add_comm]
end
end L2
namespace Att
open PySem PySem.W PySem.Calls PyProof.Rows
theorem lS{P:Params}{h:Heap}:∀(ns:List Int) (vs:List Value),WellAll P h vs (ns.map WData.int)→IntsAre vs ns:=by
 intro ns
 induction ns with
 |nil=>
  intro vs w
  rw[oa]at w
  cases w
  exact .nil
 |cons n ns ih=>
  intro vs w
  rw[dQ]at w
  cases w with
  |cons a b=>
   cases a
   exact .cons _ _ (ih _ b)
theorem w_{l:OpenLaw}{n:Nat}(hn:l.most=some n){P:Params}{h:Heap}{args:List WData}{vals:List Value}
  (hpre:l.row.toRowW.claim.pre args=true) (hwl:WellAll P h vals args):
  ∃a vs ns,vals=[Value.ref a]∧args=[WData.list (ns.map WData.int)]∧h.get? a=some {cls:=.type "list",data:=.seq vs.toArray}∧IntsAre vs ns∧ns.length≤n:=by
 have hsh:WShape.hasAll [] args [.list .int]=true:=(pre_splitW hpre).1
 have hc:l.pre.holds [] {args:=args}=true:=(pre_splitW hpre).2
 obtain⟨d,r,rfl,h1,h2⟩:=hasAllW_cons hsh
 obtain rfl:=hasAllW_nil h2
 obtain⟨xs,rfl,h3⟩:=hasW_list h1
 obtain⟨ns,rfl⟩:=items_int h3
 have hlen:ns.length≤n:=by
  unfold OpenLaw.pre at hc
  have h4:(WTm.not (.lt (.lit (.int (n:Int))) (.len (.arg 0)))).holds [] {args:=[.list (ns.map .int)]}=true:=by
   have h4:=(holds_andW hc).1
   rw[hn]at h4
   exact h4
  have h5:=condW_of h4 (w_not (w_lt w_lit (w_len_list (w_arg rfl))))
  rw[dY]at h5
  refine Nat.le_of_not_lt fun q=>?_
  have q':(n:Int) < ((ns.length:Nat):Int):=by omega
  first
   |(rw[decide_eq_true q']at h5;exact absurd h5 (by decide))
   |(simp at h5;omega)
 cases hwl with
 |cons w1 w2=>
  cases w2
  cases w1 with
  |list ho hall=>exact⟨_,_,ns,rfl,rfl,ho,lS ns _ hall,hlen⟩
theorem xa(l:OpenLaw)(args:List WData):l.row.toRowW.claim.post args (.bool true) args=true:=
 postW_of (r:=l.row.toRowW) (X:=(true == true))
  (show WShape.has [] (.bool true) .bool=true by first |rfl |decide |simp[WShape.has,WShape.arms,WShape.armsAll])
  (show(WTm.eq .res (.lit (.bool true))).value [] {args:=args,res:=some (.bool true),after:=args}=some (.bool (true == true))from w_eq_bool (w_res rfl) w_lit) rfl
theorem rA{l:OpenLaw}{n:Nat}{q:Program}{loose:List Str}{XP:(Str→Option Value)→Heap→Prop}{YP:World→Heap→Prop}{d:DefRec}
  (hn:l.most=some n) (hdf:d.params.defaults=[])
  (call:∀(w:World) (s₀ s₁:Shared) (mg mb:Str→Option Value) (fa:Addr) (o:Obj) (pm cd doc:Value) (a:Addr) (vs:List Value) (ns:List Int),
   Ground q loose [] XP w s₀ mg mb s₁.heap→YP w s₁.heap→
   s₁.heap.get? fa=some o→o.data=.func (docDef d.name d.params d.body d.scope pm cd doc)→s₁.heap.CodeRec cd d.name→mg d.name=some (.ref fa)→
   s₁.heap.get? a=some {cls:=.type "list",data:=.seq vs.toArray}→IntsAre vs ns→ns.length≤n→s₁.gens=#[]→
   codeAny (model l.prog w) callerA (.call (.ref fa) ⟨[.ref a],[]⟩) (fun r s'=>r=.ok (.ret (.bool true))∧OldK s₁.heap s'.heap∧s'.os=s₁.os∧AllBare s'.gens) s₁):
  WalkO q loose XP YP l.row.toRowW d [] (fun f vs=>PySem.call f vs):=by
 intro w s₀ s₁ mg mb G Y fa o pm cd doc dV kV ho hd hcd hD hmg hg args vals as hpre hlay hrd hwl hlo
 obtain rfl:dV=.none:=Dflts.none hD hdf
 obtain rfl:kV=.none:=Dflts.noKw hD
 obtain⟨a,vs,ns,rfl,rfl,hobj,hints,hlen⟩:=w_ hn hpre hwl
 refine enter_call (codeAny_mono (call w s₀ s₁ mg mb fa o pm cd doc a vs ns G Y ho (fd_plain hd) hcd hmg hobj hints hlen hg) fun r s' hq=>?_)
 obtain⟨rfl,h2,h3,h4⟩:=hq
 exact⟨.inl ⟨.bool true,.bool true,[],rfl,fun _=>rfl,.bool true,xa l _,fun _=>⟨List.Pairwise.nil,fun _ hm=>(nomatch hm)⟩⟩,h2,h3,h4⟩
end Att
namespace L2
open PySem PySem.Spec PyProof.Rows
theorem iX:∀{vs:List Value} {ns:List Int},IntsAre vs ns→Vals (ns.map V.int) vs
 |_,_,.nil=>.nil
 |_,_,.cons n t h=>.cons ⟨t,rfl⟩ (iX h)
theorem ObjOk.tbl0{P:Program}{w:World}{H:Hp}{h:Heap}{b:Addr}{q:Str}(e:h.get? b=some (tabObj #[])):ObjOk P w H h b (.tbl q):=⟨#[],e,trivial,fun pos cv z=>by cases z⟩
end L2
namespace L2
open PySem PySem.Spec PyProof.Rows
def cM(s:Stmt):Arguments:=match s with
 | .FunctionDef _ a _ _ _ _ _ _ _ _=>a
 |_=>{posonlyargs:=[],args:=[],vararg:=none,kwonlyargs:=[],kw_defaults:=[],kwarg:=none,defaults:=[]}
def a7(s:Stmt):List Stmt:=match s with
 | .FunctionDef _ _ b _ _ _ _ _ _ _=>b
 |_=>[]
def ah(s:Stmt):Scope:=match s with
 | .FunctionDef _ _ _ _ _ _ sc _ _ _=>sc
 |_=>{kind:=.function,names:=[],isGenerator:=false,isCoroutine:=false}
abbrev mv:yU:=fun _ _ _ _ _ _=>False
abbrev E0:XK:=fun _ _ _=>False
theorem G0{X:Cx}:t5 mv X E0:=fun _ _ _ _ _ _ _ h=>h.elim
structure Fun (K:Frag) (x qual:Str) (st:Stmt) (f:Addr) (fd:FuncData):Prop where
 ex:∃(oc:Value) (od:Option Addr) (kV doc pm:Value) (an:Option Addr) (cdv ct:Value) (osl:Array (Option Value)),
  fd=fnOf x qual (cM st) (a7 st) (ah st) .none kV doc pm an cdv ct∧K.lookup f=some ⟨oc,od,.func fd,osl⟩∧codeIn K cdv qual=true
 kp:keepIn K (.ref f)=true
section
variable {P:Program} {w:World} {K:Frag} {mg:Str→Option Value} {base:Heap}
theorem Fun.ok{x qual:Str}{st:Stmt}{f:Addr}{fd:FuncData}{N ps:List Str}{k:Nat}{sp:Sp}(F:Fun K x qual st f fd)(S:FnScope N ps (ah st))(len:∀vs H Q E,sp vs H Q E→vs.length=ps.length)
  (hbody:∀(cdv:Value) (A:Around) (outer:List Env) (s:Shared) (H:Hp) (vs:List V) (Q:VK) (E:XK),Room k (A.deeper (envOfC qual (ah st) s.heap.objs.size f cdv))→sp vs H Q E→
   ∃t,PSs (fY mv P w K mg base N qual (ah st) f cdv A outer s H E).nox (a7 st) t∧t {nx:=fun _ H'=>Q .non H',rt:=Q} (de N vs) H):FnOk P w K mg base mv (k+1) f fd ps sp:=by
 obtain⟨oc,od,kV,doc,pm,an,cdv,ct,osl,rfl,lk,hcd⟩:=F.ex
 refine vC lk hcd S len fun A outer s H vs Q E hr hsp=>?_
 obtain⟨t,h,q⟩:=hbody cdv A outer s H vs Q E hr hsp
 exact⟨t,h.nox,q⟩
theorem Fun.binds{x qual:Str}{st:Stmt}{f:Addr}{fd:FuncData}{ps:List Str}(F:Fun K x qual st f fd)
  (h:∀(kV doc pm:Value) (an:Option Addr) (cdv ct:Value) (us:List Value),us.length=ps.length→bindArgs (fnOf x qual (cM st) (a7 st) (ah st) .none kV doc pm an cdv ct) ⟨us,[]⟩=pure (ps.zip us)):Binds K fd ps []:=by
 obtain⟨oc,od,kV,doc,pm,an,cdv,ct,osl,rfl,lk,hcd⟩:=F.ex
 exact .all (h kV doc pm an cdv ct)
theorem yY{x qual:Str}{st:Stmt}{f:Addr}{oc:Value}{od an:Option Addr}{osl:Array (Option Value)}{kV doc pm cdv ct:Value}(l:K.lookup f=some ⟨oc,od,.func (fnOf x qual (cM st) (a7 st) (ah st) .none kV doc pm an cdv ct),osl⟩)
  (c:codeIn K cdv qual=true) (k:keepIn K (.ref f)=true):Fun K x qual st f (fnOf x qual (cM st) (a7 st) (ah st) .none kV doc pm an cdv ct):=⟨⟨oc,od,kV,doc,pm,an,cdv,ct,osl,rfl,l,c⟩,k⟩
end
def Same(H H':Hp):Prop:=∀b o,H b=some o→H' b=some o
theorem Same.refl(H:Hp):Same H H:=fun _ _ h=>h
theorem Same.trans{H H1 H2:Hp}(a:Same H H1)(b:Same H1 H2):Same H H2:=fun c o h=>b c o (a c o h)
theorem Same.free{H H':Hp}(e:Same H H'){l:Addr}(h:H' l=Option.none):H l=Option.none:=by
 cases q:H l with
 |none=>rfl
 |some o=>
  rw[e l o q]at h
  cases h
theorem Same.seq{K:Frag}{H H':Hp}{a:Addr}{xs:List V}(e:Same H H')(h:SqL K H a xs):SqL K H' a xs:=by
 rcases h with(h |⟨o,h⟩) |h
 ·exact .inl (.inl (e _ _ h))
 ·exact .inl (.inr ⟨o,e _ _ h⟩)
 ·exact .inr h
end L2
namespace NH
section
variable {α:Type} [DecidableEq α]
def yD(p x:α×Int):List (α×Int):=if x.1=p.1 then (if x.2+p.2=0 then []else [(p.1,x.2+p.2)])else (if p.2=0 then [x]else [p,x])
end
end NH
namespace L2
open PySem PySem.Spec PyProof.Rows
theorem eJ{H:Hp}{p:Addr}(h:H p=none)(o:HO):Same H (upd H p o):=fun b u q=>by rw[ar (bj q h)];exact q
theorem Same.tup{K:Frag}{H H':Hp}{a:Addr}{xs:List V}(e:Same H H')(h:SqT K H a xs):SqT K H' a xs:=by
 rcases h with(h |⟨o,h⟩) |h
 ·exact .inl (.inl (e _ _ h))
 ·exact .inl (.inr ⟨o,e _ _ h⟩)
 ·exact .inr h
def SameBut(l:Addr)(H H':Hp):Prop:=∀b o,b≠l→H b=some o→H' b=some o
mutual
inductive DOf (K:Frag) (H:Hp):V→PyData→Prop
 |non:DOf K H .non .none
 |bl (b:Bool):DOf K H (.bl b) (.bool b)
 |int (i:Int):DOf K H (.int i) (.int i)
 |str (x:Str):DOf K H (.str x) (.str x)
 |lst {a:Addr} {xs:List V} {ds:List PyData}:SqL K H a xs→DAll K H xs ds→DOf K H (.ref a) (.list ds)
 |tup {a:Addr} {xs:List V} {ds:List PyData}:SqT K H a xs→DAll K H xs ds→DOf K H (.ref a) (.tuple ds)
inductive DAll (K:Frag) (H:Hp):List V→List PyData→Prop
 |nil:DAll K H [] []
 |cons {x:V} {xs:List V} {d:PyData} {ds:List PyData}:DOf K H x d→DAll K H xs ds→DAll K H (x::xs) (d::ds)
end
section
variable {X:Cx} {pins:List (Addr×Obj)} {σ:St} {H:Hp} {s:Shared}
theorem DOf.reads(I:Inv X pins σ H s){x:V}{d:PyData}{u:Value}(h:DOf X.K H x d)(r:RelV x u):∃as,Reads s.heap u d as:=DOf.rec (motive_1:=fun x d _=>∀{u:Value},RelV x u→∃as,Reads s.heap u d as) (motive_2:=fun xs ds _=>∀{us:List Value},Vals xs us→∃as,ReadsAll s.heap us ds as)
  (fun r=>by cases r;exact⟨_,Reads.none⟩) (fun b _ r=>by cases r;exact⟨_,Reads.bool b⟩) (fun i _ r=>by obtain⟨t,rfl⟩:=r;exact⟨_,Reads.int i t⟩) (fun x _ r=>by obtain⟨t,rfl⟩:=r;exact⟨_,Reads.str x t⟩)
  (fun hq _ ih _ r=>by
   cases r
   obtain⟨its,rv,⟨o,n,e,c,_,d⟩,_⟩:=I.list hq
   obtain⟨as,q⟩:=ih rv
   exact⟨_,reads_list_at e c d (by simpa using q)⟩)
  (fun hq _ ih _ r=>by
   cases r
   obtain⟨its,rv,⟨o,e,c,n,d⟩,_⟩:=I.tuple hq
   obtain⟨as,q⟩:=ih rv
   exact⟨_,reads_tuple_at e c d (by simpa using q)⟩)
  (fun r=>by cases r;exact⟨_,ReadsAll.nil⟩)
  (fun _ _ a b _ r=>by
   cases r with
   |cons r rt=>
    obtain⟨as,q⟩:=a r
    obtain⟨bs,p⟩:=b rt
    exact⟨_,ReadsAll.cons q p⟩) h r
end
def G1(K:Frag):R2:=fun x y H Q=>∃d e,DOf K H x d∧DOf K H y e∧SeqAt.shaped d=true∧SeqAt.shaped e=true∧Q (.bl (PyData.eqv d e)) H
def G2(K:Frag):R2:=fun x y H Q=>∃d e,DOf K H x d∧DOf K H y e∧SeqAt.shaped d=true∧SeqAt.shaped e=true∧Q (.bl (!PyData.eqv d e)) H
theorem yZ{X:Cx}(hu:X.A.units+64 < cLine):OpR X (compareOp .Eq) (G1 X.K):=by
 intro pins s σ H x y v u Q I rx ry h
 obtain⟨d,e,hd,he,s1,s2,q⟩:=h
 obtain⟨as,ra⟩:=hd.reads I rx
 obtain⟨bs,rb⟩:=he.reads I ry
 exact eq_dataH ra rb s1 s2 hu ⟨.bl _,H,I,rfl,q⟩
theorem EM{X:Cx}(hu:X.A.units+64 < cLine):OpR X (compareOp .NotEq) (G2 X.K):=by
 intro pins s σ H x y v u Q I rx ry h
 obtain⟨d,e,hd,he,s1,s2,q⟩:=h
 obtain⟨as,ra⟩:=hd.reads I rx
 obtain⟨bs,rb⟩:=he.reads I ry
 exact ne_dataH ra rb s1 s2 hu ⟨.bl _,H,I,rfl,q⟩
end L2
namespace L2
open PySem PySem.Spec PyProof.Rows
section
variable {prog:Program} {w:World} {A:Around} {R:Result→Shared→Prop} {s:Shared}
theorem j3{elt target iter:Expr}{ifs:List Expr}{scope:Scope}{pos:Pos}{it acc:Value}{env:Env}(I:Nat→Shared→Prop)
  (turn:∀n s,I n s→wpAny (model prog w) A (pyNext it) (fun r s₁=>match r with
   |none=>R (.ok .next) s₁
   |some v=>wpAny (model prog w) A (letOwnedTupleGo target it v) (fun _ s₁'=>wpAny (model prog w) A (assign target env v) (fun _ s₂=>
     wpAny (model prog w) A (forIn ifs true fun c r=>if r=true then do let ok ←isTrue c env (eval c env);pure (ForInStep.yield ok)else pure (ForInStep.yield r)) (fun ok s₃=>
      if ok=true then wpAny (model prog w) A (eval elt env) (fun x s₄=>
       wpAny (model prog w) A (call (.builtin "list.append") [acc,x]) (fun _ s₅=>∃m,m < n∧I m s₅) (fun _ _=>False) s₄) (fun _ _=>False) s₃
      else ∃m,m < n∧I m s₃) (fun _ _=>False) s₂) (fun _ _=>False) s₁') (fun _ _=>False) s₁) (fun _ _=>False) s)
  (n:Nat) (h:I n s):
  codeAny (model prog w) A (.compLoop (.ListComp elt [⟨target,iter,ifs,0⟩] scope pos) 0 it acc env) R s:=by
 refine codeAny_loop rfl I (fun n s hI=>?_) n h
 show wpAny _ A ((compTurn (.ListComp elt [⟨target,iter,ifs,0⟩] scope pos) 0 it acc env).onRaise (fun x=>do noteFrame x env;theTreesLotGoes x)) _ _ s
 refine wpAny_noted ?_
 rw[compTurn_list]
 refine wpAny_bind (wpAny_standAt (wpAny_bind (wpAny_mono (turn n s hI) (fun r s₁ h₁=>?_) fun _ _ h'=>h'.elim)))
 cases r with
 |none=>exact wpAny_pure h₁
 |some v=>
  refine wpAny_bind (wpAny_mono h₁ (fun _ s₁' h₁'=>?_) fun _ _ h'=>h'.elim)
  refine wpAny_bind (wpAny_mono h₁' (fun _ s₂ h₂=>wpAny_bind (wpAny_mono h₂ (fun ok s₃ h₃=>?_) fun _ _ h'=>h'.elim)) fun _ _ h'=>h'.elim)
  cases ok with
  |false=>exact wpAny_pure ⟨rfl,h₃⟩
  |true=>
   exact wpAny_bind (wpAny_bind (wpAny_mono h₃ (fun x s₄ h₄=>wpAny_bind (wpAny_mono h₄ (fun _ s₅ h₅=>wpAny_pure (wpAny_pure ⟨rfl,h₅⟩)) fun _ _ h'=>h'.elim)) fun _ _ h'=>h'.elim))
end
def Cx.comp(X:Cx)(sc:Scope)(cl:List (Str×Addr))(N:List Str)(C:Addr)(s₀:Shared)(H₀:Hp)(fp:List Addr):Cx:=
 ⟨X.prog,X.w,X.K,X.mg,X.base,X.A,N,s₀,H₀,⟨sc,C,X.env.globals,cl,X.env.qual,none,X.env.code,X.env.frame,X.env.builtins⟩,X.stack,X.stack,fp,fun _=>false,X.calm,[],fun _ _=>False⟩
def EN(X:Cx)(ifs:List Expr)(t:TT):Prop:=
 ∀(pins:List (Addr×Obj)) (s:Shared) (σ:St) (H:Hp) (Q:Bool→Hp→Prop),Inv X pins σ H s→t σ H Q→
  wpAny (model X.prog X.w) X.A (forIn ifs true fun c r=>if r=true then do let ok ←isTrue c X.env (eval c X.env);pure (ForInStep.yield ok)else pure (ForInStep.yield r)) (TP X pins σ Q) X.xe s
def Is:TT:=fun _ H Q=>Q true H
theorem vF{X:Cx}:EN X [] Is:=fun _ _ _ H _ I h=>wpAny_tests_nil ⟨H,I,h⟩
theorem vG{X:Cx}{c:Expr}{t:TT}(h:PT X c t):EN X [c] t:=fun pins s σ H Q I q=>wpAny_tests_one (h pins s σ H Q I q)
def slots(js:List (Option Nat))(σ:St):St:=js.map fun j=>j.bind fun j=>(σ[j]?).join
def o6(js:List (Option Nat))(wi:TI)(g:TG)(tt:TT)(te:TE):TE:=fun σ H Q=>wi σ H fun J H1=>∀l,H1 l=none→∃W:Nat→Nat→St→Hp→Prop,(∃m,W 0 m (slots js σ) (upd H1 l (.lst [])))∧
 ∀i m σ' H',W i m σ' H'→(J.stop i H'∧Q (.ref l) H')∨(J.go i H'∧∃N:St→Hp→Prop,(∀σ' H',N σ' H'→∃m',m' < m∧W (i+1) m' σ' H')∧∀x H2,J.yld i H' x H2→g x σ' H2 fun σ3 H3=>tt σ3 H3 fun b H4=>
  if b=true then te σ3 H4 fun y H5=>∃ys,H5 l=some (.lst ys)∧ys.length < sizeLine∧N σ3 (upd H5 l (.lst (ys++[y])))else N σ3 H4)
section
variable {X:Cx} {elt target iter:Expr} {ifs:List Expr} {scope sc:Scope} {cl:List (Str×Addr)} {N:List Str} {pos:Pos} {wi:TI} {g:TG} {tt:TT} {te:TE} {js:List (Option Nat)}
structure CompOk (X:Cx) (scope sc:Scope) (cl:List (Str×Addr)) (N:List Str) (js:List (Option Nat)):Prop where
 clos:closureFor scope X.env=pure cl
 rel:relabel scope X.env=sc
 nocell:∀y∈scope.names,y.2≠ .cell
 kind:scope.kind=.function
 names:∀y∈scope.names,y.2=.local→scope.names.lookup y.1=some .local
 same:∀x c,cl.lookup x=some c→X.env.cells.lookup x=some c
 has:∀x,(sc.names.lookup x=some .cell∨sc.names.lookup x=some .free)→∃c,cl.lookup x=some c
 len:js.length=N.length
 from_:∀(i j:Nat),js[i]? =some (some j)→∃x,N[i]? =some x∧X.N[j]? =some x∧(sc.names.lookup x=some .cell∨sc.names.lookup x=some .free)∧(X.env.kindOf x=some .cell∨X.env.kindOf x=some .free)
theorem rB{use:Option (Value→Sem Unit)}{Qv:Value→Shared→Prop}(K:CompOk X scope sc cl N js)(hc:X.calm=true)(hi:PI X target iter wi)
  (hgg:∀C s₀ H₀ fp,PG (X.comp sc cl N C s₀ H₀ fp) target g) (htt:∀C s₀ H₀ fp,EN (X.comp sc cl N C s₀ H₀ fp) ifs tt) (hee:∀C s₀ H₀ fp,PE (X.comp sc cl N C s₀ H₀ fp) elt te)
  (hs:∀x,foldedSetIterable iter X.env x=pure x) (pins:List (Addr×Obj)) (s:Shared) (σ:St) (H:Hp) (Q:VK) (I:Inv X pins σ H s) (h:o6 js wi g tt te σ H Q)
  (hend:∀(D C:Addr) (H4:Hp) (s5:Shared) (m:Str→Option Value),Inv X pins σ H4 s5→s5.heap.Ns C m→H4 C=none→C≠X.env.locals→C∉X.fs→X.s₀.heap.objs.size≤C→(∀x c,X.env.cells.lookup x=some c→c≠C)→(∀p∈X.pn++pins,p.1≠C)→Q (.ref D) H4→
   compPost (model X.prog X.w) X.A X.xe use Qv (.ref D) C (.ok .next) s5):
  wpAny (model X.prog X.w) X.A (comprehension (.ListComp elt [⟨target,iter,ifs,0⟩] scope pos) scope X.env (firstIterPos [⟨target,iter,ifs,0⟩] pos) (newList []) false (firstIter [⟨target,iter,ifs,0⟩] X.env) use) Qv X.xe s:=by
 refine wpAny_comprehension_free (use:=use) rfl hs K.clos K.kind K.names (bR (hi pins s σ H _ I h) fun v s1 h1=>bR h1 fun itv s2 h2=>?_)
 obtain⟨it,fp,tn,J,H2,e,I2,T,st2,f2,R⟩:=h2
 subst e
 refine wpAny_newObj_type (wpAny_newFunctionEnv K.nocell (by intro y hy;simp at hy) (fun h₁ hns₁ hsb₁=>?_) K.kind)
 dsimp only at hns₁ hsb₁ ⊢
 have I3:Inv X pins σ (upd H2 s2.heap.objs.size (.lst [])) {s2 with heap:=s2.heap.push {cls:=.type "list",dict:=none,data:=.seq ([]:List Value).toArray}}:=
  I2.lnew (t':=s2.toks) (its:=[]) .nil (Nat.zero_le _)
 obtain⟨W,⟨m0,w0⟩,turn⟩:=R s2.heap.objs.size (I2.hok.fresh (dE _))
 generalize hP:s2.heap.push {cls:=.type "list",dict:=none,data:=.seq ([]:List Value).toArray}=h3 at hns₁ hsb₁ I3 ⊢
 generalize hD:s2.heap.objs.size=D at w0 turn I3 ⊢
 have hsz3:h3.objs.size=D+1:=by rw[←hP,rh,hD]
 have old3:∀b o,s2.heap.get? b=some o→h3.get? b=some o:=fun b o e=>by rw[←hP];exact dF _ e
 have old:∀b o,h3.get? b=some o→h₁.get? b=some o:=fun b o e=>hsb₁.extBut b o (eF (dM e)) (dF _ e)
 have fpD:∀b∈fp,b < D:=fun b hb=>by
  obtain⟨o,e,_⟩:=T.obj _ _ st2 b hb
  rw[←hD];exact dM e
 have frD:∀b∈fp,(upd H2 D (.lst [])) b=none:=fun b hb=>by rw[ar (eF (fpD b hb))];exact(f2 b hb).1
 have f3:∀b∈fp,ip X pins (upd H2 D (.lst [])) b:=fun b hb=>⟨frD b hb,(f2 b hb).2⟩
 have Hfresh:∀a,h3.objs.size≤a→(upd H2 D (.lst [])) a=none:=fun a ha=>I3.hok.fresh ha
 have cellC:∀x c,X.env.cells.lookup x=some c→c < h3.objs.size:=fun x c e=>by
  obtain⟨v,q⟩:=I3.cell x c e
  exact q.lt
 have YOk:(X.comp sc cl N h3.objs.size {s2 with heap:=h3} (upd H2 D (.lst [])) fp).Ok:=by
  refine⟨I3.ok.mod,?_,I3.ok.glob,I3.ok.blt,dE _,fun x y c e1 e2=>I3.ok.inj x y c (K.same x c e1) (K.same y c e2),fun x hx=>K.has x hx,fun x c hf _=>absurd hf (by intro z;cases z),I3.ok.hd,I3.ok.frames,.inl rfl,fun b hb=>⟨?_,fun x c e=>(f2 b hb).2.2.2.2.1 x c (K.same x c e)⟩,
   I3.bs,kK I3.ok.bsz I3.sz,fun b o e hb=>?_,fun b hb hm=>?_,I3.stack,I3.stkFree,I3.tab⟩
  ·rw[←K.rel];exact K.kind
  ·exact eF (by rw[hsz3];exact vt (fpD b hb))
  ·rcases(f2 b hb).2.2.2.1 with z |z
   ·exact I3.ok.noex b o e z
   ·exact absurd (jH (dM (I3.ok.bs b o e).1) z) (Nat.lt_irrefl _)
  ·rcases Zaf.mp (I3.stkSub b hm)with z |z
   ·exact(f2 b hb).2.1 z
   ·exact(f2 b hb).2.2.1 z
 have IY:Inv (X.comp sc cl N h3.objs.size {s2 with heap:=h3} (upd H2 D (.lst [])) fp) [] (slots js σ) (upd H2 D (.lst [])) {s2 with heap:=h₁,toks:=s2.toks+([]:List (Str×Value)).length}:=by
  refine⟨YOk,rfl,I3.bare,Un.kept old,⟨_,hns₁,fun i x v e1 e2 e3=>?_⟩,fun x c e=>?_,Hfresh _ (dE _),fun x c e=>I3.freeC x c (K.same x c e),fun p hp=>absurd (show p∈([]:List (Addr×Obj))from hp) (by simp),I3.hok.kept old,?_⟩
  ·unfold slots at e2
   rw[q_]at e2
   cases ej:js[i]? with
   |none=>rw[ej]at e2;cases e2
   |some jo=>
    rw[ej]at e2
    cases jo with
    |none=>cases e2
    |some j=>
     obtain⟨y,n1,n2,k1,k2⟩:=K.from_ i j ej
     have exy:y=x:=Option.some.inj (n1.symm.trans e1)
     subst exy
     have e2':(σ[j]?).join=some v:=Option.some.inj e2
     have e4:σ[j]? =some (some v):=by
      cases es:σ[j]? with
      |none=>rw[es]at e2';cases e2'
      |some w=>rw[es]at e2';exact congrArg some e2'
     obtain⟨m,_,hl⟩:=I3.loc
     obtain⟨u,ru,lk⟩:=hl j y v n2 e4 (by
      rcases k2 with z |z
      ·exact .inr (.inl z)
      ·exact .inr (.inr z))
     refine⟨u,ru,.inr ⟨k1,?_⟩⟩
     obtain⟨c,hcl⟩:=K.has y k1
     refine⟨c,hcl,?_⟩
     rcases lk with⟨z,_⟩ |⟨_,c',e5,ic⟩
     ·rcases k2 with q |q
      ·rw[q]at z;cases z
      ·rw[q]at z;cases z
     ·have:c'=c:=Option.some.inj (e5.symm.trans (K.same y c hcl))
      subst this
      obtain⟨o,ho,hd⟩:=ic
      exact⟨o,old _ _ ho,hd⟩
  ·obtain⟨v,o,ho,hd⟩:=I3.cell x c (K.same x c e)
   exact⟨v,o,old _ _ ho,hd⟩
  ·unfold slots;rw[dY];exact K.len
 have loop:∀s₃:Shared,s₃={s2 with heap:=h₁,toks:=s2.toks+([]:List (Str×Value)).length}→
   codeAny (model X.prog X.w) X.A (.compLoop (.ListComp elt [⟨target,iter,ifs,0⟩] scope pos) 0 (.ref it) (.ref D) (X.comp sc cl N h3.objs.size {s2 with heap:=h3} (upd H2 D (.lst [])) fp).env)
    (compPost (model X.prog X.w) X.A X.xe use Qv (.ref D) h3.objs.size) s₃:=by
  rintro s₃ rfl
  refine j3 (fun n s'=>∃i σ' H',Inv (X.comp sc cl N h3.objs.size {s2 with heap:=h3} (upd H2 D (.lst [])) fp) [] σ' H' s'∧tn i s'.heap∧(∀b∈fp,H' b=none)∧W i n σ' H') ?_ m0
   ⟨0,_,_,IY,T.keep _ _ _ st2 (fun b hb o e=>old b o (old3 b o e)),frD,w0⟩
  rintro n s4 ⟨i,σ4,H4,I4,st4,fr4,w4⟩
  have ff:∀{H':Hp},(∀b∈fp,H' b=none)→∀b∈fp,ip (X.comp sc cl N h3.objs.size {s2 with heap:=h3} (upd H2 D (.lst [])) fp) [] H' b:=fun hn b hb=>
   ⟨hn b hb,(YOk.exf b hb).1,YOk.exfs b hb,.inl hb,(YOk.exf b hb).2,fun p hp=>absurd (show p∈([]:List (Addr×Obj))from hp) (by simp)⟩
  have hg:=hgg h3.objs.size {s2 with heap:=h3} (upd H2 D (.lst [])) fp
  have ht:=htt h3.objs.size {s2 with heap:=h3} (upd H2 D (.lst [])) fp
  have he:=hee h3.objs.size {s2 with heap:=h3} (upd H2 D (.lst [])) fp
  rcases turn i n σ4 H4 w4 with⟨stop,qn⟩ |⟨go,Nx,hN,step⟩
  ·refine bR (T.done (X.comp sc cl N h3.objs.size {s2 with heap:=h3} (upd H2 D (.lst [])) fp) rfl rfl rfl hc i [] s4 σ4 H4 _ I4 (ff fr4) st4 stop) fun r s5 ⟨hr,I5⟩=>?_
   subst hr
   obtain⟨m,hn,_⟩:=I5.loc
   have IX:Inv X pins σ H4 s5:=I3.call' (ch:=fp) I5.os I5.base I5.hok I5.bare fun b hb=>⟨(f3 b hb).2.2.2.1,(f3 b hb).2.1,(f3 b hb).2.2.2.2.1,(f3 b hb).2.2.2.2.2⟩
   exact hend D h3.objs.size H4 s5 m IX hn I5.free (Ne.symm (eF I3.lt)) (I3.nofs (dE _)) I3.sz (fun x c e=>eF (cellC x c e)) (fun p hp=>eF (dM (I3.pin p hp).1)) qn
  ·refine bR (T.item (X.comp sc cl N h3.objs.size {s2 with heap:=h3} (upd H2 D (.lst [])) fp) rfl rfl rfl hc i [] s4 σ4 H4 _ I4 (ff fr4) st4 go) fun r s5 ⟨u,hr,h5⟩=>?_
   subst hr
   refine bR h5 fun _ s6 ⟨x,H6,I6,r6,y6,st6,fr6⟩=>?_
   have I6':=I6.pinned (ff fr6) (T.obj _ _ st6)
   have back:∀{σ7:St} {H7:Hp} {s7:Shared},Inv (X.comp sc cl N h3.objs.size {s2 with heap:=h3} (upd H2 D (.lst [])) fp) ([]++jI fp s6.heap) σ7 H7 s7→
     Inv (X.comp sc cl N h3.objs.size {s2 with heap:=h3} (upd H2 D (.lst [])) fp) [] σ7 H7 s7∧tn (i+1) s7.heap∧∀b∈fp,H7 b=none:=fun {σ7 H7 s7} I7=>
    ⟨I7.unpinned,T.keep _ _ _ st6 fun b hb o e=>(I7.pin (b,o) (jx _ (jx _ (c_ hb e)))).1,fun b hb=>by
     obtain⟨o,e,d⟩:=T.obj _ _ st6 b hb
     exact(I7.pin (b,o) (jx _ (jx _ (c_ hb e)))).2.1⟩
   refine bR (hg _ s6 σ4 H6 x u _ I6' r6 (step x H6 y6)) fun _ s7 ⟨σ7,H7,I7,q7⟩=>?_
   refine bR (ht _ s7 σ7 H7 _ I7 q7) fun b s8 ⟨H8,I8,q8⟩=>?_
   cases b with
   |false=>
    obtain⟨m',hm,w8⟩:=hN σ7 H8 q8
    obtain⟨J1,J2,J3⟩:=back I8
    exact⟨m',hm,i+1,σ7,H8,J1,J2,J3,w8⟩
   |true=>
    refine bR (he _ s8 σ7 H8 _ I8 q8) fun yv s9 ⟨y,H9,I9,r9,ys,hl,hz,n9⟩=>?_
    obtain⟨m',hm,w9⟩:=hN _ _ n9
    refine bR (iW _ s9 σ7 H9 (.ref D) [y] (.ref D) [yv] (fun v H'=>v=.non∧H'=upd H9 D (.lst (ys++[y]))) I9 rfl (.cons r9 .nil) ⟨D,ys,y,rfl,rfl,hl,hz,rfl,rfl⟩) fun _ sA ⟨_,HA,IA,_,_,eA⟩=>?_
    subst eA
    obtain⟨J1,J2,J3⟩:=back IA
    exact⟨m',hm,i+1,σ7,_,J1,J2,J3,w9⟩
 rw[K.rel]
 exact codeAny_compStart_list (loop _ rfl) (T.self _ 0 _ _ _ (T.keep _ _ _ st2 (fun b hb o e=>old b o (old3 b o e))) (loop _ rfl))
theorem vH(K:CompOk X scope sc cl N js)(hc:X.calm=true)(hi:PI X target iter wi)
  (hgg:∀C s₀ H₀ fp,PG (X.comp sc cl N C s₀ H₀ fp) target g) (htt:∀C s₀ H₀ fp,EN (X.comp sc cl N C s₀ H₀ fp) ifs tt) (hee:∀C s₀ H₀ fp,PE (X.comp sc cl N C s₀ H₀ fp) elt te)
  (hs:∀x,foldedSetIterable iter X.env x=pure x:=by intro _;rfl):PE X (.ListComp elt [⟨target,iter,ifs,0⟩] scope pos) (o6 js wi g tt te):=by
 intro pins s σ H Q I h
 rw[eval_ListComp]
 refine rB (use:=none) K hc hi hgg htt hee hs pins s σ H Q I h fun D C H4 s5 m IX hn fC nL _ sz nc np qn=>?_
 exact⟨m,hn,fun h' hs'=>⟨.ref D,H4,IX.turned (t':=s5.toks) (it:=C) (fun b o hb e=>(hs'.2 b hb).trans e) fC nL (.inr sz) nc np,rfl,qn⟩⟩
theorem B4{x:Str}{px spos:Pos}{gx:TG}(K:CompOk X scope sc cl N js)(hc:X.calm=true)(hx:PG X (.Name x px) gx)(hi:PI X target iter wi)
  (hgg:∀C s₀ H₀ fp,PG (X.comp sc cl N C s₀ H₀ fp) target g) (htt:∀C s₀ H₀ fp,EN (X.comp sc cl N C s₀ H₀ fp) ifs tt) (hee:∀C s₀ H₀ fp,PE (X.comp sc cl N C s₀ H₀ fp) elt te)
  (hs:∀x,foldedSetIterable iter X.env x=pure x:=by intro _;rfl) (hsw:swapsWith (.ListComp elt [⟨target,iter,ifs,0⟩] scope pos) (some (.Name x px)) spos.line X.env=pure true:=by rfl):
  PS X (.Assign [.Name x px] (.ListComp elt [⟨target,iter,ifs,0⟩] scope pos) spos) (GI (o6 js wi g tt te) gx):=by
 intro pins s σ H D I h
 rw[exec_Assign_Name_used _ _ _ _ hsw]
 refine wpAny_bind (wpAny_standAt (wpAny_bind ?_))
 show wpAny _ _ (comprehension (.ListComp elt [⟨target,iter,ifs,0⟩] scope pos) scope X.env (firstIterPos [⟨target,iter,ifs,0⟩] pos) (newList []) false (firstIter [⟨target,iter,ifs,0⟩] X.env) (some (assign (.Name x px) X.env)) >>= fun _=>pure ()) _ _ _
 refine wpAny_bind (wpAny_mono (rB (use:=some (assign (.Name x px) X.env)) (Qv:=fun _ s'=>∃σ' H',Inv X pins σ' H' s'∧D.nx σ' H') K hc hi hgg htt hee hs pins s σ H _ I h fun Dd C H4 s5 m IX hn fC nL nF sz nc np qn=>?_) (fun _ s' ⟨σ',H',I',q'⟩=>wpAny_pure (wpAny_pure ⟨σ',H',I',q'⟩)) fun _ _ e=>e)
 obtain⟨o,es,ep,ho,hd,r⟩:=hn
 have IP:Inv X ((C,o)::pins) σ H4 s5:=IX.pins_of fun p hp=>(Zaf.mp hp).elim (fun z=>by subst z;exact⟨ho,fC,nL,nF,fun v z=>by rw[hd]at z;cases z⟩) fun z=>IX.pin p (jx _ z)
 refine wpAny_mono (hx ((C,o)::pins) s5 σ H4 (.ref Dd) (.ref Dd) D.nx IP rfl qn) (fun _ s6 ⟨σ6,H6,I6,q6⟩=>?_) fun _ _ e=>e
 obtain⟨p1,p2,_⟩:=I6.pin (C,o) (jx _ (gk ..))
 have I7:Inv X pins σ6 H6 s6:=I6.pins_of fun p hp=>I6.pin p (jx _ (fJ _ hp))
 exact⟨m,⟨o,es,ep,p1,hd,r⟩,fun h' hs'=>⟨σ6,H6,I7.turned (t':=s6.toks) (it:=C) (fun b o hb e=>(hs'.2 b hb).trans e) p2 nL (.inr sz) nc np,q6⟩⟩
end
end L2
namespace L2
open PySem PySem.Spec PyProof.Rows
theorem mw{X:Cx}{scope:Scope}{N:List Str}{js:List (Option Nat)}(hf:∀x∈scope.names,x.2≠ .free:=by decide+kernel)(hcell:∀x∈scope.names,x.2≠ .cell:=by decide+kernel)
  (hk:scope.kind=.function:=by rfl) (hn:∀y∈scope.names,y.2=.local→scope.names.lookup y.1=some .local:=by decide+kernel) (hl:js.length=N.length:=by rfl) (hj:∀j∈js,j=none:=by decide):CompOk X scope scope [] N js where
 clos:=closureFor_none hf
 rel:=by
  unfold relabel
  have e:(scope.names.map fun(x:Str×NameKind)=>match x with |(n,k)=>if (k ==.free&&X.env.scope.kind ==.function&&X.env.kindOf n == some .cell)then (n,NameKind.cell)else (n,k))=scope.names:=by
   refine map_eq_self fun x hx=>?_
   obtain⟨n,k⟩:=x
   have:(k == NameKind.free)=false:=by simpa using hf _ hx
   simp[this]
  rw[e]
 nocell:=hcell
 kind:=hk
 names:=hn
 same:=fun x c e=>by simp at e
 has:=fun x h=>by
  rcases h with h |h
  ·exact absurd rfl (hcell _ (PySem.mem_of_lookup h))
  ·exact absurd rfl (hf _ (PySem.mem_of_lookup h))
 len:=hl
 from_:=fun i j h=>by
  have:=hj _ (List.mem_of_getElem? h)
  cases this
structure Own (P:Program) (w:World) (K:Frag) (mg:Str→Option Value) (base:Heap) (k:Nat) (x:Str) (ps:List Str) (sp:Sp):Prop where
 ex:∃(f:Addr) (fd:FuncData),FnOk P w K mg base mv k f fd ps sp∧Binds K fd ps []∧mg x=some (.ref f)∧keepIn K (.ref f)=true
theorem EO{X:Cx}{k:Nat}{x:Str}{ps:List Str}{sp:Sp}{p pos:Pos}{e:Expr}{es:List Expr}{t:TA}(D:Own X.prog X.w X.K X.mg X.base k x ps sp)(hr:Room k X.A)(hg:Gl X x)(ha:PA X (e::es) t)
  (hdb:(x == ("__debug__":Str))=false:=by decide) (he:starEach (e::es) X.env=(false,eval e X.env)::starEach es X.env:=by rfl) (hpl:(backTo pos (starEach es X.env)).any (·.1)=false:=by rfl):
  PE X (.Call (.Name x p) (e::es) [] pos) (yV sp [] E0 t):=by
 obtain⟨f,fd,F,b,m,kp⟩:=D.ex
 exact BT F hr hg m kp b .nil G0 ha hdb he hpl
structure Def (K:Frag) (mg:Str→Option Value) (x:Str) (st:Stmt) (ps:List Str):Prop where
 ex:∃(f:Addr) (fd:FuncData),Fun K x x st f fd∧mg x=some (.ref f)∧Binds K fd ps []
theorem Def.own{P:Program}{w:World}{K:Frag}{mg:Str→Option Value}{base:Heap}{x:Str}{st:Stmt}{N ps:List Str}{k:Nat}{sp:Sp}(D:Def K mg x st ps)(S:FnScope N ps (ah st))
  (len:∀vs H Q E,sp vs H Q E→vs.length=ps.length)
  (hbody:∀(f:Addr) (cdv:Value) (A:Around) (outer:List Env) (s:Shared) (H:Hp) (vs:List V) (Q:VK) (E:XK),Room k (A.deeper (envOfC x (ah st) s.heap.objs.size f cdv))→sp vs H Q E→
   ∃t,PSs (fY mv P w K mg base N x (ah st) f cdv A outer s H E).nox (a7 st) t∧t {nx:=fun _ H'=>Q .non H',rt:=Q} (de N vs) H):Own P w K mg base (k+1) x ps sp:=by
 obtain⟨f,fd,F,m,b⟩:=D.ex
 exact⟨f,fd,F.ok S len (hbody f),b,m,F.kp⟩
theorem EQ{K:Frag}{h:Heap}{mg:Str→Option Value}{x:Str}{st:Stmt}{ps:List Str}{f:Addr}{oc:Value}{od an:Option Addr}{osl:Array (Option Value)}{kV doc pm cdv ct:Value}(X:K.In h)(G:h.Ns mainGlobals mg)
  (a:nsIn K mainGlobals x=some (some (.ref f))) (l:K.lookup f=some ⟨oc,od,.func (fnOf x x (cM st) (a7 st) (ah st) .none kV doc pm an cdv ct),osl⟩)
  (c:codeIn K cdv x=true) (k:keepIn K (.ref f)=true)
  (b:∀(kV doc pm:Value) (an:Option Addr) (cdv ct:Value) (us:List Value),us.length=ps.length→bindArgs (fnOf x x (cM st) (a7 st) (ah st) .none kV doc pm an cdv ct) ⟨us,[]⟩=pure (ps.zip us)):Def K mg x st ps:=
 ⟨f,_,yY l c k,mg_of X G a,(yY (st:=st) l c k).binds b⟩
end L2
namespace Nh
open PySem L2
section
variable {α β:Type} {F:α→β→Prop}
theorem iY:∀{a:List α} {b:List β} {c:List α} {d:List β},Paired F a b→Paired F c d→Paired F (a++c) (b++d)
 |_,_,_,_,.nil,s=>s
 |_,_,_,_,.cons r t,s=>.cons r (iY t s)
theorem vI:∀{a:List α} {b:List β} (n:Nat),Paired F a b→Paired F (a.take n) (b.take n)
 |_,_,0,_=>.nil
 |_,_,_+1,.nil=>.nil
 |_,_,n+1,.cons r t=>.cons r (vI n t)
theorem vJ:∀{a:List α} {b:List β} (n:Nat),Paired F a b→Paired F (a.drop n) (b.drop n)
 |_,_,0,r=>r
 |_,_,_+1,.nil=>.nil
 |_,_,n+1,.cons _ t=>vJ n t
theorem jJ:∀{a:List α} {b:List β},Paired F a b→Paired F a.reverse b.reverse
 |_,_,.nil=>.nil
 |_,_,.cons r t=>by
  rw[List.reverse_cons,List.reverse_cons]
  exact iY (jJ t) (.cons r .nil)
theorem vK:∀{a:List α} {b:List β} {i:Nat} {y:β},Paired F a b→b[i]? =some y→∃x,a[i]? =some x∧F x y
 |_,_,_,_,.nil,e=>by simp at e
 |_,_,0,_,.cons r _,e=>by simp at e;subst e;exact⟨_,rfl,r⟩
 |_,_,i+1,x,.cons _ t,e=>by
  obtain⟨u,h1,h2⟩:=vK (i:=i) (y:=x) t (by simpa using e)
  exact⟨u,by simpa using h1,h2⟩
theorem y0{a:List α}{b:List β}(h:Paired F a b):∀k:Nat,Paired F (List.replicate k a).flatten (List.replicate k b).flatten
 | 0=>.nil
 |k+1=>by
  rw[List.replicate_succ,List.replicate_succ,List.flatten_cons,List.flatten_cons]
  exact iY h (y0 h k)
end
end Nh
namespace PL
open PySem PySem.Spec PyProof.Rows L2 Nh
def ER:eZ→PyData
 |.inl i=>.int i
 |.inr x=>.str x
def e9(a C:Addr):Heap→Prop:=fun h=>∃o,h.get? a=some o∧o.cls=.ref C
mutual
inductive Rp (K:Frag) (H:Hp):V→PyData→Prop
 |non:Rp K H .non .none
 |bl (b:Bool):Rp K H (.bl b) (.bool b)
 |int (i:Int):Rp K H (.int i) (.int i)
 |str (x:Str):Rp K H (.str x) (.str x)
 |lst {a:Addr} {xs:List V} {ds:List PyData}:SqL K H a xs→RpA K H xs ds→Rp K H (.ref a) (.list ds)
 |tup {a:Addr} {xs:List V} {ds:List PyData}:SqT K H a xs→RpA K H xs ds→Rp K H (.ref a) (.tuple ds)
 |dct {a:Addr} {us:List (eZ×V)} {kvs:List (PyData×PyData)}:Rd H a (.dK us)→RpK K H us kvs→Rp K H (.ref a) (.dict kvs)
 |exc {a C:Addr} {n:Str} {o:Obj}:H a=some (.frz o (.ext (e9 a C)))→nsIn K mainGlobals n=some (some (.ref C))→Rp K H (.ref a) (.dict [(.none,.str n)])
inductive RpA (K:Frag) (H:Hp):List V→List PyData→Prop
 |nil:RpA K H [] []
 |cons {x:V} {xs:List V} {d:PyData} {ds:List PyData}:Rp K H x d→RpA K H xs ds→RpA K H (x::xs) (d::ds)
inductive RpK (K:Frag) (H:Hp):List (eZ×V)→List (PyData×PyData)→Prop
 |nil:RpK K H [] []
 |cons {k:eZ} {x:V} {us:List (eZ×V)} {d:PyData} {kvs:List (PyData×PyData)}:Rp K H x d→RpK K H us kvs→RpK K H ((k,x)::us) ((ER k,d)::kvs)
end
mutual
def du:PyData→Bool
 |.none=>true
 |.bool _=>true
 |.int _=>true
 |.str _=>true
 |.list _=>false
 |.tuple xs=>bT xs
 |.dict _=>false
def bT:List PyData→Bool
 |[]=>true
 |d::ds=>du d&&bT ds
end
def DI:HO→Bool
 |.tup _=>true
 |.frz _ _=>true
 |_=>false
def tups(H:Hp):Hp:=fun b=>(H b).filter DI
theorem iZ(H:Hp):Same (tups H) H:=fun b o h=>(Option.filter_eq_some_iff.mp h).1
theorem gR{H:Hp}{b:Addr}{o:HO}(h:H b=some o)(c:DI o=true):tups H b=some o:=Option.filter_eq_some_iff.mpr ⟨h,c⟩
theorem my{H:Hp}{l:Addr}{xs ys:List V}(h:H l=some (.lst xs)):tups (upd H l (.lst ys))=tups H:=by
 funext b
 unfold tups
 by_cases e:b=l
 ·subst e
  rw[upd_same,h]
  rfl
 ·rw[ar e]
section
variable {K:Frag} {H H':Hp}
theorem rC{a:Addr}{xs:List V}(h:SqT K H a xs):SqT K (tups H) a xs:=by
 rcases h with(h |⟨o,h⟩) |h
 ·exact .inl (.inl (gR h rfl))
 ·exact .inl (.inr ⟨o,gR h rfl⟩)
 ·exact .inr h
theorem pW{a:Addr}{u:HO}(s:Same H H')(h:Rd H a u):Rd H' a u:=by
 rcases h with h |⟨o,h⟩
 ·exact .inl (s _ _ h)
 ·exact .inr ⟨o,s _ _ h⟩
theorem Rp.same(s:Same H H'){v:V}{d:PyData}(h:Rp K H v d):Rp K H' v d:=Rp.rec (motive_1:=fun v d _=>Rp K H' v d) (motive_2:=fun v d _=>RpA K H' v d) (motive_3:=fun v d _=>RpK K H' v d) .non .bl .int .str (fun h _ r=>.lst (s.seq h) r) (fun h _ r=>.tup (s.tup h) r) (fun h _ r=>.dct (pW s h) r) (fun h r=>.exc (s _ _ h) r) .nil (fun _ _ a b=>.cons a b) .nil (fun _ _ a b=>.cons a b) h
theorem RpA.same(s:Same H H'){v:List V}{d:List PyData}(h:RpA K H v d):RpA K H' v d:=RpA.rec (motive_1:=fun v d _=>Rp K H' v d) (motive_2:=fun v d _=>RpA K H' v d) (motive_3:=fun v d _=>RpK K H' v d) .non .bl .int .str (fun h _ r=>.lst (s.seq h) r) (fun h _ r=>.tup (s.tup h) r) (fun h _ r=>.dct (pW s h) r) (fun h r=>.exc (s _ _ h) r) .nil (fun _ _ a b=>.cons a b) .nil (fun _ _ a b=>.cons a b) h
theorem RpK.same(s:Same H H'){v:List (eZ×V)}{d:List (PyData×PyData)}(h:RpK K H v d):RpK K H' v d:=RpK.rec (motive_1:=fun v d _=>Rp K H' v d) (motive_2:=fun v d _=>RpA K H' v d) (motive_3:=fun v d _=>RpK K H' v d) .non .bl .int .str (fun h _ r=>.lst (s.seq h) r) (fun h _ r=>.tup (s.tup h) r) (fun h _ r=>.dct (pW s h) r) (fun h r=>.exc (s _ _ h) r) .nil (fun _ _ a b=>.cons a b) .nil (fun _ _ a b=>.cons a b) h
theorem Rp.cold{v:V}{d:PyData}(h:Rp K H v d)(e:du d=true):Rp K (tups H) v d:=Rp.rec (motive_1:=fun v d _=>du d=true→Rp K (tups H) v d) (motive_2:=fun v d _=>bT d=true→RpA K (tups H) v d) (motive_3:=fun _ _ _=>True) (fun _=>.non) (fun b _=>.bl b) (fun i _=>.int i) (fun x _=>.str x) (fun _ _ _ e=>nomatch e) (fun h _ r e=>.tup (rC h) (r e)) (fun _ _ _ e=>nomatch e) (fun _ _ e=>nomatch e) (fun _=>.nil) (fun _ _ a b e=>.cons (a (Bool.and_eq_true_iff.mp e).1) (b (Bool.and_eq_true_iff.mp e).2)) trivial (fun _ _ _ _=>trivial) h e
theorem RpA.cold{v:List V}{d:List PyData}(h:RpA K H v d)(e:bT d=true):RpA K (tups H) v d:=RpA.rec (motive_1:=fun v d _=>du d=true→Rp K (tups H) v d) (motive_2:=fun v d _=>bT d=true→RpA K (tups H) v d) (motive_3:=fun _ _ _=>True) (fun _=>.non) (fun b _=>.bl b) (fun i _=>.int i) (fun x _=>.str x) (fun _ _ _ e=>nomatch e) (fun h _ r e=>.tup (rC h) (r e)) (fun _ _ _ e=>nomatch e) (fun _ _ e=>nomatch e) (fun _=>.nil) (fun _ _ a b e=>.cons (a (Bool.and_eq_true_iff.mp e).1) (b (Bool.and_eq_true_iff.mp e).2)) trivial (fun _ _ _ _=>trivial) h e
theorem Rp.dof'{v:V}{d:PyData}(h:Rp K H v d)(e:d.canLay0=true):DOf K H v d:=Rp.rec (motive_1:=fun v d _=>d.canLay0=true→DOf K H v d) (motive_2:=fun v d _=>PyData.canLayAll0 d=true→DAll K H v d) (motive_3:=fun _ _ _=>True) (fun _=>.non) (fun b _=>.bl b) (fun i _=>.int i) (fun x _=>.str x) (fun h _ r e=>.lst h (r e)) (fun h _ r e=>.tup h (r e)) (fun _ _ _ e=>nomatch e) (fun _ _ e=>nomatch e) (fun _=>.nil) (fun _ _ a b e=>.cons (a (Bool.and_eq_true_iff.mp e).1) (b (Bool.and_eq_true_iff.mp e).2)) trivial (fun _ _ _ _=>trivial) h e
theorem Rp.dof{v:V}{d:PyData}(h:Rp K H v d)(e:SeqAt.shaped d=true):DOf K H v d:=h.dof' (SeqAt.canLay_of_shaped e)
theorem RpA.pr{vs:List V}{ds:List PyData}(h:RpA K H vs ds):Paired (Rp K H) vs ds:=RpA.rec (motive_1:=fun _ _ _=>True) (motive_2:=fun v d _=>Paired (Rp K H) v d) (motive_3:=fun _ _ _=>True) trivial (fun _=>trivial) (fun _=>trivial) (fun _=>trivial) (fun _ _ _=>trivial) (fun _ _ _=>trivial) (fun _ _ _=>trivial) (fun _ _=>trivial) .nil (fun h _ _ b=>.cons h b) trivial (fun _ _ _ _=>trivial) h
theorem RpA.of{vs:List V}{ds:List PyData}(h:Paired (Rp K H) vs ds):RpA K H vs ds:=by
 induction h with
 |nil=>exact .nil
 |cons a _ b=>exact .cons a b
theorem RpA.len{vs:List V}{ds:List PyData}(h:RpA K H vs ds):vs.length=ds.length:=Paired.length h.pr
theorem RpA.append{vs us:List V}{ds es:List PyData}(h:RpA K H vs ds)(k:RpA K H us es):RpA K H (vs++us) (ds++es):=.of (iY h.pr k.pr)
theorem RpA.take{vs:List V}{ds:List PyData}(n:Nat)(h:RpA K H vs ds):RpA K H (vs.take n) (ds.take n):=.of (vI n h.pr)
theorem RpA.drop{vs:List V}{ds:List PyData}(n:Nat)(h:RpA K H vs ds):RpA K H (vs.drop n) (ds.drop n):=.of (vJ n h.pr)
theorem RpA.rev{vs:List V}{ds:List PyData}(h:RpA K H vs ds):RpA K H vs.reverse ds.reverse:=.of (jJ h.pr)
theorem RpA.rep{vs:List V}{ds:List PyData}(n:Nat)(h:RpA K H vs ds):RpA K H (List.replicate n vs).flatten (List.replicate n ds).flatten:=.of (y0 h.pr n)
theorem RpA.get{vs:List V}{ds:List PyData}{i:Nat}{d:PyData}(h:RpA K H vs ds)(e:ds[i]? =some d):∃v,vs[i]? =some v∧Rp K H v d:=vK h.pr e
theorem RpA.snoc{vs:List V}{ds:List PyData}{v:V}{d:PyData}(h:RpA K H vs ds)(k:Rp K H v d):RpA K H (vs++[v]) (ds++[d]):=h.append (.cons k .nil)
end
inductive Pt where
 |fl (d:PyData) |ol (ds:List PyData)
def Pt.val:Pt→PyData
 |.fl d=>d
 |.ol ds=>.list ds
inductive Sl where
 /-- nothing is known -/
 |no
 /-- never written again -/
 |sh (d:PyData)
 /-- a list of one's own -/
 |ow (ds:List PyData)
 /-- a dict of one's own,its values lists of one's own -/
 |od (kvs:List (eZ×List PyData))
 /-- a tuple with lists of one's own -/
 |tx (ps:List Pt)
 /-- (a part of an expression) the value of a name -/
 |al (i:Nat)
 /-- (a part of an expression) as it stands just now -/
 |br (d:PyData)
def PtsOk(K:Frag)(F H:Hp):List V→List Pt→List Addr→Prop
 |[],[],A=>A=[]
 |v::vs,.fl d::ps,A=>Rp K F v d∧PtsOk K F H vs ps A
 |v::vs,.ol ds::ps,A=>∃l us A',v=.ref l∧A=l::A'∧H l=some (.lst us)∧RpA K F us ds∧PtsOk K F H vs ps A'
 |_,_,_=>False
def DlOk(K:Frag)(F H:Hp):List (eZ×V)→List (eZ×List PyData)→List Addr→Prop
 |[],[],A=>A=[]
 |p::us,q::kvs,A=>∃l vs A',p=(q.1,.ref l)∧A=l::A'∧H l=some (.lst vs)∧RpA K F vs q.2∧DlOk K F H us kvs A'
 |_,_,_=>False
def SlOk(K:Frag)(F H:Hp)(σ:L2.St)(o:Option V):Sl→List Addr→Prop
 |.no,A=>A=[]
 |.sh d,A=>A=[]∧∃v,o=some v∧Rp K F v d
 |.ow ds,A=>∃l vs,o=some (.ref l)∧A=[l]∧H l=some (.lst vs)∧RpA K F vs ds
 |.od kvs,A=>∃l us A',o=some (.ref l)∧A=l::A'∧H l=some (.dK us)∧DlOk K F H us kvs A'
 |.tx ps,A=>∃t vs,o=some (.ref t)∧F t=some (.tup vs)∧PtsOk K F H vs ps A
 |.al i,A=>A=[]∧∃v,o=some v∧σ[i]? =some (some v)
 |.br d,A=>A=[]∧∃v,o=some v∧Rp K H v d
def Sl.isBr:Sl→Bool
 |.br _=>true
 |_=>false
def Sl.isAl:Sl→Bool
 |.al _=>true
 |.br _=>true
 |_=>false
section
variable {K:Frag} {F F' H H':Hp} {σ σ':L2.St}
theorem PtsOk.stay(s:Same F F'):∀{vs:List V} {ps:List Pt} {A:List Addr},(∀b∈A,H' b=H b)→PtsOk K F H vs ps A→PtsOk K F' H' vs ps A
 |[],[],A,_,h=>h
 |v::vs,.fl d::ps,A,e,h=>⟨h.1.same s,PtsOk.stay s e h.2⟩
 |v::vs,.ol ds::ps,A,e,h=>by
  obtain⟨l,us,A',rfl,rfl,hl,hr,q⟩:=h
  exact⟨l,us,A',rfl,rfl,(e l (gk ..)).trans hl,hr.same s,q.stay s fun b hb=>e b (fJ _ hb)⟩
 |[],_::_,_,_,h=>False.elim h
 |_::_,[],_,_,h=>False.elim h
theorem DlOk.stay(s:Same F F'):∀{us:List (eZ×V)} {kvs:List (eZ×List PyData)} {A:List Addr},(∀b∈A,H' b=H b)→DlOk K F H us kvs A→DlOk K F' H' us kvs A
 |[],[],A,_,h=>h
 |p::us,q::kvs,A,e,h=>by
  obtain⟨l,vs,A',rfl,rfl,hl,hr,k⟩:=h
  exact⟨l,vs,A',rfl,rfl,(e l (gk ..)).trans hl,hr.same s,k.stay s fun b hb=>e b (fJ _ hb)⟩
 |[],_::_,_,_,h=>False.elim h
 |_::_,[],_,_,h=>False.elim h
theorem DlOk.some:∀{us:List (eZ×V)} {kvs:List (eZ×List PyData)} {A:List Addr},DlOk K F H us kvs A→∀a∈A,∃vs,H a=some (.lst vs)
 |[],[],A,h,a,ha=>by rw[show A=[]from h]at ha;cases ha
 |p::us,q::kvs,A,h,a,ha=>by
  obtain⟨l,vs,A',rfl,rfl,hl,hr,k⟩:=h
  rcases Zaf.mp ha with e |e
  ·subst e;exact⟨vs,hl⟩
  ·exact k.some a e
 |[],_::_,_,h,_,_=>False.elim h
 |_::_,[],_,h,_,_=>False.elim h
theorem PtsOk.some:∀{vs:List V} {ps:List Pt} {A:List Addr},PtsOk K F H vs ps A→∀a∈A,∃us,H a=some (.lst us)
 |[],[],A,h,a,ha=>by rw[show A=[]from h]at ha;cases ha
 |v::vs,.fl d::ps,A,h,a,ha=>PtsOk.some h.2 a ha
 |v::vs,.ol ds::ps,A,h,a,ha=>by
  obtain⟨l,us,A',rfl,rfl,hl,hr,q⟩:=h
  rcases Zaf.mp ha with e |e
  ·subst e;exact⟨us,hl⟩
  ·exact q.some a e
 |[],_::_,_,h,_,_=>False.elim h
 |_::_,[],_,h,_,_=>False.elim h
theorem PtsOk.rp(s:Same F H):∀{vs:List V} {ps:List Pt} {A:List Addr},PtsOk K F H vs ps A→RpA K H vs (ps.map Pt.val)
 |[],[],A,_=>.nil
 |v::vs,.fl d::ps,A,h=>.cons (h.1.same s) (PtsOk.rp s h.2)
 |v::vs,.ol ds::ps,A,h=>by
  obtain⟨l,us,A',rfl,rfl,hl,hr,q⟩:=h
  exact .cons (.lst (SqL.of hl) (hr.same s)) (q.rp s)
 |[],_::_,_,h=>False.elim h
 |_::_,[],_,h=>False.elim h
theorem SlOk.stay{o:Option V}{s:Sl}{A:List Addr}(hF:Same F F')(e:∀b∈A,H' b=H b)(hb:s.isBr=true→Same H H')(h:SlOk K F H σ o s A):SlOk K F' H' σ o s A:=by
 cases s with
 |no=>exact h
 |sh d=>obtain⟨rfl,v,rfl,r⟩:=h;exact⟨rfl,v,rfl,r.same hF⟩
 |ow ds=>obtain⟨l,vs,rfl,rfl,hl,r⟩:=h;exact⟨l,vs,rfl,rfl,(e l (by simp)).trans hl,r.same hF⟩
 |od kvs=>obtain⟨l,us,A',rfl,rfl,hl,r⟩:=h;exact⟨l,us,A',rfl,rfl,(e l (by simp)).trans hl,r.stay hF fun b hb=>e b (fJ _ hb)⟩
 |tx ps=>obtain⟨t,vs,rfl,ht,r⟩:=h;exact⟨t,vs,rfl,hF _ _ ht,r.stay hF e⟩
 |al i=>exact h
 |br d=>obtain⟨rfl,v,rfl,r⟩:=h;exact⟨rfl,v,rfl,r.same (hb rfl)⟩
theorem SlOk.mut{o:Option V}{s:Sl}{A:List Addr}(h:SlOk K F H σ o s A):∀a∈A,(∃us,H a=some (.lst us))∨∃us,H a=some (.dK us):=by
 cases s with
 |no=>intro a ha;rw[show A=[]from h]at ha;cases ha
 |sh d=>obtain⟨rfl,_⟩:=h;intro a ha;cases ha
 |ow ds=>obtain⟨l,vs,rfl,rfl,hl,r⟩:=h;intro a ha;rw[Zak.mp ha];exact .inl ⟨_,hl⟩
 |od kvs=>
  obtain⟨l,vs,A',rfl,rfl,hl,r⟩:=h
  intro a ha
  rcases Zaf.mp ha with z |z
  ·rw[z];exact .inr ⟨_,hl⟩
  ·exact .inl (r.some a z)
 |tx ps=>obtain⟨t,vs,rfl,ht,r⟩:=h;exact fun a ha=>.inl (r.some a ha)
 |al i=>obtain⟨rfl,_⟩:=h;intro a ha;cases ha
 |br d=>obtain⟨rfl,_⟩:=h;intro a ha;cases ha
end
inductive SAll (P:Option V→Sl→List Addr→Prop):List (Option V)→List Sl→List Addr→Prop
 |nil:SAll P [] [] []
 |cons {o:Option V} {s:Sl} {A:List Addr} {os:List (Option V)} {ss:List Sl} {B:List Addr}:P o s A→SAll P os ss B→SAll P (o::os) (s::ss) (A++B)
section
variable {P P':Option V→Sl→List Addr→Prop}
theorem SAll.len{os:List (Option V)}{ss:List Sl}{A:List Addr}(h:SAll P os ss A):os.length=ss.length:=by
 induction h with
 |nil=>rfl
 |cons _ _ b=>exact congrArg (· +1) b
theorem SAll.mono{os:List (Option V)}{ss:List Sl}{A:List Addr}(h:SAll P os ss A):(∀o s B,s∈ss→(∀b∈B,b∈A)→P o s B→P' o s B)→SAll P' os ss A:=by
 induction h with
 |nil=>exact fun _=>.nil
 |cons h _ r=>exact fun f=>.cons (f _ _ _ (gk ..) (fun b hb=>Zb _ hb) h) (r fun o s B hs hB q=>f o s B (fJ _ hs) (fun b hb=>jx _ (hB b hb)) q)
theorem SAll.all{R:Addr→Prop}(hR:∀o s B,P o s B→∀b∈B,R b){os:List (Option V)}{ss:List Sl}{A:List Addr}(h:SAll P os ss A):∀a∈A,R a:=by
 induction h with
 |nil=>exact fun _ ha=>nomatch ha
 |cons h _ r=>exact fun a ha=>(Zao.mp ha).elim (hR _ _ _ h a) (r a)
theorem SAll.at:∀{os:List (Option V)} {ss:List Sl} {A:List Addr} {k:Nat} {s:Sl},SAll P os ss A→ss[k]? =some s→
  ∃o A0 A1 A2,A=A0++(A1++A2)∧os[k]? =some o∧P o s A1∧∀(P':Option V→Sl→List Addr→Prop) (o':Option V) (s':Sl) (A1':List Addr),P' o' s' A1'→
   (∀o s B,s∈ss→(∀b∈B,b∈A0∨b∈A2)→P o s B→P' o s B)→SAll P' (os.set k o') (ss.set k s') (A0++(A1'++A2))
 |_,_,_,_,_,.nil,e=>by simp at e
 |_,_,_,0,s,.cons (o:=o) (A:=A) (B:=B) h r,e=>by
  simp at e;subst e
  refine⟨o,[],A,B,by simp,rfl,h,fun P' o' s' A1' h' f=>?_⟩
  have z:SAll P' _ _ (A1'++B):=.cons h' (r.mono (P':=P') fun o s B hs hB q=>f o s B (fJ _ hs) (fun b hb=>.inr (hB b hb)) q)
  exact z
 |_,_,_,k+1,s,.cons (o:=o) (A:=A) (B:=B) h r,e=>by
  obtain⟨o2,A0,A1,A2,eA,eo,hp,f⟩:=r.at (k:=k) (s:=s) (by simpa using e)
  subst eA
  refine⟨o2,A++A0,A1,A2,by simp,by simpa using eo,hp,fun P' o' s' A1' h' g=>?_⟩
  have z:=f P' o' s' A1' h' fun o s B hs hB q=>g o s B (fJ _ hs) (fun b hb=>(hB b hb).imp (fun x=>jx _ x) id) q
  rw[List.append_assoc]
  exact .cons (g _ _ _ (gk ..) (fun b hb=>.inl (Zb _ hb)) h) z
end
end PL
namespace PL
open PySem L2 Nh
abbrev Sg:=L2.St
structure FrF (K:Frag) (B F:Hp) (A:List Addr) (σ:Sg) (H:Hp) (E:List Sl) (xs:List V) (Xs:List Sl):Prop where
 bf:Same B F
 fh:Same F H
 tf:Same (tups H) F
 sl:SAll (SlOk K F H σ) (xs.map some++σ) (Xs++E) A
 nd:A.Nodup
 fr:∀a∈A,F a=none
 len:xs.length=Xs.length
 pl:∀s∈E,s.isAl=false
def Frm(K:Frag)(B:Hp)(σ:Sg)(H:Hp)(E:List Sl)(xs:List V)(Xs:List Sl):Prop:=∃F A,FrF K B F A σ H E xs Xs
def Sl.val:Sl→Option PyData
 |.sh d=>some d
 |.ow ds=>some (.list ds)
 |.tx ps=>some (.tuple (ps.map Pt.val))
 |.br d=>some d
 |_=>none
def look(E:List Sl):Sl→Option PyData
 |.al i=>(E[i]?).bind Sl.val
 |s=>s.val
def j4:Sl→Bool
 |.br _=>true
 |.tx _=>true
 |_=>false
def jr(E:List Sl):Sl→Bool
 |.al i=>(E[i]?).any j4
 |s=>j4 s
def RpF(K:Frag)(F H:Hp)(v:V):PyData→Prop
 |.list ds=>∃a vs,v=.ref a∧SqL K H a vs∧RpA K F vs ds
 |d=>Rp K F v d
def rD(F H:Hp)(A:List Addr):Hp:=fun b=>if b∈A then H b else F b
theorem pX{F H:Hp}{A:List Addr}{b:Addr}(h:b∈A):rD F H A b=H b:=if_pos h
theorem mz{F H:Hp}{A:List Addr}{b:Addr}(h:b∉A):rD F H A b=F b:=if_neg h
section
variable {K:Frag} {B F:Hp} {A:List Addr} {σ:Sg} {H:Hp} {E:List Sl} {xs:List V} {Xs:List Sl} {v:V} {s:Sl} {d:PyData}
theorem RpF.of(h:Rp K F v d)(s:Same F H):RpF K F H v d:=by
 cases h with
 |lst h r=>exact⟨_,_,rfl,s.seq h,r⟩
 |non=>exact .non
 |bl b=>exact .bl b
 |int i=>exact .int i
 |str x=>exact .str x
 |tup h r=>exact .tup h r
 |dct h r=>exact .dct h r
 |exc h r=>exact .exc h r
theorem SlOk.val{o:Option V}{A1:List Addr}(h:SlOk K F H σ o s A1)(hF:Same F H)(e:s.val=some d):∃v,o=some v∧Rp K H v d∧(j4 s=false→RpF K F H v d):=by
 cases s with
 |no=>cases e
 |sh d'=>
  obtain⟨rfl,v,rfl,r⟩:=h
  cases e
  exact⟨v,rfl,r.same hF,fun _=>RpF.of r hF⟩
 |ow ds=>
  obtain⟨l,vs,rfl,rfl,hl,r⟩:=h
  cases e
  exact⟨_,rfl,.lst (SqL.of hl) (r.same hF),fun _=>⟨_,_,rfl,SqL.of hl,r⟩⟩
 |od kvs=>cases e
 |tx ps=>
  obtain⟨t,vs,rfl,ht,r⟩:=h
  cases e
  exact⟨_,rfl,.tup (SqT.of (hF _ _ ht)) (r.rp hF),fun z=>by cases z⟩
 |al i=>cases e
 |br d'=>
  obtain⟨rfl,v,rfl,r⟩:=h
  cases e
  exact⟨v,rfl,r,fun z=>by cases z⟩
theorem FrF.slen(h:FrF K B F A σ H E xs Xs):σ.length=E.length:=by
 have e:=h.sl.len
 have:=h.len
 simp only[wM,dY]at e
 omega
theorem FrF.var{i:Nat}(h:FrF K B F A σ H E xs Xs)(e:E[i]? =some s):∃o A1,σ[i]? =some o∧SlOk K F H σ o s A1:=by
 obtain⟨o,A0,A1,A2,eA,eo,hp,_⟩:=h.sl.at (k:=Xs.length+i) (s:=s) (by rw[Bx (by omega)];simpa using e)
 rw[Bx (by rw[dY,h.len];omega),dY,h.len,Bz]at eo
 exact⟨o,A1,eo,hp⟩
theorem FrF.ext{k:Nat}(h:FrF K B F A σ H E xs Xs)(e:Xs[k]? =some s):∃v A1,xs[k]? =some v∧SlOk K F H σ (some v) s A1:=by
 have hk:k < Xs.length:=(Zar.mp e).1
 obtain⟨o,A0,A1,A2,eA,eo,hp,_⟩:=h.sl.at (k:=k) (s:=s) (by rw[List.getElem?_append_left hk];exact e)
 rw[List.getElem?_append_left (by rw[dY,h.len];omega),q_]at eo
 cases q:xs[k]? with
 |none=>rw[q]at eo;cases eo
 |some v=>rw[q]at eo;cases eo;exact⟨v,A1,rfl,hp⟩
theorem FrF.look{k:Nat}(h:FrF K B F A σ H E xs Xs)(e:Xs[k]? =some s)(q:look E s=some d):∃v,xs[k]? =some v∧Rp K H v d∧(jr E s=false→RpF K F H v d):=by
 obtain⟨v,A1,ev,hs⟩:=h.ext e
 cases s with
 |al i=>
  obtain⟨rfl,w,ew,hw⟩:=hs
  cases ew
  cases ei:E[i]? with
  |none=>simp[PL.look,ei]at q
  |some t=>
   obtain⟨o,A2,eo,ht⟩:=h.var ei
   rw[hw]at eo
   cases eo
   obtain⟨v',e',r,c⟩:=ht.val h.fh (d:=d) (by simpa[PL.look,ei]using q)
   cases e'
   exact⟨v,ev,r,fun z=>c (by simpa[jr,ei]using z)⟩
 |no=>cases q
 |od kvs=>cases q
 |sh d'=>obtain⟨v',e',r,c⟩:=hs.val h.fh q;cases e';exact⟨v,ev,r,c⟩
 |ow ds=>obtain⟨v',e',r,c⟩:=hs.val h.fh q;cases e';exact⟨v,ev,r,c⟩
 |tx ps=>obtain⟨v',e',r,c⟩:=hs.val h.fh q;cases e';exact⟨v,ev,r,c⟩
 |br d'=>obtain⟨v',e',r,c⟩:=hs.val h.fh q;cases e';exact⟨v,ev,r,c⟩
theorem FrF.look0(h:FrF K B F A σ H E (v::xs) (s::Xs))(q:PL.look E s=some d):Rp K H v d∧(jr E s=false→RpF K F H v d):=by
 obtain⟨v',e,r⟩:=h.look (k:=0) rfl q
 cases e
 exact r
theorem FrF.look1{w:V}{t:Sl}(h:FrF K B F A σ H E (w::v::xs) (t::s::Xs))(q:PL.look E s=some d):Rp K H v d∧(jr E s=false→RpF K F H v d):=by
 obtain⟨v',e,r⟩:=h.look (k:=1) rfl q
 cases e
 exact r
theorem FrF.mutA(h:FrF K B F A σ H E xs Xs):∀a∈A,(∃us,H a=some (.lst us))∨∃us,H a=some (.dK us):=
 SAll.all (R:=fun a=>(∃us,H a=some (.lst us))∨∃us,H a=some (.dK us)) (fun _ _ _ q=>q.mut) h.sl
theorem FrF.newA{p:Addr}(h:FrF K B F A σ H E xs Xs)(hp:H p=none):p∉A:=fun hm=>by
 rcases h.mutA p hm with⟨_,z⟩ |⟨_,z⟩ <;> rw[hp]at z <;> cases z
theorem FrF.cold{u:V}{e:PyData}(h:FrF K B F A σ H E xs Xs)(r:Rp K H u e)(f:du e=true):Rp K F u e:=(r.cold f).same h.tf
theorem FrF.coldA{us:List V}{es:List PyData}(h:FrF K B F A σ H E xs Xs)(r:RpA K H us es)(f:bT es=true):RpA K F us es:=(r.cold f).same h.tf
theorem FrF.push(h:FrF K B F A σ H E xs Xs)(q:SlOk K F H σ (some v) s []):FrF K B F A σ H E (v::xs) (s::Xs):=
 ⟨h.bf,h.fh,h.tf,.cons (A:=[]) q h.sl,h.nd,h.fr,by simp[h.len],h.pl⟩
theorem FrF.pop(h:FrF K B F A σ H E (v::xs) (s::Xs)):∃A',FrF K B F A' σ H E xs Xs:=by
 obtain⟨bf,fh,tf,sl,nd,fr,len,pl⟩:=h
 generalize hT:List.map some (v::xs)++σ=T at sl
 generalize hS:(s::Xs)++E=S at sl
 cases sl with
 |nil=>cases hS
 |cons q r=>
  injection hT with _ hT
  injection hS with _ hS
  subst hT hS
  exact⟨_,bf,fh,tf,r,(Zbc.mp nd).2.1,fun a ha=>fr a (jx _ ha),by simpa using len,pl⟩
theorem FrF.grow{H':Hp}(h:FrF K B F A σ H E xs Xs)(g:Same H H'):FrF K B (fun b=>if b∈A then none else H' b) A σ H' E xs Xs:=by
 have nF:∀b o,F b=some o→b∉A:=fun b o e hb=>by rw[h.fr b hb]at e;cases e
 have FF:Same F (fun b=>if b∈A then none else H' b):=fun b o e=>by
  show(if b∈A then none else H' b)=some o
  rw[if_neg (nF b o e)]
  exact g _ _ (h.fh _ _ e)
 have hA:∀b∈A,H' b=H b:=fun b hb=>by
  rcases h.mutA b hb with⟨_,z⟩ |⟨_,z⟩ <;> rw[z,g _ _ z]
 refine⟨h.bf.trans FF,fun b o e=>?_,fun b o e=>?_,h.sl.mono fun o s C _ hC q=>q.stay FF (fun b hb=>hA b (hC b hb)) fun _=>g,h.nd,fun a ha=>if_pos ha,h.len,h.pl⟩
 ·by_cases hb:b∈A
  ·rw[if_pos hb]at e;cases e
  ·rw[if_neg hb]at e;exact e
 ·obtain⟨e1,e2⟩:=Option.filter_eq_some_iff.mp e
  show(if b∈A then none else H' b)=some o
  by_cases hb:b∈A
  ·rw[hA b hb]at e1
   rcases h.mutA b hb with⟨_,z⟩ |⟨_,z⟩ <;> rw[z]at e1 <;> cases e1 <;> cases e2
  ·rw[if_neg hb];exact e1
theorem FrF.newl{p:Addr}{vs:List V}{ds:List PyData}(h:FrF K B F A σ H E xs Xs)(r:RpA K F vs ds)(hp:H p=none):FrF K B F (p::A) σ (upd H p (.lst vs)) E (.ref p::xs) (.ow ds::Xs):=by
 have g:Same H (upd H p (.lst vs)):=eJ hp _
 have nA:=h.newA hp
 refine⟨h.bf,h.fh.trans g,fun b o e=>?_,.cons (A:=[p]) ⟨p,vs,rfl,rfl,upd_same,r⟩ (h.sl.mono fun o s C _ hC q=>q.stay (Same.refl _) (fun b hb=>ar fun z=>nA (z▸hC b hb)) fun _=>g),List.nodup_cons.mpr ⟨nA,h.nd⟩,fun a ha=>?_,by simp[h.len],h.pl⟩
 ·obtain⟨e1,e2⟩:=Option.filter_eq_some_iff.mp e
  by_cases hb:b=p
  ·subst hb;rw[upd_same]at e1;cases e1;cases e2
  ·rw[ar hb]at e1;exact h.tf b o (gR e1 e2)
 ·rcases Zaf.mp ha with z |z
  ·subst z;exact h.fh.free hp
  ·exact h.fr a z
theorem FrF.newt{p:Addr}{vs:List V}{ds:List PyData}(h:FrF K B F A σ H E xs Xs)(r:RpA K F vs ds)(hp:H p=none):FrF K B (upd F p (.tup vs)) A σ (upd H p (.tup vs)) E (.ref p::xs) (.sh (.tuple ds)::Xs):=by
 have g:Same H (upd H p (.tup vs)):=eJ hp _
 have nA:=h.newA hp
 have gF:Same F (upd F p (.tup vs)):=eJ (h.fh.free hp) _
 refine⟨h.bf.trans gF,fun b o e=>?_,fun b o e=>?_,.cons (A:=[]) ⟨rfl,_,rfl,.tup (.inl (.inl upd_same)) (r.same gF)⟩ (h.sl.mono fun o s C _ hC q=>q.stay gF (fun b hb=>ar fun z=>nA (z▸hC b hb)) fun _=>g),h.nd,fun a ha=>?_,by simp[h.len],h.pl⟩
 ·by_cases hb:b=p
  ·subst hb;rw[upd_same]at e ⊢;exact e
  ·rw[ar hb]at e ⊢;exact h.fh _ _ e
 ·obtain⟨e1,e2⟩:=Option.filter_eq_some_iff.mp e
  by_cases hb:b=p
  ·subst hb;rw[upd_same]at e1 ⊢;exact e1
  ·rw[ar hb]at e1 ⊢;exact h.tf b o (gR e1 e2)
 ·have ne:a≠p:=fun z=>nA (z▸ha)
  rw[ar ne];exact h.fr a ha
theorem FrF.mut{i:Nat}{ds:List PyData}(h:FrF K B F A σ H E xs Xs)(e:E[i]? =some (.ow ds))(c:∀s∈Xs,s.isBr=false):
  ∃l vs,σ[i]? =some (some (.ref l))∧H l=some (.lst vs)∧RpA K F vs ds∧∀vs' ds',RpA K F vs' ds'→FrF K B F A σ (upd H l (.lst vs')) (E.set i (.ow ds')) xs Xs:=by
 obtain⟨o,A0,A1,A2,eA,eo,hp,put⟩:=h.sl.at (k:=Xs.length+i) (s:=.ow ds) (by rw[Bx (by omega)];simpa using e)
 rw[Bx (by rw[dY,h.len];omega),dY,h.len,Bz]at eo
 obtain⟨l,vs,rfl,rfl,hl,r⟩:=hp
 refine⟨l,vs,eo,hl,r,fun vs' ds' r'=>?_⟩
 have hlA:l∈A:=by rw[eA];simp
 have nl:∀b,b∈A0∨b∈A2→b≠l:=fun b hb z=>by
  subst z
  have nd:=h.nd
  rw[eA]at nd
  rcases hb with hb |hb
  ·exact(Zbc.mp nd).2.2 b hb b (by simp) rfl
  ·exact(Zbc.mp (Zbc.mp nd).2.1).2.2 b (by simp) b hb rfl
 have lF:F l=none:=h.fr l hlA
 have z:=put (SlOk K F (upd H l (.lst vs')) σ) (some (.ref l)) (.ow ds') [l] ⟨l,vs',rfl,rfl,upd_same,r'⟩ fun o s C hs hC q=>q.stay (Same.refl _) (fun b hb=>ar (nl b (hC b hb))) fun z=>by
  rcases Zao.mp hs with hs |hs
  ·rw[c s hs]at z;cases z
  ·have:=h.pl s hs
   cases s <;> simp[Sl.isAl,Sl.isBr]at this z
 have e3:(Xs++E).set (Xs.length+i) (.ow ds')=Xs++E.set i (.ow ds'):=by
  rw[List.set_append_right _ _ (by omega),Bz]
 have e2:(List.map some xs++σ).set (Xs.length+i) (some (V.ref l))=List.map some xs++σ:=by
  rw[←h.len,List.set_append_right _ _ (by rw[dY];omega),dY,Bz]
  congr 1
  exact List.ext_getElem? fun j=>by
   by_cases hj:i=j
   ·subst hj
    rw[List.getElem?_set_self',eo];rfl
   ·rw[List.getElem?_set_ne hj]
 rw[e2,e3,←eA]at z
 refine⟨h.bf,fun b o q=>?_,?_,z,h.nd,h.fr,h.len,fun s hs=>?_⟩
 ·rw[ar (fun z=>by rw[z,lF]at q;cases q)]
  exact h.fh _ _ q
 ·rw[my hl];exact h.tf
 ·rcases List.mem_or_eq_of_mem_set hs with hs |hs
  ·exact h.pl s hs
  ·subst hs;rfl
theorem FrF.frzAt{k:Nat}(h:FrF K B F A σ H E xs Xs)(e:(Xs++E)[k]? =some s)(q:s.val=some d)(c:s.isAl=false):
  ∃F' A' v,(xs.map some++σ)[k]? =some (some v)∧Rp K F' v d∧Same B F'∧Same F' H∧Same (tups H) F'∧SAll (SlOk K F' H σ) (xs.map some++σ) ((Xs++E).set k (.sh d)) A'∧A'.Nodup∧∀a∈A',F' a=none:=by
 obtain⟨o,A0,A1,A2,eA,eo,hp,put⟩:=h.sl.at e
 have nd:=h.nd
 rw[eA]at nd
 have nA1:∀b o,F b=some o→b∉A1:=fun b o e hb=>by
  have:=h.fr b (by rw[eA];simp[hb])
  rw[this]at e;cases e
 have FF:Same F (rD F H A1):=fun b o e=>by rw[mz (nA1 b o e)];exact e
 obtain⟨v,rfl,r⟩:∃v,o=some v∧Rp K (rD F H A1) v d:=by
  cases s with
  |no=>cases q
  |od kvs=>cases q
  |al i=>cases c
  |br d'=>cases c
  |sh d'=>
   obtain⟨rfl,v,rfl,r⟩:=hp
   cases q
   exact⟨v,rfl,r.same FF⟩
  |ow ds=>
   obtain⟨l,vs,rfl,rfl,hl,r⟩:=hp
   cases q
   exact⟨_,rfl,.lst (SqL.of ((pX (by simp)).trans hl)) (r.same FF)⟩
  |tx ps=>
   obtain⟨t,vs,rfl,ht,r⟩:=hp
   cases q
   refine⟨_,rfl,.tup (SqT.of (FF _ _ ht)) ?_⟩
   have r':PtsOk K (rD F H A1) (rD F H A1) vs ps A1:=r.stay FF fun b hb=>pX hb
   exact r'.rp (Same.refl _)
 have e2:(List.map some xs++σ).set k (some v)=List.map some xs++σ:=List.ext_getElem? fun j=>by
  by_cases hj:k=j
  ·subst hj
   rw[List.getElem?_set_self',eo];rfl
  ·rw[List.getElem?_set_ne hj]
 have z:=put (SlOk K (rD F H A1) H σ) (some v) (.sh d) [] ⟨rfl,v,rfl,r⟩ fun o s C _ hC q=>q.stay FF (fun b _=>rfl) fun _=>Same.refl _
 rw[e2]at z
 refine⟨rD F H A1,A0++A2,v,eo,r,h.bf.trans FF,fun b o e=>?_,fun b o e=>FF _ _ (h.tf _ _ e),by simpa using z,?_,fun a ha=>?_⟩
 ·by_cases hb:b∈A1
  ·rw[pX hb]at e;exact e
  ·rw[mz hb]at e;exact h.fh _ _ e
 ·exact List.Nodup.sublist (List.Sublist.append (List.Sublist.refl _) (List.sublist_append_right _ _)) nd
 ·have hn:a∉A1:=fun hm=>by
   rcases Zao.mp ha with z |z
   ·exact(Zbc.mp nd).2.2 a z a (by simp[hm]) rfl
   ·exact(Zbc.mp (Zbc.mp nd).2.1).2.2 a hm a z rfl
  rw[mz hn]
  exact h.fr a (by rw[eA];rcases Zao.mp ha with z |z <;> simp[z])
end
def frz(E:List Sl):Sl→Option (PyData×List Sl)
 |.sh d=>some (d,E)
 |.ow ds=>some (.list ds,E)
 |.tx ps=>some (.tuple (ps.map Pt.val),E)
 |.br d=>if du d then some (d,E)else none
 |.al i=>match E[i]? with
  |some (.sh d)=>some (d,E)
  |some (.ow ds)=>some (.list ds,E.set i (.sh (.list ds)))
  |some (.tx ps)=>some (.tuple (ps.map Pt.val),E.set i (.sh (.tuple (ps.map Pt.val))))
  |_=>none
 |_=>none
section
variable {K:Frag} {B F:Hp} {A:List Addr} {σ:Sg} {H:Hp} {E E':List Sl} {xs:List V} {Xs:List Sl} {v:V} {s:Sl} {d:PyData}
theorem FrF.frzVar{i:Nat}(h:FrF K B F A σ H E xs Xs)(e:E[i]? =some s)(q:s.val=some d):∃F' A' v,σ[i]? =some (some v)∧Rp K F' v d∧FrF K B F' A' σ H (E.set i (.sh d)) xs Xs:=by
 obtain⟨F',A',v,ev,r,b1,b2,b3,sl,nd,fr⟩:=h.frzAt (k:=Xs.length+i) (by rw[Bx (by omega)];simpa using e) q (h.pl s (List.mem_of_getElem? e))
 rw[Bx (by rw[dY,h.len];omega),dY,h.len,Bz]at ev
 have e3:(Xs++E).set (Xs.length+i) (.sh d)=Xs++E.set i (.sh d):=by
  rw[List.set_append_right _ _ (by omega),Bz]
 rw[e3]at sl
 refine⟨F',A',v,ev,r,b1,b2,b3,sl,nd,fr,h.len,fun s hs=>?_⟩
 rcases List.mem_or_eq_of_mem_set hs with hs |hs
 ·exact h.pl s hs
 ·subst hs;rfl
theorem FrF.frz0(h:FrF K B F A σ H E (v::xs) (s::Xs))(q:PL.frz E s=some (d,E')):∃F' A',FrF K B F' A' σ H E' (v::xs) (.sh d::Xs):=by
 have key:s.val=some d→s.isAl=false→E=E'→∃F' A',FrF K B F' A' σ H E' (v::xs) (.sh d::Xs):=fun q' c e=>by
  subst e
  obtain⟨F',A',v',ev,r,b1,b2,b3,sl,nd,fr⟩:=h.frzAt (k:=0) rfl q' c
  exact⟨F',A',b1,b2,b3,sl,nd,fr,by simpa using h.len,h.pl⟩
 have al:∀i t,s=.al i→E[i]? =some t→t.val=some d→E'=E.set i (.sh d)→∃F' A',FrF K B F' A' σ H E' (v::xs) (.sh d::Xs):=fun i t es ei qt eE=>by
  subst es eE
  obtain⟨v',A1,ev,hs⟩:=h.ext (k:=0) rfl
  cases ev
  obtain⟨rfl,w,ew,hw⟩:=hs
  cases ew
  obtain⟨F',A',w,ew,r,h'⟩:=h.frzVar ei qt
  rw[hw]at ew
  cases ew
  obtain⟨A2,h2⟩:=h'.pop
  exact⟨F',A2,h2.push ⟨rfl,_,rfl,r⟩⟩
 cases s with
 |no=>cases q
 |od kvs=>cases q
 |sh d'=>cases q;exact key rfl rfl rfl
 |ow ds=>cases q;exact key rfl rfl rfl
 |tx ps=>cases q;exact key rfl rfl rfl
 |br d'=>
  simp only[PL.frz]at q
  split at q
  ·rename_i hf
   cases q
   obtain⟨r,_⟩:=h.look0 (d:=d) rfl
   obtain⟨A2,h2⟩:=h.pop
   exact⟨F,A2,h2.push ⟨rfl,_,rfl,h.cold r hf⟩⟩
  ·cases q
 |al i=>
  simp only[PL.frz]at q
  split at q
  ·rename_i d' ei
   cases q
   refine al i _ rfl ei rfl ?_
   exact List.ext_getElem? fun j=>by
    by_cases hj:i=j
    ·subst hj;rw[List.getElem?_set_self',ei];rfl
    ·rw[List.getElem?_set_ne hj]
  ·rename_i ds ei
   cases q
   exact al i _ rfl ei rfl rfl
  ·rename_i ps ei
   cases q
   exact al i _ rfl ei rfl rfl
  ·cases q
theorem FrF.store{i:Nat}(h:FrF K B F A σ H E (v::xs) (s::Xs))(c:s.isAl=false)(cx:∀s∈Xs,s.isAl=false)(hi:i < E.length):∃A',FrF K B F A' (σ.set i (some v)) H (E.set i s) xs Xs:=by
 have hlen:=h.len
 have hsl:=h.slen
 obtain⟨bf,fh,tf,sl,nd,fr,len,pl⟩:=h
 generalize hT:List.map some (v::xs)++σ=T at sl
 generalize hS:(s::Xs)++E=S at sl
 cases sl with
 |nil=>cases hS
 |cons q r=>
  rename_i A1 _ _ A2
  injection hT with h1 hT
  injection hS with h2 hS
  subst h1 h2 hT hS
  have len':xs.length=Xs.length:=by simpa using len
  have r:SAll (SlOk K F H σ) (List.map some xs++σ) (Xs++E) A2:=r
  obtain⟨t,et⟩:∃t,E[i]? =some t:=⟨E[i],oR hi⟩
  obtain⟨o,C0,C1,C2,eA,eo,hp,put⟩:=r.at (k:=Xs.length+i) (s:=t) (by rw[Bx (by omega)];simpa using et)
  have all:∀s'∈Xs++E,s'.isAl=false:=fun s' hs=>(Zao.mp hs).elim (cx s') (pl s')
  have chg:∀(o:Option V) (s':Sl) (C:List Addr),s'.isAl=false→SlOk K F H σ o s' C→SlOk K F H (σ.set i (some v)) o s' C:=fun o s' C hc z=>by
   cases s' <;> first |exact z |cases hc
  have z:=put (SlOk K F H (σ.set i (some v))) (some v) s A1 (chg _ _ _ c q) fun o s' C hs _ z=>chg o s' C (all s' hs) z
  have e3:(Xs++E).set (Xs.length+i) s=Xs++E.set i s:=by
   rw[List.set_append_right _ _ (by omega),Bz]
  have e2:(List.map some xs++σ).set (Xs.length+i) (some v)=List.map some xs++σ.set i (some v):=by
   rw[←len',List.set_append_right _ _ (by rw[dY];omega),dY,Bz]
  rw[e2,e3]at z
  refine⟨_,bf,fh,tf,z,?_,fun a ha=>fr a ?_,len',fun s' hs=>?_⟩
  ·rw[eA]at nd
   have p:(C0++(A1++C2)).Perm (A1++(C0++C2)):=by
    rw[←List.append_assoc,←List.append_assoc]
    exact List.Perm.append_right _ List.perm_append_comm
   refine p.nodup_iff.mpr (List.Nodup.sublist ?_ nd)
   exact List.Sublist.append (List.Sublist.refl _) (List.Sublist.append (List.Sublist.refl _) (List.sublist_append_right _ _))
  ·rw[eA]
   simp only[Zao]at ha ⊢
   rcases ha with z |z |z
   ·exact .inr (.inl z)
   ·exact .inl z
   ·exact .inr (.inr (.inr z))
  ·rcases List.mem_or_eq_of_mem_set hs with hs |hs
   ·exact pl s' hs
   ·subst hs;exact c
end
end PL
namespace PL
open PySem L2 Nh
abbrev aD:=List Sl→Option (Sl×List Sl)
abbrev ig:=List Sl→Option (Bool×List Sl)
abbrev j0:=List Sl→Option (List Sl×List Sl)
abbrev ij:=List Sl→Option (List PyData×List Sl)
inductive Fl where
 |nx |bk |ct |rt (r:Sl)
abbrev cI:=List Sl→Option (List Sl×Fl)
abbrev Calm(Xs:List Sl):Prop:=∀s∈Xs,s.isBr=false
abbrev Still(Xs:List Sl):Prop:=∀s∈Xs,s.isAl=false
theorem Still.calm{Xs:List Sl}(h:Still Xs):Calm Xs:=fun s hs=>by
 have:=h s hs
 cases s <;> simp[Sl.isAl,Sl.isBr]at this ⊢
theorem Still.nil{Xs:List Sl}(h:Xs=[]):Still Xs:=fun s hs=>by subst h;cases hs
theorem Calm.nil{Xs:List Sl}(h:Xs=[]):Calm Xs:=(Still.nil h).calm
theorem Calm.cons{Xs:List Sl}{s:Sl}(h:Calm Xs)(hs:s.isBr=false):Calm (s::Xs):=fun t ht=>(Zaf.mp ht).elim (fun e=>e▸hs) (h t)
def rd(K:Frag)(m:Bool)(f:aD):TE:=fun σ H Q=>∃B E xs Xs r E',Frm K B σ H E xs Xs∧(m=true→Calm Xs)∧f E=some (r,E')∧∀v H',Frm K B σ H' E' (v::xs) (r::Xs)→Q v H'
def rt(K:Frag)(m:Bool)(f:ig):TT:=fun σ H Q=>∃B E xs Xs b E',Frm K B σ H E xs Xs∧(m=true→Calm Xs)∧f E=some (b,E')∧∀H',Frm K B σ H' E' xs Xs→Q b H'
def ra(K:Frag)(m:Bool)(f:j0):TA:=fun σ H Q=>∃B E xs Xs rs E',Frm K B σ H E xs Xs∧(m=true→Calm Xs)∧f E=some (rs,E')∧∀vs H',vs.length=rs.length→Frm K B σ H' E' (vs.reverse++xs) (rs.reverse++Xs)→Q vs H'
def Jz(K:Frag)(m:Bool)(f:ij):TA:=fun σ H Q=>∃B E xs Xs ds E',Frm K B σ H E xs Xs∧(m=true→Calm Xs)∧f E=some (ds,E')∧∀vs H',vs.length=ds.length→Frm K B σ H' E' (vs.reverse++xs) (ds.reverse.map .sh++Xs)→Q vs H'
def rs(K:Frag)(g:cI):TS:=fun D σ H=>∃B E xs Xs E' fl,Frm K B σ H E xs Xs∧Xs=[]∧g E=some (E',fl)∧match fl with
 |.nx=>∀σ' H',Frm K B σ' H' E' xs Xs→D.nx σ' H'
 |.bk=>∀σ' H',Frm K B σ' H' E' xs Xs→D.bk σ' H'
 |.ct=>∀σ' H',Frm K B σ' H' E' xs Xs→D.ct σ' H'
 |.rt r=>∀σ' v H',Frm K B σ' H' E' (v::xs) (r::Xs)→D.rt v H'
def EX(X:Cx)(e:Expr)(m:Bool)(f:aD):Prop:=PE X e (rd X.K m f)
def TX(X:Cx)(e:Expr)(m:Bool)(f:ig):Prop:=PT X e (rt X.K m f)
def WX(X:Cx)(e:Expr)(m:Bool)(f:ig):Prop:=PW X e (rt X.K m f)
def AX(X:Cx)(es:List Expr)(m:Bool)(f:j0):Prop:=PA X es (ra X.K m f)
def DX(X:Cx)(es:List Expr)(m:Bool)(f:ij):Prop:=PA X es (Jz X.K m f)
def SX(X:Cx)(s:Stmt)(g:cI):Prop:=PS X s (rs X.K g)
def qX(X:Cx)(s:List Stmt)(g:cI):Prop:=PSs X s (rs X.K g)
section
variable {X:Cx}
theorem bn{e:Expr}{t t':TE}(h:PE X e t)(k:∀σ H Q,t' σ H Q→t σ H Q):PE X e t':=fun pins s σ H Q I q=>h pins s σ H Q I (k σ H Q q)
theorem pY{e:Expr}{t t':TT}(h:PT X e t)(k:∀σ H Q,t' σ H Q→t σ H Q):PT X e t':=fun pins s σ H Q I q=>h pins s σ H Q I (k σ H Q q)
theorem y7{e:Expr}{t t':TT}(h:PW X e t)(k:∀σ H Q,t' σ H Q→t σ H Q):PW X e t':=fun whole pins s σ H Q I q=>h whole pins s σ H Q I (k σ H Q q)
theorem pZ{es:List Expr}{t t':TA}(h:PA X es t)(k:∀σ H Q,t' σ H Q→t σ H Q):PA X es t':=fun pos pins s σ H Q I q=>h pos pins s σ H Q I (k σ H Q q)
theorem jK{st:Stmt}{t t':TS}(h:PS X st t)(k:∀D σ H,t' D σ H→t D σ H):PS X st t':=fun pins s σ H D I q=>h pins s σ H D I (k D σ H q)
theorem vL{st:List Stmt}{t t':TS}(h:PSs X st t)(k:∀D σ H,t' D σ H→t D σ H):PSs X st t':=fun pins s σ H D I q=>h pins s σ H D I (k D σ H q)
end
def DJ:PyData→Option V
 |.none=>some .non
 |.bool b=>some (.bl b)
 |.int i=>some (.int i)
 |.str x=>some (.str x)
 |_=>none
theorem mB{K:Frag}{H:Hp}{d:PyData}{v:V}(h:DJ d=some v):Rp K H v d:=by
 cases d <;> simp[DJ]at h <;> subst h <;> constructor
def aa(i:Nat):aD:=fun E=>match E[i]? with
 |some (.sh d)=>some (.sh d,E)
 |some (.ow _)=>some (.al i,E)
 |some (.od _)=>some (.al i,E)
 |some (.tx _)=>some (.al i,E)
 |_=>none
def pC(d:PyData):aD:=fun E=>some (.sh d,E)
section
variable {X:Cx} {K:Frag}
theorem ae (i:Nat) {x:Str} {pos:Pos} (hN:X.N[i]? =some x:=by rfl) (hv:HL X.env.scope x:=by first |exact Or.inl rfl |exact Or.inr (Or.inl rfl) |exact Or.inr (Or.inr rfl)) (hd:(x == ("__debug__":Str))=false:=by decide)
  (hcd:(x == ("__classdict__":Str))=false:=by decide):EX X (.Name x pos) false (aa i):=by
 refine bn (yH hN hv hd hcd) fun σ H Q h=>?_
 obtain⟨B,E,xs,Xs,r,E',⟨F,A,fr⟩,_,e,q⟩:=h
 unfold aa at e
 split at e
 ·rename_i d ei
  cases e
  obtain⟨o,A1,eo,rfl,v,rfl,rp⟩:=fr.var ei
  exact⟨v,eo,q v H ⟨F,A,fr.push ⟨rfl,v,rfl,rp⟩⟩⟩
 ·rename_i ds ei
  cases e
  obtain⟨o,A1,eo,l,vs,rfl,_⟩:=fr.var ei
  exact⟨_,eo,q _ H ⟨F,A,fr.push ⟨rfl,_,rfl,eo⟩⟩⟩
 ·rename_i ds ei
  cases e
  obtain⟨o,A1,eo,l,vs,A2,rfl,_⟩:=fr.var ei
  exact⟨_,eo,q _ H ⟨F,A,fr.push ⟨rfl,_,rfl,eo⟩⟩⟩
 ·rename_i ds ei
  cases e
  obtain⟨o,A1,eo,l,vs,rfl,_⟩:=fr.var ei
  exact⟨_,eo,q _ H ⟨F,A,fr.push ⟨rfl,_,rfl,eo⟩⟩⟩
 ·cases e
theorem B5{e:Expr}{v:V}(d:PyData)(h:PE X e (tC v))(hd:DJ d=some v:=by rfl):EX X e false (pC d):=by
 refine bn h fun σ H Q h=>?_
 obtain⟨B,E,xs,Xs,r,E',⟨F,A,fr⟩,_,e,q⟩:=h
 cases e
 exact q v H ⟨F,A,fr.push ⟨rfl,v,rfl,mB hd⟩⟩
theorem am{i j pos}:EX X (.Constant (.int i) j pos) false (pC (.int i)):=B5 _ Ec
theorem gl{b j pos}:EX X (.Constant (.bool b) j pos) false (pC (.bool b)):=B5 _ GB
theorem p7{j pos}:EX X (.Constant .none j pos) false (pC .none):=B5 _ Ed
theorem dH{x j pos}:EX X (.Constant (.str x) j pos) false (pC (.str x)):=B5 _ pP
end
abbrev P2:=List Sl→Sl→Sl→Option (Sl×List Sl)
def iu(K:Frag)(r:R2)(p:P2):Prop:=∀{B F:Hp} {A:List Addr} {σ:Sg} {H:Hp} {E:List Sl} {xs:List V} {Xs:List Sl} {v1 v2:V} {s1 s2 res:Sl} {E':List Sl} {Q:VK},
 FrF K B F A σ H E (v2::v1::xs) (s2::s1::Xs)→p E s1 s2=some (res,E')→(∀v H',Frm K B σ H' E' (v::xs) (res::Xs)→Q v H')→r v1 v2 H Q
def af(p:P2)(m2:Bool)(f g:aD):aD:=fun E=>(f E).bind fun a=>if m2&&a.1.isBr then none else (g a.2).bind fun b=>p b.2 a.1 b.1
theorem p8{K:Frag}{r:R2}{p:P2}(hp:iu K r p){m1 m2:Bool}{f g:aD}{σ:Sg}{H:Hp}{Q:VK}(h:rd K (m1||m2) (af p m2 f g) σ H Q):GK r (rd K m1 f) (rd K m2 g) σ H Q:=by
 obtain⟨B,E,xs,Xs,res,E',fr,c,e,q⟩:=h
 obtain⟨⟨s1,E1⟩,e1,e⟩:=Za.mp e
 by_cases hb:(m2&&s1.isBr)=true
 ·rw[if_pos hb]at e;cases e
 rw[if_neg hb]at e
 obtain⟨⟨s2,E2⟩,e2,e⟩:=Za.mp e
 refine⟨B,E,xs,Xs,s1,E1,fr,fun z=>c (by simp[z]),e1,fun v1 H1 fr1=>?_⟩
 refine⟨B,E1,v1::xs,s1::Xs,s2,E2,fr1,fun z=>?_,e2,fun v2 H2 fr2=>?_⟩
 ·refine Calm.cons (c (by simp[z])) ?_
  cases hs:s1.isBr with
  |false=>rfl
  |true=>exact absurd (by simp[z,hs]) hb
 ·obtain⟨F,A,fr2⟩:=fr2
  exact hp fr2 e q
def eK(op:PyData→PyData→Option PyData):P2:=fun E s1 s2=>(look E s1).bind fun d1=>(look E s2).bind fun d2=>(op d1 d2).map fun d=>(.sh d,E)
theorem FrF.res2{K:Frag}{B F:Hp}{A:List Addr}{σ:Sg}{H:Hp}{E:List Sl}{xs:List V}{Xs:List Sl}{v1 v2 v:V}{s1 s2 s:Sl}(h:FrF K B F A σ H E (v2::v1::xs) (s2::s1::Xs))(q:SlOk K F H σ (some v) s []):Frm K B σ H E (v::xs) (s::Xs):=by
 obtain⟨A1,h⟩:=h.pop
 obtain⟨A2,h⟩:=h.pop
 exact⟨F,A2,h.push q⟩
theorem gS{K:Frag}{r:R2}{op:PyData→PyData→Option PyData}(h:∀(d1 d2 d:PyData) (v1 v2:V) (H:Hp) (Q:VK),op d1 d2=some d→Rp K H v1 d1→Rp K H v2 d2→∃v,DJ d=some v∧(Q v H→r v1 v2 H Q)):iu K r (eK op):=by
 intro B F A σ H E xs Xs v1 v2 s1 s2 res E' Q fr e q
 obtain⟨d1,e1,e⟩:=Za.mp e
 obtain⟨d2,e2,e⟩:=Za.mp e
 obtain⟨d,e3,e⟩:=Zab.mp e
 cases e
 obtain⟨v,hv,k⟩:=h d1 d2 d v1 v2 H Q e3 (fr.look1 e1).1 (fr.look0 e2).1
 exact k (q v H (fr.res2 ⟨rfl,v,rfl,mB hv⟩))
section
variable {X:Cx} {a b:Expr} {m1 m2:Bool} {f g:aD} {pos:Pos}
theorem j5{op:Operator}{r:R2}{p:P2}(ho:OpR X (binaryOp op) r)(hp:iu X.K r p)(ha:EX X a m1 f)(hb:EX X b m2 g):EX X (.BinOp a op b pos) (m1||m2) (af p m2 f g):=bn (GL ho ha hb) fun _ _ _ h=>p8 hp h
theorem y8{op:CmpOp}{r:R2}{p:P2}(ho:OpR X (compareOp op) r)(hp:iu X.K r p)(ha:EX X a m1 f)(hb:EX X b m2 g)(hm:behindInMarks op b=false):EX X (.Compare a [op] [b] pos) (m1||m2) (af p m2 f g):=bn (BQ ho ha hb hm) fun _ _ _ h=>p8 hp h
def cf(f:aD):ig:=fun E=>(f E).bind fun a=>match a.1 with
 |.sh (.bool b)=>some (b,a.2)
 |_=>none
theorem y9{K:Frag}{m:Bool}{f:aD}{σ:Sg}{H:Hp}{Q:Bool→Hp→Prop}(h:rt K m (cf f) σ H Q):rd K m f σ H (fun x H'=>∃k,x=.bl k∧Q k H'):=by
 obtain⟨B,E,xs,Xs,b,E',fr,c,e,q⟩:=h
 obtain⟨⟨s,E1⟩,e1,e⟩:=Za.mp e
 refine⟨B,E,xs,Xs,s,E1,fr,c,e1,fun v H' ⟨F,A,fr'⟩=>?_⟩
 simp only at e
 split at e
 ·cases e
  obtain⟨r,_⟩:=fr'.look0 (d:=.bool b) rfl
  cases r
  obtain⟨A',fr2⟩:=fr'.pop
  exact⟨b,rfl,q H' ⟨F,A',fr2⟩⟩
 ·cases e
theorem jL{op:CmpOp}{r:R2}{p:P2}(ho:OpR X (compareOp op) r)(hp:iu X.K r p)(ha:EX X a m1 f)(hb:EX X b m2 g)(hm:behindInMarks op b=false):TX X (.Compare a [op] [b] pos) (m1||m2) (cf (af p m2 f g)):=by
 refine pY (BR ho ha hb hm) fun σ H Q h=>?_
 exact p8 hp (y9 h)
end
def ES:Int:=2 ^ 20000
def gm(i j:Int):Bool:=decide (-(2 ^ 64) < i∧i < 2 ^ 64)||decide (-(2 ^ 64) < j∧j < 2 ^ 64)||decide (-ES < i∧i < ES∧ -ES < j∧j < ES)
def mD(j:Int):Bool:=decide (0 < j∧j < 2 ^ 200)
def p9(C:Int→Int→Bool)(g:Int→Int→PyData):PyData→PyData→Option PyData
 |.int i,.int j=>if C i j then some (g i j)else none
 |_,_=>none
abbrev B6(C:Int→Int→Bool)(g:Int→Int→V):R2:=rI (fun i j=>C i j=true) g
theorem jM{K:Frag}{C:Int→Int→Bool}{g:Int→Int→PyData}{g':Int→Int→V}(hg:∀i j,DJ (g i j)=some (g' i j)):iu K (B6 C g') (eK (p9 C g)):=by
 refine gS fun d1 d2 d v1 v2 H Q e r1 r2=>?_
 unfold p9 at e
 split at e
 ·split at e
  ·cases e
   cases r1
   cases r2
   rename_i hC
   exact⟨_,hg _ _,fun q=>⟨_,_,rfl,rfl,hC,q⟩⟩
  ·cases e
 ·cases e
section
variable {X:Cx}
theorem lz{i:Int}(h1: -ES < i)(h2:i < ES):Builtin.Int.intBits i≤2 ^ 20:=by
 unfold ES at h1 h2
 have h:i.natAbs < 2 ^ 20000:=by
  have e:((2 ^ 20000:Nat):Int)=2 ^ 20000:=Int.natCast_pow 2 20000
  generalize (2 ^ 20000:Int)=z at h1 h2 e
  generalize (2 ^ 20000:Nat)=y at e ⊢
  omega
 unfold Builtin.Int.intBits
 split
 ·exact Nat.zero_le _
 ·rename_i hz
  have hz':i≠0:=by simpa using hz
  have:i.natAbs.log2 < 20000:=(Nat.log2_lt (by omega)).mpr h
  omega
theorem y_{i j:Int}(h:gm i j=true):PySem.IntMulOk i j:=by
 unfold gm at h
 simp only[Bool.or_eq_true,decide_eq_true_eq]at h
 rcases h with(h |h) |h
 ·exact CMul.ok (.inl h)
 ·exact CMul.ok (.inr h)
 ·exact PySem.IntMulOk.of_bits (lz h.1 h.2.1) (lz h.2.2.1 h.2.2.2)
end
end PL
namespace PL
open PySem L2 Nh PyProof.Rows
abbrev kQ:=L2.St
section
variable {X:Cx}
theorem OpR.or{f:Value→Value→Sem Value}{r r':R2}(h:OpR X f r)(h':OpR X f r'):OpR X f (fun x y H Q=>r x y H Q∨r' x y H Q):=by
 intro pins s σ H x y v u Q I rx ry q
 rcases q with q |q
 ·exact h pins s σ H x y v u Q I rx ry q
 ·exact h' pins s σ H x y v u Q I rx ry q
theorem OpR.imp{f:Value→Value→Sem Value}{r r':R2}(h:OpR X f r)(k:∀x y H Q,r' x y H Q→r x y H Q):OpR X f r':=fun pins s σ H x y v u Q I rx ry q=>h pins s σ H x y v u Q I rx ry (k _ _ _ _ q)
def DK(K:Frag):R2:=fun x y H Q=>∃l b xs zs,x=.ref l∧y=.ref b∧SqL K H l xs∧SqL K H b zs∧xs.length+zs.length≤sizeLine∧∀p,H p=none→Q (.ref p) (upd H p (.lst (xs++zs)))
theorem B7:OpR X (binaryOp .Add) (DK X.K):=by
 intro pins s σ H x y v u Q I rx ry h
 obtain⟨l,b,xs,zs,rfl,rfl,hH,hB,hz,q⟩:=h
 cases rx
 cases ry
 obtain⟨its,r,p1,z1⟩:=I.list hH
 obtain⟨its2,r2,p2,z2⟩:=I.list hB
 obtain⟨⟨cls,dd,data,sl⟩,ho,hc,n,hd⟩:=p1.isList
 obtain⟨⟨cls2,dd2,data2,sl2⟩,ho2,hc2,n2,yD⟩:=p2.isList
 simp only at hc hd hc2 yD
 subst hc hd hc2 yD
 have l1:=r.length
 have l2:=r2.length
 refine concat_meets ⟨_,ho,rfl⟩ ⟨_,ho2,rfl⟩ noFill_list_add seq_list_add PySem.F.slot_list_add PySem.F.entry_list_add (PySem.F.args_list_add_2 _ _) (list_addW l b its.toArray its2.toArray n n2 dd dd2 sl sl2 (by simp only[kJ];omega)) ⟨ho,ho2,?_⟩
 have ea:its.toArray++its2.toArray=(its++its2).toArray:=by simp
 rw[ea]
 exact⟨.ref _,_,I.lnew (t':=s.toks) (r.append r2) (by rw[wM];omega),rfl,q _ I.fresh⟩
def DM(K:Frag):R2:=fun x y H Q=>∃l k xs,x=.ref l∧y=.int k∧SqL K H l xs∧ -(2 ^ 63)≤k∧k < 2 ^ 63∧xs.length*k.toNat≤sizeLine∧
 ∀p,H p=none→Q (.ref p) (upd H p (.lst (List.replicate k.toNat xs).flatten))
theorem B8:OpR X (binaryOp .Mult) (DM X.K):=by
 intro pins s σ H x y v u Q I rx ry h
 obtain⟨l,k,xs,rfl,rfl,hH,h1,h2,hz,q⟩:=h
 cases rx
 obtain⟨t,rfl⟩:=ry
 obtain⟨its,r,p1,z1⟩:=I.list hH
 obtain⟨⟨cls,d,data,sl⟩,ho,hcl,n,hd⟩:=p1.isList
 simp only at hcl hd
 subst hcl hd
 have l1:=r.length
 have hsz:its.toArray.size*k.toNat≤2 ^ 24:=by rw[kJ,←l1];exact hz
 refine wpAny_binaryOp_repeat_ref (T:="list") (U:="int") (by decide) ⟨_,ho,rfl⟩ (fun s'=>typeIs_int s' k t) noFill_list_mul F.fills_int_mul F.slot_int_rmul repeat_list F.slot_int_index.lookup
  (call_meets F.slot_int_rmul (typeIs_int s k t) F.entry_int_rmul (F.args_int_rmul_2 _ _) (lm_int_rmul_list_any k t l its.toArray n d sl)
   ⟨ho,rfl,⟨_,ho,rfl⟩,call_meets F.slot_list_mul ⟨_,ho,rfl⟩ F.entry_list_mul (F.args_list_mul_2 _ _)
    (lm_list_mul_any l its.toArray n d sl k t (by simp[Builtin.List.listFitsIndex];omega) (by omega) (by simp[Builtin.List.listTooLong,sizeLine];omega))
    ⟨ho,?_⟩⟩)
 rw[listMul_foldl_if]
 exact⟨.ref _,_,I.lnew (t':=s.toks) (r.rep k.toNat) (by rw[B3,Nat.mul_comm];exact hz),rfl,q _ I.fresh⟩
end
def aO:P2:=fun E s1 s2=>(look E s1).bind fun d1=>(look E s2).bind fun d2=>match d1,d2 with
 |.int i,.int j=>some (.sh (.int (i+j)),E)
 |.str a,.str b=>if a.length+b.length≤1000000 then some (.sh (.str (a++b)),E)else none
 |.list a,.list b=>if decide (a.length+b.length≤1000000)&&(!jr E s1||bT a)&&(!jr E s2||bT b)then some (.ow (a++b),E)else none
 |_,_=>none
theorem small{n:Nat}(h:n≤1000000):n < sizeLine:=Nat.lt_of_le_of_lt h (by rw[sizeLine_eq];decide)
theorem fE{n:Nat}(h:n≤1000000):n≤sizeLine:=Nat.le_of_lt (small h)
section
variable {K:Frag} {B F:Hp} {A:List Addr} {σ:kQ} {H:Hp} {E:List Sl} {xs:List V} {Xs:List Sl} {v:V} {s:Sl} {ds:List PyData}
theorem FrF.items{k:Nat}(h:FrF K B F A σ H E xs Xs)(e:Xs[k]? =some s)(q:PL.look E s=some (.list ds))(c:(!jr E s||bT ds)=true):∃a vs,xs[k]? =some (.ref a)∧SqL K H a vs∧RpA K F vs ds:=by
 obtain⟨v,ev,r,f⟩:=h.look e q
 cases hh:jr E s with
 |false=>
  obtain⟨a,vs,rfl,h1,h2⟩:=f hh
  exact⟨a,vs,ev,h1,h2⟩
 |true=>
  rw[hh]at c
  cases r with
  |lst h1 h2=>exact⟨_,_,ev,h1,h.coldA h2 (by simpa using c)⟩
theorem FrF.res2l{v1 v2:V}{s1 s2:Sl}{vs:List V}(h:FrF K B F A σ H E (v2::v1::xs) (s2::s1::Xs))(r:RpA K F vs ds){p:Addr}(hp:H p=none):Frm K B σ (upd H p (.lst vs)) E (.ref p::xs) (.ow ds::Xs):=by
 obtain⟨A1,h⟩:=h.pop
 obtain⟨A2,h⟩:=h.pop
 exact⟨F,_,h.newl r hp⟩
end
abbrev DN(K:Frag):R2:=fun x y H Q=>(∃i j,x=.int i∧y=.int j∧Q (.int (i+j)) H)∨(∃i j,x=.str i∧y=.str j∧i.length+j.length≤sizeLine∧Q (.str (i++j)) H)∨DK K x y H Q
theorem B9{X:Cx}:OpR X (binaryOp .Add) (DN X.K):=OpR.or Ev (OpR.or t4 B7)
theorem B_{K:Frag}:iu K (DN K) aO:=by
 intro B F A σ H E xs Xs v1 v2 s1 s2 res E' Q fr e q
 obtain⟨d1,e1,e⟩:=Za.mp e
 obtain⟨d2,e2,e⟩:=Za.mp e
 have r1:=(fr.look1 e1).1
 have r2:=(fr.look0 e2).1
 split at e
 ·cases e;cases r1;cases r2
  exact .inl ⟨_,_,rfl,rfl,q _ _ (fr.res2 ⟨rfl,_,rfl,.int _⟩)⟩
 ·split at e
  ·rename_i hl
   cases e;cases r1;cases r2
   exact .inr (.inl ⟨_,_,rfl,rfl,fE hl,q _ _ (fr.res2 ⟨rfl,_,rfl,.str _⟩)⟩)
  ·cases e
 ·split at e
  ·rename_i hc
   cases e
   simp only[lQ,decide_eq_true_eq]at hc
   obtain⟨a1,u1,x1,q1,i1⟩:=fr.items (k:=1) rfl e1 hc.1.2
   obtain⟨a2,u2,x2,q2,i2⟩:=fr.items (k:=0) rfl e2 hc.2
   cases x1;cases x2
   have l1:=i1.len
   have l2:=i2.len
   exact .inr (.inr ⟨_,_,_,_,rfl,rfl,q1,q2,fE (by omega),fun p hp=>q _ _ (fr.res2l (i1.append i2) hp)⟩)
  ·cases e
 ·cases e
def t7:P2:=eK (p9 (fun _ _=>true) fun i j=>.int (i - j))
def df:P2:=eK (p9 (fun _ j=>mD j) fun i j=>.int (i / j))
def dw:P2:=eK (p9 (fun _ j=>decide (0 < j)) fun i j=>.int (i % j))
def rF:P2:=eK (p9 (fun i j=>decide (0≤j∧j≤1000000∧ -(2 ^ 64) < i∧i < 2 ^ 64)) fun i j=>.int (i ^ j.toNat))
section
variable {X:Cx}
theorem Ca:OpR X (binaryOp .Sub) (B6 (fun _ _=>true) fun i j=>.int (i - j)):=OpR.imp Ew fun x y H Q ⟨i,j,a,b,_,q⟩=>⟨i,j,a,b,q⟩
theorem za:OpR X (binaryOp .FloorDiv) (B6 (fun _ j=>mD j) fun i j=>.int (i / j)):=Gs fun i j _ _ _ _ _ hc q=>by
 obtain⟨h1,h2⟩:=of_decide_eq_true hc
 have h3:j.natAbs.log2 < 9000:=by
  have:j.natAbs < 2 ^ 200:=by omega
  have:=(Nat.log2_lt (n:=j.natAbs) (k:=200) (by omega)).mpr this
  omega
 exact floordiv_int (by omega) (by rw[Int.fdiv_eq_ediv_of_nonneg i (by omega)];exact q) (.inl (PyProof.noPylong_of_log2 h3))
theorem Cb:OpR X (binaryOp .Mod) (B6 (fun _ j=>decide (0 < j)) fun i j=>.int (i % j)):=OpR.imp Ex fun x y H Q ⟨i,j,a,b,c,q⟩=>⟨i,j,a,b,of_decide_eq_true c,q⟩
theorem vM{i j:Int}(c:0≤j∧j≤1000000∧ -(2 ^ 64) < i∧i < 2 ^ 64):Eu i j:=⟨c.1,c.2.1,by omega⟩
theorem Cd:OpR X (binaryOp .Pow) (B6 (fun i j=>decide (0≤j∧j≤1000000∧ -(2 ^ 64) < i∧i < 2 ^ 64)) fun i j=>.int (i ^ j.toNat)):=OpR.imp Ey fun x y H Q ⟨i,j,a,b,c,q⟩=>⟨i,j,a,b,vM (of_decide_eq_true c),q⟩
end
def jt:P2:=fun E s1 s2=>(look E s1).bind fun d1=>(look E s2).bind fun d2=>match d1,d2 with
 |.int i,.int j=>if gm i j then some (.sh (.int (i*j)),E)else none
 |.list a,.int k=>if decide (a.length*k.toNat≤1000000∧ -1000000≤k∧k≤1000000)&&(!jr E s1||bT a)then some (.ow (List.replicate k.toNat a).flatten,E)else none
 |_,_=>none
abbrev DO(K:Frag):R2:=fun x y H Q=>B6 gm (fun i j=>.int (i*j)) x y H Q∨DM K x y H Q
theorem Ce{X:Cx}:OpR X (binaryOp .Mult) (DO X.K):=OpR.or (Gs fun _ _ _ _ _ _ _ hc q=>mul_int q (y_ hc)) B8
theorem Cf{K:Frag}:iu K (DO K) jt:=by
 intro B F A σ H E xs Xs v1 v2 s1 s2 res E' Q fr e q
 obtain⟨d1,e1,e⟩:=Za.mp e
 obtain⟨d2,e2,e⟩:=Za.mp e
 have r1:=(fr.look1 e1).1
 have r2:=(fr.look0 e2).1
 split at e
 ·split at e
  ·rename_i hm
   cases e;cases r1;cases r2
   exact .inl ⟨_,_,rfl,rfl,hm,q _ _ (fr.res2 ⟨rfl,_,rfl,.int _⟩)⟩
  ·cases e
 ·split at e
  ·rename_i hc
   cases e
   simp only[lQ,decide_eq_true_eq]at hc
   obtain⟨a1,u1,x1,q1,i1⟩:=fr.items (k:=1) rfl e1 hc.2
   cases x1;cases r2
   have l1:=i1.len
   exact .inr ⟨_,_,_,rfl,rfl,q1,by omega,by omega,fE (by rw[l1];exact hc.1.1),fun p hp=>q _ _ (fr.res2l (i1.rep _) hp)⟩
  ·cases e
 ·cases e
section
variable {X:Cx} {a b:Expr} {m1 m2:Bool} {f g:aD} {pos:Pos}
theorem aY(ha:EX X a m1 f)(hb:EX X b m2 g):EX X (.BinOp a .Add b pos) (m1||m2) (af aO m2 f g):=j5 B9 B_ ha hb
theorem t8(ha:EX X a m1 f)(hb:EX X b m2 g):EX X (.BinOp a .Sub b pos) (m1||m2) (af t7 m2 f g):=j5 Ca (jM fun _ _=>rfl) ha hb
theorem iv(ha:EX X a m1 f)(hb:EX X b m2 g):EX X (.BinOp a .Mult b pos) (m1||m2) (af jt m2 f g):=j5 Ce Cf ha hb
theorem fg(ha:EX X a m1 f)(hb:EX X b m2 g):EX X (.BinOp a .FloorDiv b pos) (m1||m2) (af df m2 f g):=j5 za (jM fun _ _=>rfl) ha hb
theorem dg(ha:EX X a m1 f)(hb:EX X b m2 g):EX X (.BinOp a .Mod b pos) (m1||m2) (af dw m2 f g):=j5 Cb (jM fun _ _=>rfl) ha hb
theorem zb(ha:EX X a m1 f)(hb:EX X b m2 g):EX X (.BinOp a .Pow b pos) (m1||m2) (af rF m2 f g):=j5 Cd (jM fun _ _=>rfl) ha hb
end
def Iu(K:Frag)(r:V→Hp→VK→Prop)(op:PyData→Option PyData):Prop:=∀(d1 d:PyData) (v1:V) (H:Hp) (Q:VK),op d1=some d→Rp K H v1 d1→∃v,DJ d=some v∧(Q v H→r v1 H Q)
def fM(op:PyData→Option PyData)(f:aD):aD:=fun E=>(f E).bind fun a=>(look a.2 a.1).bind fun d1=>(op d1).map fun d=>(.sh d,a.2)
theorem G3{K:Frag}{r:V→Hp→VK→Prop}{op:PyData→Option PyData}(hp:Iu K r op){m:Bool}{f:aD}{σ:kQ}{H:Hp}{Q:VK}(h:rd K m (fM op f) σ H Q):rd K m f σ H (fun x H1=>r x H1 Q):=by
 obtain⟨B,E,xs,Xs,res,E',fr,c,e,q⟩:=h
 obtain⟨⟨s1,E1⟩,e1,e⟩:=Za.mp e
 obtain⟨d1,e2,e⟩:=Za.mp e
 obtain⟨d,e3,e⟩:=Zab.mp e
 cases e
 refine⟨B,E,xs,Xs,s1,E1,fr,c,e1,fun v1 H1 ⟨F,A,fr1⟩=>?_⟩
 obtain⟨v,hv,k⟩:=hp d1 d v1 H1 Q e3 (fr1.look0 e2).1
 obtain⟨A',fr2⟩:=fr1.pop
 exact k (q v H1 ⟨F,A',fr2.push ⟨rfl,v,rfl,mB hv⟩⟩)
def xb:PyData→Option PyData
 |.int i=>some (.int (-i))
 |_=>none
section
variable {X:Cx} {a b c:Expr} {m1 m2 m3:Bool} {f g h:aD} {pos:Pos}
theorem ET(ha:EX X a m1 f):EX X (.UnaryOp .USub a pos) m1 (fM xb f):=bn (GM EC ha) fun σ H Q h=>G3 (r:=rU fun i=>.int (-i)) (fun d1 d v1 H Q e r=>by
 cases d1 <;> simp[xb]at e
 cases e;cases r
 exact⟨_,rfl,fun q=>⟨_,rfl,q⟩⟩) h
end
def vN(d1 d2:PyData):Option Bool:=match d1,d2 with
 |.int i,.int j=>some (decide (i=j))
 |.str a,.str b=>some (decide (a=b))
 |.bool a,.bool b=>some (decide (a=b))
 |.none,.none=>some true
 |.none,.str _=>some false
 |.str _,.none=>some false
 |d1,d2=>if SeqAt.shaped d1&&SeqAt.shaped d2 then some (PyData.eqv d1 d2)else none
def fU:P2:=eK fun d1 d2=>(vN d1 d2).map fun b=>.bool b
def yE:P2:=eK fun d1 d2=>(vN d1 d2).map fun b=>.bool (!b)
abbrev Iv(K:Frag):R2:=fun x y H Q=>Jk x y H Q∨G1 K x y H Q
abbrev Iw(K:Frag):R2:=fun x y H Q=>Jl x y H Q∨G2 K x y H Q
theorem zc{K:Frag}{H:Hp}{v1 v2:V}{d1 d2:PyData}{b:Bool}(e:vN d1 d2=some b)(r1:Rp K H v1 d1)(r2:Rp K H v2 d2):
  (ED v1 v2=true∧decide (v1=v2)=b)∨(DOf K H v1 d1∧DOf K H v2 d2∧SeqAt.shaped d1=true∧SeqAt.shaped d2=true∧PyData.eqv d1 d2=b):=by
 unfold vN at e
 split at e
 ·cases e;cases r1;cases r2;exact .inl ⟨rfl,by simp⟩
 ·cases e;cases r1;cases r2;exact .inl ⟨rfl,by simp⟩
 ·cases e;cases r1;cases r2;exact .inl ⟨rfl,by simp⟩
 ·cases e;cases r1;cases r2;exact .inl ⟨rfl,rfl⟩
 ·cases e;cases r1;cases r2;exact .inl ⟨rfl,rfl⟩
 ·cases e;cases r1;cases r2;exact .inl ⟨rfl,rfl⟩
 ·split at e
  ·rename_i hs
   cases e
   simp only[lQ]at hs
   exact .inr ⟨r1.dof hs.1,r2.dof hs.2,hs.1,hs.2,rfl⟩
  ·cases e
theorem zd{K:Frag}:iu K (Iv K) fU:=gS fun d1 d2 d v1 v2 H Q e r1 r2=>by
 obtain⟨b,e',rfl⟩:=Zab.mp e
 refine⟨_,rfl,fun q=>?_⟩
 rcases zc e' r1 r2 with⟨a,rfl⟩ |⟨a1,a2,a3,a4,rfl⟩
 ·exact .inl ⟨a,q⟩
 ·exact .inr ⟨_,_,a1,a2,a3,a4,q⟩
theorem EU{K:Frag}:iu K (Iw K) yE:=gS fun d1 d2 d v1 v2 H Q e r1 r2=>by
 obtain⟨b,e',rfl⟩:=Zab.mp e
 refine⟨_,rfl,fun q=>?_⟩
 rcases zc e' r1 r2 with⟨a,rfl⟩ |⟨a1,a2,a3,a4,rfl⟩
 ·exact .inl ⟨a,q⟩
 ·exact .inr ⟨_,_,a1,a2,a3,a4,q⟩
def oi(K:Frag)(r:R2)(op:PyData→PyData→Option PyData):Prop:=∀(d1 d2 d:PyData) (v1 v2:V) (H:Hp) (Q:VK),op d1 d2=some d→Rp K H v1 d1→Rp K H v2 d2→∃v,DJ d=some v∧(Q v H→r v1 v2 H Q)
def rG(neg:Bool):PyData→PyData→Option PyData
 |d,.none=>some (.bool (match d with |.none=> !neg |_=>neg))
 |_,_=>none
theorem Cg{K:Frag}:oi K (fun x y H Q=>y=.non∧Q (.bl (!decide (x=.non))) H) (rG true):=fun d1 d2 d v1 v2 H Q e r1 r2=>by
 unfold rG at e
 split at e
 ·cases e;cases r2
  refine⟨_,rfl,fun q=>⟨rfl,?_⟩⟩
  cases r1 <;> exact q
 ·cases e
def eL(op op':PyData→PyData→Option PyData)(m2 m3:Bool)(f g h:aD):aD:=fun E=>(f E).bind fun a=>if (m2||m3)&&a.1.isBr then none else (g a.2).bind fun b=>if m3&&b.1.isBr then none else
 (look b.2 a.1).bind fun d1=>(look b.2 b.1).bind fun d2=>match op d1 d2 with
  |some (.bool true)=>(h b.2).bind fun c=>(look c.2 b.1).bind fun d2=>(look c.2 c.1).bind fun d3=>(op' d2 d3).map fun d=>(.sh d,c.2)
  |some (.bool false)=>some (.sh (.bool false),b.2)
  |_=>none
section
variable {X:Cx} {a b c:Expr} {m1 m2 m3:Bool} {f g h:aD} {pos:Pos}
theorem ze(hu:X.A.units+64 < cLine)(ha:EX X a m1 f)(hb:EX X b m2 g):EX X (.Compare a [.Eq] [b] pos) (m1||m2) (af fU m2 f g):=y8 (OpR.or DE (yZ hu)) zd ha hb (kM _)
theorem dZ(hu:X.A.units+64 < cLine)(ha:EX X a m1 f)(hb:EX X b m2 g):TX X (.Compare a [.Eq] [b] pos) (m1||m2) (cf (af fU m2 f g)):=jL (OpR.or DE (yZ hu)) zd ha hb (kM _)
theorem vO(hu:X.A.units+64 < cLine)(ha:EX X a m1 f)(hb:EX X b m2 g):TX X (.Compare a [.NotEq] [b] pos) (m1||m2) (cf (af yE m2 f g)):=jL (OpR.or GN (EM hu)) EU ha hb (kM _)
theorem vP(ha:EX X a m1 f)(hb:EX X b m2 g):TX X (.Compare a [.IsNot] [b] pos) (m1||m2) (cf (af (eK (rG true)) m2 f g)):=jL BP (gS Cg) ha hb (kM _)
theorem rH{K:Frag}{r r':R2}{op op':PyData→PyData→Option PyData}(k:oi K r op)(k':oi K r' op'){σ:kQ}{H:Hp}{Q:VK}(z:rd K (m1||(m2||m3)) (eL op op' m2 m3 f g h) σ H Q):tY r r' (rd K m1 f) (rd K m2 g) (rd K m3 h) σ H Q:=by
 obtain⟨B,E,xs,Xs,res,E',fr,cl,e,q⟩:=z
 obtain⟨⟨s1,E1⟩,e1,e⟩:=Za.mp e
 by_cases hb:((m2||m3)&&s1.isBr)=true
 ·rw[if_pos hb]at e;cases e
 rw[if_neg hb]at e
 obtain⟨⟨s2,E2⟩,e2,e⟩:=Za.mp e
 by_cases hb2:(m3&&s2.isBr)=true
 ·rw[if_pos hb2]at e;cases e
 rw[if_neg hb2]at e
 obtain⟨d1,l1,e⟩:=Za.mp e
 obtain⟨d2,l2,e⟩:=Za.mp e
 have n1:(m2||m3)=true→s1.isBr=false:=fun z=>by
  cases hs:s1.isBr with
  |false=>rfl
  |true=>exact absurd (by rw[z,hs];rfl) hb
 have n2:m3=true→s2.isBr=false:=fun z=>by
  cases hs:s2.isBr with
  |false=>rfl
  |true=>exact absurd (by rw[z,hs];rfl) hb2
 refine⟨B,E,xs,Xs,s1,E1,fr,fun z=>cl (by simp[z]),e1,fun v1 H1 fr1=>?_⟩
 refine⟨B,E1,v1::xs,s1::Xs,s2,E2,fr1,fun z=>Calm.cons (cl (by simp[z])) (n1 (by simp[z])),e2,fun v2 H2 ⟨F,A,fr2⟩=>?_⟩
 cases ho:op d1 d2 with
 |none=>rw[ho]at e;cases e
 |some d=>
  rw[ho]at e
  obtain⟨v,hv,kk⟩:=k d1 d2 d v1 v2 H2 (fun z H3=>∃k,z=.bl k∧(if k=true then rd K m3 h σ H3 fun w' H4=>r' v2 w' H4 Q else Q (.bl false) H3)) ho (fr2.look1 l1).1 (fr2.look0 l2).1
  cases d with
  |bool t=>
   cases hv
   refine kk ⟨t,rfl,?_⟩
   cases t with
   |true=>
    rw[if_pos rfl]
    obtain⟨⟨s3,E3⟩,e3,e⟩:=Za.mp e
    obtain⟨d2',l2',e⟩:=Za.mp e
    obtain⟨d3,l3,e⟩:=Za.mp e
    obtain⟨d,ho',e⟩:=Zab.mp e
    cases e
    refine⟨B,E2,v2::v1::xs,s2::s1::Xs,s3,E3,⟨F,A,fr2⟩,fun z=>Calm.cons (Calm.cons (cl (by simp[z])) (n1 (by simp[z]))) (n2 z),e3,fun v3 H3 ⟨F3,A3,fr3⟩=>?_⟩
    obtain⟨v,hv,kk⟩:=k' d2' d3 d v2 v3 H3 Q ho' (fr3.look1 l2').1 (fr3.look0 l3).1
    obtain⟨A4,fr4⟩:=fr3.pop
    exact kk (q v H3 (fr4.res2 ⟨rfl,v,rfl,mB hv⟩))
   |false=>
    rw[if_neg (by decide)]
    cases e
    exact q _ _ (fr2.res2 ⟨rfl,_,rfl,.bl _⟩)
  |none=>cases e
  |int i=>cases e
  |str x=>cases e
  |list xs=>cases e
  |tuple xs=>cases e
  |dict kvs=>cases e
theorem zf{o1 o2:CmpOp}{r r':R2}{op op':PyData→PyData→Option PyData}(ho:OpR X (compareOp o1) r)(ho':OpR X (compareOp o2) r')(k:oi X.K r op)(k':oi X.K r' op')(ha:EX X a m1 f)(hb:EX X b m2 g)(hc:EX X c m3 h)
  (hm:lastMarks [o1,o2] [b,c]=false:=by with_unfolding_all rfl):EX X (.Compare a [o1,o2] [b,c] pos) (m1||(m2||m3)) (eL op op' m2 m3 f g h):=bn (yQ ho ho' ha hb hc hm) fun _ _ _ z=>rH k k' z
end
end PL
namespace PL
open PySem L2 Nh
def mF(f g:aD):aD:=fun E=>(f E).bind fun a=>match a.1 with
 |.sh (.bool true)=>g a.2
 |.sh (.bool false)=>some (.sh (.bool false),a.2)
 |_=>none
def lA(f g:ig):ig:=fun E=>(f E).bind fun a=>if a.1 then g a.2 else some (false,a.2)
def e_(f g:ig):ig:=fun E=>(f E).bind fun a=>if a.1 then some (true,a.2)else g a.2
def aJ(f:ig):ig:=fun E=>(f E).map fun a=>(!a.1,a.2)
def gE:PyData→Option Bool
 |.none=>some false
 |.bool b=>some b
 |.int i=>some (i != 0)
 |.str x=>if x.length≤1000000 then some ((x.length:Int) != 0)else none
 |.list xs=>some (!xs.isEmpty)
 |.tuple xs=>some (!xs.isEmpty)
 |.dict _=>none
def bL(f:aD):ig:=fun E=>(f E).bind fun a=>match a.1 with
 |.al i=>match a.2[i]? with
  |some (.od kvs)=>some (!kvs.isEmpty,a.2)
  |some s=>(s.val.bind gE).map fun b=>(b,a.2)
  |none=>none
 |s=>(s.val.bind gE).map fun b=>(b,a.2)
section
variable {X:Cx} {a b c:Expr} {aQ:List Expr} {m1 m2 m3:Bool} {f g h:aD} {t u:ig} {pos:Pos} {K:Frag}
theorem zg{op}(h:EX X a m1 f):EX X (.BoolOp op [a] pos) m1 f:=Eh h
theorem t9(ha:EX X a m1 f)(hb:EX X (.BoolOp .And (b::aQ) pos) m2 g):EX X (.BoolOp .And (a::b::aQ) pos) (m1||m2) (mF f g):=by
 refine bn (Ek ha hb) fun σ H Q z=>?_
 obtain⟨B,E,xs,Xs,res,E',fr,cl,e,q⟩:=z
 obtain⟨⟨s1,E1⟩,e1,e⟩:=Za.mp e
 refine⟨B,E,xs,Xs,s1,E1,fr,fun z=>cl (by simp[z]),e1,fun v1 H1 ⟨F,A,fr1⟩=>?_⟩
 simp only at e
 split at e
 ·obtain⟨r,_⟩:=fr1.look0 (d:=.bool true) rfl
  cases r
  obtain⟨A',fr2⟩:=fr1.pop
  exact⟨true,rfl,(if_pos rfl).mpr ⟨B,E1,xs,Xs,res,E',⟨F,A',fr2⟩,fun z=>cl (by simp[z]),e,q⟩⟩
 ·cases e
  obtain⟨r,_⟩:=fr1.look0 (d:=.bool false) rfl
  cases r
  exact⟨false,rfl,(if_neg (by decide)).mpr (q _ _ ⟨F,A,fr1⟩)⟩
 ·cases e
theorem vQ(ha:TX X a m1 t):WX X (.BoolOp .And [a] pos) m1 t:=BG ha
theorem iw(ha:TX X a m1 t):WX X (.BoolOp .Or [a] pos) m1 t:=Ee ha
theorem zh(ha:TX X a m1 t)(hb:WX X (.BoolOp .And (b::aQ) pos) m2 u):WX X (.BoolOp .And (a::b::aQ) pos) (m1||m2) (lA t u):=by
 refine y7 (Ef ha hb) fun σ H Q z=>?_
 obtain⟨B,E,xs,Xs,res,E',fr,cl,e,q⟩:=z
 obtain⟨⟨b1,E1⟩,e1,e⟩:=Za.mp e
 refine⟨B,E,xs,Xs,b1,E1,fr,fun z=>cl (by simp[z]),e1,fun H1 fr1=>?_⟩
 cases b1 with
 |true=>exact(if_pos rfl).mpr ⟨B,E1,xs,Xs,res,E',fr1,fun z=>cl (by simp[z]),e,q⟩
 |false=>cases e;exact(if_neg (by decide)).mpr (q _ fr1)
theorem lB(ha:TX X a m1 t)(hb:WX X (.BoolOp .Or (b::aQ) pos) m2 u):WX X (.BoolOp .Or (a::b::aQ) pos) (m1||m2) (e_ t u):=by
 refine y7 (GC ha hb) fun σ H Q z=>?_
 obtain⟨B,E,xs,Xs,res,E',fr,cl,e,q⟩:=z
 obtain⟨⟨b1,E1⟩,e1,e⟩:=Za.mp e
 refine⟨B,E,xs,Xs,b1,E1,fr,fun z=>cl (by simp[z]),e1,fun H1 fr1=>?_⟩
 cases b1 with
 |true=>cases e;exact(if_pos rfl).mpr (q _ fr1)
 |false=>exact(if_neg (by decide)).mpr ⟨B,E1,xs,Xs,res,E',fr1,fun z=>cl (by simp[z]),e,q⟩
theorem oj(h:WX X a m1 t):TX X a m1 t:=PW.pt h
theorem dh(ha:TX X a m1 t):TX X (.UnaryOp .Not a pos) m1 (aJ t):=by
 refine pY (Eg ha) fun σ H Q z=>?_
 obtain⟨B,E,xs,Xs,res,E',fr,cl,e,q⟩:=z
 obtain⟨⟨b1,E1⟩,e1,e⟩:=Zab.mp e
 cases e
 exact⟨B,E,xs,Xs,b1,E1,fr,cl,e1,fun H1 fr1=>q _ fr1⟩
theorem EV{H:Hp}{v:V}{d:PyData}{b:Bool}(r:Rp K H v d)(e:gE d=some b):yS K v H b:=by
 cases r with
 |non=>cases e;rfl
 |bl b=>cases e;rfl
 |int i=>cases e;rfl
 |str x=>
  simp only[gE]at e
  split at e
  ·rename_i hl
   cases e
   exact⟨fE hl,rfl⟩
  ·cases e
 |lst h r=>cases e;exact .inl ⟨_,h,by cases r <;> rfl⟩
 |tup h r=>cases e;exact .inr (.inl ⟨_,h,by cases r <;> rfl⟩)
 |dct h r=>cases e
 |exc h r=>cases e
theorem di(ha:EX X a m1 f)(he:∀whole,isTrue a X.env whole=(do let v ←whole;standAt a.pos;holding [v] (truthy v)):=by exact fun _=>rfl):TX X a m1 (bL f):=by
 refine pY (yT ha he) fun σ H Q z=>?_
 obtain⟨B,E,xs,Xs,res,E',fr,cl,e,q⟩:=z
 obtain⟨⟨s,E1⟩,e1,e⟩:=Za.mp e
 refine⟨B,E,xs,Xs,s,E1,fr,cl,e1,fun v1 H1 ⟨F,A,fr1⟩=>?_⟩
 have key:∀d,look E1 s=some d→(gE d).map (fun b=>(b,E1))=some (res,E')→∃k,yS X.K v1 H1 k∧Q k H1:=fun d l e=>by
  obtain⟨b,e',z⟩:=Zab.mp e
  cases z
  obtain⟨A',fr2⟩:=fr1.pop
  exact⟨_,EV (fr1.look0 l).1 e',q _ ⟨F,A',fr2⟩⟩
 have kv:(s.val.bind gE).map (fun b=>(b,E1))=some (res,E')→(∀i,s≠ .al i)→∃k,yS X.K v1 H1 k∧Q k H1:=fun e na=>by
  obtain⟨b,e',z⟩:=Zab.mp e
  obtain⟨d,e1,e2⟩:=Za.mp e'
  refine key d ?_ (by rw[e2];exact congrArg some z)
  cases s <;> first |exact e1 |exact absurd rfl (na _)
 simp only at e
 split at e
 ·rename_i i
  split at e
  ·rename_i kvs ei
   cases e
   obtain⟨v',A1,ev,rfl,w,ew,hw⟩:=fr1.ext (k:=0) rfl
   cases ev;cases ew
   obtain⟨o,A1,eo,l,us,A2,rfl,_,hl,r⟩:=fr1.var ei
   rw[hw]at eo
   cases eo
   obtain⟨A',fr2⟩:=fr1.pop
   exact⟨_,.inr (.inr ⟨_,hl,by cases us <;> cases kvs <;> first |rfl |exact False.elim r⟩),q _ ⟨F,A',fr2⟩⟩
  ·rename_i s' _ ei
   obtain⟨b,e',z⟩:=Zab.mp e
   obtain⟨d,e1,e2⟩:=Za.mp e'
   exact key d (by simp[look,ei,e1]) (by rw[e2];exact congrArg some z)
  ·cases e
 ·rename_i na
  exact kv e na
end
theorem zi{X:Cx}{a b c:Expr}{m1 m2 m3:Bool}{f g h:aD}{pos:Pos}{o1 o2:CmpOp}{r r':R2}{op op':PyData→PyData→Option PyData}(ho:OpR X (compareOp o1) r)(ho':OpR X (compareOp o2) r')(k:oi X.K r op)(k':oi X.K r' op')(ha:EX X a m1 f)(hb:EX X b m2 g)(hc:EX X c m3 h)
  (hm:lastMarks [o1,o2] [b,c]=false:=by with_unfolding_all rfl):TX X (.Compare a [o1,o2] [b,c] pos) (m1||(m2||m3)) (cf (eL op op' m2 m3 f g h)):=pY (yR ho ho' ha hb hc hm) fun _ _ _ z=>rH k k' (y9 z)
def ao:j0:=fun E=>some ([],E)
def ag(m2:Bool)(f:aD)(g:j0):j0:=fun E=>(f E).bind fun a=>if m2&&a.1.isBr then none else (g a.2).map fun b=>(a.1::b.1,b.2)
def bt:ij:=fun E=>some ([],E)
def aq(f:aD)(g:ij):ij:=fun E=>(f E).bind fun a=>(frz a.2 a.1).bind fun b=>(g b.2).map fun c=>(b.1::c.1,c.2)
def kR(f:ij):aD:=fun E=>(f E).bind fun a=>if a.1.length≤1000000 then some (.sh (.tuple a.1),a.2)else none
def bF(f:ij):aD:=fun E=>(f E).bind fun a=>if a.1.length≤1000000 then some (.ow a.1,a.2)else none
section
variable {X:Cx} {e:Expr} {es:List Expr} {m1 m2:Bool} {f:aD} {g:j0} {d:ij} {pos:Pos} {K:Frag}
theorem au:AX X [] false ao:=by
 refine pZ dG fun σ H Q z=>?_
 obtain⟨B,E,xs,Xs,res,E',fr,cl,e,q⟩:=z
 cases e
 exact q [] H rfl fr
theorem ai(ha:EX X e m1 f)(hr:AX X es m2 g)(hs:starEach (e::es) X.env=(false,eval e X.env)::starEach es X.env:=by rfl):AX X (e::es) (m1||m2) (ag m2 f g):=by
 refine pZ (bZ ha hr hs) fun σ H Q z=>?_
 obtain⟨B,E,xs,Xs,res,E',fr,cl,e,q⟩:=z
 obtain⟨⟨s,E1⟩,e1,e⟩:=Za.mp e
 by_cases hb:(m2&&s.isBr)=true
 ·rw[if_pos hb]at e;cases e
 rw[if_neg hb]at e
 obtain⟨⟨rs,E2⟩,e2,e⟩:=Zab.mp e
 cases e
 refine⟨B,E,xs,Xs,s,E1,fr,fun z=>cl (by simp[z]),e1,fun v1 H1 fr1=>?_⟩
 refine⟨B,E1,v1::xs,s::Xs,rs,E2,fr1,fun z=>Calm.cons (cl (by simp[z])) ?_,e2,fun vs H2 hl fr2=>?_⟩
 ·cases hs:s.isBr with
  |false=>rfl
  |true=>exact absurd (by simp[z,hs]) hb
 ·exact q (v1::vs) H2 (by simp[hl]) (by simpa using fr2)
theorem zj:DX X [] false bt:=by
 refine pZ dG fun σ H Q z=>?_
 obtain⟨B,E,xs,Xs,res,E',fr,cl,e,q⟩:=z
 cases e
 exact q [] H rfl fr
theorem vR(ha:EX X e m1 f)(hr:DX X es m2 d)(hs:starEach (e::es) X.env=(false,eval e X.env)::starEach es X.env:=by rfl):DX X (e::es) (m1||m2) (aq f d):=by
 refine pZ (bZ ha hr hs) fun σ H Q z=>?_
 obtain⟨B,E,xs,Xs,res,E',fr,cl,e,q⟩:=z
 obtain⟨⟨s,E1⟩,e1,e⟩:=Za.mp e
 obtain⟨⟨d1,E2⟩,e2,e⟩:=Za.mp e
 obtain⟨⟨rs,E3⟩,e3,e⟩:=Zab.mp e
 cases e
 refine⟨B,E,xs,Xs,s,E1,fr,fun z=>cl (by simp[z]),e1,fun v1 H1 ⟨F,A,fr1⟩=>?_⟩
 obtain⟨F2,A2,fr2⟩:=fr1.frz0 e2
 refine⟨B,E2,v1::xs,.sh d1::Xs,rs,E3,⟨F2,A2,fr2⟩,fun z=>Calm.cons (cl (by simp[z])) rfl,e3,fun vs H2 hl fr2=>?_⟩
 exact q (v1::vs) H2 (by simp[hl]) (by simpa using fr2)
theorem FrF.shsR{B F:Hp}{σ:kQ}{H:Hp}{E:List Sl}{xs:List V}{Xs:List Sl}:∀{us:List V} {es:List PyData} {A:List Addr},us.length=es.length→FrF K B F A σ H E (us++xs) (es.map .sh++Xs)→RpA K F us es∧∃A',FrF K B F A' σ H E xs Xs
 |[],[],A,_,h=>⟨.nil,A,h⟩
 |u::us,e::es,A,hl,h=>by
  obtain⟨v,A1,ev,rfl,w,ew,r⟩:=h.ext (k:=0) rfl
  cases ev;cases ew
  obtain⟨A',h'⟩:=FrF.pop (xs:=us++xs) (Xs:=es.map .sh++Xs) h
  obtain⟨r',q⟩:=FrF.shsR (by simpa using hl) h'
  exact⟨.cons r r',q⟩
 |[],_::_,_,e,_=>by cases e
 |_::_,[],_,e,_=>by cases e
theorem FrF.shs{B F:Hp}{σ:kQ}{H:Hp}{E:List Sl}{xs:List V}{Xs:List Sl}{us:List V}{es:List PyData}{A:List Addr}(hl:us.length=es.length)(h:FrF K B F A σ H E (us.reverse++xs) (es.reverse.map .sh++Xs)):RpA K F us es∧∃A',FrF K B F A' σ H E xs Xs:=by
 obtain⟨r,q⟩:=FrF.shsR (by simpa using hl) h
 have:=r.rev
 rw[List.reverse_reverse,List.reverse_reverse]at this
 exact⟨this,q⟩
theorem EW{x1}(h:DX X es m1 d):EX X (.Tuple es x1 pos) m1 (kR d):=by
 refine bn (EF h) fun σ H Q z=>?_
 obtain⟨B,E,xs,Xs,res,E',fr,cl,e,q⟩:=z
 obtain⟨⟨ds,E1⟩,e1,e⟩:=Za.mp e
 simp only at e
 split at e
 ·rename_i hl
  cases e
  refine⟨B,E,xs,Xs,ds,_,fr,cl,e1,fun vs H1 hv ⟨F,A,fr1⟩=>?_⟩
  obtain⟨r,A',fr2⟩:=fr1.shs hv
  exact⟨fE (by omega),fun p hp=>q _ _ ⟨_,_,fr2.newt r hp⟩⟩
 ·cases e
theorem zk(h:DX X es m1 d):EX X (.List es pos) m1 (bF d):=by
 refine bn (EG h) fun σ H Q z=>?_
 obtain⟨B,E,xs,Xs,res,E',fr,cl,e,q⟩:=z
 obtain⟨⟨ds,E1⟩,e1,e⟩:=Za.mp e
 simp only at e
 split at e
 ·rename_i hl
  cases e
  refine⟨B,E,xs,Xs,ds,_,fr,cl,e1,fun vs H1 hv ⟨F,A,fr1⟩=>?_⟩
  obtain⟨r,A',fr2⟩:=fr1.shs hv
  exact⟨fE (by omega),fun p hp=>q _ _ ⟨_,_,fr2.newl r hp⟩⟩
 ·cases e
end
def rJ(ds:List PyData)(lo hi:Option Int):List PyData:=(ds.drop (HT.lR ds.length 0 lo)).take (HT.lR ds.length ds.length hi - HT.lR ds.length 0 lo)
def l5:P2:=fun E s1 s2=>(look E s1).bind fun d1=>(look E s2).bind fun d2=>match d2 with
 |.int i=>match d1 with
  |.list ds=>(atI ds i).map fun d=>(if jr E s1&& !du d then .br d else .sh d,E)
  |.tuple ds=>(atI ds i).map fun d=>(if jr E s1&& !du d then .br d else .sh d,E)
  |.str z=>if z.length≤1000000 then (atI z.cps.toList i).map fun c=>(.sh (.str ⟨#[c]⟩),E)else none
  |_=>none
 |_=>none
section
variable {K:Frag} {H:Hp}
theorem RpA.atI{vs:List V}{ds:List PyData}{i:Int}{d:PyData}(h:RpA K H vs ds)(e:L2.atI ds i=some d):∃v,L2.atI vs i=some v∧Rp K H v d:=by
 unfold L2.atI at e ⊢
 obtain⟨j,e1,e2⟩:=Za.mp e
 obtain⟨v,ev,r⟩:=h.get e2
 exact⟨v,by rw[h.len,e1];exact ev,r⟩
theorem FrF.item{B F:Hp}{A:List Addr}{σ:kQ}{E:List Sl}{xs:List V}{Xs:List Sl}{v1 v2 v:V}{s1 s2:Sl}{d:PyData}(fr:FrF K B F A σ H E (v2::v1::xs) (s2::s1::Xs))(r:Rp K H v d)(f:jr E s1=false→Rp K F v d):
  Frm K B σ H E (v::xs) ((if jr E s1&& !du d then .br d else .sh d)::Xs):=by
 by_cases hc:(jr E s1&& !du d)=true
 ·rw[if_pos hc]
  exact fr.res2 ⟨rfl,v,rfl,r⟩
 ·rw[if_neg hc]
  refine fr.res2 ⟨rfl,v,rfl,?_⟩
  cases hh:jr E s1 with
  |false=>exact f hh
  |true=>
   rw[hh]at hc
   exact fr.cold r (by simpa using hc)
theorem EY:iu K (Jn K) l5:=by
 intro B F A σ H E xs Xs v1 v2 s1 s2 res E' Q fr e q
 obtain⟨d1,e1,e⟩:=Za.mp e
 obtain⟨d2,e2,e⟩:=Za.mp e
 obtain⟨r1,f1⟩:=fr.look1 e1
 have r2:=(fr.look0 e2).1
 split at e
 ·cases r2
  split at e
  ·obtain⟨d,ed,e⟩:=Zab.mp e
   cases e
   cases hh:jr E s1 with
   |false=>
    obtain⟨a,vs,rfl,h1,h2⟩:=f1 hh
    obtain⟨v,ev,rv⟩:=h2.atI ed
    have z:=fr.item (rv.same fr.fh) fun _=>rv
    rw[hh]at z q
    exact .inl ⟨_,_,_,v,rfl,rfl,h1,ev,q _ _ z⟩
   |true=>
    cases r1 with
    |lst h1 h2=>
     obtain⟨v,ev,rv⟩:=h2.atI ed
     have z:=fr.item rv fun h=>absurd (hh.symm.trans h) (by decide)
     rw[hh]at z q
     exact .inl ⟨_,_,_,v,rfl,rfl,h1,ev,q _ _ z⟩
  ·obtain⟨d,ed,e⟩:=Zab.mp e
   cases e
   cases hh:jr E s1 with
   |false=>
    have h0:Rp K F v1 _:=f1 hh
    cases h0 with
    |tup h1 h2=>
     obtain⟨v,ev,rv⟩:=h2.atI ed
     have z:=fr.item (rv.same fr.fh) fun _=>rv
     rw[hh]at z q
     exact .inr (.inl ⟨_,_,_,v,rfl,rfl,fr.fh.tup h1,ev,q _ _ z⟩)
   |true=>
    cases r1 with
    |tup h1 h2=>
     obtain⟨v,ev,rv⟩:=h2.atI ed
     have z:=fr.item rv fun h=>absurd (hh.symm.trans h) (by decide)
     rw[hh]at z q
     exact .inr (.inl ⟨_,_,_,v,rfl,rfl,h1,ev,q _ _ z⟩)
  ·split at e
   ·rename_i hl
    obtain⟨c,ec,e⟩:=Zab.mp e
    cases e;cases r1
    exact .inr (.inr ⟨_,_,c,rfl,rfl,fE hl,ec,q _ _ (fr.res2 ⟨rfl,_,rfl,.str _⟩)⟩)
   ·cases e
  ·cases e
 ·cases e
end
end PL
namespace L2
open PySem PySem.Spec PyProof.Rows
section
variable {κ:Type} [DecidableEq κ]
def rK(kvs:List (κ×V))(k:κ):Option V:=(kvs.find? fun kv=>decide (kv.1=k)).map (·.2)
def lT(kvs:List (κ×V))(k:κ)(v:V):List (κ×V):=
 if (kvs.any fun kv=>decide (kv.1=k))=true then kvs.map (fun kv=>if kv.1=k then (kv.1,v)else kv)else kvs++[(k,v)]
theorem zl{p:κ×V}{r:List (κ×V)}{k:κ}(e:p.1=k):rK (p::r) k=some p.2:=by simp[rK,List.find?_cons,e]
theorem rL{p:κ×V}{r:List (κ×V)}{k:κ}(e:¬p.1=k):rK (p::r) k=rK r k:=by simp[rK,List.find?_cons,e]
theorem rM(k:κ):∀kvs:List (κ×V),(kvs.any fun kv=>decide (kv.1=k))=(rK kvs k).isSome
 |[]=>rfl
 |p::r=>by
  rw[List.any_cons]
  by_cases e:p.1=k
  ·simp only[zl e,decide_eq_true e,Bool.true_or,Option.isSome_some]
  ·rw[rL e,decide_eq_false e,Bool.false_or];exact rM k r
theorem rN(kvs:List (κ×V))(k:κ)(v:V):(lT kvs k v).length≤kvs.length+1:=by
 unfold lT
 split
 ·rw[dY];omega
 ·rw[wM,List.length_cons,List.length_nil];omega
theorem zn{kvs:List (κ×V)}{k:κ}(v:V)(h:rK kvs k=none):lT kvs k v=kvs++[(k,v)]:=by
 unfold lT
 rw[rM,h]
 exact if_neg (by decide)
theorem KV.any{kvs:List (κ×V)}{vs:List (κ×Value)}(r:KV kvs vs)(k:κ):(kvs.any fun kv=>decide (kv.1=k))=vs.any fun kv=>decide (kv.1=k):=by
 unfold KV at r
 induction r with
 |nil=>rfl
 |cons h t ih=>rw[List.any_cons,List.any_cons,ih,h.1]
theorem KV.repl{kvs:List (κ×V)}{vs:List (κ×Value)}(r:KV kvs vs)(k:κ){y:V}{u:Value}(ry:RelV y u):
  KV (kvs.map fun kv=>if kv.1=k then (kv.1,y)else kv) (vs.map fun kv=>if kv.1=k then (kv.1,u)else kv):=by
 unfold KV at r ⊢
 induction r with
 |nil=>exact .nil
 | @cons p q ps qs h t ih=>
  rw[dQ,dQ]
  refine .cons ?_ ih
  obtain⟨h1,h2⟩:=h
  by_cases e:p.1=k
  ·rw[if_pos e,if_pos (h1.symm.trans e)];exact⟨h1,ry⟩
  ·rw[if_neg e,if_neg (fun z=>e (h1.trans z))];exact⟨h1,h2⟩
theorem KV.put{kvs:List (κ×V)}{vs:List (κ×Value)}(r:KV kvs vs)(k:κ){y:V}{u:Value}(ry:RelV y u):KV (lT kvs k y) (stored vs k u):=by
 unfold lT stored
 rw[r.any k]
 by_cases e:(vs.any fun kv=>decide (kv.1=k))=true
 ·rw[if_pos e,if_pos e];exact r.repl k ry
 ·rw[if_neg e,if_neg e];exact Paired.snoc r ⟨rfl,ry⟩
end
theorem G4{P:Program}{w:World}{k:eZ}{u:Value}(r:RelV (kV k) u):(eG P w).is k u=true:=by
 cases k with
 |inl i=>obtain⟨t,e⟩:=(show ∃t,u=Value.int i t from r);subst e;exact rj P w i t
 |inr x=>obtain⟨t,e⟩:=(show ∃t,u=Value.str x t from r);subst e;exact rl P w x t
section
variable {P:Program} {w:World} {H:Hp} {h:Heap} {a:Addr}
theorem G5{u:HO}(ok:HOk P w H h)(e:Rd H a u):ObjOk P w H h a u:=e.ok ok
theorem DP{kvs:List (eZ×V)}(ok:HOk P w H h)(e:Rd H a (.dK kvs)):kvs.length≤sizeLine∧(a == sysModules)=false∧∃vs,KV kvs vs∧h.DictOf (eG P w) a vs:=
 show ObjOk P w H h a (.dK kvs)from G5 ok e
theorem G6{kvs:List (eZ×V)}(ok:HOk P w H h)(e:H a=some (.dK kvs)):kvs.length≤sizeLine∧(a == sysModules)=false∧∃vs,KV kvs vs∧h.DictOf (eG P w) a vs:=DP ok (.inl e)
end
section
variable {X:Cx} {pins:List (Addr×Obj)} {σ:St} {H:Hp} {s:Shared} {a:Addr} {y v:V} {u r:Value} {o:Option V} {A:Around} {E:Value→Shared→Prop}
theorem Inv.big(I:Inv X pins σ H s):sysModules < s.heap.objs.size:=by
 have h:mainGlobals < s.heap.objs.size:=(I.mod.glob.keeps I.bk).lt
 exact Nat.lt_trans (by decide) h
theorem Ch{h':Heap}{t':Nat}{ob:HO}(I:Inv X pins σ H s)(mu:GA (H a))(hs:Heap.SameBut a s.heap h')(he:∃q,h'.get? a=some q)(new:ObjOk X.prog X.w (upd H a ob) h' a ob):
  Inv X pins σ (upd H a ob) {s with heap:=h',toks:=t'}:=
 I.write (x:=a) (e:=a) mu (.inl rfl) (fun b q hb z=>(hs.2 b hb).trans z) he new
theorem EZ{P:Program}{w:World}{H':Hp}{h':Heap}{kvs:List (eZ×V)}{vs:List (eZ×Value)}(z:kvs.length≤sizeLine)(hd:(a == sysModules)=false)(rel:KV kvs vs)(dd:h'.DictOf (eG P w) a vs):
  ObjOk P w H' h' a (.dK kvs):=⟨z,hd,vs,rel,dd⟩
end
theorem zo{P:Program}{w:World}{H:Hp}(h:Heap)(hb:sysModules < h.objs.size):ObjOk P w H (h.push {cls:=.type "dict",data:=.dict #[]}) h.objs.size (.dK []):=
 ⟨Nat.zero_le _,beq_eq_false_iff_ne.mpr (Ne.symm (eF hb)),[],.nil,Heap.DictOf.new h⟩
def p_:List (TE×TE)→St→Hp→(List (V×V)→Hp→Prop)→Prop
 |[],_,H,Q=>Q [] H
 |(tk,tv)::r,σ,H,Q=>tk σ H fun x H1=>tv σ H1 fun y H2=>p_ r σ H2 fun ps H3=>Q ((x,y)::ps) H3
abbrev VV:List (V×V)→List (Value×Value)→Prop:=Paired fun p q=>RelV p.1 q.1∧RelV p.2 q.2
def G7(X:Cx)(pos:Pos)(keys:List (Option Expr))(values:List Expr)(trs:List (TE×TE)):Prop:=
 ∀(pins:List (Addr×Obj)) (s:Shared) (σ:St) (H:Hp) (Q:List (V×V)→Hp→Prop),Inv X pins σ H s→p_ trs σ H Q→
  wpAny (model X.prog X.w) X.A (evalPairs (pairTrees keys values X.env pos)) (fun vs s'=>∃ps H',Inv X pins σ H' s'∧VV ps vs∧Q ps H') X.xe s
theorem Ci{X:Cx}{pos:Pos}:G7 X pos [] [] []:=fun pins s σ H Q I h=>pairTrees_nil_walk ⟨[],H,I,.nil,h⟩
theorem zp{X:Cx}{pos:Pos}{k v:Expr}{ks:List (Option Expr)}{vs:List Expr}{tk tv:TE}{trs:List (TE×TE)}(hk:PE X k tk)(hv:PE X v tv)(hr:G7 X pos ks vs trs):
  G7 X pos (some k::ks) (v::vs) ((tk,tv)::trs):=fun pins s σ H Q I h=>
 pairTrees_cons_walk (bR (hk pins s σ H _ I h) fun u s1 ⟨x,H1,I1,rx,q1⟩=>bR (hv pins s1 σ H1 _ I1 q1) fun w2 s2 ⟨y,H2,I2,ry,q2⟩=>
  bR (hr pins s2 σ H2 _ I2 q2) fun ws s3 ⟨ps,H3,I3,rel,q3⟩=>⟨(x,y)::ps,H3,I3,.cons ⟨rx,ry⟩ rel,q3⟩)
def iy(kvs more:List (eZ×V)):List (eZ×V):=more.foldl (fun acc kv=>lT acc kv.1 kv.2) kvs
theorem KV.merge:∀{more:List (eZ×V)} {rs:List (eZ×Value)} {kvs:List (eZ×V)} {vs:List (eZ×Value)},KV more rs→KV kvs vs→KV (iy kvs more) (merged vs rs):=by
 intro more rs kvs vs r
 unfold KV at r
 induction r generalizing kvs vs with
 |nil=>intro q;exact q
 | @cons p q ps qs h t ih=>
  intro r0
  have e:KV (lT kvs p.1 p.2) (stored vs q.1 q.2):=by
   have:=r0.put p.1 h.2
   rw[←h.1];exact this
  exact ih e
theorem jy:∀(more kvs:List (eZ×V)),(iy kvs more).length≤kvs.length+more.length
 |[],kvs=>by show kvs.length≤kvs.length+0;omega
 |p::r,kvs=>by
  have h1:=jy r (lT kvs p.1 p.2)
  have h2:=rN kvs p.1 p.2
  show(iy (lT kvs p.1 p.2) r).length≤_
  rw[List.length_cons];omega
theorem mG{P:Program}{w:World}:∀{kvs:List (eZ×V)} {ws:List (Value×Value)},VV (kvs.map fun kv=>(kV kv.1,kv.2)) ws→∃rs,Carries (eG P w) ws rs∧KV kvs rs
 |[],_,r=>by rw[oa]at r;cases r;exact⟨[],True.intro,.nil⟩
 |p::kvs,_,r=>by
  rw[dQ]at r
  cases r with
  | @cons a b as bs h t=>
   obtain⟨rs,c,q⟩:=mG (P:=P) (w:=w) t
   obtain⟨b1,b2⟩:=b
   exact⟨(p.1,b2)::rs,⟨G4 h.1,rfl,c⟩,.cons ⟨rfl,h.2⟩ q⟩
def DQ(trs:List (TE×TE)):TE:=fun σ H Q=>∀p,H p=none→p_ trs σ (upd H p (.dK [])) fun ps H2=>H2 p=some (.dK [])∧∃kvs:List (eZ×V),ps=kvs.map (fun kv=>(kV kv.1,kv.2))∧kvs.length≤15∧Q (.ref p) (upd H2 p (.dK (iy [] kvs)))
theorem Cj{X:Cx}{pos:Pos}{keys:List (Option Expr)}{values:List Expr}{trs:List (TE×TE)}(h:G7 X pos keys values trs)(hall:keys.all (·.isSome)=true)(hl:keys.length=values.length)(h0:keys≠[])
  (h15:keys.length≤15):PE X (.Dict keys values pos) (DQ trs):=by
 intro pins s σ H Q I q
 have hn:=I.hok.fresh (dE s.heap.objs.size)
 have I1:=I.laid (a:=s.heap.objs.size) (o:=.dK []) (h':=s.heap.push {cls:=.type "dict",data:=.dict #[]}) (t':=s.toks) (fun _ _ q=>dF _ q) (dE _) (zo s.heap I.big)
 refine wpAny_Dict_walk (knd:=eG X.prog X.w) hall hl h0 h15 (bR (h pins _ σ _ _ I1 (q _ hn)) fun ws s2 ⟨ps,H2,I2,rel,e,kvs,ep,lk,q2⟩=>?_)
 subst ep
 obtain⟨rs,c,rk⟩:=mG (P:=X.prog) (w:=X.w) rel
 obtain⟨z,hd,vs0,r0,dd⟩:=G6 I2.hok e
 cases r0
 refine⟨rs,c,dd,fun h' dd' hs=>⟨.ref s.heap.objs.size,_,?_,rfl,q2⟩⟩
 have hz:(iy [] kvs).length≤sizeLine:=by
  have h1:=jy kvs []
  rw[List.length_nil]at h1
  rw[sizeLine_eq];omega
 have he:∃q,h'.get? s.heap.objs.size=some q:=let ⟨q,_,_,hq,_⟩:=dd';⟨q,hq⟩
 exact Ch I2 (by rw[e];exact True.intro) hs he (EZ hz hd (rk.merge .nil) dd')
end L2
namespace PL
open PySem L2 Nh
theorem j6{X:Cx}{a b:Expr}{m1 m2:Bool}{f g:aD}{pos:Pos}(ha:EX X a m1 f)(hb:EX X b m2 g)(hs:vE b:=by exact fun _ _=>rfl):EX X (.Subscript a b pos) (m1||m2) (af l5 m2 f g):=bn (GV EJ ha hb hs) fun _ _ _ h=>p8 EY h
abbrev E7:=List Sl→Option (Option Int×List Sl)
def ro(K:Frag)(m:Bool)(f:E7):TO:=fun σ H Q=>∃B E xs Xs o E',Frm K B σ H E xs Xs∧(m=true→Calm Xs)∧f E=some (o,E')∧∀H',Frm K B σ H' E' xs Xs→Q o H'
def OX(X:Cx)(e:Option Expr)(m:Bool)(f:E7):Prop:=PO X e (ro X.K m f)
def aR:E7:=fun E=>some (none,E)
def aP(f:aD):E7:=fun E=>(f E).bind fun a=>match look a.2 a.1 with
 |some (.int i)=>some (some i,a.2)
 |_=>none
section
variable {X:Cx} {e:Expr} {lo hi:Option Expr} {m1 m2 m3:Bool} {f:aD} {g h:E7} {pos p2:Pos} {K:Frag}
theorem zq{e:Option Expr}{t t':TO}(h:PO X e t)(k:∀σ H Q,t' σ H Q→t σ H Q):PO X e t':=fun pins s σ H Q I q=>h pins s σ H Q I (k σ H Q q)
theorem cq:OX X none false aR:=zq BV fun σ H Q z=>by
 obtain⟨B,E,xs,Xs,res,E',fr,cl,e,q⟩:=z
 cases e
 exact q _ fr
theorem cr(he:EX X e m1 f):OX X (some e) m1 (aP f):=zq (BW he) fun σ H Q z=>by
 obtain⟨B,E,xs,Xs,res,E',fr,cl,e,q⟩:=z
 obtain⟨⟨s,E1⟩,e1,e⟩:=Za.mp e
 refine⟨B,E,xs,Xs,s,E1,fr,cl,e1,fun v1 H1 ⟨F,A,fr1⟩=>?_⟩
 simp only at e
 split at e
 ·rename_i i l
  cases e
  have r:=(fr1.look0 l).1
  cases r
  obtain⟨A',fr2⟩:=fr1.pop
  exact⟨i,rfl,q _ ⟨F,A',fr2⟩⟩
 ·cases e
theorem RpA.cut{F:Hp}{vs:List V}{ds:List PyData}(h:RpA K F vs ds)(lo hi:Option Int):RpA K F (w5 vs lo hi) (rJ ds lo hi):=by
 unfold w5 rJ
 rw[h.len]
 exact(h.drop _).take _
end
def bB(E:List Sl):List Sl→Option (List PyData)
 |[]=>some []
 |s::ss=>(look E s).bind fun d=>(bB E ss).map fun ds=>d::ds
theorem lookA_iff{E:List Sl}:∀{ss:List Sl} {ds:List PyData},bB E ss=some ds↔Paired (fun s d=>look E s=some d) ss ds
 |[],ds=>⟨fun h=>by cases h;exact .nil,fun h=>by cases h;rfl⟩
 |s::ss,ds=>by
  constructor
  ·intro h
   obtain⟨d,h1,h⟩:=Za.mp h
   obtain⟨es,h2,h⟩:=Zab.mp h
   cases h
   exact .cons h1 (lookA_iff.mp h2)
  ·intro h
   cases h with
   |cons h1 h2=>simp[bB,h1,lookA_iff.mpr h2]
theorem xc{E:List Sl}{ss:List Sl}{ds:List PyData}(h:bB E ss=some ds):bB E ss.reverse=some ds.reverse:=lookA_iff.mpr (jJ (lookA_iff.mp h))
section
variable {X:Cx} {K:Frag} {B F:Hp} {σ:kQ} {H:Hp} {E:List Sl} {xs:List V} {Xs:List Sl}
theorem FrF.looksR:∀{us:List V} {ts:List Sl} {es:List PyData} {A:List Addr},us.length=ts.length→FrF K B F A σ H E (us++xs) (ts++Xs)→bB E ts=some es→RpA K H us es∧∃A',FrF K B F A' σ H E xs Xs
 |[],[],es,A,_,h,e=>by cases e;exact⟨.nil,A,h⟩
 |u::us,t::ts,es,A,hl,h,e=>by
  obtain⟨d,h1,e⟩:=Za.mp e
  obtain⟨es',h2,e⟩:=Zab.mp e
  cases e
  have r:=(FrF.look0 (xs:=us++xs) (Xs:=ts++Xs) h h1).1
  obtain⟨A',h'⟩:=FrF.pop (xs:=us++xs) (Xs:=ts++Xs) h
  obtain⟨r',q⟩:=FrF.looksR (by simpa using hl) h' h2
  exact⟨.cons r r',q⟩
 |[],_::_,_,_,e,_,_=>by cases e
 |_::_,[],_,_,e,_,_=>by cases e
theorem FrF.looks{us:List V}{ts:List Sl}{es:List PyData}{A:List Addr}(hl:us.length=ts.length)(h:FrF K B F A σ H E (us.reverse++xs) (ts.reverse++Xs))(e:bB E ts=some es):RpA K H us es∧∃A',FrF K B F A' σ H E xs Xs:=by
 obtain⟨r,q⟩:=FrF.looksR (by simpa using hl) h (xc e)
 have:=r.rev
 rw[List.reverse_reverse,List.reverse_reverse]at this
 exact⟨this,q⟩
end
def Ck(K:Frag)(r:List V→Hp→VK→Prop)(op:List PyData→Option PyData):Prop:=∀(ds:List PyData) (d:PyData) (vs:List V) (H:Hp) (Q:VK),op ds=some d→RpA K H vs ds→∃v,DJ d=some v∧(Q v H→r vs H Q)
def bG(op:List PyData→Option PyData)(g:j0):aD:=fun E=>(g E).bind fun a=>(bB a.2 a.1).bind fun ds=>(op ds).map fun d=>(.sh d,a.2)
theorem E8{K:Frag}{r:List V→Hp→VK→Prop}{op:List PyData→Option PyData}(hp:Ck K r op){m:Bool}{g:j0}{σ:kQ}{H:Hp}{Q:VK}(h:rd K m (bG op g) σ H Q):HM r (ra K m g) σ H Q:=by
 obtain⟨B,E,xs,Xs,res,E',fr,cl,e,q⟩:=h
 obtain⟨⟨rs,E1⟩,e1,e⟩:=Za.mp e
 obtain⟨ds,e2,e⟩:=Za.mp e
 obtain⟨d,e3,e⟩:=Zab.mp e
 cases e
 refine⟨B,E,xs,Xs,rs,E1,fr,cl,e1,fun vs H1 hl ⟨F,A,fr1⟩=>?_⟩
 obtain⟨r1,A',fr2⟩:=fr1.looks hl e2
 obtain⟨v,hv,k⟩:=hp ds d vs H1 Q e3 r1
 exact k (q v H1 ⟨F,A',fr2.push ⟨rfl,v,rfl,mB hv⟩⟩)
def cu:List PyData→Option PyData
 |[.list xs]=>some (.int xs.length)
 |[.tuple xs]=>some (.int xs.length)
 |[.str z]=>if z.length≤1000000 then some (.int z.length)else none
 |_=>none
def zr:List PyData→Option PyData
 |[.int i,.int j]=>some (.int (if j < i then j else i))
 |_=>none
def Cl:List PyData→Option PyData
 |[.int i,.int j]=>some (.int (if j > i then j else i))
 |_=>none
theorem RpA.one{K:Frag}{H:Hp}{vs:List V}{d:PyData}(h:RpA K H vs [d]):∃v,vs=[v]∧Rp K H v d:=by
 cases h with
 |cons h t=>cases t;exact⟨_,rfl,h⟩
theorem RpA.two{K:Frag}{H:Hp}{vs:List V}{d e:PyData}(h:RpA K H vs [d,e]):∃v u,vs=[v,u]∧Rp K H v d∧Rp K H u e:=by
 cases h with
 |cons h t=>
  obtain⟨u,rfl,r⟩:=t.one
  exact⟨_,_,rfl,h,r⟩
section
variable {X:Cx} {e:Expr} {es:List Expr} {m1:Bool} {g:j0} {p pos:Pos} {K:Frag}
abbrev G8(K:Frag):List V→Hp→VK→Prop:=fun xs H Q=>(∃p ys,xs=[.ref p]∧(SqL K H p ys∨SqT K H p ys)∧Q (.int ys.length) H)∨(∃z,xs=[.str z]∧z.length≤sizeLine∧Q (.int z.length) H)
theorem Cn:Ck K (G8 K) cu:=fun ds d vs H Q e r=>by
 unfold cu at e
 split at e
 ·cases e
  obtain⟨v,rfl,r'⟩:=r.one
  cases r' with
  |lst h1 h2=>exact⟨_,rfl,fun q=>.inl ⟨_,_,rfl,.inl h1,by rw[h2.len];exact q⟩⟩
 ·cases e
  obtain⟨v,rfl,r'⟩:=r.one
  cases r' with
  |tup h1 h2=>exact⟨_,rfl,fun q=>.inl ⟨_,_,rfl,.inr h1,by rw[h2.len];exact q⟩⟩
 ·split at e
  ·rename_i hl
   cases e
   obtain⟨v,rfl,r'⟩:=r.one
   cases r'
   exact⟨_,rfl,fun q=>.inr ⟨_,rfl,fE hl,q⟩⟩
  ·cases e
 ·cases e
theorem j7 {x:Str} {id:String} {r:List V→Hp→VK→Prop} {op:List PyData→Option PyData} (hp:Ck X.K r op) (hc:CallR X (.builtin id) r) (hg:Gl X x) (hm:X.mg x=none) (hv:bootBuiltins x=some (.builtin id)) (ha:AX X (e::es) m1 g) (hn:x≠"__name__":=by decide) (hdb:(x == ("__debug__":Str))=false:=by decide)
  (he:starEach (e::es) X.env=(false,eval e X.env)::starEach es X.env:=by rfl) (hpl:(backTo pos (starEach es X.env)).any (·.1)=false:=by rfl):EX X (.Call (.Name x p) (e::es) [] pos) m1 (bG op g):=
 bn (iq hc hg hm hv ha hn hdb he hpl) fun _ _ _ h=>E8 hp h
theorem fF (hg:Gl X "len") (hm:X.mg "len"=none) (ha:AX X [e] m1 g) (he:starEach [e] X.env=[(false,eval e X.env)]:=by rfl):EX X (.Call (.Name "len" p) [e] [] pos) m1 (bG cu g):=j7 Cn (CallR.or pU pV) hg hm PySem.boot_len ha (by decide) (by decide) he rfl
theorem E9 {e2:Expr} (hc:X.calm=true) (hg:Gl X "min") (hm:X.mg "min"=none) (ha:AX X [e,e2] m1 g) (he:starEach [e,e2] X.env=(false,eval e X.env)::starEach [e2] X.env:=by rfl) (hpl:(backTo pos (starEach [e2] X.env)).any (·.1)=false:=by rfl):EX X (.Call (.Name "min" p) [e,e2] [] pos) m1 (bG zr g):=j7 (fun ds d vs H Q e r=>by
 unfold zr at e
 split at e
 ·cases e
  obtain⟨v,u,rfl,r',r2⟩:=r.two
  cases r';cases r2
  exact⟨_,rfl,fun q=>⟨_,_,rfl,q⟩⟩
 ·cases e) (wY hc) hg hm PyProof.Rows.boot_min ha (by decide) (by decide) he hpl
theorem E_ {e2:Expr} (hc:X.calm=true) (hg:Gl X "max") (hm:X.mg "max"=none) (ha:AX X [e,e2] m1 g) (he:starEach [e,e2] X.env=(false,eval e X.env)::starEach [e2] X.env:=by rfl) (hpl:(backTo pos (starEach [e2] X.env)).any (·.1)=false:=by rfl):EX X (.Call (.Name "max" p) [e,e2] [] pos) m1 (bG Cl g):=j7 (fun ds d vs H Q e r=>by
 unfold Cl at e
 split at e
 ·cases e
  obtain⟨v,u,rfl,r',r2⟩:=r.two
  cases r';cases r2
  exact⟨_,rfl,fun q=>⟨_,_,rfl,q⟩⟩
 ·cases e) (wX hc) hg hm PyProof.Rows.boot_max ha (by decide) (by decide) he hpl
end
inductive Ty where
 |non |bool |int |str |list |tuple |dict
def Ty.name:Ty→String
 |.non=>"NoneType"
 |.bool=>"bool"
 |.int=>"int"
 |.str=>"str"
 |.list=>"list"
 |.tuple=>"tuple"
 |.dict=>"dict"
def Ty.is:Ty→Ty→Bool
 |.non,.non=>true
 |.bool,.bool=>true
 |.bool,.int=>true
 |.int,.int=>true
 |.str,.str=>true
 |.list,.list=>true
 |.tuple,.tuple=>true
 |.dict,.dict=>true
 |_,_=>false
def zt:PyData→Ty
 |.none=>.non
 |.bool _=>.bool
 |.int _=>.int
 |.str _=>.str
 |.list _=>.list
 |.tuple _=>.tuple
 |.dict _=>.dict
theorem G9(K:Frag)(t n:Ty):kitOne K (.type t.name) (.type n.name)=some (t.is n):=by cases t <;> cases n <;> rfl
def eM(n:Ty):PyData→Option PyData
 |.dict ((.none,_)::_)=>none
 |d=>some (.bool ((zt d).is n))
section
variable {X:Cx} {e:Expr} {m1:Bool} {f:aD} {p p2 pos:Pos}
theorem xf{pins:List (Addr×Obj)}{s:Shared}{σ:kQ}{H:Hp}{x:V}{u:Value}{d r:PyData}{n:Ty}{A:Around}{E:Value→Shared→Prop}{Q:Value→Shared→Prop}(I:Inv X pins σ H s)(rx:RelV x u)(rp:Rp X.K H x d)(hd:eM n d=some r)(h:∀tk b,r=.bool b→Q (.bool b) {s with toks:=tk}):
  wpAny (model X.prog X.w) A (call (.builtin "isinstance") [u,.type n.name]) Q E s:=by
 have e:=G9 X.K (zt d) n
 have h:∀tk,r=.bool ((zt d).is n)→Q (.bool ((zt d).is n)) {s with toks:=tk}:=fun tk z=>h tk _ z
 cases rp with
 |non=>cases hd;exact iV I rx .non e fun tk=>h tk rfl
 |bl b=>cases hd;exact iV I rx (.bl b) e fun tk=>h tk rfl
 |int i=>cases hd;exact iV I rx (.int i) e fun tk=>h tk rfl
 |str y=>cases hd;exact iV I rx (.str y) e fun tk=>h tk rfl
 |lst h1 _=>
  cases hd
  cases rx
  obtain⟨its,rv,⟨o,n',e1,c,_,d⟩,_⟩:=I.list h1
  exact kia_one kitx_list I.kIn ⟨_,e1,c⟩ e (fun z=>nomatch z) fun tk=>h tk rfl
 |tup h1 _=>
  cases hd
  cases rx
  obtain⟨its,rv,⟨o,e1,c,n',d⟩,_⟩:=I.tuple h1
  exact kia_one PySem.W.kitx_tuple I.kIn ⟨_,e1,c⟩ e (fun z=>nomatch z) fun tk=>h tk rfl
 |dct h1 hk=>
  cases rx
  obtain⟨_,_,vs,_,ob,es,ep,e1,c,_⟩:=DP I.hok h1
  refine kia_one kitx_dict I.kIn ⟨_,e1,c.1⟩ e (fun z=>nomatch z) fun tk=>h tk ?_
  cases hk with
  |nil=>cases hd;rfl
  | @cons k x us d kvs a b=>cases k <;> (cases hd;rfl)
 |exc h1 h2=>cases hd
theorem xg(n:Ty):CallR X (.builtin "isinstance") (fun xs H Q=>∃x d r,xs=[x,.ty n.name]∧Rp X.K H x d∧eM n d=some r∧∀b,r=.bool b→Q (.bl b) H):=by
 intro pins s σ H xs us Q I r h
 obtain⟨x,d,r',rfl,rp,hd,q⟩:=h
 obtain⟨u,w',rfl,ru,rw'⟩:=r.two
 cases(show w'=Value.type n.name from rw')
 exact xf I ru rp hd fun tk b z=>⟨.bl _,H,I.tok _,rfl,q b z⟩
theorem gT (n:Ty) (hg:Gl X "isinstance") (hm:X.mg "isinstance"=none) (ha:EX X e m1 f) {x:Str} (hgx:Gl X x) (hmx:X.mg x=none) (hbx:bootBuiltins x=some (.type n.name)) (hnx:x≠"__name__":=by decide) (hdx:(x == ("__debug__":Str))=false:=by decide)
  (he:starEach [e,.Name x p2] X.env=(false,eval e X.env)::starEach [.Name x p2] X.env:=by rfl) (he2:starEach [.Name x p2] X.env=[(false,eval (.Name x p2) X.env)]:=by rfl) (hpl:(backTo pos (starEach [.Name x p2] X.env)).any (·.1)=false:=by rfl):
  EX X (.Call (.Name "isinstance" p) [e,.Name x p2] [] pos) m1 (fM (eM n) f):=by
 have h2:PE X (.Name x p2) (tC (.ty n.name)):=vw (v:=.ty n.name) hgx hmx hbx rfl hnx hdx
 refine bn (iq (xg n) hg hm PyProof.Rows.boot_isinstance (bZ ha (bZ h2 dG he2) he) (by decide) (by decide) he hpl) fun σ H Q z=>?_
 obtain⟨B,E,xs,Xs,res,E',fr,cl,e,q⟩:=z
 obtain⟨⟨s,E1⟩,e1,e⟩:=Za.mp e
 obtain⟨d1,e2,e⟩:=Za.mp e
 obtain⟨d2,e3,e⟩:=Zab.mp e
 cases e
 refine⟨B,E,xs,Xs,s,E1,fr,cl,e1,fun v1 H1 ⟨F,A,fr1⟩=>?_⟩
 obtain⟨A',fr2⟩:=fr1.pop
 exact⟨v1,d1,d2,rfl,(fr1.look0 e2).1,e3,fun b z=>q _ _ ⟨F,A',fr2.push ⟨rfl,_,rfl,z▸ .bl b⟩⟩⟩
end
end PL
namespace PL
open PySem L2 Nh
def rO(K:Frag)(H H':Hp)(v:V):Sl→Prop
 |.sh d=>Rp K (tups H') v d
 |.ow ds=>∃l vs,v=.ref l∧H l=none∧H' l=some (.lst vs)∧RpA K (tups H') vs ds
 |.tx ps=>∃t vs A,v=.ref t∧tups H' t=some (.tup vs)∧A.Nodup∧(∀a∈A,H a=none)∧PtsOk K (tups H') H' vs ps A
 |.od kvs=>∃l us A,v=.ref l∧(l::A).Nodup∧(∀a∈l::A,H a=none)∧H' l=some (.dK us)∧DlOk K (tups H') H' us kvs A
 |.br d=>Rp K H' v d
 |_=>False
def eN(K:Frag)(c:List PyData→Option Sl):Sp:=fun vs H Q _=>∃ds r,c ds=some r∧RpA K H vs ds∧∀v H',Same H H'→rO K H H' v r→Q v H'
section
variable {K:Frag} {B F:Hp} {A N:List Addr} {σ:kQ} {H H':Hp} {E:List Sl} {xs:List V} {Xs:List Sl} {v:V} {s:Sl}
theorem FrF.growN(h:FrF K B F A σ H E xs Xs)(g:Same H H')(hN:∀a∈N,H a=none∧((∃us,H' a=some (.lst us))∨∃us,H' a=some (.dK us))):FrF K B (fun b=>if b∈N then none else if b∈A then none else H' b) A σ H' E xs Xs:=by
 have h1:=h.grow g
 have nF:∀b o,F b=some o→b∉N:=fun b o e hb=>by
  have:=h.fh.free (hN b hb).1
  rw[this]at e;cases e
 have FF:Same F (fun b=>if b∈N then none else if b∈A then none else H' b):=fun b o e=>by
  have nA:b∉A:=fun hb=>by rw[h.fr b hb]at e;cases e
  show(if b∈N then none else if b∈A then none else H' b)=some o
  rw[if_neg (nF b o e),if_neg nA]
  exact g _ _ (h.fh _ _ e)
 have hA:∀b∈A,H' b=H b:=fun b hb=>by
  rcases h.mutA b hb with⟨_,z⟩ |⟨_,z⟩ <;> rw[z,g _ _ z]
 refine⟨h.bf.trans FF,fun b o e=>?_,fun b o e=>?_,h.sl.mono fun o s C _ hC q=>q.stay FF (fun b hb=>hA b (hC b hb)) fun _=>g,h.nd,fun a ha=>?_,h.len,h.pl⟩
 ·by_cases hb:b∈N
  ·rw[if_pos hb]at e;cases e
  ·rw[if_neg hb]at e;exact h1.fh _ _ e
 ·show(if b∈N then none else if b∈A then none else H' b)=some o
  by_cases hb:b∈N
  ·obtain⟨e1,e2⟩:=Option.filter_eq_some_iff.mp e
   rcases(hN b hb).2 with⟨us,z⟩ |⟨us,z⟩ <;> rw[z]at e1 <;> cases e1 <;> cases e2
  ·rw[if_neg hb];exact h1.tf _ _ e
 ·show(if a∈N then none else if a∈A then none else H' a)=none
  by_cases hb:a∈N
  ·rw[if_pos hb]
  ·rw[if_neg hb,if_pos ha]
theorem FrF.pushR(h:FrF K B F A σ H E xs Xs)(q:SlOk K F H σ (some v) s N)(nd:N.Nodup)(dj:∀a∈N,a∉A)(fr:∀a∈N,F a=none):FrF K B F (N++A) σ H E (v::xs) (s::Xs):=
 ⟨h.bf,h.fh,h.tf,.cons q h.sl,Zbc.mpr ⟨nd,h.nd,fun a ha b hb e=>dj a ha (e▸hb)⟩,fun a ha=>(Zao.mp ha).elim (fr a) (h.fr a),by simp[h.len],h.pl⟩
theorem FrF.told(h:FrF K B F A σ H E xs Xs)(g:Same H H')(q:rO K H H' v s):Frm K B σ H' E (v::xs) (s::Xs):=by
 cases s with
 |sh d=>
  have h1:=h.grow g
  exact⟨_,_,h1.push ⟨rfl,v,rfl,Rp.same h1.tf q⟩⟩
 |ow ds=>
  obtain⟨l,vs,rfl,hl,hl',r⟩:=q
  have h1:=h.growN (N:=[l]) g fun a ha=>by rw[Zak.mp ha];exact⟨hl,.inl ⟨vs,hl'⟩⟩
  exact⟨_,_,h1.pushR (N:=[l]) ⟨l,vs,rfl,rfl,hl',r.same h1.tf⟩ (by simp) (fun a ha=>by rw[Zak.mp ha];exact h.newA hl) fun a ha=>if_pos ha⟩
 |tx ps=>
  obtain⟨t,vs,N,rfl,ht,nd,hN,r⟩:=q
  have h1:=h.growN (N:=N) g fun a ha=>⟨hN a ha,.inl (r.some a ha)⟩
  exact⟨_,_,h1.pushR (N:=N) ⟨t,vs,rfl,h1.tf _ _ ht,r.stay h1.tf fun _ _=>rfl⟩ nd (fun a ha=>h.newA (hN a ha)) fun a ha=>if_pos ha⟩
 |no=>exact False.elim q
 |od kvs=>
  obtain⟨l,us,N,rfl,nd,hN,hl,r⟩:=q
  have h1:=h.growN (N:=l::N) g fun a ha=>⟨hN a ha,(Zaf.mp ha).elim (fun z=>.inr ⟨us,z▸hl⟩) fun z=>.inl (r.some a z)⟩
  exact⟨_,_,h1.pushR (N:=l::N) ⟨l,us,N,rfl,rfl,hl,r.stay h1.tf fun _ _=>rfl⟩ nd (fun a ha=>h.newA (hN a ha)) fun a ha=>if_pos ha⟩
 |al i=>exact False.elim q
 |br d=>
  have h1:=h.grow g
  exact⟨_,_,h1.push ⟨rfl,v,rfl,q⟩⟩
end
def aw(c:List PyData→Option Sl)(g:j0):aD:=fun E=>(g E).bind fun a=>(bB a.2 a.1).bind fun ds=>(c ds).map fun r=>(r,a.2)
theorem a9{X:Cx}{k:Nat}{x:Str}{ps:List Str}{c:List PyData→Option Sl}{p pos:Pos}{e:Expr}{es:List Expr}{m:Bool}{g:j0}(D:Own X.prog X.w X.K X.mg X.base k x ps (eN X.K c))(hr:Room k X.A)(hg:Gl X x)(ha:AX X (e::es) m g)
  (hdb:(x == ("__debug__":Str))=false:=by decide) (he:starEach (e::es) X.env=(false,eval e X.env)::starEach es X.env:=by rfl) (hpl:(backTo pos (starEach es X.env)).any (·.1)=false:=by rfl):
  EX X (.Call (.Name x p) (e::es) [] pos) m (aw c g):=by
 refine bn (EO D hr hg ha hdb he hpl) fun σ H Q z=>?_
 obtain⟨B,E,xs,Xs,res,E',fr,cl,e,q⟩:=z
 obtain⟨⟨rs,E1⟩,e1,e⟩:=Za.mp e
 obtain⟨ds,e2,e⟩:=Za.mp e
 obtain⟨r,e3,e⟩:=Zab.mp e
 cases e
 refine⟨B,E,xs,Xs,rs,E1,fr,cl,e1,fun vs H1 hl ⟨F,A,fr1⟩=>?_⟩
 obtain⟨r1,A',fr2⟩:=fr1.looks hl e2
 exact⟨ds,res,e3,by rw[tR];exact r1,fun v H' g q'=>q v H' (fr2.told g q')⟩
def dR(i:Nat)(f:aD):aD:=fun E=>match E[i]? with
 |some (.ow _)=>(f E).bind fun a=>(frz a.2 a.1).bind fun b=>match b.2[i]? with
  |some (.ow ds)=>if ds.length < 1000000 then some (.sh .none,b.2.set i (.ow (ds++[b.1])))else none
  |_=>none
 |_=>none
section
variable {X:Cx} {e:Expr} {m1:Bool} {f:aD} {x:Str} {p apos cpos:Pos}
theorem i0 (i:Nat) (he:EX X e m1 f) (hN:X.N[i]? =some x:=by rfl) (hv:HL X.env.scope x:=by first |exact Or.inl rfl |exact Or.inr (Or.inl rfl) |exact Or.inr (Or.inr rfl)) (hd:(x == ("__debug__":Str))=false:=by decide) (hcd:(x == ("__classdict__":Str))=false:=by decide)
  (hs:starEach [e] X.env=[(false,eval e X.env)]:=by rfl) (hbase:attributeBase (.Name x p) "append" X.env (eval (.Name x p) X.env)=eval (.Name x p) X.env:=by rfl)
  (hfew:((backTo cpos (starEach [e] X.env)).all (fun x=> !x.1)&&(backToKw cpos (keywordEach [] X.env)).all (fun x=>x.1.isSome)
   &&decide (([e]:List Expr).length+([]:List Keyword).length+(if ([]:List Keyword).isEmpty then 0 else 1) < 30))=true:=by rfl) (hline:(apos.endLine == cpos.line)=true:=by rfl):
  EX X (.Call (.Attribute (.Name x p) "append" apos) [e] [] cpos) true (dR i f):=by
 refine bn (DH PySem.F.plainAttrs_list PySem.F.slot_list_append PySem.F.type_list_append iW (yH hN hv hd hcd) (bZ he dG hs) hbase hfew hline hs rfl) fun σ H Q z=>?_
 obtain⟨B,E,xs,Xs,res,E',⟨F,A,fr⟩,cl,e,q⟩:=z
 unfold dR at e
 split at e
 ·rename_i ds0 ei
  obtain⟨⟨s,E1⟩,e1,e⟩:=Za.mp e
  obtain⟨⟨d,E2⟩,e2,e⟩:=Za.mp e
  simp only at e
  split at e
  ·rename_i ds ei2
   split at e
   ·rename_i hl
    cases e
    obtain⟨o,A1,eo,l,vs,rfl,rfl,hl0,_⟩:=fr.var ei
    refine⟨_,eo,.inl ⟨rfl,_,SqL.of hl0⟩,B,E,xs,Xs,s,E1,⟨F,A,fr⟩,fun _=>cl rfl,e1,fun v H1 ⟨F1,A1,fr1⟩=>?_⟩
    obtain⟨F2,A2,fr2⟩:=fr1.frz0 e2
    obtain⟨v',A3,ev,rfl,w,ew,rv⟩:=fr2.ext (k:=0) rfl
    cases ev;cases ew
    obtain⟨A4,fr3⟩:=fr2.pop
    obtain⟨l',vs',eo',hl',r',put⟩:=fr3.mut ei2 (cl rfl)
    rw[eo]at eo'
    cases eo'
    have ll:=r'.len
    have fr4:=put (vs'++[v]) (ds++[d]) (r'.snoc rv)
    exact⟨l,vs',v,rfl,rfl,hl',small (by omega),q _ _ ⟨_,_,fr4.push ⟨rfl,_,rfl,.non⟩⟩⟩
   ·cases e
  ·cases e
 ·cases e
end
def o8(s:Sl):Sl:=match s.val with
 |some d=>.sh d
 |none=>.no
def frzAll(E:List Sl):List Sl:=E.map o8
def settle(E:List Sl):Sl→Option (Sl×List Sl)
 |.al i=>(frz E (.al i)).map fun a=>(.sh a.1,a.2)
 |.br d=>if du d then some (.sh d,E)else some (.sh d,frzAll E)
 |s=>some (s,E)
def aE(g h:cI):cI:=fun E=>(g E).bind fun a=>match a.2 with
 |.nx=>h a.1
 |fl=>some (a.1,fl)
def aB:cI:=fun E=>some (E,.nx)
def iz(f:aD):cI:=fun E=>(f E).map fun a=>(a.2,.nx)
def aV(f:aD):cI:=fun E=>(f E).bind fun a=>match a.1 with
 |.al i=>(a.2[i]?).map fun s=>(a.2.set i .no,.rt s)
 |s=>some (a.2,.rt s)
def bh(c:ig)(g h:cI):cI:=fun E=>(c E).bind fun a=>if a.1 then g a.2 else h a.2
def a8(i:Nat)(f:aD):cI:=fun E=>(f E).bind fun a=>(settle a.2 a.1).bind fun b=>if i < b.2.length then some (b.2.set i b.1,.nx)else none
section
variable {K:Frag} {B F:Hp} {A:List Addr} {σ:kQ} {H:Hp} {E E':List Sl} {xs:List V} {Xs:List Sl} {v:V} {s s':Sl} {d:PyData}
theorem FrF.frzAll(h:FrF K B F A σ H E xs Xs)(hX:Xs=[]):FrF K B H [] σ H (PL.frzAll E) [] []:=by
 subst hX
 have hx:xs=[]:=by simpa using h.len
 subst hx
 refine⟨h.bf.trans h.fh,Same.refl _,iZ H,?_,List.nodup_nil,fun a ha=>(by cases ha),rfl,fun s hs=>?_⟩
 ·have key:∀{os:List (Option V)} {ss:List Sl} {C:List Addr},SAll (SlOk K F H σ) os ss C→SAll (SlOk K H H σ) os (PL.frzAll ss) []:=fun {os ss C} r=>by
   induction r with
   |nil=>exact .nil
   |cons q _ ih=>
    refine .cons (A:=[]) ?_ ih
    unfold o8
    split
    ·rename_i d e
     obtain⟨v,rfl,r,_⟩:=q.val h.fh e
     exact⟨rfl,v,rfl,r⟩
    ·exact rfl
  exact key h.sl
 ·obtain⟨t,_,rfl⟩:=Zau.mp hs
  unfold o8
  split <;> rfl
theorem FrF.settle(h:FrF K B F A σ H E (v::xs) (s::Xs))(hX:Xs=[])(q:PL.settle E s=some (s',E')):s'.isAl=false∧Frm K B σ H E' (v::xs) (s'::Xs):=by
 cases s with
 |al i=>
  obtain⟨⟨d,E2⟩,e,z⟩:=Zab.mp (show(frz E (.al i)).map (fun a=>(Sl.sh a.1,a.2))=some (s',E')from q)
  cases z
  obtain⟨F',A',h'⟩:=h.frz0 e
  exact⟨rfl,F',A',h'⟩
 |br d=>
  have r:=(h.look0 (d:=d) rfl).1
  obtain⟨A',h'⟩:=h.pop
  simp only[PL.settle]at q
  split at q
  ·rename_i hf
   cases q
   exact⟨rfl,F,A',h'.push ⟨rfl,v,rfl,h.cold r hf⟩⟩
  ·cases q
   have h2:=h'.frzAll hX
   have hl:=h'.len
   subst hX
   have hx:xs=[]:=by simpa using hl
   subst hx
   exact⟨rfl,H,[],h2.push ⟨rfl,v,rfl,r⟩⟩
 |no=>cases q;exact⟨rfl,F,A,h⟩
 |sh d=>cases q;exact⟨rfl,F,A,h⟩
 |ow ds=>cases q;exact⟨rfl,F,A,h⟩
 |od kvs=>cases q;exact⟨rfl,F,A,h⟩
 |tx ps=>cases q;exact⟨rfl,F,A,h⟩
theorem FrF.move{i:Nat}(h:FrF K B F A σ H E (v::xs) (.al i::Xs))(e:E[i]? =some s):Frm K B σ H (E.set i .no) (v::xs) (s::Xs):=by
 obtain⟨v',A1,ev,rfl,w,ew,hw⟩:=h.ext (k:=0) rfl
 cases ev;cases ew
 obtain⟨A',h'⟩:=h.pop
 obtain⟨o,A0,A1,A2,eA,eo,hp,put⟩:=h'.sl.at (k:=Xs.length+i) (s:=s) (by rw[Bx (by omega)];simpa using e)
 have z:=put (SlOk K F H σ) o .no [] rfl fun _ _ _ _ _ q=>q
 have e3:(Xs++E).set (Xs.length+i) .no=Xs++E.set i .no:=by
  rw[List.set_append_right _ _ (by omega),Bz]
 have e2:(List.map some xs++σ).set (Xs.length+i) o=List.map some xs++σ:=List.ext_getElem? fun j=>by
  by_cases hj:Xs.length+i=j
  ·subst hj
   rw[List.getElem?_set_self',eo];rfl
  ·rw[List.getElem?_set_ne hj]
 rw[e2,e3]at z
 rw[Bx (by rw[dY,h'.len];omega),dY,h'.len,Bz,hw]at eo
 cases eo
 have nd:=h'.nd
 rw[eA]at nd
 refine⟨F,A1++(A0++([]++A2)),h.bf,h.fh,h.tf,.cons hp z,?_,fun a ha=>h'.fr a ?_,h.len,fun s' hs=>?_⟩
 ·have p:(A1++(A0++([]++A2))).Perm (A0++(A1++A2)):=by
   rw[List.nil_append,←List.append_assoc,←List.append_assoc]
   exact List.Perm.append_right _ List.perm_append_comm
  exact p.nodup_iff.mpr nd
 ·rw[eA]
  simp only[Zao,Z8]at ha ⊢
  rcases ha with z |z |z
  ·exact .inr (.inl z)
  ·exact .inl z
  ·exact .inr (.inr z)
 ·rcases List.mem_or_eq_of_mem_set hs with hs |hs
  ·exact h.pl s' hs
  ·subst hs;rfl
end
section
variable {X:Cx} {st:Stmt} {aQ a b:List Stmt} {g h:cI} {e c:Expr} {m:Bool} {f:aD} {t:ig} {pos:Pos}
theorem aG:qX X [] aB:=vL BH fun D σ H z=>by
 obtain⟨B,E,xs,Xs,E',fl,fr,cl,e,q⟩:=z
 cases e
 exact q _ _ fr
theorem aj(h1:SX X st g):qX X [st] g:=BI h1
theorem Fa{K:Frag}{D:Ends}{σ:kQ}{H:Hp}(z:rs K (aE g h) D σ H):rs K g {D with nx:=rs K h D} σ H:=by
 obtain⟨B,E,xs,Xs,E',fl,fr,cl,e,q⟩:=z
 obtain⟨⟨E1,f1⟩,e1,e⟩:=Za.mp e
 refine⟨B,E,xs,Xs,E1,f1,fr,cl,e1,?_⟩
 cases f1 with
 |nx=>exact fun σ' H' fr'=>⟨B,E1,xs,Xs,E',fl,fr',cl,e,q⟩
 |bk=>cases e;exact q
 |ct=>cases e;exact q
 |rt r=>cases e;exact q
theorem ak(h1:SX X st g)(h2:qX X aQ h):qX X (st::aQ) (aE g h):=vL (yJ h1 h2) fun D σ H z=>Fa z
theorem l6(he:EX X e m f)(hs:swapsWith e none pos.line X.env=pure false:=by rfl):SX X (.Expr e pos) (iz f):=jK (BJ he hs) fun D σ H z=>by
 obtain⟨B,E,xs,Xs,E',fl,fr,cl,e,q⟩:=z
 obtain⟨⟨s,E1⟩,e1,e⟩:=Zab.mp e
 cases e
 refine⟨B,E,xs,Xs,s,E1,fr,fun _=>Calm.nil cl,e1,fun v H1 ⟨F,A,fr1⟩=>?_⟩
 obtain⟨A',fr2⟩:=fr1.pop
 exact q _ _ ⟨F,A',fr2⟩
theorem aH(he:EX X e m f):SX X (.Return (some e) pos) (aV f):=jK (El he) fun D σ H z=>by
 obtain⟨B,E,xs,Xs,E',fl,fr,cl,e,q⟩:=z
 obtain⟨⟨s,E1⟩,e1,e⟩:=Za.mp e
 refine⟨B,E,xs,Xs,s,E1,fr,fun _=>Calm.nil cl,e1,fun v H1 ⟨F,A,fr1⟩=>?_⟩
 simp only at e
 split at e
 ·obtain⟨s',es,e⟩:=Zab.mp e
  cases e
  exact q σ _ _ (fr1.move es)
 ·cases e
  exact q σ _ _ ⟨F,A,fr1⟩
theorem bK(hc:TX X c m t)(ha:qX X a g)(hb:qX X b h):SX X (.If c a b pos) (bh t g h):=jK (GG hc ha hb) fun D σ H z=>by
 obtain⟨B,E,xs,Xs,E',fl,fr,cl,e,q⟩:=z
 obtain⟨⟨b1,E1⟩,e1,e⟩:=Za.mp e
 refine⟨B,E,xs,Xs,b1,E1,fr,fun _=>Calm.nil cl,e1,fun H1 fr1=>?_⟩
 cases b1 with
 |true=>exact(if_pos rfl).mpr ⟨B,E1,xs,Xs,E',fl,fr1,cl,e,q⟩
 |false=>exact(if_neg (by decide)).mpr ⟨B,E1,xs,Xs,E',fl,fr1,cl,e,q⟩
theorem bg(i:Nat){x:Str}{pos':Pos}(hN:X.N.Nodup)(he:EX X e m f)(hi:X.N[i]? =some x:=by rfl)(hx:Eb X.env.scope x:=by first |exact Or.inl rfl |exact Or.inr rfl)(hs:swapsWith e (some (.Name x pos')) pos.line X.env=pure false:=by rfl)(hf:X.fn x=true∨X.env.scope.names.lookup x=some .local:=by first |exact .inl rfl |exact .inr rfl |assumption):
  SX X (.Assign [.Name x pos'] e pos) (a8 i f):=jK (Ep hN hi hx he hs hf) fun D σ H z=>by
 obtain⟨B,E,xs,Xs,E',fl,fr,cl,e,q⟩:=z
 obtain⟨⟨s,E1⟩,e1,e⟩:=Za.mp e
 obtain⟨⟨s',E2⟩,e2,e⟩:=Za.mp e
 refine⟨B,E,xs,Xs,s,E1,fr,fun _=>Calm.nil cl,e1,fun v H1 ⟨F,A,fr1⟩=>?_⟩
 obtain⟨c1,F2,A2,fr2⟩:=fr1.settle cl e2
 simp only at e
 split at e
 ·rename_i hi
  cases e
  obtain⟨A3,fr3⟩:=fr2.store c1 (Still.nil cl) hi
  exact q _ _ ⟨F2,A3,fr3⟩
 ·cases e
end
end PL
namespace PL
open PySem L2 Nh
abbrev fZ:=PyData→List Sl→Option (List Sl)
abbrev rP:=List PyData→List Sl→Option (List Sl)
def rg(K:Frag)(h:fZ):TG:=fun v σ H Q=>∃B E xs Xs d E',Frm K B σ H E (v::xs) (.sh d::Xs)∧Still Xs∧h d E=some E'∧∀σ' H',Frm K B σ' H' E' xs Xs→Q σ' H'
def JA(K:Frag)(h:rP):BK:=fun vs σ H Q=>∃B E xs Xs ds E',vs.length=ds.length∧Frm K B σ H E (vs++xs) (ds.map .sh++Xs)∧Still Xs∧h ds E=some E'∧∀σ' H',Frm K B σ' H' E' xs Xs→Q σ' H'
def GX(X:Cx)(e:Expr)(h:fZ):Prop:=PG X e (rg X.K h)
def HN(X:Cx)(es:List Expr)(h:rP):Prop:=En X es (JA X.K h)
def bp(i:Nat):fZ:=fun d E=>if i < E.length then some (E.set i (.sh d))else none
def zu:rP:=fun ds E=>if ds.isEmpty then some E else none
def t_(h:fZ)(hs:rP):rP:=fun ds E=>match ds with
 |d::ds=>(h d E).bind (hs ds)
 |[]=>none
def zv(n:Nat)(hs:rP):fZ:=fun d E=>match d with
 |.tuple ds=>if ds.length=n then hs ds E else none
 |_=>none
section
variable {X:Cx}
theorem zw{e:Expr}{t t':TG}(h:PG X e t)(k:∀v σ H Q,t' v σ H Q→t v σ H Q):PG X e t':=fun pins s σ H v u Q I r q=>h pins s σ H v u Q I r (k v σ H Q q)
theorem vS{es:List Expr}{t t':BK}(h:En X es t)(k:∀v σ H Q,t' v σ H Q→t v σ H Q):En X es t':=fun pins s σ H v u Q I r q=>h pins s σ H v u Q I r (k v σ H Q q)
theorem bI(i:Nat){x:Str}{pos:Pos}(hN:X.N.Nodup)(hi:X.N[i]? =some x:=by rfl)(hx:Eb X.env.scope x:=by first |exact Or.inl rfl |exact Or.inr rfl)(hf:X.fn x=true∨X.env.scope.names.lookup x=some .local:=by first |exact .inl rfl |exact .inr rfl |assumption):GX X (.Name x pos) (bp i):=zw (vx hN hi hx hf) fun v σ H Q z=>by
 obtain⟨B,E,xs,Xs,d,E',⟨F,A,fr⟩,cl,e,q⟩:=z
 unfold bp at e
 split at e
 ·rename_i hi
  cases e
  obtain⟨A',fr'⟩:=fr.store rfl cl hi
  exact q _ _ ⟨F,A',fr'⟩
 ·cases e
theorem Co:HN X [] zu:=vS BL fun v σ H Q z=>by
 obtain⟨B,E,xs,Xs,ds,E',hl,fr,cl,e,q⟩:=z
 unfold zu at e
 split at e
 ·rename_i hd
  cases e
  have:ds=[]:=by simpa using hd
  subst this
  have hv:v=[]:=by simpa using hl
  subst hv
  exact⟨rfl,q _ _ fr⟩
 ·cases e
theorem rQ{e:Expr}{es:List Expr}{h:fZ}{hs:rP}(h1:GX X e h)(h2:HN X es hs)(hst:(assignEach (e::es) X.env).map (·.2)=assign e X.env::(assignEach es X.env).map (·.2):=by rfl):HN X (e::es) (t_ h hs):=vS (yM h1 h2 hst) fun v σ H Q z=>by
 obtain⟨B,E,xs,Xs,ds,E',hl,fr,cl,e,q⟩:=z
 cases ds with
 |nil=>cases e
 |cons d ds=>
  cases v with
  |nil=>cases hl
  |cons v vs=>
   obtain⟨E1,e1,e2⟩:=Za.mp e
   refine⟨v,vs,rfl,B,E,vs++xs,ds.map Sl.sh++Xs,d,E1,fr,fun s hs=>?_,e1,fun σ1 H1 fr1=>⟨B,E1,xs,Xs,ds,E',by simpa using hl,fr1,cl,e2,q⟩⟩
   rcases Zao.mp hs with hs |hs
   ·obtain⟨d',_,rfl⟩:=Zau.mp hs
    rfl
   ·exact cl s hs
theorem Fb{es:List Expr}{k:Nat}{pos:Pos}{hs:rP}{n:Nat}(hc:X.calm=true)(h:HN X es hs)(hn:(assignEach es X.env).length=n:=by rfl)(hst:(assignEach es X.env).findIdx? (·.1)=none:=by rfl):GX X (.Tuple es k pos) (zv n hs):=zw (Eo hc h hn hst) fun v σ H Q z=>by
 obtain⟨B,E,xs,Xs,d,E',⟨F,A,fr⟩,cl,e,q⟩:=z
 unfold zv at e
 split at e
 ·rename_i ds
  split at e
  ·rename_i hl
   obtain⟨v',A1,ev,rfl,w,ew,r⟩:=fr.ext (k:=0) rfl
   cases ev;cases ew
   cases r with
   |tup h1 h2=>
    obtain⟨A',fr'⟩:=fr.pop
    have key:∀{us:List V} {es:List PyData},RpA X.K F us es→FrF X.K B F A' σ H E (us++xs) (es.map .sh++Xs):=fun {us es} r=>by
     induction us generalizing es with
     |nil=>cases r;exact fr'
     |cons u us ih=>
      cases r with
      |cons r1 r2=>exact(ih r2).push ⟨rfl,_,rfl,r1⟩
    exact⟨_,_,rfl,fr.fh.tup h1,by rw[h2.len];exact hl,B,E,xs,Xs,ds,E',h2.len,⟨F,A',key h2⟩,cl,e,q⟩
  ·cases e
 ·cases e
end
def qa(K:Frag)(B0:Hp)(J:It)(ds:List PyData):Prop:=∀{B F:Hp} {A:List Addr} {σ:kQ} {H:Hp} {E:List Sl} {xs:List V} {Xs:List Sl} (i:Nat),Same B0 B→FrF K B F A σ H E xs Xs→
 (∀d,ds[i]? =some d→J.go i H∧∀x H2,J.yld i H x H2→Frm K B σ H2 E (x::xs) (.sh d::Xs))∧(i=ds.length→J.stop i H)
def ri(K:Frag)(m:Bool)(f:ij):TI:=fun σ H R=>∃B E xs Xs ds E',Frm K B σ H E xs Xs∧(m=true→Calm Xs)∧f E=some (ds,E')∧∀B' J H',Same B B'→Frm K B' σ H' E' xs Xs→qa K B' J ds→R J H'
def IX(X:Cx)(tg e:Expr)(m:Bool)(f:ij):Prop:=PI X tg e (ri X.K m f)
theorem FrF.base{K:Frag}{B B' F:Hp}{A:List Addr}{σ:kQ}{H:Hp}{E:List Sl}{xs:List V}{Xs:List Sl}(h:FrF K B' F A σ H E xs Xs)(s:Same B B'):FrF K B F A σ H E xs Xs:=⟨s.trans h.bf,h.fh,h.tf,h.sl,h.nd,h.fr,h.len,h.pl⟩
theorem Frm.base{K:Frag}{B B':Hp}{σ:kQ}{H:Hp}{E:List Sl}{xs:List V}{Xs:List Sl}(h:Frm K B' σ H E xs Xs)(s:Same B B'):Frm K B σ H E xs Xs:=let ⟨F,A,h⟩:=h;⟨F,A,h.base s⟩
theorem FrF.raise{K:Frag}{B F:Hp}{A:List Addr}{σ:kQ}{H:Hp}{E:List Sl}{xs:List V}{Xs:List Sl}(h:FrF K B F A σ H E xs Xs):FrF K F F A σ H E xs Xs:=⟨Same.refl _,h.fh,h.tf,h.sl,h.nd,h.fr,h.len,h.pl⟩
def j8(lo:Int)(n:Nat):List PyData:=(List.range n).map fun(k:Nat)=>.int (lo+(k:Int))
def eO(g:j0):ij:=fun E=>(g E).bind fun a=>match bB a.2 a.1 with
 |some [.int j]=>if -1000000≤j∧j≤1000000 then some (j8 0 j.toNat,a.2)else none
 |_=>none
section
variable {X:Cx} {tg e e2:Expr} {m:Bool} {f:aD} {g:j0} {p pos:Pos} {K:Frag} {B:Hp}
theorem qc{t t':TI}(h:PI X tg e t)(k:∀σ H Q,t' σ H Q→t σ H Q):PI X tg e t':=fun pins s σ H R I q=>h pins s σ H R I (k σ H R q)
theorem xh{a:Addr}{vs:List V}{ds:List PyData}(h:SqL K B a vs)(r:RpA K B vs ds):qa K B (Ig K a) ds:=fun {B' F A σ H E xs Xs} i sB fr=>by
 have hH:=fr.fh.seq (fr.bf.seq (sB.seq h))
 refine⟨fun d ed=>?_,fun e=>⟨vs,hH,by rw[e,r.len];exact dE _⟩⟩
 obtain⟨v,ev,rv⟩:=r.get ed
 refine⟨⟨vs,v,hH,ev⟩,fun x H2 ⟨e2,y⟩=>?_⟩
 subst e2
 have:=y vs hH
 rw[ev]at this
 cases this
 exact⟨F,A,fr.push ⟨rfl,_,rfl,rv.same (sB.trans fr.bf)⟩⟩
theorem mH{lo:Int}{n:Nat}:qa K B (Gr lo n) (j8 lo n):=fun {B' F A σ H E xs Xs} i sB fr=>by
 have hl:(j8 lo n).length=n:=by simp[j8]
 refine⟨fun d ed=>?_,fun e=>?_⟩
 ·have hi:i < n:=by have:=(Zar.mp ed).1;omega
  refine⟨hi,fun x H2 ⟨e2,y⟩=>?_⟩
  subst e2 y
  have:d=.int (lo+i):=by
   unfold j8 at ed
   rw[q_,List.getElem?_range hi]at ed
   exact(Option.some.inj ed).symm
  subst this
  exact⟨F,A,fr.push ⟨rfl,_,rfl,.int _⟩⟩
 ·show n≤i
  omega
theorem kT (hg:Gl X "range") (hm:X.mg "range"=none) (ha:AX X [e] m g) (hs:starEach [e] X.env=[(false,eval e X.env)]:=by rfl):IX X tg (.Call (.Name "range" p) [e] [] pos) m (eO g):=qc (wT hg hm ha hs) fun σ H R z=>by
 obtain⟨B,E,xs,Xs,ds,E',fr,cl,e,q⟩:=z
 obtain⟨⟨rs,E1⟩,e1,e⟩:=Za.mp e
 refine⟨B,E,xs,Xs,rs,E1,fr,cl,e1,fun vs H1 hl ⟨F,A,fr1⟩=>?_⟩
 simp only at e
 split at e
 ·rename_i j ld
  split at e
  ·rename_i hj
   cases e
   obtain⟨r,A',fr2⟩:=fr1.looks hl ld
   obtain⟨v,rfl,r'⟩:=r.one
   cases r'
   exact⟨j,rfl,by omega,by omega,q B _ _ (Same.refl _) ⟨F,A',fr2⟩ mH⟩
  ·cases e
 ·cases e
end
def bM(tg:fZ)(body:cI):List PyData→cI
 |[],E=>some (E,.nx)
 |d::ds,E=>((tg d E).bind body).bind fun a=>match a.2 with
  |.nx=>bM tg body ds a.1
  |.ct=>bM tg body ds a.1
  |.bk=>some (a.1,.nx)
  |.rt r=>some (a.1,.rt r)
def eD(it:ij)(tg:fZ)(body:cI):cI:=fun E=>(it E).bind fun a=>bM tg body a.1 a.2
theorem gG{X:Cx}{tg iter:Expr}{body:List Stmt}{m:Bool}{it:ij}{g:fZ}{b:cI}{pos:Pos}(hp:PassesOwn (model X.prog X.w) X.A X.env X.xe)(hc:X.calm=true)(hi:IX X tg iter m it)(hg:GX X tg g)(hb:qX X body b)
  (hs:∀x,foldedSetIterable iter X.env x=pure x:=by intro _;rfl):SX X (.For tg iter body [] pos) (eD it g b):=jK (yO hp hc hi hg hb hs) fun D σ H z=>by
 obtain⟨B,E,xs,Xs,E',fl,fr,cl,e,q⟩:=z
 obtain⟨⟨ds,E1⟩,e1,e⟩:=Za.mp e
 refine⟨B,E,xs,Xs,ds,E1,fr,fun _=>Calm.nil cl,e1,fun B' J H1 hB fr1 ok=>?_⟩
 refine⟨fun i mm σ' H'=>mm=ds.length - i∧i≤ds.length∧∃Ei,bM g b (ds.drop i) Ei=some (E',fl)∧Frm X.K B' σ' H' Ei xs Xs,⟨ds.length,by simp,Nat.zero_le _,E1,by simpa using e,fr1⟩,?_⟩
 rintro i mm σ' H' ⟨rfl,hi,Ei,ei,F,A,fri⟩
 obtain⟨go,stop⟩:=ok i (Same.refl _) fri
 by_cases hlt:i < ds.length
 ·obtain⟨d,ed⟩:∃d,ds[i]? =some d:=⟨ds[i],oR hlt⟩
  obtain⟨g1,yl⟩:=go d ed
  have edr:ds.drop i=d::ds.drop (i+1):=by
   rw[By hlt]
   congr 1
   exact Option.some.inj ((oR hlt).symm.trans ed)
  rw[edr]at ei
  obtain⟨⟨E2,f2⟩,e2,ei⟩:=Za.mp ei
  obtain⟨E3,e3,e2⟩:=Za.mp e2
  refine .inr ⟨g1,fun σ2 H2=>∃Ej,bM g b (ds.drop (i+1)) Ej=some (E',fl)∧Frm X.K B' σ2 H2 Ej xs Xs,fun σ2 H2 ⟨Ej,ej,frj⟩=>⟨ds.length - (i+1),by omega,rfl,hlt,Ej,ej,frj⟩,fun x H2 y=>?_⟩
  refine⟨B',Ei,xs,Xs,d,E3,yl x H2 y,Still.nil cl,e3,fun σ3 H3 fr3=>?_⟩
  refine⟨B',E3,xs,Xs,E2,f2,fr3,cl,e2,?_⟩
  cases f2 with
  |nx=>exact fun σ4 H4 fr4=>⟨E2,ei,fr4⟩
  |ct=>exact fun σ4 H4 fr4=>⟨E2,ei,fr4⟩
  |bk=>cases ei;exact fun σ4 H4 fr4=>q _ _ (fr4.base hB)
  |rt r=>cases ei;exact fun σ4 v H4 fr4=>q _ _ _ (fr4.base hB)
 ·have e0:i=ds.length:=by omega
  refine .inl ⟨stop e0,?_⟩
  rw[e0,List.drop_length]at ei
  cases ei
  exact q _ _ (Frm.base ⟨F,A,fri⟩ hB)
def cZ:Sl→Bool
 |.sh d=>du d
 |.ow ds=>bT ds
 |.tx ps=>ps.all fun p=>match p with |.fl d=>du d |.ol ds=>bT ds
 |.od kvs=>kvs.all fun p=>bT p.2
 |_=>false
def aZ(n:Nat)(ds:List PyData):List Sl:=ds.map .sh++List.replicate (n - ds.length) .no
def dk(r:Sl):Option Sl:=if cZ r then some r else match r with
 |.sh d=>some (.br d)
 |.ow ds=>some (.br (.list ds))
 |.tx ps=>some (.br (.tuple (ps.map Pt.val)))
 |.br d=>some (if du d then .sh d else .br d)
 |_=>none
def ju(n:Nat)(g:cI):List PyData→Option Sl:=fun ds=>(g (aZ n ds)).bind fun a=>match a.2 with
 |.rt r=>dk r
 |.nx=>some (.sh .none)
 |_=>none
section
variable {K:Frag} {B F:Hp} {A:List Addr} {σ:kQ} {H:Hp} {E:List Sl} {v:V} {r:Sl}
theorem DlOk.cold{F H:Hp}(sF:Same F H):∀{us:List (eZ×V)} {kvs:List (eZ×List PyData)} {A:List Addr},(∀p∈kvs,bT p.2=true)→DlOk K F H us kvs A→DlOk K (tups H) H us kvs A
 |[],[],A,_,h=>h
 |p::us,q::kvs,A,c,h=>by
  obtain⟨l,vs,A',rfl,rfl,hl,hr,k⟩:=h
  exact⟨l,vs,A',rfl,rfl,hl,(hr.same sF).cold (c q (gk ..)),DlOk.cold sF (fun p hp=>c p (fJ _ hp)) k⟩
 |[],_::_,_,_,h=>False.elim h
 |_::_,[],_,_,h=>False.elim h
theorem PtsOk.cold{F H G:Hp}(sF:Same F H)(tG:∀{v:V} {d:PyData},Rp K F v d→du d=true→Rp K G v d):∀{vs:List V} {ps:List Pt} {A:List Addr},(∀p∈ps,(match p with |.fl d=>du d |.ol ds=>bT ds)=true)→PtsOk K F H vs ps A→PtsOk K G H vs ps A
 |[],[],A,_,h=>h
 |v::vs,.fl d::ps,A,c,h=>⟨tG h.1 (c (.fl d) (gk ..)),PtsOk.cold sF tG (fun p hp=>c p (fJ _ hp)) h.2⟩
 |v::vs,.ol ds::ps,A,c,h=>by
  obtain⟨l,us,A',rfl,rfl,hl,hr,q⟩:=h
  refine⟨l,us,A',rfl,rfl,hl,?_,q.cold sF tG fun p hp=>c p (fJ _ hp)⟩
  have cd:bT ds=true:=c (.ol ds) (gk ..)
  have key:∀{us:List V} {ds:List PyData},RpA K F us ds→bT ds=true→RpA K G us ds:=fun {us ds} r c=>by
   induction us generalizing ds with
   |nil=>cases r;exact .nil
   |cons u us ih=>
    cases r with
    |cons r1 r2=>
     simp only[bT,lQ]at c
     exact .cons (tG r1 c.1) (ih r2 c.2)
  exact key hr cd
 |[],_::_,_,_,h=>False.elim h
 |_::_,[],_,_,h=>False.elim h
theorem FrF.result(h:FrF K B F A σ H E [v] [r])(c:cZ r=true):Same B H∧rO K B H v r:=by
 refine⟨h.bf.trans h.fh,?_⟩
 have nB:∀a,F a=none→B a=none:=fun a e=>h.bf.free e
 have cold:∀{v:V} {d:PyData},Rp K F v d→du d=true→Rp K (tups H) v d:=fun r f=>(r.same h.fh).cold f
 obtain⟨v',A1,ev,hs⟩:=h.ext (k:=0) rfl
 cases ev
 obtain⟨o,C0,C1,C2,eA,eo,hp,_⟩:=h.sl.at (k:=0) (s:=r) rfl
 cases eo
 have sub:∀a∈C1,F a=none:=fun a ha=>h.fr a (by rw[eA];simp[ha])
 have nd:C1.Nodup:=by
  have:=h.nd
  rw[eA]at this
  exact(Zbc.mp (Zbc.mp this).2.1).1
 cases r with
 |sh d=>obtain⟨_,w,ew,r⟩:=hp;cases ew;exact cold r c
 |ow ds=>
  obtain⟨l,vs,el,rfl,hl,r⟩:=hp
  cases el
  exact⟨l,vs,rfl,nB l (sub l (by simp)),hl,(r.same h.fh).cold c⟩
 |tx ps=>
  obtain⟨t,vs,et,ht,r⟩:=hp
  cases et
  exact⟨t,vs,C1,rfl,gR (h.fh _ _ ht) rfl,nd,fun a ha=>nB a (sub a ha),r.cold h.fh cold (by simpa[cZ,Zbj]using c)⟩
 |no=>cases c
 |od kvs=>
  obtain⟨l,us,A',el,rfl,hl,r⟩:=hp
  cases el
  exact⟨l,us,A',rfl,nd,fun a ha=>nB a (sub a ha),hl,r.cold h.fh (by simpa[cZ,Zbj]using c)⟩
 |al i=>cases c
 |br d=>cases c
theorem FrF.resultO{r':Sl}(h:FrF K B F A σ H E [v] [r])(c:dk r=some r'):Same B H∧rO K B H v r':=by
 unfold dk at c
 split at c
 ·rename_i hc
  cases c
  exact h.result hc
 ·refine⟨h.bf.trans h.fh,?_⟩
  cases r with
  |sh d=>cases c;exact(h.look0 (d:=d) rfl).1
  |ow ds=>cases c;exact(h.look0 (d:=.list ds) rfl).1
  |tx ps=>cases c;exact(h.look0 (d:=.tuple (ps.map Pt.val)) rfl).1
  |br d=>
   have r:=(h.look0 (d:=d) rfl).1
   simp only at c
   split at c
   ·rename_i hf
    cases c
    exact r.cold hf
   ·cases c
    exact r
  |no=>cases c
  |od kvs=>cases c
  |al i=>cases c
theorem i3{N:List Str}{vs:List V}{ds:List PyData}(r:RpA K H vs ds)(hn:ds.length≤N.length):FrF K H H [] (L2.de N vs) H (aZ N.length ds) [] []:=by
 refine⟨Same.refl _,Same.refl _,iZ H,?_,List.nodup_nil,fun a ha=>(by cases ha),rfl,?_⟩
 ·have l:=r.len
  unfold L2.de aZ
  rw[l]
  generalize N.length - ds.length=k
  have base:∀τ:kQ,SAll (SlOk K H H τ) (List.replicate k none) (List.replicate k .no) []:=fun τ=>by
   induction k with
   |zero=>exact .nil
   |succ k ih=>exact .cons (A:=[]) rfl ih
  have key:∀(τ:kQ) {us:List V} {es:List PyData},RpA K H us es→SAll (SlOk K H H τ) (us.map some++List.replicate k none) (es.map .sh++List.replicate k .no) []:=fun τ us es r=>by
   induction us generalizing es with
   |nil=>cases r;exact base τ
   |cons u us ih=>
    cases r with
    |cons r1 r2=>exact .cons (A:=[]) ⟨rfl,_,rfl,r1⟩ (ih _ r2)
  exact key _ r
 ·intro s hs
  unfold aZ at hs
  rcases Zao.mp hs with hs |hs
  ·obtain⟨d,_,rfl⟩:=Zau.mp hs
   rfl
  ·rw[(List.mem_replicate.mp hs).2]
   rfl
end
def fV(k n:Nat)(g:cI):List PyData→Option Sl:=fun ds=>if ds.length=k then ju n g ds else none
theorem ii{P:Program}{w:World}{K:Frag}{mg:Str→Option Value}{base:Heap}{x:Str}{st:Stmt}{N ps:List Str}{k a n:Nat}{g:cI}(D:Def K mg x st ps)(S:FnScope N ps (ah st))(hpa:ps.length=a)(hNn:N.length=n)(hps:a≤n)
  (hbody:∀(f:Addr) (cdv:Value) (A:Around) (outer:List Env) (s:Shared) (H:Hp) (E:XK),Room k (A.deeper (PyProof.Rows.envOfC x (ah st) s.heap.objs.size f cdv))→
   qX (fY mv P w K mg base N x (ah st) f cdv A outer s H E).nox (a7 st) g):Own P w K mg base (k+1) x ps (eN K (fV a n g)):=by
 subst hpa hNn
 refine D.own S (fun vs H Q E h=>?_) (fun f cdv A outer s H vs Q E hr h=>?_)
 ·obtain⟨ds,r,e,rp,_⟩:=h
  unfold fV at e
  split at e
  ·rename_i hl
   rw[rp.len];exact hl
  ·cases e
 obtain⟨ds,r,e,rp,q⟩:=h
 unfold fV at e
 split at e
 ·rename_i hl
  refine⟨_,hbody f cdv A outer s H E hr,?_⟩
  obtain⟨⟨E',fl⟩,e1,e⟩:=Za.mp e
  refine⟨H,aZ N.length ds,[],[],E',fl,⟨H,[],i3 rp (by omega)⟩,rfl,e1,?_⟩
  cases fl with
  |nx=>
   cases e
   rintro σ' H' ⟨F',A',fr'⟩
   exact q _ _ (fr'.bf.trans fr'.fh) .non
  |bk=>cases e
  |ct=>cases e
  |rt r'=>
   rintro σ' v H' ⟨F',A',fr'⟩
   obtain⟨s1,s2⟩:=fr'.resultO e
   exact q v H' s1 s2
 ·cases e
theorem o9{K:Frag}{H:Hp}:∀ns:List Int,RpA K H (ns.map V.int) (ns.map PyData.int)
 |[]=>.nil
 |n::ns=>.cons (.int n) (o9 ns)
theorem Fc{K:Frag}{H:Hp}{a:Addr}{ns:List Int}{c:List PyData→Option Sl}(e:c [.list (ns.map .int)]=some (.sh (.bool true)))(h:SqL K H a (ns.map V.int)):eN K c [.ref a] H (fun v _=>v=.bl true) fun _ _ _=>False:=
 ⟨_,_,e,.cons (.lst h (o9 ns)) .nil,fun v H' _ r=>by
  have r':Rp K (tups H') v (.bool true):=r
  cases r'
  rfl⟩
end PL
namespace PL
open PySem L2 Nh
def zz(E:List Sl):Option Nat→Sl
 |none=>.no
 |some j=>match (E[j]?).bind Sl.val with
  |some d=>.sh d
  |none=>.no
def jN(js:List (Option Nat))(E:List Sl):List Sl:=js.map (zz E)
def d0:ig:=fun E=>some (true,E)
def dN(tg:fZ)(cond:ig)(elt:aD):List PyData→List Sl→Option (List PyData)
 |[],_=>some []
 |d::ds,E=>(tg d E).bind fun E1=>(cond E1).bind fun b=>if b.1 then (elt b.2).bind fun c=>(frz c.2 c.1).bind fun e=>(dN tg cond elt ds e.2).map fun r=>e.1::r else dN tg cond elt ds b.2
def c7(js:List (Option Nat))(it:ij)(tg:fZ)(cond:ig)(elt:aD):aD:=fun E=>(it E).bind fun a=>(dN tg cond elt a.1 (jN js a.2)).bind fun ds=>if bT ds&&decide (ds.length≤1000000)then some (.ow ds,a.2)else none
section
variable {X:Cx} {elt target iter:Expr} {ifs:List Expr} {scope sc:Scope} {cl:List (Str×Addr)} {N:List Str} {pos:Pos} {js:List (Option Nat)} {K:Frag}
theorem rR{B F:Hp}{A:List Addr}{σ:kQ}{H:Hp}{E:List Sl}{xs:List V}{Xs:List Sl}(fr:FrF K B F A σ H E xs Xs)(js:List (Option Nat)):FrF K H H [] (slots js σ) H (jN js E) [] []:=by
 refine⟨Same.refl _,Same.refl _,iZ H,?_,List.nodup_nil,fun a ha=>(by cases ha),rfl,fun s hs=>?_⟩
 ·have key:∀(τ:kQ) (ks:List (Option Nat)),SAll (SlOk K H H τ) (slots ks σ) (jN ks E) []:=fun τ ks=>by
   induction ks with
   |nil=>exact .nil
   |cons j ks ih=>
    refine .cons (A:=[]) ?_ ih
    cases j with
    |none=>exact rfl
    |some j=>
     show SlOk K H H τ _ (match (E[j]?).bind Sl.val with |some d=>.sh d |none=>.no) []
     cases ej:E[j]? with
     |none=>exact rfl
     |some s=>
      cases ev:s.val with
      |none=>simp only[Z0,ev];exact rfl
      |some d=>
       simp only[Z0,ev]
       obtain⟨o,A1,eo,hs⟩:=fr.var ej
       obtain⟨v,rfl,r,_⟩:=hs.val fr.fh ev
       refine⟨rfl,v,?_,r⟩
       show(σ[j]?).join=some v
       rw[eo]
       rfl
  exact key _ js
 ·obtain⟨j,_,rfl⟩:=Zau.mp hs
  cases j with
  |none=>rfl
  |some j=>
   simp only[zz]
   split <;> rfl
theorem xi{m2 m3:Bool}{tg:fZ}{cond:ig}{el:aD}{tt:TT}(htt:∀σ H Q,rt K m2 cond σ H Q→tt σ H Q){B B' F:Hp}{A:List Addr}{σ:kQ}{H1:Hp}{E1:List Sl}{xs:List V}{Xs:List Sl}{ds rs:List PyData}{J:It}{Q:VK}
  (fr1:FrF K B F A σ H1 E1 xs Xs) (B2:Same B' H1) (ok:qa K B' J ds) (e2:dN tg cond el ds (jN js E1)=some rs) (hc:bT rs=true∧rs.length≤1000000) (q:∀v H',Frm K B σ H' E1 (v::xs) (.ow rs::Xs)→Q v H') (l:Addr) (hl:H1 l=none):
  ∃W:Nat→Nat→kQ→Hp→Prop,(∃m,W 0 m (slots js σ) (upd H1 l (.lst [])))∧
 ∀i m σ' H',W i m σ' H'→(J.stop i H'∧Q (.ref l) H')∨(J.go i H'∧∃N:kQ→Hp→Prop,(∀σ' H',N σ' H'→∃m',m' < m∧W (i+1) m' σ' H')∧∀x H2,J.yld i H' x H2→rg K tg x σ' H2 fun σ3 H3=>tt σ3 H3 fun b H4=>
  if b=true then rd K m3 el σ3 H4 fun y H5=>∃ys,H5 l=some (.lst ys)∧ys.length < sizeLine∧N σ3 (upd H5 l (.lst (ys++[y])))else N σ3 H4):=by
 have fr0:=(rR fr1 js).newl (ds:=[]) .nil hl
 refine⟨fun i mm σ' H'=>mm=ds.length - i∧i≤ds.length∧∃Ei acc aQ,dN tg cond el (ds.drop i) Ei=some aQ∧rs=acc++aQ∧Frm K H1 σ' H' Ei [.ref l] [.ow acc],⟨ds.length,by simp,Nat.zero_le _,_,[],rs,by simpa using e2,rfl,⟨_,_,fr0⟩⟩,?_⟩
 rintro i mm σ' H' ⟨rfl,hi,Ei,acc,aQ,ei,er,F',A',fri⟩
 obtain⟨go,stop⟩:=ok i B2 fri
 by_cases hlt:i < ds.length
 ·obtain⟨d,ed⟩:∃d,ds[i]? =some d:=⟨ds[i],oR hlt⟩
  obtain⟨g1,yl⟩:=go d ed
  have edr:ds.drop i=d::ds.drop (i+1):=by
   rw[By hlt]
   congr 1
   exact Option.some.inj ((oR hlt).symm.trans ed)
  rw[edr]at ei
  obtain⟨E3,e3,ei⟩:=Za.mp ei
  obtain⟨⟨b,E4⟩,e4,ei⟩:=Za.mp ei
  refine .inr ⟨g1,fun σ2 H2=>∃Ej acc aQ,dN tg cond el (ds.drop (i+1)) Ej=some aQ∧rs=acc++aQ∧Frm K H1 σ2 H2 Ej [.ref l] [.ow acc],fun σ2 H2 ⟨Ej,ac,rt,ej,er,frj⟩=>⟨ds.length - (i+1),by omega,rfl,hlt,Ej,ac,rt,ej,er,frj⟩,fun x H2 y=>?_⟩
  have clm:Calm [Sl.ow acc]:=Calm.cons (fun s hs=>absurd hs (by simp)) rfl
  refine⟨H1,Ei,[.ref l],[.ow acc],d,E3,yl x H2 y,(fun s hs=>by rw[Zak.mp hs];rfl),e3,fun σ3 H3 fr3=>htt _ _ _ ?_⟩
  refine⟨H1,E3,[.ref l],[.ow acc],b,E4,fr3,fun _=>clm,e4,fun H4 fr4=>?_⟩
  cases b with
  |false=>
   rw[if_neg (by decide)]
   exact⟨E4,acc,aQ,ei,er,fr4⟩
  |true=>
   rw[if_pos rfl]
   obtain⟨⟨s5,E5⟩,e5,ei⟩:=Za.mp ei
   obtain⟨⟨d6,E6⟩,e6,ei⟩:=Za.mp ei
   obtain⟨rest',e7,ei⟩:=Zab.mp ei
   subst ei
   refine⟨H1,E4,[.ref l],[.ow acc],s5,E5,fr4,fun _=>clm,e5,fun y5 H5 ⟨F5,A5,fr5⟩=>?_⟩
   obtain⟨F6,A6,fr6⟩:=fr5.frz0 e6
   obtain⟨v',C1,ev,rfl,w,ew,ry⟩:=fr6.ext (k:=0) rfl
   cases ev;cases ew
   obtain⟨A7,fr7⟩:=fr6.pop
   -- the list under way is the one part that owns
   obtain⟨bf,fh,tf,sl,nd,frn,len,pl⟩:=fr7
   generalize hT:List.map some [V.ref l]++σ3=T at sl
   generalize hS:[Sl.ow acc]++E6=S at sl
   cases sl with
   |nil=>cases hS
   |cons q0 r0=>
    injection hT with h1 hT
    injection hS with h2 hS
    subst h1 h2 hT hS
    obtain⟨l',us,el,rfl,hl5,ru⟩:=q0
    cases el
    have lu:=ru.len
    refine⟨us,hl5,small (by rw[er]at hc;simp at hc;omega),E6,acc++[d6],rest',e7,by rw[er];simp,F6,_,bf,fun b o qb=>?_,?_,.cons (A:=[l]) ⟨l,us++[y5],rfl,rfl,upd_same,ru.snoc ry⟩ (r0.mono fun o s C hs hC qq=>qq.stay (Same.refl _) (fun b hb=>ar fun z=>?_) fun z=>?_),nd,frn,rfl,pl⟩
    ·have lF:F6 l=none:=frn l (by simp)
     rw[ar (fun z=>by rw[z,lF]at qb;cases qb)]
     exact fh _ _ qb
    ·rw[my hl5];exact tf
    ·have:=hC b hb
     rw[z]at this
     exact(List.nodup_cons.mp nd).1 this
    ·have:=pl s hs
     cases s <;> simp[Sl.isAl,Sl.isBr]at this z
 ·have e0:i=ds.length:=by omega
  refine .inl ⟨stop e0,?_⟩
  rw[e0,List.drop_length]at ei
  cases ei
  rw[tR]at er
  subst er
  obtain⟨g1,g2⟩:=fri.result hc.1
  exact q _ _ (fr1.told g1 g2)
theorem l7{m m2 m3:Bool}{it:ij}{tg:fZ}{cond:ig}{el:aD}{tt:TT}(htt:∀σ H Q,rt K m2 cond σ H Q→tt σ H Q){σ:kQ}{H:Hp}{Q:VK}(z:rd K m (c7 js it tg cond el) σ H Q):o6 js (ri K m it) (rg K tg) tt (rd K m3 el) σ H Q:=by
 obtain⟨B,E,xs,Xs,res,E',fr,cl,e,q⟩:=z
 obtain⟨⟨ds,E1⟩,e1,e⟩:=Za.mp e
 obtain⟨rs,e2,e⟩:=Za.mp e
 simp only at e
 split at e
 ·rename_i hc
  cases e
  simp only[lQ,decide_eq_true_eq]at hc
  exact⟨B,E,xs,Xs,ds,_,fr,cl,e1,fun B' J H1 hB ⟨F,A,fr1⟩ ok l hl=>xi htt (fr1.base hB) (fr1.bf.trans fr1.fh) ok e2 hc q l hl⟩
 ·cases e
theorem j9{m m3:Bool}{it:ij}{tg:fZ}{el:aD}(C:CompOk X scope sc cl N js)(hc:X.calm=true)(hi:IX X target iter m it)(hg:∀C s₀ H₀ fp,GX (X.comp sc cl N C s₀ H₀ fp) target tg)(he:∀C s₀ H₀ fp,EX (X.comp sc cl N C s₀ H₀ fp) elt m3 el)
  (hs:∀x,foldedSetIterable iter X.env x=pure x:=by intro _;rfl):EX X (.ListComp elt [⟨target,iter,[],0⟩] scope pos) m (c7 js it tg d0 el):=
 bn (vH (g:=rg X.K tg) (te:=rd X.K m3 el) C hc hi hg (fun _ _ _ _=>vF) he hs) fun σ H Q z=>l7 (m2:=false) (fun σ H Q z=>by
  obtain⟨B,E,xs,Xs,b,E',fr,cl,e,q⟩:=z
  cases e
  exact q _ fr) z
theorem zA{c:Expr}{m m2 m3:Bool}{it:ij}{tg:fZ}{cond:ig}{el:aD}(C:CompOk X scope sc cl N js)(hc:X.calm=true)(hi:IX X target iter m it)(hg:∀C s₀ H₀ fp,GX (X.comp sc cl N C s₀ H₀ fp) target tg)(ht:∀C s₀ H₀ fp,TX (X.comp sc cl N C s₀ H₀ fp) c m2 cond)(he:∀C s₀ H₀ fp,EX (X.comp sc cl N C s₀ H₀ fp) elt m3 el)
  (hs:∀x,foldedSetIterable iter X.env x=pure x:=by intro _;rfl):EX X (.ListComp elt [⟨target,iter,[c],0⟩] scope pos) m (c7 js it tg cond el):=
 bn (vH (g:=rg X.K tg) (te:=rd X.K m3 el) (tt:=rt X.K m2 cond) C hc hi hg (fun _ _ _ _=>vG (ht _ _ _ _)) he hs) fun σ H Q z=>l7 (m2:=m2) (fun _ _ _ z=>z) z
end
end PL
namespace PL
open PySem L2 Nh
def keyOf:PyData→Option eZ
 |.int i=>some (.inl i)
 |.str x=>some (.inr x)
 |_=>none
theorem Cp{d:PyData}{k:eZ}(h:keyOf d=some k):d=ER k:=by
 cases d <;> simp[keyOf]at h <;> subst h <;> rfl
def keysOf:List (PyData×PyData)→Option (List eZ)
 |[]=>some []
 |p::r=>(keyOf p.1).bind fun k=>(keysOf r).map fun ks=>k::ks
def ua:List (aD×aD)→List Sl→Option (List (PyData×PyData)×List Sl)
 |[],E=>some ([],E)
 |p::r,E=>(p.1 E).bind fun a=>(frz a.2 a.1).bind fun ka=>(p.2 ka.2).bind fun b=>(frz b.2 b.1).bind fun vb=>(ua r vb.2).map fun c=>((ka.1,vb.1)::c.1,c.2)
def vT(ps:List (aD×aD)):aD:=fun E=>(ua ps E).bind fun a=>match keysOf a.1 with
 |some ks=>if decide ks.Nodup&&decide (ks.length≤15)then some (.sh (.dict a.1),a.2)else none
 |none=>none
def Fd(K:Frag)(ps:List (aD×aD)):List (TE×TE):=ps.map fun p=>(rd K true p.1,rd K true p.2)
def rS:List (V×V)→List V
 |[]=>[]
 |p::r=>rS r++[p.2,p.1]
def rT:List (PyData×PyData)→List Sl
 |[]=>[]
 |p::r=>rT r++[.sh p.2,.sh p.1]
section
variable {X:Cx} {K:Frag} {B F:Hp} {σ:kQ} {H:Hp} {E:List Sl} {xs:List V} {Xs:List Sl}
theorem DR{m:Bool}{f:aD}{Q:VK}(h:rd K true f σ H Q):rd K m f σ H Q:=by
 obtain⟨B,E,xs,Xs,r,E',fr,c,e,q⟩:=h
 exact⟨B,E,xs,Xs,r,E',fr,fun _=>c rfl,e,q⟩
theorem rV:∀(ps:List (aD×aD)) {H:Hp} {E:List Sl} {xs:List V} {Xs:List Sl} {r:List (PyData×PyData)} {E':List Sl} {Q:List (V×V)→Hp→Prop},Frm K B σ H E xs Xs→Calm Xs→ua ps E=some (r,E')→
  (∀vs H',vs.length=r.length→Frm K B σ H' E' (rS vs++xs) (rT r++Xs)→Q vs H')→p_ (Fd K ps) σ H Q
 |[],H,E,xs,Xs,r,E',Q,fr,c,e,q=>by
  cases e
  exact q [] H rfl fr
 |(f,g)::ps,H,E,xs,Xs,r,E',Q,fr,c,e,q=>by
  obtain⟨⟨s1,E1⟩,e1,e⟩:=Za.mp e
  obtain⟨⟨d1,E2⟩,e2,e⟩:=Za.mp e
  obtain⟨⟨s3,E3⟩,e3,e⟩:=Za.mp e
  obtain⟨⟨d4,E4⟩,e4,e⟩:=Za.mp e
  obtain⟨⟨r5,E5⟩,e5,e⟩:=Zab.mp e
  cases e
  refine⟨B,E,xs,Xs,s1,E1,fr,fun _=>c,e1,fun x H1 ⟨F1,A1,fr1⟩=>?_⟩
  obtain⟨F2,A2,fr2⟩:=fr1.frz0 e2
  refine⟨B,E2,x::xs,.sh d1::Xs,s3,E3,⟨F2,A2,fr2⟩,fun _=>c.cons rfl,e3,fun y H2 ⟨F3,A3,fr3⟩=>?_⟩
  obtain⟨F4,A4,fr4⟩:=fr3.frz0 e4
  refine rV ps ⟨F4,A4,fr4⟩ ((c.cons rfl).cons rfl) e5 fun vs H' l fr5=>q _ _ (by simp[l]) ?_
  simpa[rS,rT]using fr5
theorem FrF.unflat:∀{vs:List (V×V)} {r:List (PyData×PyData)} {A:List Addr} {xs:List V} {Xs:List Sl},vs.length=r.length→FrF K B F A σ H E (rS vs++xs) (rT r++Xs)→
  (∃A',FrF K B F A' σ H E xs Xs)∧Paired (fun p q=>Rp K F p.1 q.1∧Rp K F p.2 q.2) vs r
 |[],[],A,xs,Xs,_,h=>⟨⟨A,h⟩,.nil⟩
 |(x,y)::vs,(k,d)::r,A,xs,Xs,l,h=>by
  obtain⟨⟨A',h1⟩,p⟩:=FrF.unflat (vs:=vs) (r:=r) (xs:=y::x::xs) (Xs:=.sh d:: .sh k::Xs) (by simpa using l) (by simpa[rS,rT]using h)
  obtain⟨v1,C1,ev1,rfl,w1,ew1,r1⟩:=h1.ext (k:=0) rfl
  obtain⟨v2,C2,ev2,rfl,w2,ew2,r2⟩:=h1.ext (k:=1) rfl
  cases ev1;cases ew1;cases ev2;cases ew2
  obtain⟨A1,h2⟩:=h1.pop
  obtain⟨A2,h3⟩:=h2.pop
  exact⟨⟨A2,h3⟩,.cons ⟨r2,r1⟩ p⟩
 |[],_::_,_,_,_,l,_=>by simp at l
 |_::_,[],_,_,_,l,_=>by simp at l
theorem FrF.newd{p:Addr}{A:List Addr}(h:FrF K B F A σ H E xs Xs)(hp:H p=none):FrF K B F (p::A) σ (upd H p (.dK [])) E (.ref p::xs) (.od []::Xs):=by
 have g:Same H (upd H p (.dK [])):=eJ hp _
 have nA:=h.newA hp
 refine⟨h.bf,h.fh.trans g,fun b o e=>?_,.cons (A:=[p]) ⟨p,[],[],rfl,rfl,upd_same,rfl⟩ (h.sl.mono fun o s C _ hC q=>q.stay (Same.refl _) (fun b hb=>ar fun z=>nA (z▸hC b hb)) fun _=>g),List.nodup_cons.mpr ⟨nA,h.nd⟩,fun a ha=>?_,by simp[h.len],h.pl⟩
 ·obtain⟨e1,e2⟩:=Option.filter_eq_some_iff.mp e
  by_cases hb:b=p
  ·subst hb;rw[upd_same]at e1;cases e1;cases e2
  ·rw[ar hb]at e1;exact h.tf b o (gR e1 e2)
 ·rcases Zaf.mp ha with z |z
  ·subst z;exact h.fh.free hp
  ·exact h.fr a z
theorem FrF.filld{v:V}{us:List (eZ×V)}{r:List (PyData×PyData)}{A:List Addr}(h:FrF K B F A σ H E (v::xs) (.od []::Xs))(c:Calm Xs)(hr:RpK K F us r):
  ∃p,v=.ref p∧H p=some (.dK [])∧Frm K B σ (upd H p (.dK us)) E (.ref p::xs) (.sh (.dict r)::Xs):=by
 obtain⟨bf,fh,tf,sl,nd,fr,len,pl⟩:=h
 generalize hT:List.map some (v::xs)++σ=T at sl
 generalize hS:(Sl.od []::Xs)++E=S at sl
 cases sl with
 |nil=>cases hS
 |cons q0 r0=>
  injection hT with h1 hT
  injection hS with h2 hS
  subst h1 h2 hT hS
  obtain⟨p,us0,A0,ep,rfl,hp,k0⟩:=q0
  cases ep
  cases us0 with
  |cons _ _=>exact False.elim k0
  |nil=>
  have eA:A0=[]:=k0
  subst eA
  have Fp:F p=none:=fr p (by simp)
  have gF:Same F (upd F p (.dK us)):=eJ Fp _
  refine⟨p,rfl,hp,upd F p (.dK us),_,bf.trans gF,fun b o e=>?_,fun b o e=>?_,.cons (A:=[]) ⟨rfl,_,rfl,.dct (.inl upd_same) (hr.same gF)⟩ (r0.mono fun o s C hs hC qq=>qq.stay gF (fun b hb=>ar fun z=>?_) fun z=>?_),(Zbc.mp nd).2.1,fun a ha=>?_,by simpa using len,pl⟩
  ·by_cases hb:b=p
   ·subst hb;rw[upd_same]at e ⊢;exact e
   ·rw[ar hb]at e ⊢;exact fh _ _ e
  ·obtain⟨e1,e2⟩:=Option.filter_eq_some_iff.mp e
   by_cases hb:b=p
   ·subst hb;rw[upd_same]at e1;cases e1;cases e2
   ·rw[ar hb]at e1 ⊢;exact tf b o (gR e1 e2)
  ·have:=hC b hb
   rw[z]at this
   exact(List.nodup_cons.mp nd).1 this
  ·rcases Zao.mp hs with hs |hs
   ·rw[c s hs]at z;cases z
   ·have:=pl s hs
    cases s <;> simp[Sl.isAl,Sl.isBr]at this z
  ·have hb:a≠p:=fun z=>(List.nodup_cons.mp nd).1 (z▸ha)
   rw[ar hb]
   exact fr a (jx _ (by simpa using ha))
theorem o_{k:eZ}:∀{kvs:List (eZ×V)},¬k∈kvs.map (·.1)→rK kvs k=none
 |[],_=>rfl
 |p::r,h=>by
  rw[rL fun e=>h (by simp[e])]
  exact o_ fun m=>h (by simp at m ⊢;exact .inr m)
theorem pb:∀(more kvs:List (eZ×V)),((kvs++more).map (·.1)).Nodup→iy kvs more=kvs++more
 |[],kvs,_=>by simp[iy]
 |p::r,kvs,h=>by
  have hn:¬p.1∈kvs.map (·.1):=fun m=>by
   rw[tU,dQ]at h
   exact(Zbc.mp h).2.2 _ m _ (by simp) rfl
  have e:lT kvs p.1 p.2=kvs++[p]:=zn p.2 (o_ hn)
  show iy (lT kvs p.1 p.2) r=_
  rw[e,pb r (kvs++[p]) (by simpa using h)]
  simp
theorem Fe{v:V}{k:eZ}(h:Rp K H v (ER k)):v=kV k:=by
 cases k with
 |inl i=>cases h;rfl
 |inr x=>cases h;rfl
theorem DS:∀{vs:List (V×V)} {r:List (PyData×PyData)} {ks:List eZ},Paired (fun p q=>Rp K F p.1 q.1∧Rp K F p.2 q.2) vs r→keysOf r=some ks→
  ∃us:List (eZ×V),vs=us.map (fun kv=>(kV kv.1,kv.2))∧us.map (·.1)=ks∧RpK K F us r
 |_,_,ks,.nil,e=>by cases e;exact⟨[],rfl,rfl,.nil⟩
 |_,_,ks,.cons (a:=(x,y)) (b:=(kd,d)) h t,e=>by
  obtain⟨k,e1,e⟩:=Za.mp e
  obtain⟨ks',e2,e⟩:=Zab.mp e
  subst e
  obtain⟨us,rfl,e3,hr⟩:=DS t e2
  have ek:=Cp e1
  simp only at ek h
  subst ek
  obtain rfl:=Fe h.1
  exact⟨(k,y)::us,rfl,by simp[e3],.cons h.2 hr⟩
theorem Cq{ps:List (aD×aD)}{Q:VK}(z:rd K true (vT ps) σ H Q):DQ (Fd K ps) σ H Q:=by
 obtain⟨B,E,xs,Xs,res,E',fr,c,e,q⟩:=z
 obtain⟨⟨r,E1⟩,e1,e⟩:=Za.mp e
 simp only at e
 split at e
 ·rename_i ks ek
  split at e
  ·rename_i hc
   cases e
   simp only[lQ,decide_eq_true_eq]at hc
   intro p hp
   obtain⟨F,A,fr⟩:=fr
   refine rV ps ⟨_,_,fr.newd hp⟩ ((c rfl).cons rfl) e1 fun vs H' l ⟨F1,A1,fr1⟩=>?_
   obtain⟨⟨A2,fr2⟩,pr⟩:=fr1.unflat l
   obtain⟨us,ev,ek',hr⟩:=DS pr ek
   obtain⟨p',ep,hp0,fr3⟩:=fr2.filld (c rfl) hr
   cases ep
   refine⟨hp0,us,ev,?_,?_⟩
   ·have:us.length=ks.length:=by rw[←ek',dY]
    omega
   ·rw[pb us [] (by simpa[ek']using hc.1),List.nil_append]
    exact q _ _ fr3
  ·cases e
 ·cases e
end
section
variable {X:Cx} {pos apos cpos:Pos} {o e f:Expr} {m m1 m2:Bool}
def PX(X:Cx)(pos:Pos)(keys:List (Option Expr))(values:List Expr)(ps:List (aD×aD)):Prop:=G7 X pos keys values (Fd X.K ps)
theorem Ff:PX X pos [] [] []:=Ci
theorem Cr{k v:Expr}{ks:List (Option Expr)}{vs:List Expr}{fk fv:aD}{ps:List (aD×aD)}(hk:EX X k m1 fk)(hv:EX X v m2 fv)(hr:PX X pos ks vs ps):PX X pos (some k::ks) (v::vs) ((fk,fv)::ps):=
 zp (bn hk fun _ _ _ h=>DR h) (bn hv fun _ _ _ h=>DR h) hr
theorem Cs{keys:List (Option Expr)}{values:List Expr}{ps:List (aD×aD)}(h:PX X pos keys values ps)(hall:keys.all (·.isSome)=true:=by rfl)(hl:keys.length=values.length:=by rfl)(h0:keys≠[]:=by simp)(h15:keys.length≤15:=by decide):
  EX X (.Dict keys values pos) true (vT ps):=bn (Cj h hall hl h0 h15) fun _ _ _ z=>Cq z
end
end PL
namespace PL
open PySem L2 Nh
theorem Fg{K:Frag}{m:Bool}{i:Nat}{f:aD}{D:Ends}{σ:kQ}{H:Hp}(z:rs K (a8 i f) D σ H):rd K m f σ H fun v H1=>yL i v σ H1 D.nx:=by
 obtain⟨B,E,xs,Xs,E',fl,fr,cl,e,q⟩:=z
 obtain⟨⟨s,E1⟩,e1,e⟩:=Za.mp e
 obtain⟨⟨s',E2⟩,e2,e⟩:=Za.mp e
 refine⟨B,E,xs,Xs,s,E1,fr,fun _=>Calm.nil cl,e1,fun v H1 ⟨F,A,fr1⟩=>?_⟩
 obtain⟨c1,F2,A2,fr2⟩:=fr1.settle cl e2
 simp only at e
 split at e
 ·rename_i hi
  cases e
  obtain⟨A3,fr3⟩:=fr2.store c1 (Still.nil cl) hi
  exact q _ _ ⟨F2,A3,fr3⟩
 ·cases e
section
variable {X:Cx} {elt target iter:Expr} {scope sc:Scope} {cl:List (Str×Addr)} {N:List Str} {pos spos px:Pos} {js:List (Option Nat)} {x:Str}
theorem zB{c:Expr}{m m2 m3:Bool}{it:ij}{tg:fZ}{cond:ig}{el:aD}(i:Nat)(hN:X.N.Nodup)(C:CompOk X scope sc cl N js)(hc:X.calm=true)(h:IX X target iter m it)(hg:∀C s₀ H₀ fp,GX (X.comp sc cl N C s₀ H₀ fp) target tg)(ht:∀C s₀ H₀ fp,TX (X.comp sc cl N C s₀ H₀ fp) c m2 cond)(he:∀C s₀ H₀ fp,EX (X.comp sc cl N C s₀ H₀ fp) elt m3 el)
  (hi:X.N[i]? =some x:=by rfl) (hx:Eb X.env.scope x:=by first |exact Or.inl rfl |exact Or.inr rfl) (hf:X.fn x=true∨X.env.scope.names.lookup x=some .local:=by first |exact .inl rfl |exact .inr rfl |assumption)
  (hs:∀x,foldedSetIterable iter X.env x=pure x:=by intro _;rfl) (hsw:swapsWith (.ListComp elt [⟨target,iter,[c],0⟩] scope pos) (some (.Name x px)) spos.line X.env=pure true:=by rfl):
  SX X (.Assign [.Name x px] (.ListComp elt [⟨target,iter,[c],0⟩] scope pos) spos) (a8 i (c7 js it tg cond el)):=
 jK (B4 (g:=rg X.K tg) (te:=rd X.K m3 el) (tt:=rt X.K m2 cond) C hc (vx hN hi hx hf) h hg (fun _ _ _ _=>vG (ht _ _ _ _)) he hs hsw) fun D σ H z=>l7 (m2:=m2) (fun _ _ _ z=>z) (Fg z)
end
def G_:Const→Option Int
 |.int i=>some i
 |_=>none
def Fh:Expr→Option Int
 | .Constant c _ _=>G_ c
 |_=>none
def i5:List Expr→Option (List Int)
 |[]=>some []
 |e::r=>(Fh e).bind fun i=>(i5 r).map (i:: ·)
def zC(ns:List Int):ij:=fun E=>some (ns.map .int,E)
theorem Fi{e:Expr}{i:Int}(h:Fh e=some i):∃k p,e= .Constant (.int i) k p:=by
 unfold Fh at h
 split at h
 ·unfold G_ at h
  split at h
  ·cases h;exact⟨_,_,rfl⟩
  ·cases h
 ·cases h
theorem vU{X:Cx}:∀{es:List Expr} {ns:List Int},i5 es=some ns→DX X es false (zC ns)
 |[],ns,h=>by cases h;exact zj
 |e::es,ns,h=>by
  obtain⟨i,h0,h⟩:=Za.mp h
  obtain⟨ms,h1,h⟩:=Zab.mp h
  subst h
  obtain⟨k,p,rfl⟩:=Fi h0
  exact vR (m1:=false) (m2:=false) am (vU h1) rfl
def Ha(body:List Stmt)(k:Nat):List Expr:=match body[k]? with
 |some (.Assign _ (.Subscript (.List es _) _ _) _)=>es
 |_=>[]
def Ix(es:List Expr):Stmt→Stmt
 | .Assign t (.Subscript (.List _ p) i q) r=> .Assign t (.Subscript (.List es p) i q) r
 |s=>s
def Fj(es:List Expr):Nat→List Stmt→List Stmt
 |_,[]=>[]
 | 0,s::r=>Ix es s::r
 |k+1,s::r=>s::Fj es k r
theorem ub{X:Cx}{body:List Stmt}{g:cI}(k:Nat)(ns:List Int)(h:i5 (Ha body k)=some ns)(hb:Fj (Ha body k) k body=body)(key:∀es,i5 es=some ns→qX X (Fj es k body) g):qX X body g:=by
 have:=key _ h
 rw[hb]at this
 exact this
end PL
namespace PL
open PySem L2 Nh
theorem iA{α:Type}(xs:List α)(k:Nat):atI xs (k:Int)=xs[k]? :=by
 unfold atI GU
 rw[if_pos (by omega)]
 split
 ·simp
 ·rw[List.getElem?_eq_none (by omega)];rfl
theorem Hb{α:Type}(a:α)(l:List α):atI (a::l) 0=some a:=iA (a::l) 0
theorem qd{α:Type}{xs:List α}{i:Int}(h:0≤i):atI xs i=xs[i.toNat]? :=by
 have e:i=((i.toNat:Nat):Int):=by omega
 rw[e,iA,wN]
def Ct{α:Type}(l:List α)(lo hi:Option Int):List α:=(l.drop (HT.lR l.length 0 lo)).take (HT.lR l.length l.length hi - HT.lR l.length 0 lo)
theorem pc{α:Type}(l:List α){k:Int}(h0:0≤k):Ct l none (some k)=l.take k.toNat:=by
 have e:k=((k.toNat:Nat):Int):=by omega
 have z:∀d,HT.lR l.length d (some k)=min k.toNat l.length:=fun d=>by
  rw[e,HT.vD,wN]
 unfold Ct
 rw[z,HT.rq,List.drop_zero,Nat.sub_zero]
 rcases Nat.le_total k.toNat l.length with h |h
 ·rw[Nat.min_eq_left h]
 ·rw[Nat.min_eq_right h,List.take_length,List.take_of_length_le h]
theorem xj{α:Type}(l:List α){k:Int}(h0:0≤k):Ct l (some k) none=l.drop k.toNat:=by
 have e:k=((k.toNat:Nat):Int):=by omega
 have z:∀d,HT.lR l.length d (some k)=min k.toNat l.length:=fun d=>by
  rw[e,HT.vD,wN]
 unfold Ct
 rw[z,HT.rq]
 rcases Nat.le_total k.toNat l.length with h |h
 ·rw[Nat.min_eq_left h]
  exact List.take_of_length_le (by rw[List.length_drop];omega)
 ·rw[Nat.min_eq_right h,List.drop_length,List.drop_of_length_le h,List.take_nil]
theorem kU(lo:Int)(n:Nat):j8 lo (n+1)=.int lo::j8 (lo+1) n:=by
 unfold j8
 rw[List.range_succ_eq_map,dQ,List.map_map]
 simp only[Int.natCast_zero,Int.add_zero]
 congr 1
 refine List.map_congr_left fun k _=>?_
 show PyData.int (lo+((k+1:Nat):Int))=PyData.int (lo+1+(k:Int))
 congr 1
 omega
end PL
namespace L2
open PySem PySem.Spec PyProof.Rows
section
variable {X:Cx} {pins:List (Addr×Obj)} {σ:L2.St} {H:Hp} {s:Shared} {h':Heap}
theorem Inv.turnedL{t':Nat}{fp:List Addr}(I:Inv X pins σ H s)(k:∀b o,b∉fp→s.heap.get? b=some o→h'.get? b=some o)(hf:∀b∈fp,ip X pins H b):Inv X pins σ H {s with heap:=h',toks:=t'}:=by
 have nit:∀b u,H b=some u→b∉fp:=fun b u e z=>by rw[(hf b z).1]at e;cases e
 refine I.step (g':=s.gens) (d':=s.drawn) (ch:=fp) (fun b hb=>?_) (fun b o _ _ hc e _=>k b o hc e) (fun b o _ _ hc e _=>⟨o.slots,k b o hc e⟩) (fun _ _ _ _ n=>n)
  (fun b o hc e=>⟨o,k b o hc e⟩) (fun _ _ e=>e) (fun _ _ _ e=>e) (fun _ _ e=>e) (fun m hm=>?_) (fun b u e=>?_) I.bare
 ·obtain⟨f0,f1,f2,f3,f4,f5⟩:=hf b hb
  exact⟨f3,f1,f4,f5⟩
 ·obtain⟨o,es,ep,ho,r⟩:=hm
  exact⟨o,es,ep,k _ o (fun z=>(hf _ z).2.1 rfl) ho,r⟩
 ·refine(I.hok b u e).stay (fun c v hc q=>k c v ?_ q) (fun _ q=>q) fun _ _ q=>q
  rcases hc with z |z
  ·rw[z];exact nit b u e
  ·exact nit c _ z
theorem uc{h:Heap}{o o':Obj}{c:Addr}(hc:c≠h.objs.size)(e:(h.push o').get? c=some o):h.get? c=some o:=(Heap.get?_push_cases e).elim (fun z=>absurd z.1 hc) id
theorem zD{t':Nat}{us:List Value}{vs:List V}(I:Inv X pins σ H s)(r:Vals vs us)(hz:vs.length≤sizeLine):
  Inv X pins σ (upd H s.heap.objs.size (.tup vs)) {s with heap:=s.heap.push {cls:=.type "tuple",data:=.seq us.toArray},toks:=t'}:=
 I.laid (fun b u e=>dF _ e) (dE _) ⟨hz,us,r,⟨_,ie _ rfl,rfl,_,rfl⟩⟩
end
def Iy(K:Frag)(a:Addr)(xs:List V):It:=
 ⟨fun i H=>SqL K H a xs∧i < xs.length,fun i H x H'=>∃T u,H T=none∧xs[i]? =some u∧x=.ref T∧H'=upd H T (.tup [.int i,u]),fun i H=>SqL K H a xs∧i=xs.length⟩
theorem xk{P:Program}{w:World}{K:Frag}{om:List Expr}{k:Nat}{pos:Pos}{e it a:Addr}(hei:e≠it)(xs:List V):Turn P w K (.Tuple om k pos) (Iy K a xs) [e,it] e
  (fun i h=>(∃old,IsEnum h e it i old)∧h.IsListIter it a i) where
 mem:=by simp
 obj:=fun i h st c hc=>by
  obtain⟨⟨old,h1⟩,⟨o4,h4,_,d4⟩⟩:=st
  simp only[Zaf,List.not_mem_nil,or_false]at hc
  rcases hc with rfl |rfl
  ·exact⟨_,h1,fun v z=>by cases z⟩
  ·exact⟨_,h4,fun v z=>by rw[d4]at z;cases z⟩
 keep:=fun i h h' st kk=>by
  obtain⟨⟨old,h1⟩,h4⟩:=st
  exact⟨⟨old,kk e (by simp) _ h1⟩,h4.at fun o q=>kk it (by simp) o q⟩
 item:=by
  intro X hP hw hK hc i pins s σ H E I hf st hg
  subst hP hw hK
  obtain⟨⟨old,h1⟩,h4⟩:=st
  obtain⟨q1,l1⟩:=hg
  obtain⟨its,rv,p,hz⟩:=I.list q1
  obtain⟨u,hu⟩:∃u,xs[i]? =some u:=⟨xs[i],oR l1⟩
  obtain⟨u',hu',ru⟩:=rv.get hu
  refine wpAny_pyNext_enum_item h1 h4 p.isList (x:=u') (by simpa using hu') hei fun h' a1 a3 a5 a6 hk=>?_
  have I0:=zD (t':=s.toks+1) I (us:=[.int i s.toks,u']) (vs:=[.int i,u]) (.cons ⟨_,rfl⟩ (.cons ru .nil)) (by show 2≤sizeLine;decide)
  have hT:∀c∈[e,it],c≠s.heap.objs.size:=fun c hc ZE=>by
   have:c < s.heap.objs.size:=by
    simp only[Zaf,List.not_mem_nil,or_false]at hc
    rcases hc with rfl |rfl
    ·exact dM h1
    ·obtain⟨o,q,_⟩:=h4;exact dM q
   rw[ZE]at this;exact Nat.lt_irrefl _ this
  have hf2:∀c∈[e,it],ip X pins (upd H s.heap.objs.size (.tup [.int i,u])) c:=fun c hc=>by
   obtain⟨f0,f⟩:=hf c hc
   exact⟨by rw[ar (hT c hc)];exact f0,f⟩
  have I1:=I0.turnedL (h':=h') (t':=s.toks+1) (fp:=[e,it]) (fun c o hc q=>by
   simp only[Zaf,List.not_mem_nil,or_false,not_or]at hc
   by_cases ec:c=s.heap.objs.size
   ·subst ec
    rw[ie _ rfl]at q
    cases q
    exact a5
   ·have e':s.heap.get? c=some o:=by
     exact uc ec q
    exact hk c o hc.1 hc.2 e') hf2
  refine⟨_,rfl,wpAny_letOwnedTupleGo_enum (s:={s with heap:=h',toks:=s.toks+1}) a1 fun h'' z'' s''=>?_⟩
  have I2:=I1.turnedL (h':=h'') (t':=s.toks+1) (fp:=[e,it]) (fun c o hc q=>(s''.2 c fun e'=>hc (by simp[e'])).trans q) hf2
  exact⟨.ref s.heap.objs.size,_,I2,rfl,⟨_,u,I.hok.fresh (dE _),hu,rfl,rfl⟩,⟨⟨_,by simpa using z''⟩,a3.extBut s''.extBut (Ne.symm hei)⟩,fun c hc=>(hf2 c hc).1⟩
 done:=by
  intro X hP hw hK hc i pins s σ H E I hf st hg
  subst hP hw hK
  obtain⟨⟨old,h1⟩,h4⟩:=st
  obtain⟨q1,hi⟩:=hg
  obtain⟨its,rv,p,hz⟩:=I.list q1
  have n1:=rv.length
  refine wpAny_pyNext_enum_end (I.ok.hd hc) h1 h4 p.isList (Array.getElem?_eq_none (by rw[kJ];omega)) fun h' hk=>⟨rfl,I.turnedL (t':=s.toks) (fp:=[e,it]) (fun c o hc q=>?_) hf⟩
  simp only[Zaf,List.not_mem_nil,or_false,not_or]at hc
  exact hk c o hc.2 q
 self:=fun _ _ _ _ _ st h=>wpAny_pyIter_enum st.1.choose_spec h
def Hc(K:Frag)(tl:TA):TI:=fun σ H R=>tl σ H fun vs H1=>∃a xs,vs=[.ref a]∧SqL K H1 a xs∧R (Iy K a xs) H1
section
variable {X:Cx} {om:List Expr} {kt:Nat} {pt:Pos}
theorem Cu {l:Expr} {tl:TA} {p pos:Pos} (hg:Gl X "enumerate") (hm:X.mg "enumerate"=none) (ha:PA X [l] tl) (hs:starEach [l] X.env=[(false,eval l X.env)]:=by rfl):PI X (.Tuple om kt pt) (.Call (.Name "enumerate" p) [l] [] pos) (Hc X.K tl):=by
 intro pins s σ H R I h
 refine Call_ (fX I hg hm boot_enumerate (PyProof.Rows.callWith_type1 (bR (ha pos pins s σ H _ I h) fun us s1 ⟨vs,H1,I1,r1,q1⟩=>?_) hs rfl))
 obtain⟨a,xs,e,hq,q⟩:=q1
 subst e
 obtain⟨u,rfl,ru⟩:=r1.one
 cases ru
 obtain⟨its,rva,p1,hz⟩:=I1.list hq
 refine call_enumerate_list p1.isList fun h' z1 z2 z3 hk=>?_
 have I2:Inv X pins σ H1 {s1 with heap:=h'}:=I1.kept (t':=s1.toks) hk
 refine wpAny_pyIter_enum (s:={s1 with heap:=h'}) z1 ⟨_,[_,_],_,_,H1,rfl,I2,xk (Nat.ne_of_gt (Nat.lt_succ_self _)) xs,⟨⟨_,z1⟩,z2⟩,fun c hc=>?_,q⟩
 have le:s1.heap.objs.size≤c:=by
  simp only[Zaf,List.not_mem_nil,or_false]at hc
  rcases hc with rfl |rfl
  ·exact Nat.le_succ _
  ·exact dE _
 exact I1.fpOk le (I1.hok.fresh le)
end
def HP(x:Str):It:=⟨fun i _=>i < x.cps.toList.length,fun i H v H'=>H'=H∧∃c,x.cps.toList[i]? =some c∧v=.str ⟨#[c]⟩,fun i _=>i=x.cps.toList.length⟩
theorem zE {P:Program} {w:World} {K:Frag} {tg:Expr} {it:Addr} {T:String} {x:Str} {t:Tok} (hT:T="str_ascii_iterator"∨T="str_iterator"):Turn P w K tg (HP x) [it] it (fun i h=>h.IsStrIter it T x t i) where
 mem:=by simp
 obj:=fun i h st b hb=>by
  have e:b=it:=by simpa using hb
  subst e
  obtain⟨o,e,c,d⟩:=st
  exact⟨o,e,fun v z=>by rw[d]at z;cases z⟩
 keep:=fun i h h' st k=>let ⟨o,ho,r⟩:=st;⟨o,k it (by simp) o ho,r⟩
 item:=by
  intro X hP hw hK hc i pins s σ H E I hf st hg
  subst hP hw hK
  obtain⟨f0,f1,f2,f3,f4,f5⟩:=hf it (by simp)
  have hi:i < x.cps.toList.length:=hg
  have hx:x.cps[i]? =some (x.cps.toList[i]'hi):=by simp at hi;simp[hi]
  have fin:∀(h':Heap),h'.IsStrIter it T x t (i+1)→Heap.SameBut it s.heap h'→∃u,some (Value.str ⟨#[x.cps.toList[i]'hi]⟩ s.toks)=some u∧
    wpAny (model X.prog X.w) X.A (letOwnedTupleGo tg (.ref it) u) (fun _ s2=>∃v H',Inv X pins σ H' s2∧RelV v u∧(HP x).yld i H v H'∧s2.heap.IsStrIter it T x t (i+1)∧∀b∈[it],H' b=none) E {s with heap:=h',toks:=s.toks+1}:=fun h' st' sb=>by
   have I1:Inv X pins σ H {s with heap:=h',toks:=s.toks+1}:=I.turned (t':=s.toks+1) (fun b o hb e=>(sb.2 b hb).trans e) f0 f1 f3 f4 f5
   obtain⟨o,e,c,d⟩:=id st'
   exact⟨_,rfl,oW (s:={s with heap:=h',toks:=s.toks+1}) e c d (by rcases hT with rfl |rfl <;> decide) ⟨.str ⟨#[x.cps.toList[i]'hi]⟩,H,I1,⟨_,rfl⟩,⟨rfl,_,oR hi,rfl⟩,st',fun b hb=>(hf b hb).1⟩⟩
  rcases hT with rfl |rfl
  ·exact wpAny_pyNext_ascii_item st hx fun h' st' sb=>fin h' st' sb
  ·exact wpAny_pyNext_wide_item st hx fun h' st' sb=>fin h' st' sb
 done:=by
  intro X hP hw hK hc i pins s σ H E I hf st hg
  subst hP hw hK
  obtain⟨f0,f1,f2,f3,f4,f5⟩:=hf it (by simp)
  have hi:i=x.cps.toList.length:=hg
  have hx:x.cps[i]? =none:=by simp at hi;simp[hi]
  rcases hT with rfl |rfl
  ·exact wpAny_pyNext_ascii_end (I.ok.hd hc) st hx fun h' eb=>⟨rfl,I.turned (t':=s.toks) (fun b o hb e=>eb b o hb e) f0 f1 f3 f4 f5⟩
  ·exact wpAny_pyNext_wide_end (I.ok.hd hc) st hx fun h' eb=>⟨rfl,I.turned (t':=s.toks) (fun b o hb e=>eb b o hb e) f0 f1 f3 f4 f5⟩
 self:=fun _ _ _ _ _ st h=>by
  rcases hT with rfl |rfl
  ·exact wpAny_pyIter_striter_ascii st h
  ·exact wpAny_pyIter_striter_wide st h
def Iz(tl:TE):TI:=fun σ H R=>tl σ H fun v H1=>∃x,v=.str x∧R (HP x) H1
theorem Fk{X:Cx}{tg l:Expr}{tl:TE}(hl:PE X l tl):PI X tg l (Iz tl):=by
 intro pins s σ H R I h
 refine bR (hl pins s σ H _ I h) fun v s1 ⟨y,H1,I1,r1,q1⟩=>?_
 obtain⟨x,e,q⟩:=q1
 subst e
 obtain⟨t,rfl⟩:=r1
 refine wpAny_pyIter_strU ?_
 refine⟨s1.heap.objs.size,[s1.heap.objs.size],fun i h=>h.IsStrIter s1.heap.objs.size (strIterType x) x t i,_,H1,rfl,I1.kept (t':=s1.toks) fun b o e=>dF _ e,zE (t:=t) ?_,⟨_,ie _ rfl,rfl,rfl⟩,fun b hb=>?_,q⟩
 ·unfold strIterType
  split
  ·exact .inl rfl
  ·exact .inr rfl
 ·have e:b=s1.heap.objs.size:=by simpa using hb
  subst e
  exact I1.fpOk (dE _) (I1.hok.fresh (dE _))
theorem PI.or{X:Cx}{tg l:Expr}{a b:TI}(h1:PI X tg l a)(h2:PI X tg l b):PI X tg l (fun σ H R=>a σ H R∨b σ H R):=by
 intro pins s σ H R I h
 rcases h with h |h
 ·exact h1 pins s σ H R I h
 ·exact h2 pins s σ H R I h
end L2
namespace PL
open PySem L2 Nh
def gn:Nat→List PyData→List PyData
 |_,[]=>[]
 |k,a::as=>.tuple [.int k,a]::gn (k+1) as
def mI(f:aD):ij:=fun E=>(f E).bind fun a=>(frz a.2 a.1).bind fun b=>match b.1 with
 |.list xs=>some (gn 0 xs,b.2)
 |_=>none
def iB(x:Str):List PyData:=x.cps.toList.map fun c=>.str ⟨#[c]⟩
def cN(f:aD):ij:=fun E=>(f E).bind fun a=>(frz a.2 a.1).bind fun b=>match b.1 with
 |.list ds=>some (ds,b.2)
 |.tuple ds=>some (ds,b.2)
 |.str x=>some (iB x,b.2)
 |_=>none
section
variable {X:Cx} {K:Frag} {B:Hp}
theorem pe:∀{as:List PyData} {k i:Nat} {d:PyData},(gn k as)[i]? =some d→∃a,as[i]? =some a∧d=.tuple [.int ((k+i:Nat):Int),a]
 |a::as,k,0,d,e=>by simp[gn]at e;exact⟨a,rfl,by rw[←e];simp⟩
 |a::as,k,i+1,d,e=>by
  obtain⟨x,h1,h3⟩:=pe (as:=as) (k:=k+1) (i:=i) (by simpa[gn]using e)
  exact⟨x,by simpa using h1,by rw[h3,show k+1+i=k+(i+1) by omega]⟩
 |[],_,_,_,e=>by simp[gn]at e
theorem pf:∀(k:Nat) (as:List PyData),(gn k as).length=as.length
 |_,[]=>rfl
 |k,a::as=>by simp[gn,pf (k+1) as]
theorem xl{a:Addr}{vs:List V}{ds:List PyData}(h:SqL K B a vs)(r:RpA K B vs ds):qa K B (Iy K a vs) (gn 0 ds):=fun {B' F A σ H E xs Xs} i sB fr=>by
 have hH:=fr.fh.seq (fr.bf.seq (sB.seq h))
 refine⟨fun d ed=>?_,fun e=>⟨hH,by rw[e,pf,r.len]⟩⟩
 obtain⟨x,ex,rfl⟩:=pe ed
 obtain⟨v,ev,rv⟩:=r.get ex
 refine⟨⟨hH,(Zar.mp ev).1⟩,fun z H2 ⟨T,v',hT,e1,e3,e4⟩=>?_⟩
 rw[ev]at e1;cases e1
 subst e3 e4
 rw[Nat.zero_add]
 exact⟨_,_,fr.newt (.cons (.int _) (.cons (rv.same (sB.trans fr.bf)) .nil)) hT⟩
theorem zF{x:Str}:qa K B (HP x) (iB x):=fun {B' F A σ H E xs Xs} i sB fr=>by
 refine⟨fun d ed=>?_,fun e=>by show i=x.cps.toList.length;rw[e];simp[iB]⟩
 unfold iB at ed
 rw[q_]at ed
 obtain⟨c,ec,rfl⟩:=Zab.mp ed
 refine⟨(Zar.mp ec).1,fun z H2 ⟨e1,c',e2,e3⟩=>?_⟩
 rw[ec]at e2;cases e2
 subst e1 e3
 exact⟨F,A,fr.push ⟨rfl,_,rfl,.str _⟩⟩
theorem zG{a:Addr}{vs:List V}{ds:List PyData}(h:SqT K B a vs)(r:RpA K B vs ds):qa K B (Ih K a) ds:=fun {B' F A σ H E xs Xs} i sB fr=>by
 have hH:=fr.fh.tup (fr.bf.tup (sB.tup h))
 refine⟨fun d ed=>?_,fun e=>⟨vs,hH,by rw[e,r.len];exact dE _⟩⟩
 obtain⟨v,ev,rv⟩:=r.get ed
 refine⟨⟨vs,v,hH,ev⟩,fun x H2 ⟨e2,y⟩=>?_⟩
 subst e2
 have:=y vs hH
 rw[ev]at this
 cases this
 exact⟨F,A,fr.push ⟨rfl,_,rfl,rv.same (sB.trans fr.bf)⟩⟩
theorem fb{tg e:Expr}{m:Bool}{f:aD}(he:EX X e m f):IX X tg e m (cN f):=qc (PI.or (BM he) (PI.or (Er he) (Fk he))) fun σ H R z=>by
 obtain⟨B,E,xs,Xs,ds,E',fr,cl,e,q⟩:=z
 obtain⟨⟨s,E1⟩,e1,e⟩:=Za.mp e
 obtain⟨⟨d,E2⟩,e2,e⟩:=Za.mp e
 have key:∀(v:V) (H1:Hp),Frm X.K B σ H1 E1 (v::xs) (s::Xs)→∃F2 A2 A3,Rp X.K F2 v d∧Same B F2∧FrF X.K F2 F2 A3 σ H1 E2 xs Xs∧FrF X.K B F2 A2 σ H1 E2 (v::xs) (.sh d::Xs):=fun v H1 ⟨F,A,fr1⟩=>by
  obtain⟨F2,A2,fr2⟩:=fr1.frz0 e2
  obtain⟨v',A1,ev,rfl,w,ew,r⟩:=fr2.ext (k:=0) rfl
  cases ev;cases ew
  obtain⟨A3,fr3⟩:=fr2.pop
  exact⟨F2,A2,A3,r,fr2.bf,fr3.raise,fr2⟩
 simp only at e
 split at e
 ·cases e
  refine .inl ⟨B,E,xs,Xs,s,E1,fr,cl,e1,fun v H1 fr1=>?_⟩
  obtain⟨F2,A2,A3,r,sb,fr3,fr2⟩:=key v H1 fr1
  cases r with
  |lst h1 h2=>exact⟨_,rfl,⟨_,fr2.fh.seq h1⟩,q F2 _ _ sb ⟨F2,A3,fr3⟩ (xh h1 h2)⟩
 ·cases e
  refine .inr (.inl ⟨B,E,xs,Xs,s,E1,fr,cl,e1,fun v H1 fr1=>?_⟩)
  obtain⟨F2,A2,A3,r,sb,fr3,fr2⟩:=key v H1 fr1
  cases r with
  |tup h1 h2=>exact⟨_,rfl,⟨_,fr2.fh.tup h1⟩,q F2 _ _ sb ⟨F2,A3,fr3⟩ (zG h1 h2)⟩
 ·cases e
  refine .inr (.inr ⟨B,E,xs,Xs,s,E1,fr,cl,e1,fun v H1 fr1=>?_⟩)
  obtain⟨F2,A2,A3,r,sb,fr3,fr2⟩:=key v H1 fr1
  cases r
  exact⟨_,rfl,q F2 _ _ sb ⟨F2,A3,fr3⟩ zF⟩
 ·cases e
theorem Cv {om:List Expr} {kt:Nat} {pt p pos:Pos} {e:Expr} {m:Bool} {f:aD} (hg:Gl X "enumerate") (hm:X.mg "enumerate"=none) (he:EX X e m f) (hs:starEach [e] X.env=[(false,eval e X.env)]:=by rfl):IX X (.Tuple om kt pt) (.Call (.Name "enumerate" p) [e] [] pos) m (mI f):=qc (Cu hg hm (bZ he dG hs) hs) fun σ H R z=>by
 obtain⟨B,E,xs,Xs,ds,E',fr,cl,e,q⟩:=z
 obtain⟨⟨s,E1⟩,e1,e⟩:=Za.mp e
 obtain⟨⟨d,E2⟩,e2,e⟩:=Za.mp e
 refine⟨B,E,xs,Xs,s,E1,fr,cl,e1,fun v H1 ⟨F,A,fr1⟩=>?_⟩
 obtain⟨F2,A2,fr2⟩:=fr1.frz0 e2
 simp only at e
 split at e
 ·cases e
  obtain⟨v',A1,ev,rfl,w,ew,r⟩:=fr2.ext (k:=0) rfl
  cases ev;cases ew
  cases r with
  |lst h1 h2=>
   obtain⟨A3,fr3⟩:=fr2.pop
   exact⟨_,_,rfl,fr2.fh.seq h1,q F2 _ _ fr2.bf ⟨F2,A3,fr3.raise⟩ (xl h1 h2)⟩
 ·cases e
end
end PL
namespace PL
open PySem L2 Nh
inductive Cm where
 |lt |le |gt |ge
def Cm.op:Cm→CmpOp
 |.lt=> .Lt
 |.le=> .LtE
 |.gt=> .Gt
 |.ge=> .GtE
def Cm.i:Cm→Int→Int→Bool
 |.lt,i,j=>decide (i < j)
 |.le,i,j=>decide (i≤j)
 |.gt,i,j=>decide (j < i)
 |.ge,i,j=>decide (j≤i)
def Cm.s:Cm→List Nat→List Nat→Bool
 |.lt,i,j=>decide (i < j)
 |.le,i,j=> !decide (j < i)
 |.gt,i,j=>decide (j < i)
 |.ge,i,j=> !decide (i < j)
def fG(c:Cm):PyData→PyData→Option PyData
 |.int i,.int j=>some (.bool (c.i i j))
 |.str x,.str y=>some (.bool (c.s x.cps.toList y.cps.toList))
 |_,_=>none
def Jp(c:Cm):R2:=fun x y H Q=>(∃i j,x=.int i∧y=.int j∧Q (.bl (c.i i j)) H)∨(∃i j,x=.str i∧y=.str j∧Q (.bl (c.s i.cps.toList j.cps.toList)) H)
section
variable {X:Cx} {a b c:Expr} {m1 m2 m3:Bool} {f g h:aD} {pos:Pos} {K:Frag}
theorem rW(c:Cm):OpR X (compareOp c.op) (Jp c):=by
 cases c with
 |lt=>exact OpR.or GO wV
 |le=>exact OpR.or GP (fun pins s σ H x y v u Q I rx ry h=>by
   obtain⟨i,j,rfl,rfl,q⟩:=h
   obtain⟨t,rfl⟩:=rx
   obtain⟨t',rfl⟩:=ry
   exact PySem.P.le_str (aN I q rfl))
 |gt=>exact OpR.or GQ (fun pins s σ H x y v u Q I rx ry h=>by
   obtain⟨i,j,rfl,rfl,q⟩:=h
   obtain⟨t,rfl⟩:=rx
   obtain⟨t',rfl⟩:=ry
   exact PySem.P.gt_str (aN I q rfl))
 |ge=>exact OpR.or GR (fun pins s σ H x y v u Q I rx ry h=>by
   obtain⟨i,j,rfl,rfl,q⟩:=h
   obtain⟨t,rfl⟩:=rx
   obtain⟨t',rfl⟩:=ry
   exact PySem.P.ge_str (aN I q rfl))
theorem rX(c:Cm):oi K (Jp c) (fG c):=fun d1 d2 d v1 v2 H Q e r1 r2=>by
 unfold fG at e
 split at e
 ·cases e;cases r1;cases r2
  exact⟨_,rfl,fun q=>.inl ⟨_,_,rfl,rfl,q⟩⟩
 ·cases e;cases r1;cases r2
  exact⟨_,rfl,fun q=>.inr ⟨_,_,rfl,rfl,q⟩⟩
 ·cases e
theorem xm(c:Cm)(b:Expr):behindInMarks c.op b=false:=by cases c <;> exact kM _
theorem DT(c:Cm)(ha:EX X a m1 f)(hb:EX X b m2 g):TX X (.Compare a [c.op] [b] pos) (m1||m2) (cf (af (eK (fG c)) m2 f g)):=jL (rW c) (gS (rX c)) ha hb (xm c b)
theorem Hd(c1 c2:Cm)(ha:EX X a m1 f)(hb:EX X b m2 g)(hc:EX X c m3 h)(hm:lastMarks [c1.op,c2.op] [b,c]=false:=by with_unfolding_all rfl):EX X (.Compare a [c1.op,c2.op] [b,c] pos) (m1||(m2||m3)) (eL (fG c1) (fG c2) m2 m3 f g h):=zf (rW c1) (rW c2) (rX c1) (rX c2) ha hb hc hm
theorem He(c1 c2:Cm)(ha:EX X a m1 f)(hb:EX X b m2 g)(hc:EX X c m3 h)(hm:lastMarks [c1.op,c2.op] [b,c]=false:=by with_unfolding_all rfl):TX X (.Compare a [c1.op,c2.op] [b,c] pos) (m1||(m2||m3)) (cf (eL (fG c1) (fG c2) m2 m3 f g h)):=zi (rW c1) (rW c2) (rX c1) (rX c2) ha hb hc hm
def zH:P2:=eK (p9 (fun _ j=>decide (0≤j)) fun i j=>.int (i / 2 ^ j.toNat))
def ud:P2:=eK (p9 (fun i j=>decide (0≤j∧j≤1000000∧ -(2 ^ 64) < i∧i < 2 ^ 64)) fun i j=>.int (i*2 ^ j.toNat))
def ue:P2:=eK (p9 (fun _ _=>true) fun i j=>.int (Builtin.bitAnd i j))
theorem Fm(ha:EX X a m1 f)(hb:EX X b m2 g):EX X (.BinOp a .RShift b pos) (m1||m2) (af zH m2 f g):=j5 (r:=B6 (fun _ j=>decide (0≤j)) fun i j=>.int (i / 2 ^ j.toNat)) (OpR.imp EA fun x y H Q ⟨i,j,a,b,c,q⟩=>⟨i,j,a,b,of_decide_eq_true c,q⟩) (jM fun _ _=>rfl) ha hb
theorem uf(ha:EX X a m1 f)(hb:EX X b m2 g):EX X (.BinOp a .LShift b pos) (m1||m2) (af ud m2 f g):=j5 (r:=B6 (fun i j=>decide (0≤j∧j≤1000000∧ -(2 ^ 64) < i∧i < 2 ^ 64)) fun i j=>.int (i*2 ^ j.toNat)) (OpR.imp Ez fun x y H Q ⟨i,j,a,b,c,q⟩=>⟨i,j,a,b,vM (of_decide_eq_true c),q⟩) (jM fun _ _=>rfl) ha hb
theorem qe(ha:EX X a m1 f)(hb:EX X b m2 g):EX X (.BinOp a .BitAnd b pos) (m1||m2) (af ue m2 f g):=j5 (r:=B6 (fun _ _=>true) fun i j=>.int (Builtin.bitAnd i j)) (OpR.imp EB fun x y H Q ⟨i,j,a,b,_,q⟩=>⟨i,j,a,b,q⟩) (jM fun _ _=>rfl) ha hb
def fH:List PyData→Option (List Str)
 |[]=>some []
 |.str x::ds=>(fH ds).map fun xs=>x::xs
 |_::_=>none
def jO:List PyData→Option (List Int)
 |[]=>some []
 |.int x::ds=>(jO ds).map fun xs=>x::xs
 |_::_=>none
theorem gJ:∀{ds:List PyData} {xs:List Str},fH ds=some xs→ds=xs.map .str
 |[],xs,h=>by cases h;rfl
 |d::ds,xs,h=>by
  cases d with
  |str x=>
   obtain⟨ys,e,rfl⟩:=Zab.mp h
   rw[gJ e];rfl
  |_=>cases h
theorem kW:∀{ds:List PyData} {xs:List Int},jO ds=some xs→ds=xs.map .int
 |[],xs,h=>by cases h;rfl
 |d::ds,xs,h=>by
  cases d with
  |int x=>
   obtain⟨ys,e,rfl⟩:=Zab.mp h
   rw[kW e];rfl
  |_=>cases h
theorem iC{H:Hp}:∀{vs:List V} {xs:List Str},RpA K H vs (xs.map .str)→vs=xs.map .str
 |[],[],_=>rfl
 |v::vs,x::xs,.cons h r=>by cases h;rw[iC r];rfl
theorem mJ{H:Hp}:∀{vs:List V} {xs:List Int},RpA K H vs (xs.map .int)→vs=xs.map .int
 |[],[],_=>rfl
 |v::vs,x::xs,.cons h r=>by cases h;rw[mJ r];rfl
def Cw:PyData→PyData→Option Bool
 |.str x,.str y=>some (!(Builtin.Str.occurrences y x 0 y.length 1).isEmpty)
 |.str x,.list ds=>(fH ds).map fun xs=>xs.contains x
 |.str x,.tuple ds=>(fH ds).map fun xs=>xs.contains x
 |.int x,.list ds=>(jO ds).map fun xs=>xs.contains x
 |.int x,.tuple ds=>(jO ds).map fun xs=>xs.contains x
 |_,_=>none
def Fn(K:Frag)(neg:Bool):R2:=fun x y H Q=>(∃i j,x=.str i∧y=.str j∧Q (.bl (if neg then !(!(Builtin.Str.occurrences j i 0 j.length 1).isEmpty)else !(Builtin.Str.occurrences j i 0 j.length 1).isEmpty)) H)∨Ir K neg x y H Q
theorem rY(x:Str)(xs:List Str):Gu (.str x) (xs.map .str)=xs.contains x:=by
 induction xs with
 |nil=>rfl
 |cons y xs ih=>
  rw[List.contains_cons,←ih]
  show(BA (.str y) (.str x)||Gu (.str x) (xs.map .str))=_
  congr 1
  show(y == x)=(x == y)
  exact BEq.comm
theorem rZ(x:Int)(xs:List Int):Gu (.int x) (xs.map .int)=xs.contains x:=by
 induction xs with
 |nil=>rfl
 |cons y xs ih=>
  rw[List.contains_cons,←ih]
  show(BA (.int y) (.int x)||Gu (.int x) (xs.map .int))=_
  congr 1
  show(y == x)=(x == y)
  exact BEq.comm
theorem ug(neg:Bool):oi K (Fn K neg) (fun d1 d2=>(Cw d1 d2).map fun b=>.bool (if neg then !b else b)):=fun d1 d2 d v1 v2 H Q e r1 r2=>by
 obtain⟨b,e',rfl⟩:=Zab.mp e
 clear e
 have e:=e'
 clear e'
 refine⟨_,rfl,fun q=>?_⟩
 have hs:∀xs:List Str,(xs.map V.str).all hG=true:=fun xs=>by simp[Zbj,hG]
 have hi:∀xs:List Int,(xs.map V.int).all hG=true:=fun xs=>by simp[Zbj,hG]
 unfold Cw at e
 split at e
 ·cases e;cases r1;cases r2
  exact .inl ⟨_,_,rfl,rfl,q⟩
 ·obtain⟨xs,ex,rfl⟩:=Zab.mp e
  cases r1
  cases r2 with
  |lst h1 h2=>
   rw[gJ ex]at h2
   rw[iC h2]at h1
   exact .inr ⟨_,_,rfl,.inl h1,rfl,hs _,by rw[rY];exact q⟩
 ·obtain⟨xs,ex,rfl⟩:=Zab.mp e
  cases r1
  cases r2 with
  |tup h1 h2=>
   rw[gJ ex]at h2
   rw[iC h2]at h1
   exact .inr ⟨_,_,rfl,.inr h1,rfl,hs _,by rw[rY];exact q⟩
 ·obtain⟨xs,ex,rfl⟩:=Zab.mp e
  cases r1
  cases r2 with
  |lst h1 h2=>
   rw[kW ex]at h2
   rw[mJ h2]at h1
   exact .inr ⟨_,_,rfl,.inl h1,rfl,hi _,by rw[rZ];exact q⟩
 ·obtain⟨xs,ex,rfl⟩:=Zab.mp e
  cases r1
  cases r2 with
  |tup h1 h2=>
   rw[kW ex]at h2
   rw[mJ h2]at h1
   exact .inr ⟨_,_,rfl,.inr h1,rfl,hi _,by rw[rZ];exact q⟩
 ·cases e
def r8(neg:Bool):P2:=eK fun d1 d2=>(Cw d1 d2).map fun b=>.bool (if neg then !b else b)
theorem zI:OpR X (compareOp .In) (Fn X.K false):=OpR.or wW w6
theorem xn:OpR X (compareOp .NotIn) (Fn X.K true):=OpR.or pT pS
theorem Hg(ha:EX X a m1 f)(hb:EX X b m2 g)(hm:behindInMarks .In b=false:=by with_unfolding_all rfl):EX X (.Compare a [.In] [b] pos) (m1||m2) (af (r8 false) m2 f g):=y8 zI (gS (ug false)) ha hb hm
theorem Hh(ha:EX X a m1 f)(hb:EX X b m2 g)(hm:behindInMarks .In b=false:=by with_unfolding_all rfl):TX X (.Compare a [.In] [b] pos) (m1||m2) (cf (af (r8 false) m2 f g)):=jL zI (gS (ug false)) ha hb hm
theorem zJ(ha:EX X a m1 f)(hb:EX X b m2 g)(hm:behindInMarks .NotIn b=false:=by with_unfolding_all rfl):TX X (.Compare a [.NotIn] [b] pos) (m1||m2) (cf (af (r8 true) m2 f g)):=jL xn (gS (ug true)) ha hb hm
end
def ph(x:Str):PyData→Option PyData
 |.list ds=>(fH ds).bind fun ys=>if (ys.map (·.length)).sum+ys.length*x.length≤1000000 then some (.str (Txt.join x ys))else none
 |.tuple ds=>(fH ds).bind fun ys=>if (ys.map (·.length)).sum+ys.length*x.length≤1000000 then some (.str (Txt.join x ys))else none
 |_=>none
theorem pi{ys:List Str}:∀{us:List Value},Vals (ys.map V.str) us→PyProof.Rows.StrsAre us ys:=by
 induction ys with
 |nil=>intro us h;cases h;exact .nil
 |cons y ys ih=>
  intro us h
  cases h with
  |cons h r=>
   obtain⟨t,rfl⟩:=h
   exact .cons y t (ih r)
def Hi(K:Frag):V→List V→Hp→VK→Prop:=fun x vs H Q=>∃z p ys,x=.str z∧vs=[.ref p]∧(SqL K H p (ys.map .str)∨SqT K H p (ys.map .str))∧(ys.map (·.length)).sum+ys.length*z.length≤16777216∧Q (.str (Txt.join z ys)) H
theorem Cy{X:Cx}:Jm X "str.join" (Hi X.K):=by
 intro pins s σ H x vs v us Q I rx rv h
 obtain⟨z,p,ys,rfl,rfl,hq,hl,q⟩:=h
 obtain⟨t,rfl⟩:=rx
 obtain⟨u,rfl,ru⟩:=rv.one
 cases ru
 rcases hq with hq |hq
 ·obtain⟨its,r,pl,_⟩:=I.list hq
  exact PyProof.Rows.join_list pl.isList (by simpa using pi r) hl fun t' k=>⟨.str _,H,I.tok _,⟨_,rfl⟩,q⟩
 ·obtain⟨its,r,pl,_⟩:=I.tuple hq
  exact PyProof.Rows.join_tuple pl (by simpa using pi r) hl fun t' k=>⟨.str _,H,I.tok _,⟨_,rfl⟩,q⟩
section
variable {X:Cx} {e o:Expr} {m1 m2:Bool} {g:j0} {f h:aD} {p pos apos cpos:Pos} {K:Frag}
def fK(x:Str)(f:aD):aD:=fM (ph x) f
theorem j_ {x:Str} {j:Nat} {sp:Pos} (he:EX X e m1 f) (hs:starEach [e] X.env=[(false,eval e X.env)]:=by rfl) (hbase:attributeBase (.Constant (.str x) j sp) "join" X.env (eval (.Constant (.str x) j sp) X.env)=eval (.Constant (.str x) j sp) X.env:=by rfl)
  (hfew:((backTo cpos (starEach [e] X.env)).all (fun x=> !x.1)&&(backToKw cpos (keywordEach [] X.env)).all (fun x=>x.1.isSome)
   &&decide (([e]:List Expr).length+([]:List Keyword).length+(if ([]:List Keyword).isEmpty then 0 else 1) < 30))=true:=by rfl) (hline:(apos.endLine == cpos.line)=true:=by rfl):
  EX X (.Call (.Attribute (.Constant (.str x) j sp) "join" apos) [e] [] cpos) m1 (fK x f):=by
 refine bn (DH PySem.F.plainAttrs_str PySem.F.slot_str_join PySem.F.type_str_join Cy (pP) (bZ he dG hs) hbase hfew hline hs rfl) fun σ H Q z=>?_
 obtain⟨B,E,xs,Xs,res,E',fr,c,e,q⟩:=z
 obtain⟨⟨s1,E1⟩,e1,e⟩:=Za.mp e
 obtain⟨d1,e2,e⟩:=Za.mp e
 obtain⟨d,e3,e⟩:=Zab.mp e
 cases e
 refine⟨rfl,B,E,xs,Xs,s1,E1,fr,c,e1,fun v1 H1 ⟨F,A,fr1⟩=>?_⟩
 have r:=(fr1.look0 e2).1
 obtain⟨A',fr2⟩:=fr1.pop
 unfold ph at e3
 split at e3
 ·obtain⟨ys,ey,e3⟩:=Za.mp e3
  split at e3
  ·rename_i hl
   cases e3
   cases r with
   |lst h1 h2=>
    rw[gJ ey]at h2
    rw[iC h2]at h1
    exact⟨x,_,ys,rfl,rfl,.inl h1,by omega,q _ _ ⟨F,A',fr2.push ⟨rfl,_,rfl,.str _⟩⟩⟩
  ·cases e3
 ·obtain⟨ys,ey,e3⟩:=Za.mp e3
  split at e3
  ·rename_i hl
   cases e3
   cases r with
   |tup h1 h2=>
    rw[gJ ey]at h2
    rw[iC h2]at h1
    exact⟨x,_,ys,rfl,rfl,.inr h1,by omega,q _ _ ⟨F,A',fr2.push ⟨rfl,_,rfl,.str _⟩⟩⟩
  ·cases e3
 ·cases e3
end
theorem eP{X:Cx}{st:Stmt}:SX X st (fun _=>none):=jK yK fun D σ H z=>by
 obtain⟨B,E,xs,Xs,E',fl,fr,cl,e,q⟩:=z
 cases e
def cO:cI:=fun _=>none
end PL
namespace PL
open PySem L2 Nh
theorem Fo{X:Cx}:SlR X (fun x lo hi H Q=>∃z,x=.str z∧z.length≤sizeLine∧Q (.str (Txt.slice z lo hi)) H):=by
 intro pins s σ H x v vl vu lo hi sl Q I rx hs pl pu h
 obtain⟨z,rfl,hz,q⟩:=h
 obtain⟨t,rfl⟩:=rx
 cases pl with
 |none=>
  cases pu with
  |none=>exact⟨"str",_,PySem.F.slot_str_getitem.lookup,typeIs_str _ _ _,wpAny_getItem_str_slice (l:=none) (u:=none) (st:=none) hs rfl (post_val_or_str ⟨kK (Txt.slice_le z _ _) hz,fun t' k=>⟨.str _,H,I.tok _,⟨_,rfl⟩,q⟩⟩)⟩
  |int j uj=>exact⟨"str",_,PySem.F.slot_str_getitem.lookup,typeIs_str _ _ _,wpAny_getItem_str_slice (l:=none) (u:=some (j,uj)) (st:=none) hs rfl (post_val_or_str ⟨kK (Txt.slice_le z _ _) hz,fun t' k=>⟨.str _,H,I.tok _,⟨_,rfl⟩,q⟩⟩)⟩
 |int i ui=>
  cases pu with
  |none=>exact⟨"str",_,PySem.F.slot_str_getitem.lookup,typeIs_str _ _ _,wpAny_getItem_str_slice (l:=some (i,ui)) (u:=none) (st:=none) hs rfl (post_val_or_str ⟨kK (Txt.slice_le z _ _) hz,fun t' k=>⟨.str _,H,I.tok _,⟨_,rfl⟩,q⟩⟩)⟩
  |int j uj=>exact⟨"str",_,PySem.F.slot_str_getitem.lookup,typeIs_str _ _ _,wpAny_getItem_str_slice (l:=some (i,ui)) (u:=some (j,uj)) (st:=none) hs rfl (post_val_or_str ⟨kK (Txt.slice_le z _ _) hz,fun t' k=>⟨.str _,H,I.tok _,⟨_,rfl⟩,q⟩⟩)⟩
def b7(m2:Bool)(f:aD)(lo hi:E7):aD:=fun E=>(f E).bind fun a=>if m2&&a.1.isBr then none else (lo a.2).bind fun b=>(hi b.2).bind fun c=>match look c.2 a.1 with
 |some (.list ds)=>if !jr c.2 a.1||bT (rJ ds b.1 c.1)then some (.ow (rJ ds b.1 c.1),c.2)else none
 |some (.str z)=>if z.length≤1000000 then some (.sh (.str (Txt.slice z b.1 c.1)),c.2)else none
 |_=>none
theorem dI{X:Cx}{e:Expr}{lo hi:Option Expr}{m1 m2 m3:Bool}{f:aD}{g h:E7}{pos p2:Pos}(he:EX X e m1 f)(hl:OX X lo m2 g)(hh:OX X hi m3 h):EX X (.Subscript e (.Slice lo hi none p2) pos) (m1||(m2||m3)) (b7 (m2||m3) f g h):=by
 refine bn (yW (SlR.or BY Fo) he hl hh) fun σ H Q z=>?_
 obtain⟨B,E,xs,Xs,res,E',fr,cl,e,q⟩:=z
 obtain⟨⟨s,E1⟩,e1,e⟩:=Za.mp e
 by_cases hb:((m2||m3)&&s.isBr)=true
 ·rw[if_pos hb]at e;cases e
 rw[if_neg hb]at e
 have n1:(m2||m3)=true→s.isBr=false:=fun z=>by
  cases hs:s.isBr with
  |false=>rfl
  |true=>exact absurd (by rw[z,hs];rfl) hb
 obtain⟨⟨l,E2⟩,e2,e⟩:=Za.mp e
 obtain⟨⟨u,E3⟩,e3,e⟩:=Za.mp e
 refine⟨B,E,xs,Xs,s,E1,fr,fun z=>cl (by simp[z]),e1,fun v1 H1 fr1=>?_⟩
 refine⟨B,E1,v1::xs,s::Xs,l,E2,fr1,fun z=>Calm.cons (cl (by simp[z])) (n1 (by simp[z])),e2,fun H2 fr2=>?_⟩
 refine⟨B,E2,v1::xs,s::Xs,u,E3,fr2,fun z=>Calm.cons (cl (by simp[z])) (n1 (by simp[z])),e3,fun H3 ⟨F,A,fr3⟩=>?_⟩
 simp only at e
 split at e
 ·rename_i ds ld
  split at e
  ·rename_i hc
   cases e
   obtain⟨v,ev,r,f0⟩:=fr3.look (k:=0) rfl ld
   cases ev
   obtain⟨A',fr4⟩:=fr3.pop
   cases hh:jr E' s with
   |false=>
    obtain⟨a,vs,rfl,h1,h2⟩:=f0 hh
    exact .inl ⟨a,vs,rfl,h1,fun p hp=>q _ _ ⟨F,_,fr4.newl (h2.cut l u) hp⟩⟩
   |true=>
    rw[hh]at hc
    cases r with
    |lst h1 h2=>exact .inl ⟨_,_,rfl,h1,fun p hp=>q _ _ ⟨F,_,fr4.newl (fr3.coldA (h2.cut l u) (by simpa using hc)) hp⟩⟩
  ·cases e
 ·rename_i z ld
  split at e
  ·rename_i hc
   cases e
   have r:=(fr3.look0 ld).1
   cases r
   obtain⟨A',fr4⟩:=fr3.pop
   exact .inr ⟨_,rfl,fE hc,q _ _ ⟨F,A',fr4.push ⟨rfl,_,rfl,.str _⟩⟩⟩
  ·cases e
 ·cases e
def iD(scope:Scope)(env:Env):List (Str×Addr):=((scope.names.filter fun p=>p.2 ==.free).map fun p=>(p.1,(env.cells.lookup p.1).getD 0)).reverse
theorem gK{X:Cx}{scope:Scope}{N:List Str}{js:List (Option Nat)}(clos:closureFor scope X.env=pure (iD scope X.env):=by rfl)(nocell:∀y∈scope.names,y.2≠ .cell:=by decide+kernel)(kind:scope.kind=.function:=by rfl)
  (names:∀y∈scope.names,y.2=.local→scope.names.lookup y.1=some .local:=by decide+kernel) (same:(scope.names.filter fun p=>p.2 ==.free).all (fun p=>(X.env.cells.lookup p.1).isSome)=true:=by rfl)
  (has:(relabel scope X.env).names.all (fun y=> !(y.2 ==.cell||y.2 ==.free)||((iD scope X.env).lookup y.1).isSome)=true:=by rfl) (len:js.length=N.length:=by rfl)
  (fr:(js.zip N).all (fun p=>match p.1 with |none=>true |some j=>X.N[j]? == some p.2&&((relabel scope X.env).names.lookup p.2 == some .cell||(relabel scope X.env).names.lookup p.2 == some .free)&&(X.env.kindOf p.2 == some .cell||X.env.kindOf p.2 == some .free))=true:=by rfl):
  CompOk X scope (relabel scope X.env) (iD scope X.env) N js where
 clos:=clos
 rel:=rfl
 nocell:=nocell
 kind:=kind
 names:=names
 same:=fun x c e=>by
  have hm:=PySem.mem_of_lookup e
  unfold iD at hm
  obtain⟨p,hp,ep⟩:=Zau.mp (List.mem_reverse.mp hm)
  have:=Zbj.mp same _ hp
  obtain⟨c',ec⟩:=Option.isSome_iff_exists.mp this
  injection ep with e1 e2
  subst e1
  rw[ec]at e2 ⊢
  exact congrArg some e2
 has:=fun x h=>by
  have key:∀k,(relabel scope X.env).names.lookup x=some k→(k == NameKind.cell||k == NameKind.free)=true→∃c,(iD scope X.env).lookup x=some c:=fun k h hk=>by
   have:=Zbj.mp has _ (PySem.mem_of_lookup h)
   simp only[hk,Bool.not_true,Bool.false_or]at this
   exact Option.isSome_iff_exists.mp this
  rcases h with h |h
  ·exact key _ h rfl
  ·exact key _ h rfl
 len:=len
 from_:=fun i j h=>by
  have hi:i < js.length:=(Zar.mp h).1
  obtain⟨x,ex⟩:∃x,N[i]? =some x:=⟨N[i]'(by omega),oR (by omega)⟩
  have hz:(js.zip N)[i]? =some (some j,x):=by rw[List.getElem?_zip_eq_some];exact⟨h,ex⟩
  have:=Zbj.mp fr _ (List.mem_of_getElem? hz)
  simp only[lQ,Bool.or_eq_true,beq_iff_eq]at this
  exact⟨x,ex,this.1.1,this.1.2,this.2⟩
structure Bn (mg:Str→Option Value):Prop where
 len:mg "len"=none
 range:mg "range"=none
 abs:mg "abs"=none
 min:mg "min"=none
 max:mg "max"=none
 reversed:mg "reversed"=none
 enumerate:mg "enumerate"=none
 isinstance:mg "isinstance"=none
 list:mg "list"=none
 tuple:mg "tuple"=none
 str:mg "str"=none
 int:mg "int"=none
 bool:mg "bool"=none
 sorted:mg "sorted"=none
 zip:mg "zip"=none
 sum:mg "sum"=none
 any:mg "any"=none
 all:mg "all"=none
 set:mg "set"=none
 dict:mg "dict"=none
theorem Hj{K:Frag}{h:Heap}{mg:Str→Option Value}(X:K.In h)(G:h.Ns mainGlobals mg)
  (z1:nsIn K mainGlobals "len"=some none) (z2:nsIn K mainGlobals "range"=some none) (z3:nsIn K mainGlobals "abs"=some none) (z4:nsIn K mainGlobals "min"=some none) (z5:nsIn K mainGlobals "max"=some none) (z6:nsIn K mainGlobals "reversed"=some none) (z7:nsIn K mainGlobals "enumerate"=some none) (z8:nsIn K mainGlobals "isinstance"=some none) (z9:nsIn K mainGlobals "list"=some none) (z10:nsIn K mainGlobals "tuple"=some none) (z11:nsIn K mainGlobals "str"=some none) (z12:nsIn K mainGlobals "int"=some none) (z13:nsIn K mainGlobals "bool"=some none) (z14:nsIn K mainGlobals "sorted"=some none) (z15:nsIn K mainGlobals "zip"=some none) (z16:nsIn K mainGlobals "sum"=some none) (z17:nsIn K mainGlobals "any"=some none) (z18:nsIn K mainGlobals "all"=some none) (z19:nsIn K mainGlobals "set"=some none) (z20:nsIn K mainGlobals "dict"=some none):Bn mg:=
 ⟨mg_none_of X G z1,mg_none_of X G z2,mg_none_of X G z3,mg_none_of X G z4,mg_none_of X G z5,mg_none_of X G z6,mg_none_of X G z7,mg_none_of X G z8,mg_none_of X G z9,mg_none_of X G z10,mg_none_of X G z11,mg_none_of X G z12,mg_none_of X G z13,mg_none_of X G z14,mg_none_of X G z15,mg_none_of X G z16,mg_none_of X G z17,mg_none_of X G z18,mg_none_of X G z19,mg_none_of X G z20⟩
end PL
namespace PL
open PySem PySem.Spec L2 Nh PyProof.Rows
def HQ(lo c:Int)(n:Nat):It:=⟨fun i _=>i < n,fun i H x H'=>H'=H∧x=.int (lo+i*c),fun i _=>n≤i⟩
theorem r_{P:Program}{w:World}{K:Frag}{tg:Expr}(it:Addr)(lo c:Int)(n:Nat):Turn P w K tg (HQ lo c n) [it] it (fun i h=>IsRangeIter h it (lo+(i:Nat)*c) ((n:Int) - (i:Nat)) c) where
 mem:=by simp
 obj:=fun i h st b hb=>by
  have e:b=it:=by simpa using hb
  subst e
  exact⟨_,st,fun v z=>by
   have z':Data.fields _=Data.cell v:=z
   cases z'⟩
 keep:=fun i h h' st k=>k it (by simp) _ st
 item:=by
  intro X hP hw hK hc i pins s σ H E I hf st hg
  subst hP hw hK
  obtain⟨f0,f1,f2,f3,f4,f5⟩:=hf it (by simp)
  have W:=Walks.range (prog:=X.prog) (w:=X.w) (I.ok.hd hc) it lo c n
  refine W.item i s _ _ hg st fun v h' tk hv st' kk=>?_
  obtain⟨t,rfl⟩:=hv
  have I1:Inv X pins σ H {s with heap:=h',toks:=tk}:=I.turned (fun b o hb e=>kk b o (by simpa using hb) e) f0 f1 f3 f4 f5
  exact⟨_,rfl,oW (s:={s with heap:=h',toks:=tk}) (n:="range_iterator") st' rfl rfl (by decide) ⟨.int (lo+i*c),H,I1,⟨t,rfl⟩,⟨rfl,rfl⟩,st',fun b hb=>(hf b hb).1⟩⟩
 done:=by
  intro X hP hw hK hc i pins s σ H E I hf st hg
  subst hP hw hK
  obtain⟨f0,f1,f2,f3,f4,f5⟩:=hf it (by simp)
  exact wpAny_pyNext_range_end (I.ok.hd hc) st (by have:n≤i:=hg;omega) fun h' eb=>⟨rfl,I.turned (t':=s.toks) (fun b o hb e=>eb b o hb e) f0 f1 f3 f4 f5⟩
 self:=fun _ _ _ _ _ st h=>wpAny_pyIter_rangeiter st h
def oo(a b c:Int):Nat:=(Builtin.Range.rangeSize a b c).toNat
def n8(i:Int):Prop:= -1000000≤i∧i≤1000000
instance (i:Int):Decidable (n8 i):=inferInstanceAs (Decidable (_∧_))
theorem vV{a b c:Int}(ha:n8 a)(hb:n8 b)(hc:n8 c)(h0:c≠0):0≤Builtin.Range.rangeSize a b c∧Builtin.Range.rangeSize a b c≤2000000:=by
 unfold n8 at ha hb hc
 unfold Builtin.Range.rangeSize
 split
 ·split
  ·have h1:0≤(b - a - 1) / c:=Int.ediv_nonneg (by omega) (by omega)
   have h2:(b - a - 1) / c≤b - a - 1:=Int.ediv_le_self _ (by omega)
   omega
  ·omega
 ·split
  ·have h1:0≤(a - b - 1) / (-c):=Int.ediv_nonneg (by omega) (by omega)
   have h2:(a - b - 1) / (-c)≤a - b - 1:=Int.ediv_le_self _ (by omega)
   omega
  ·omega
theorem fits{i:Int}(h: -10000000≤i∧i≤10000000):Builtin.Range.rangeFitsLong i=true:=by
 unfold Builtin.Range.rangeFitsLong
 simp only[lQ,decide_eq_true_eq]
 omega
theorem zK{a b c:Int}(ha:n8 a)(hb:n8 b)(hc:n8 c)(h0:c≠0):Builtin.Range.small a b c=true:=by
 obtain⟨s1,s2⟩:=vV ha hb hc h0
 unfold n8 at ha hb hc
 unfold Builtin.Range.small
 rw[fits (i:=a) (by omega),fits (i:=b) (by omega),fits (i:=c) (by omega),fits (i:=Builtin.Range.rangeSize a b c) (by omega)]
 split
 ·rw[fits (by omega)];simp
 ·rw[fits (by omega)];simp
def xo(a c:Int)(n:Nat):List PyData:=(List.range n).map fun(k:Nat)=>.int (a+(k:Int)*c)
def Hk(ta:TA):TI:=fun σ H R=>ta σ H fun vs H1=>∃a b c:Int,vs=[.int a,.int b,.int c]∧(n8 a∧n8 b∧n8 c∧c≠0)∧R (HQ a c (oo a b c)) H1
section
variable {X:Cx} {tg:Expr}
theorem xp{pins:List (Addr×Obj)}{σ:L2.St}{H:Hp}{s:Shared}{R:It→Hp→Prop}{E:Value→Shared→Prop}{lo hi c:Int}{t u v:Tok}{tk:Nat}(I:Inv X pins σ H s)(ha:n8 lo)(hb:n8 hi)(hc:n8 c)(h0:c≠0)
  (q:R (HQ lo c (oo lo hi c)) H):wpAny (model X.prog X.w) X.A (pyIter (.ref s.heap.objs.size)) (Ie X pins σ tg R) E {s with heap:=s.heap.push {cls:=.type "range",data:=.fields #[.int lo t,.int hi u,.int c v]},toks:=tk}:=by
 refine wpAny_pyIter_range (IsRange.new ..) (zK ha hb hc h0) ?_
 have I1:Inv X pins σ H {s with heap:=s.heap.push {cls:=.type "range",data:=.fields #[.int lo t,.int hi u,.int c v]},toks:=tk}:=I.kept fun b o e=>dF _ e
 refine⟨(s.heap.push {cls:=.type "range",data:=.fields #[.int lo t,.int hi u,.int c v]}).objs.size,[(s.heap.push {cls:=.type "range",data:=.fields #[.int lo t,.int hi u,.int c v]}).objs.size],_,_,H,rfl,
  I1.kept (t':=tk) fun b o e=>dF _ e,r_ _ lo c (oo lo hi c),?_,fun b hb=>?_,q⟩
 ·have e1:lo+((0:Nat):Int)*c=lo:=by simp
  have e2:((oo lo hi c:Nat):Int) - ((0:Nat):Int)=Builtin.Range.rangeSize lo hi c:=by
   have:=(vV ha hb hc h0).1
   unfold oo
   omega
  show IsRangeIter _ _ (lo+((0:Nat):Int)*c) (((oo lo hi c:Nat):Int) - ((0:Nat):Int)) c
  rw[e1,e2]
  exact ie _ rfl
 ·have e:b=(s.heap.push {cls:=.type "range",data:=.fields #[.int lo t,.int hi u,.int c v]}).objs.size:=by simpa using hb
  subst e
  exact I1.fpOk (dE _) (I1.hok.fresh (dE _))
theorem xq {a b c:Expr} {ta:TA} {p pos:Pos} (hg:Gl X "range") (hm:X.mg "range"=none) (ha:PA X [a,b,c] ta) (hs:starEach [a,b,c] X.env=[(false,eval a X.env),(false,eval b X.env),(false,eval c X.env)]:=by rfl) (hs2:starEach [b,c] X.env=[(false,eval b X.env),(false,eval c X.env)]:=by rfl):
  PI X tg (.Call (.Name "range" p) [a,b,c] [] pos) (Hk ta):=by
 intro pins s σ H R I h
 refine Call_ (fX I hg hm boot_range (PyProof.Rows.callWith_type1 (bR (ha pos pins s σ H _ I h) fun us s1 ⟨vs,H1,I1,r1,q1⟩=>?_) (by rw[hs,hs2]) (by rw[hs2];rfl)))
 obtain⟨i,j,k,e,⟨q1,q2,q3,q4⟩,q⟩:=q1
 subst e
 cases r1 with
 |cons r rr=>
  cases rr with
  |cons r' rr=>
   cases rr with
   |cons r'' rr=>
    cases rr
    obtain⟨t,rfl⟩:=r
    obtain⟨t',rfl⟩:=r'
    obtain⟨t'',rfl⟩:=r''
    exact call_range_3 q4 (xp I1 q1 q2 q3 q4 q) (.inl (PyProof.noPylong_small (by unfold n8 at q3;omega)))
end
def mK(g:j0):ij:=fun E=>(g E).bind fun a=>match bB a.2 a.1 with
 |some [.int i,.int j,.int k]=>if n8 i∧n8 j∧n8 k∧k≠0 then some (xo i k (oo i j k),a.2)else none
 |_=>none
theorem RpA.three{K:Frag}{H:Hp}{vs:List V}{d e f:PyData}(h:RpA K H vs [d,e,f]):∃v u t,vs=[v,u,t]∧Rp K H v d∧Rp K H u e∧Rp K H t f:=by
 cases h with
 |cons h t=>
  obtain⟨u,t,rfl,r,r'⟩:=t.two
  exact⟨_,_,_,rfl,h,r,r'⟩
section
variable {X:Cx} {tg e e2 e3:Expr} {m:Bool} {g:j0} {p pos:Pos} {K:Frag} {B:Hp}
theorem se{lo c:Int}{n:Nat}:qa K B (HQ lo c n) (xo lo c n):=fun {B' F A σ H E xs Xs} i sB fr=>by
 have hl:(xo lo c n).length=n:=by simp[xo]
 refine⟨fun d ed=>?_,fun e=>?_⟩
 ·have hi:i < n:=by have:=(Zar.mp ed).1;omega
  refine⟨hi,fun x H2 ⟨e2,y⟩=>?_⟩
  subst e2 y
  have:d=.int (lo+i*c):=by
   unfold xo at ed
   rw[q_,List.getElem?_range hi]at ed
   exact(Option.some.inj ed).symm
  subst this
  exact⟨F,A,fr.push ⟨rfl,_,rfl,.int _⟩⟩
 ·show n≤i
  omega
theorem xr (hg:Gl X "range") (hm:X.mg "range"=none) (ha:AX X [e,e2,e3] m g) (hs:starEach [e,e2,e3] X.env=[(false,eval e X.env),(false,eval e2 X.env),(false,eval e3 X.env)]:=by rfl) (hs2:starEach [e2,e3] X.env=[(false,eval e2 X.env),(false,eval e3 X.env)]:=by rfl):IX X tg (.Call (.Name "range" p) [e,e2,e3] [] pos) m (mK g):=qc (xq hg hm ha hs hs2) fun σ H R z=>by
 obtain⟨B,E,xs,Xs,ds,E',fr,cl,e,q⟩:=z
 obtain⟨⟨rs,E1⟩,e1,e⟩:=Za.mp e
 refine⟨B,E,xs,Xs,rs,E1,fr,cl,e1,fun vs H1 hl ⟨F,A,fr1⟩=>?_⟩
 simp only at e
 split at e
 ·rename_i i j k ld
  split at e
  ·rename_i hj
   cases e
   obtain⟨r,A',fr2⟩:=fr1.looks hl ld
   obtain⟨v,u,t,rfl,r1,r2,r3⟩:=r.three
   cases r1;cases r2;cases r3
   exact⟨i,j,k,rfl,hj,q B _ _ (Same.refl _) ⟨F,A',fr2⟩ se⟩
  ·cases e
 ·cases e
end
end PL
namespace PL
open PySem PySem.SeqAt
open AutoSeq1 (wpAny_loadPart')
open MeetsSeq MeetsSeq2 MeetsSeq3 SeqRoads2
def zL(e r:Nat→Bool)(fin:Bool):List Nat→Bool
 |[]=>fin
 |j::js=>if e j then zL e r fin js else r j
end PL
theorem L2.Room.units2{k:Nat}{A:PySem.Around}(r:L2.Room k A):A.units+70 < PySem.cLine:=by
 have:=r.un
 have h:(PySem.cLine:Nat)=PySem.cLine:=rfl
 omega
namespace PL
open PySem L2 Nh
def gU:List PyData→Option (List Bool)
 |[]=>some []
 |.bool b::ds=>(gU ds).map (b:: ·)
 |_=>none
def Cz:List PyData→Option PyData
 |[.list ds]=>(gU ds).map fun bs=>.bool (bs.all id)
 |_=>none
def uh(K:Frag)(f:List Bool→Bool):List V→Hp→VK→Prop:=fun xs H Q=>∃p bs,xs=[.ref p]∧SqL K H p (bs.map V.bl)∧Q (.bl (f bs)) H
theorem sf{K:Frag}{H:Hp}:∀{vs:List V} {ds:List PyData} {bs:List Bool},RpA K H vs ds→gU ds=some bs→vs=bs.map V.bl
 |_,_,bs,.nil,e=>by cases e;rfl
 |_,_,bs,.cons (d:=d) h t,e=>by
  cases d <;> simp[gU]at e
  obtain⟨cs,e,rfl⟩:=e
  cases h
  rw[sf t e]
  rfl
theorem zM{K:Frag}{f:List Bool→Bool}:Ck K (uh K f) (fun ds=>match ds with
 |[.list ds]=>(gU ds).map fun bs=>.bool (f bs)
 |_=>none):=fun ds d vs H Q e r=>by
 simp only at e
 split at e
 ·obtain⟨bs,eb,rfl⟩:=Zab.mp e
  obtain⟨v,rfl,r1⟩:=r.one
  cases r1 with
  |lst h1 h2=>
   have:=sf h2 eb
   subst this
   exact⟨_,rfl,fun q=>⟨_,bs,rfl,h1,q⟩⟩
 ·cases e
theorem pj:∀bs:List Bool,(List.range bs.length).all (fun i=>bs.getD i false)=bs.all id
 |[]=>rfl
 |b::bs=>by
  rw[List.length_cons,List.range_succ_eq_map,List.all_cons,List.all_map,List.all_cons,←pj bs]
  rfl
section
variable {X:Cx} {e:Expr} {es:List Expr} {m1:Bool} {g:j0} {p pos:Pos}
theorem mL:∀{bs:List Bool} {us:List Value},Vals (bs.map V.bl) us→us=bs.map Value.bool
 |[],_,.nil=>rfl
 |b::bs,_,.cons h t=>by cases h;rw[mL t];rfl
theorem CA{bs:List Bool}{i:Nat}{v:Value}(h:(bs.map Value.bool).toArray[i]? =some v):v=.bool (bs.getD i false):=by
 rw[List.getElem?_toArray,q_]at h
 obtain⟨b,e,rfl⟩:=Zab.mp h
 rw[List.getD_eq_getElem?_getD,e]
 rfl
theorem xt(hc:X.calm=true):CallR X (.builtin "all") (uh X.K fun bs=>bs.all id):=by
 intro pins s σ H xs us Q I r h
 obtain⟨a,bs,rfl,hq,q⟩:=h
 cases r with
 |cons r rr=>
  cases rr
  cases r
  obtain⟨its,rv,pl,hz⟩:=I.list hq
  have:=mL rv
  subst this
  obtain⟨o,n,eo,_⟩:=id pl
  have hlt:a < s.heap.objs.size:=dM eo
  refine call_all_walk (wpAny_pyIter_list pl.isList ?_)
  refine⟨s.heap.objs.size,_,_,_,_,_,fun i=>bs.getD i false,rfl,Walks.list (A:=X.A.in1) (I.ok.hd hc) s.heap.objs.size a (eF hlt) (bs.map Value.bool).toArray,?_,?_,?_⟩
  ·exact⟨⟨_,ie _ rfl,rfl,rfl⟩,pl.isList.at fun o e=>dF _ e⟩
  ·intro i v s Q E hv hQ
   rw[CA hv]
   exact wpAny_truthy_bool hQ
  ·intro h' tk hk
   refine⟨.bl _,H,I.kept (t':=tk) fun b o e=>hk b o (fun z=>?_) (dF _ e),rfl,?_⟩
   ·have:b=s.heap.objs.size:=by simpa using z
    exact Nat.lt_irrefl _ (this▸dM e)
   ·rw[show((bs.map Value.bool).toArray).size=bs.length by simp,pj]
    exact q
theorem Fq (hc:X.calm=true) (hg:Gl X "all") (hm:X.mg "all"=none) (ha:AX X [e] m1 g) (he:starEach [e] X.env=[(false,eval e X.env)]:=by rfl):EX X (.Call (.Name "all" p) [e] [] pos) m1 (bG Cz g):=j7 (r:=uh X.K fun bs=>bs.all id) zM (xt hc) hg hm PyProof.Rows.boot_all ha (by decide) (by decide) he rfl
theorem iX:∀{ns:List Int} {us:List Value},Vals (ns.map V.int) us→us.length=ns.length∧∀(i:Nat) (v:Value),us[i]? =some v→∃t,v=Value.int (ns.getD i 0) t
 |[],_,.nil=>⟨rfl,fun i v h=>by simp at h⟩
 |n::ns,_,.cons h t=>by
  obtain⟨tk,rfl⟩:=h
  obtain⟨h1,h2⟩:=iX t
  refine⟨by simp[h1],fun i v h=>?_⟩
  cases i with
  |zero=>simp at h;subst h;exact⟨tk,rfl⟩
  |succ i=>simpa using h2 i v (by simpa using h)
end
end PL
namespace PL
open PySem L2 Nh
def qY(a b:Str):Bool:=decide (a.cps.toList≤b.cps.toList)
def hJ(ss:List Str):List Str:=ss.mergeSort qY
theorem i6(a b c:Str)(h:qY a b=true)(k:qY b c=true):qY a c=true:=decide_eq_true (List.le_trans (of_decide_eq_true h) (of_decide_eq_true k))
theorem kX(a b:Str):(qY a b||qY b a)=true:=by
 rcases List.le_total a.cps.toList b.cps.toList with h |h
 ·simp[qY,h]
 ·simp[qY,h]
theorem mM{a b:Str}(h:qY a b=true)(k:qY b a=true):a=b:=by
 have e:=List.le_antisymm (of_decide_eq_true h) (of_decide_eq_true k)
 cases a;cases b
 simp only at e
 rw[Array.toList_inj.mp e]
theorem pq:∀(p:Str) (l:List Str),PyProof.Rows.risingS p l=true→(p::l).Pairwise (fun a b=>qY a b=true)
 |p,[],_=>by simp
 |p,x::r,h=>by
  have h':(!PySem.Spec.ltCps x.cps.toList p.cps.toList&&PyProof.Rows.risingS x r)=true:=h
  rw[lQ,PyProof.Rows.ltCps_eq]at h'
  have ih:=pq x r h'.2
  have hpx:qY p x=true:=by
   have:=h'.1
   simp only[Bool.not_eq_true',decide_eq_false_iff_not]at this
   exact decide_eq_true this
  refine List.pairwise_cons.mpr ⟨fun y hy=>?_,ih⟩
  rcases Zaf.mp hy with rfl |hy
  ·exact hpx
  ·exact i6 p x y hpx ((List.pairwise_cons.mp ih).1 y hy)
theorem xu:∀l:List Str,PyProof.Rows.sortedS l=true→l.Pairwise (fun a b=>qY a b=true)
 |[],_=>List.Pairwise.nil
 |x::r,h=>pq x r h
theorem mO{a b:List Str}(p:a.Perm b)(h:PyProof.Rows.sortedS a=true):a=hJ b:=
 List.Perm.eq_of_pairwise (fun _ _ _ _ h k=>mM h k) (xu a h) (List.pairwise_mergeSort i6 kX b) (p.trans (List.mergeSort_perm b qY).symm)
theorem kY(ss:List Str):(hJ ss).length=ss.length:=(List.mergeSort_perm ss qY).length_eq
section
variable {X:Cx} {e:Expr} {m1:Bool} {f:aD} {p pos:Pos}
theorem mP:∀{ss:List Str} {us:List Value},Vals (ss.map V.str) us→PyProof.Rows.StrsAre us ss
 |[],_,.nil=>.nil
 |s::ss,_,.cons h t=>by obtain⟨tk,rfl⟩:=h;exact .cons _ _ (mP t)
theorem mQ:∀{ss:List Str} {us:List Value},PyProof.Rows.StrsAre us ss→Vals (ss.map V.str) us
 |[],_,.nil=>.nil
 |_::_,_,.cons y t h=>.cons ⟨t,rfl⟩ (mQ h)
theorem qf:CallR X (.builtin "sorted") (fun xs H Q=>∃(p:Addr) (ss:List Str),xs=[.ref p]∧SqL X.K H p (ss.map V.str)∧ss.length < 64∧∀l,H l=none→Q (.ref l) (upd H l (.lst ((hJ ss).map V.str)))):=by
 intro pins s σ H xs us Q I r h
 obtain⟨p,ss,rfl,hq,h64,q⟩:=h
 cases r with
 |cons r rr=>
  cases rr
  cases r
  obtain⟨its,rv,pl,hz⟩:=I.list hq
  have hS:=mP rv
  have hl:its.length=ss.length:=by have:=rv.length;simpa using this.symm
  refine PyProof.Rows.sorted_strs pl.isList hS (by omega) fun out ss' a1 a2 a3=>?_
  have:=mO a2 a3
  subst this
  obtain⟨e,he⟩:=PyProof.Rows.sortedAll_at s.heap its out
  refine⟨.ref (s.heap.objs.size+1),_,I.laid (t':=s.toks) (fun b o=>PyProof.Rows.sortedAll_old) (Nat.le_succ _) (show ObjOk X.prog X.w _ _ _ (.lst ((hJ ss).map V.str))from⟨?_,out.toList,e,mQ a1,he⟩),rfl,q _ (I.hok.fresh (Nat.le_succ _))⟩
  rw[dY,kY]
  exact fE (by omega)
def jz:List PyData→Option (List Str)
 |[]=>some []
 |.str x::ds=>(jz ds).map (x:: ·)
 |_=>none
theorem kb{K:Frag}{H:Hp}:∀{vs:List V} {ds:List PyData} {bs:List Str},RpA K H vs ds→jz ds=some bs→vs=bs.map V.str
 |_,_,bs,.nil,e=>by cases e;rfl
 |_,_,bs,.cons (d:=d) h t,e=>by
  cases d <;> simp[jz]at e
  obtain⟨cs,e,rfl⟩:=e
  cases h
  rw[kb t e]
  rfl
theorem f8{K:Frag}{H:Hp}:∀ss:List Str,RpA K H (ss.map V.str) (ss.map PyData.str)
 |[]=>.nil
 |s::ss=>.cons (.str s) (f8 ss)
def l9(g:aD):aD:=fun E=>(g E).bind fun a=>match look a.2 a.1 with
 |some (.list ds)=>(jz ds).bind fun ss=>if ss.length < 64 then some (.ow ((hJ ss).map .str),a.2)else none
 |_=>none
theorem xv (hg:Gl X "sorted") (hm:X.mg "sorted"=none) (ha:EX X e m1 f) (he:starEach [e] X.env=[(false,eval e X.env)]:=by rfl):EX X (.Call (.Name "sorted" p) [e] [] pos) m1 (l9 f):=by
 refine bn (iq qf hg hm PyProof.Rows.boot_sorted (bZ ha dG he) (by decide) (by decide) he rfl) fun σ H Q z=>?_
 obtain⟨B,E,xs,Xs,res,E',fr,cl,e,q⟩:=z
 obtain⟨⟨s,E1⟩,e1,e⟩:=Za.mp e
 refine⟨B,E,xs,Xs,s,E1,fr,cl,e1,fun v1 H1 ⟨F,A,fr1⟩=>?_⟩
 obtain⟨A',fr2⟩:=fr1.pop
 simp only at e
 split at e
 ·rename_i ds ld
  obtain⟨ss,es,e⟩:=Za.mp e
  split at e
  ·rename_i hc
   cases e
   have r:=(fr1.look0 ld).1
   cases r with
   |lst h1 h2=>
    have:=kb h2 es
    subst this
    exact⟨_,ss,rfl,h1,hc,fun l hl=>q _ _ ⟨F,_,fr2.newl (f8 _) hl⟩⟩
  ·cases e
 ·cases e
end
end PL
namespace PL
open PySem L2 Nh
def BB(ks:List Str)(x:Str):List Str:=if x∈ks then ks else ks++[x]
def iE(ss:List Str):List Str:=ss.foldl BB []
def kc(x:Str):List Str:=x.cps.toList.map fun c=>⟨#[c]⟩
def f_(g:aD):aD:=fun E=>(g E).bind fun a=>match look a.2 a.1 with
 |some (.list ds)=>(jz ds).bind fun ss=>if ss.length < 4000∧(iE ss).length < 64 then some (.ow ((hJ (iE ss)).map .str),a.2)else none
 |some (.str x)=>if (kc x).length < 4000∧(iE (kc x)).length < 64 then some (.ow ((hJ (iE (kc x))).map .str),a.2)else none
 |_=>none
end PL
namespace NhSet
open PySem PyProof.Rows
structure SS (w:World) (b:Bool) (ks:List Str) (es:Array (Int×Value)) (t:SetTable):Prop where
 perm:(es.toList.map (fun e=>strOf e.2)).Perm ks
 elems:∀e∈es.toList,∃x tk,e=(hashStr w x,Value.str x tk)
 bound:es.size < scanBound
 fits:t.fits es.size=true
 led:t.led=b
 plain:es.size≠0→t.plain=false
abbrev ck(es:Array (Int×Value))(ep:Nat)(t:SetTable):Obj:={cls:=.type "set",dict:=none,data:=.set es ep t}
def StrSet(w:World)(h:Heap)(a:Addr)(b:Bool)(ks:List Str):Prop:=∃es ep t,h.get? a=some (ck es ep t)∧SS w b ks es t
theorem StrSet.at'{w:World}{h h':Heap}{a:Addr}{b:Bool}{ks:List Str}(S:StrSet w h a b ks)(e:∀o,h.get? a=some o→h'.get? a=some o):StrSet w h' a b ks:=
 let ⟨es,ep,t,ho,r⟩:=S;⟨es,ep,t,e _ ho,r⟩
theorem StrSet.obj{w:World}{h:Heap}{a:Addr}{b:Bool}{ks:List Str}(S:StrSet w h a b ks):∃o,h.get? a=some o:=let ⟨_,_,_,ho,_⟩:=S;⟨_,ho⟩
theorem SS.elemsOf{prog:Program}{w:World}{b:Bool}{ks:List Str}{es:Array (Int×Value)}{t:SetTable}(S:SS w b ks es t):ElemsOf (strKind prog w) es.toList:=fun e he=>by
 obtain⟨x,tk,rfl⟩:=S.elems e he
 exact⟨⟨x,by simp[PySem.strKind,Value.isStrOf],rfl⟩,rfl⟩
theorem SS.len{w:World}{b:Bool}{ks:List Str}{es:Array (Int×Value)}{t:SetTable}(S:SS w b ks es t):es.size=ks.length:=by
 have:=S.perm.length_eq;simpa using this
theorem SS.mem{w:World}{b:Bool}{ks:List Str}{es:Array (Int×Value)}{t:SetTable}(S:SS w b ks es t)(x:Str):x∈ks↔∃e∈es.toList,Value.isStrOf x e.2=true:=by
 rw[←S.perm.mem_iff,Zau]
 constructor
 ·rintro⟨e,he,rfl⟩
  obtain⟨y,tk,rfl⟩:=S.elems e he
  exact⟨_,he,by simp[Value.isStrOf,strOf]⟩
 ·rintro⟨e,he,hx⟩
  obtain⟨y,tk,rfl⟩:=S.elems e he
  have:y=x:=by simpa[Value.isStrOf]using hx
  exact⟨_,he,by simp[strOf,this]⟩
theorem SetTable.orStandIn_led(t:SetTable)(n:Nat):(t.orStandIn n).led=t.led:=by
 unfold SetTable.orStandIn;split <;> rfl
theorem uk(t:SetTable)(es:Array (Int×Value))(h:Int)(x:Value):(layNew t es h x).2.1.led=t.led:=by
 unfold layNew
 split
 ·exact SetTable.orStandIn_led _ _
 ·rfl
theorem ul{mask finger moves:Nat}{led plain:Bool}{hashes:Array Int}{t':SetTable}{order:Array Nat}(h:SetTable.laid mask finger moves led plain hashes=some (t',order)):t'.led=led∧t'.plain=plain:=by
 unfold SetTable.laid at h
 cases hc:SetTable.layClean mask hashes with
 |none=>rw[hc]at h;simp at h
 |some ow=>rw[hc]at h;simp at h;rw[←h.1];exact⟨rfl,rfl⟩
theorem mR(t:SetTable)(es:Array (Int×Value))(wanted:Nat)(hp:t.plain=false):(relayAll t es wanted).2.1.led=t.led∧(relayAll t es wanted).2.1.plain=false:=by
 unfold relayAll
 split
 ·rename_i t' order hr
  dsimp only
  split
  ·have:=ul hr
   exact⟨this.1,this.2.trans hp⟩
  ·exact⟨rfl,rfl⟩
 ·exact⟨rfl,rfl⟩
section
variable {prog:Program} {w:World} {A:Around} {E:Value→Shared→Prop} {s:Shared}
theorem oq(es es':Array (Int×Value))(ep:Nat)(t t':SetTable):Obj.putSet es' t' (ck es ep t)=ck es' (ep+1) t':=rfl
theorem si{h:Heap}{a:Addr}{es es':Array (Int×Value)}{ep:Nat}{t t':SetTable}(ho:h.get? a=some (ck es ep t)):(h.update a (Obj.putSet es' t')).get? a=some (ck es' (ep+1) t'):=
 vq (Obj.putSet es' t') ho (by rw[oq];rfl)
theorem vW{g:Bool→Sem Unit}(hg:∀(b:Bool) (s₁:Shared) (Q':Unit→Shared→Prop),Q' () s₁→wpAny (model prog w) A (g b) Q' E s₁)
  {a:Addr} {es:Array (Int×Value)} {ep:Nat} {t:SetTable} (ho:s.heap.get? a=some (ck es ep t))
  {es1:Array (Int×Value)} {t2:SetTable} {b:Bool} {ks:List Str} (S:SS w b ks es1 t2) (hp:t2.plain=false) {wasDummy:Bool} {R:Option Bool→Shared→Prop}
  (h:∀h',Heap.SameBut a s.heap h'→StrSet w h' a b ks→R (some true) {s with heap:=h'}):
  wpAny (model prog w) A (do
    storeSet a es1 t2
    if (!wasDummy&&t2.tooFull)=true then do
      g (relayAll t2 es1 (SetTable.grown es1.size)).2.2
      storeSet a (relayAll t2 es1 (SetTable.grown es1.size)).1 (relayAll t2 es1 (SetTable.grown es1.size)).2.1
      pure (some true)
     else pure (some true)) R E s:=by
 refine wpAny_bind (wpAny_storeSet_of ho rfl ?_ (fits_of_scanBound S.bound))
 have ho1:=si (es':=es1) (t':=t2) ho
 have hsb1:=Heap.SameBut.update s.heap a (Obj.putSet es1 t2)
 split
 ·have hpm:=relayAll_perm t2 es1 (SetTable.grown es1.size)
  have hfr:=relayAll_fits t2 es1 (SetTable.grown es1.size)
  have hmk:=mR t2 es1 (SetTable.grown es1.size) hp
  generalize hRl:relayAll t2 es1 (SetTable.grown es1.size)=Rl at hpm hfr hmk ⊢
  obtain⟨es2,t3,gave2⟩:=Rl
  dsimp only at hpm hfr hmk ⊢
  have hsz:es2.size=es1.size:=by rw[←yC,hpm.length_eq,yC]
  have hb2:es2.size < scanBound:=by rw[hsz];exact S.bound
  have S2:SS w b ks es2 t3:=⟨(hpm.map _).trans S.perm,fun e he=>S.elems e (hpm.mem_iff.mp he),hb2,hfr,hmk.1.trans S.led,fun _=>hmk.2⟩
  refine wpAny_bind (hg _ _ _ ?_)
  refine wpAny_bind (wpAny_storeSet_of ho1 rfl ?_ (fits_of_scanBound hb2))
  exact wpAny_pure (h _ (hsb1.trans (Heap.SameBut.update _ a _)) ⟨es2,_,t3,si ho1,S2⟩)
 ·exact wpAny_pure (h _ hsb1 ⟨es1,_,t2,ho1,S⟩)
def lV(ks:List Str)(x:Str):List Str:=if x∈ks then ks else ks++[x]
theorem kZ{a:Addr}{b:Bool}{ks:List Str}{x:Str}{tk:Tok}{Q:Bool→Shared→Prop}(hS:StrSet w s.heap a b ks)(hroom:ks.length+1 < scanBound)
  (h:∀(r:Bool) h',Heap.SameBut a s.heap h'→StrSet w h' a b (lV ks x)→Q r {s with heap:=h'}):
  wpAny (model prog w) A (setAddHashed a (.str x tk) (hashStr w x)) Q E s:=by
 obtain⟨es,ep,t,ho,S⟩:=hS
 have hb1:es.size+1 < scanBound:=by rw[S.len];exact hroom
 have hel:=S.elemsOf (prog:=prog)
 have hkey:(strKind prog w).is x (.str x tk)=true:=by simp[PySem.strKind,Value.isStrOf]
 unfold setAddHashed setAddHashedIn
 refine wpAny_holding (wpAny_bind (wpAny_setState_of ho rfl S.fits ?_))
 dsimp only
 rw[byScan_of (knd:=strKind prog w) (x:=.str x tk) rfl S.bound hel]
 simp only[↓reduceIte]
 unfold setAddByScan
 refine wpAny_bind ?_
 refine wpAny_bind (wpAny_rule ?_)
 refine wpAny_bind (wpAny_setScan_of (knd:=strKind prog w) hkey ho rfl S.fits hel ?_)
 cases hr:List.findIdx? (fun e=>(strKind prog w).is x e.2) es.toList with
 |some j=>
  dsimp only
  obtain⟨hj,hpj,_⟩:=List.findIdx?_eq_some_iff_getElem.mp hr
  have hk:x∈ks:=(S.mem x).mpr ⟨es.toList[j],List.getElem_mem hj,hpj⟩
  refine wpAny_pure (wpAny_pure ?_)
  have e:s={s with heap:=s.heap}:=by cases s;rfl
  rw[e]
  exact h _ s.heap (Heap.SameBut.refl a s.heap) (by rw[lV,if_pos hk];exact⟨es,ep,t,ho,S⟩)
 |none=>
  dsimp only
  have hk:x∉ks:=fun hk=>by
   obtain⟨e,he,hp⟩:=(S.mem x).mp hk
   have:=List.findIdx?_eq_none_iff.mp hr e he
   rw[show(strKind prog w).is x e.2=true from hp]at this;exact Bool.noConfusion this
  have hgw:∀(b:Bool) {s₁:Shared} {Q':Unit→Shared→Prop},Q' () s₁→wpAny (model prog w) A (match b with |true=>rule "set.scan.the-table-gave-way" |false=>pure ()) Q' E s₁:=
   fun b s₁ Q' hq=>by cases b <;> first |exact wpAny_pure hq |exact wpAny_rule hq
  have hperm:=layNew_perm t es (hashStr w x) (.str x tk)
  have hfits:=layNew_fits t es (hashStr w x) (.str x tk)
  have hled:=uk t es (hashStr w x) (.str x tk)
  generalize hL:layNew t es (hashStr w x) (.str x tk)=L at hperm hfits hled ⊢
  obtain⟨es1,t1,wasDummy,gave⟩:=L
  dsimp only at hperm hfits hled ⊢
  rw[Array.toList_push]at hperm
  have hb1':es1.size < scanBound:=by rw[←yC,hperm.length_eq,wM,yC];simpa using hb1
  have hpm:(es1.toList.map (fun e=>strOf e.2)).Perm (ks++[x]):=(hperm.map _).trans (by rw[tU];exact S.perm.append_right _)
  have hel1:∀e∈es1.toList,∃x tk,e=(hashStr w x,Value.str x tk):=fun e he=>by
   rcases Zao.mp (hperm.mem_iff.mp he)with z |z
   ·exact S.elems e z
   ·exact⟨x,tk,Zak.mp z⟩
  refine wpAny_bind (hgw _ ?_)
  split
  ·refine wpAny_bind ?_
   rw[hashByValue_scannable 8 (x:=.str x tk) rfl]
   refine wpAny_pure ?_
   simp only[plainKind,Bool.false_eq_true,↓reduceIte]
   refine vW ?_ ho (t2:={t1 with plain:=false}) (ks:=lV ks x) (b:=b) ⟨by rw[lV,if_neg hk];exact hpm,hel1,hb1',SetTable.fits_plain_off hfits,hled.trans S.led,fun _=>rfl⟩ rfl ?_
   ·intro b s₁ Q' hq;cases b <;> first |exact wpAny_pure hq |exact wpAny_rule hq
   ·intro h' hsb hS';dsimp only;exact wpAny_pure (h _ h' hsb hS')
  ·rename_i hpl
   refine wpAny_bind (wpAny_pure ?_)
   simp only[↓reduceIte]
   have hpl':t1.plain=false:=by simpa using hpl
   refine vW ?_ ho (ks:=lV ks x) (b:=b) ⟨by rw[lV,if_neg hk];exact hpm,hel1,hb1',hfits,hled.trans S.led,fun _=>hpl'⟩ hpl' ?_
   ·intro b s₁ Q' hq;cases b <;> first |exact wpAny_pure hq |exact wpAny_rule hq
   ·intro h' hsb hS';dsimp only;exact wpAny_pure (h _ h' hsb hS')
end
def jP(val:Nat→Str)(i:Nat):List Str:=((List.range i).map val).foldl lV []
theorem pv(val:Nat→Str)(i:Nat):jP val (i+1)=lV (jP val i) (val i):=by
 unfold jP;rw[List.range_succ,tU,List.foldl_append];rfl
theorem zN(ks:List Str)(x:Str):(lV ks x).length≤ks.length+1:=by
 unfold lV;split
 ·omega
 ·simp
theorem sj(val:Nat→Str):∀i,(jP val i).length≤i
 | 0=>dE _
 |i+1=>by rw[pv];have:=sj val i;have:=zN (jP val i) (val i);omega
section
variable {prog:Program} {w:World} {A:Around} {R:Result→Shared→Prop} {I:Addr} {fp wr:List Addr} {G:Array GenState→Array GenState→Prop} {n:Nat} {P:Nat→Value→Prop} {St:Nat→Shared→Prop}
theorem lC(W:WalksS prog w A.in1 I fp wr G n P St)(S:Addr)(hSf:S∉fp)(b:Bool)
  (val:Nat→Str) (hval:∀i v,P i v→∃t,v=.str (val i) t) (hb:n+1 < scanBound):
  ∀(k i:Nat) (s:Shared),n - i=k→i≤n→St i s→StrSet w s.heap S b (jP val i)→
   (∀s',Moved (S::wr) G s s'→StrSet w s'.heap S b (jP val n)→R (.ok (.ret .none)) s')→
   codeAny (model prog w) A (.builtin "set.update.loop" ⟨[.ref S,.ref I],[]⟩) R s:=by
 have hSw:S∉wr:=fun h=>hSf (W.sub _ h)
 have hsub:∀b∈wr,b∈S::wr:=fun b hb=>fJ _ hb
 intro k
 induction k with
 |zero=>
  intro i s hk hi hst hS hR
  have hin:i=n:=by omega
  subst hin
  refine codeAny_builtin PyProof.Rows.F.entry_set_update_loop ?_
  rw[Around.under_plainId PyProof.Rows.F.plain_set_update_loop _]
  show wpAny _ A.in1 (pyNext (.ref I) >>= _) _ _ s
  refine wpAny_bind (W.done s _ _ hst fun s' hm=>?_)
  show wpAny _ A.in1 (ret Value.none) _ _ s'
  exact wpAny_pure (hR s' (hm.mono hsub) (hS.at' fun o e=>hm.heap S o hSw e))
 |succ k ih=>
  intro i s hk hi hst hS hR
  have hlt:i < n:=by omega
  refine codeAny_builtin PyProof.Rows.F.entry_set_update_loop ?_
  rw[Around.under_plainId PyProof.Rows.F.plain_set_update_loop _]
  show wpAny _ A.in1 (pyNext (.ref I) >>= _) _ _ s
  refine wpAny_bind (W.item i s _ _ hlt hst fun v s' hP hst' hm=>?_)
  obtain⟨t,rfl⟩:=hval i v hP
  have hS':StrSet w s'.heap S b (jP val i):=hS.at' fun o e=>hm.heap S o hSw e
  show wpAny _ A.in1 (holding [Value.str (val i) t] (setAdd S (.str (val i) t)) >>= _) _ _ s'
  refine wpAny_bind (wpAny_holding ?_)
  unfold setAdd
  refine wpAny_holding ?_
  refine wpAny_bind (wpAny_pyHash_str ?_)
  have hroom:(jP val i).length+1 < scanBound:=by have:=sj val i;omega
  refine kZ (s:={s' with toks:=s'.toks+1}) hS' hroom fun r h' hsb hS2=>?_
  refine wpAny_pure ⟨plainId_quiet PyProof.Rows.F.plain_set_update_loop _,ih (i+1) _ (by omega) hlt (W.frame _ s' _ _ hst' (Nat.le_succ _) fun b hb o e=>?_) (by rw[pv];exact hS2) fun s'' hm'' hS''=>?_⟩
  ·rw[hsb.2 b (fun h:b=S=>hSf (by rw[←h];exact hb))];exact e
  ·refine hR s'' (Moved.trans W.gtrans ((hm.mono hsub).then_heap (Nat.le_succ _) fun b o hb e=>?_) hm'') hS''
   rw[hsb.2 b (fun h:b=S=>hb (by rw[h];exact gk))];exact e
end
theorem ke(w:World)(led:Bool):SS w led [] #[] (.fresh 0 0 led):=⟨by simp,fun e he=>by simp at he,by decide,by rfl,rfl,fun h=>absurd rfl h⟩
def jA(w:World):Bool:= !w.params.followText "set-order"
section
variable {prog:Program} {w:World} {A:Around} {E:Value→Shared→Prop} {s:Shared}
theorem sq(a:Value){Q₁:Value→Shared→Prop}
  (h:Q₁ (.ref s.heap.objs.size) {s with heap:=s.heap.push (ck #[] 0 (.fresh 0 0 (jA w)))}):
  codeAny (model prog w) A (.call (.builtin "set.__new__") ⟨[.type "set",a],[]⟩) (wants Q₁ E) s:=by
 refine codeAny_of_tree ?_
 show wpAny _ A.in1 (do checkBuiltinCall "set.__new__" ⟨[.type "set",a],[]⟩;again (.builtin "set.__new__" ⟨[.type "set",a],[]⟩)) _ _ s
 refine wpAny_bind (wpAny_of_eq (PySem.F.newCall_set_1 a) (wpAny_pure ⟨plainId_quiet PySem.F.plain_set_new _,codeAny_builtin PySem.F.entry_set_new ?_⟩))
 rw[Around.under_plainId PySem.F.plain_set_new _]
 unfold Builtin.«set.__new__» Builtin.Frozenset.newClass
 have hsub:=sub_set_self
 obtain⟨hp,g,d,tk,os⟩:=s
 dsimp only
 wp_walk
 refine wpAny_askSetting (wpAny_pure ?_)
 dsimp only
 simp only[newObj]
 refine wpAny_bind (wpAny_alloc (wpAny_pure ?_))
 exact wpAny_pure h
end
end NhSet
namespace NhSet
open PySem PyProof.Rows
namespace F
theorem sr:isSubtype (.type "str") (.type "set")=pure false:=by rw[isSubtype_type];kernel_rfl
theorem kf:isSubtype (.type "str") (.type "frozenset")=pure false:=by rw[isSubtype_type];kernel_rfl
end F
section
variable {prog:Program} {w:World} {A:Around} {E:Value→Shared→Prop} {s:Shared}
theorem vX:∀{vs:List Value} {ns:List Str},StrsAre vs ns→∀(i:Nat) (v:Value),vs[i]? =some v→∃t,v=.str (ns.getD i ⟨#[]⟩) t
 |_,_,.nil,i,v,h=>by simp at h
 |_,_,.cons n t hr,0,v,h=>by simp at h;exact⟨t,by rw[←h];rfl⟩
 |_,_,.cons n t hr,i+1,v,h=>by
  simp only[Z3]at h
  obtain⟨t',e⟩:=vX hr i v h
  exact⟨t',by rw[e];rfl⟩
set_option maxHeartbeats 4000000 in
theorem xw{l:Addr}{items:Array Value}{ns:List Str}{Q:Value→Shared→Prop}
  (hh:A.handled=none) (hl:s.heap.IsList l items) (hi:StrsAre items.toList ns) (hb:items.size+1 < scanBound)
  (h:∀(h':Heap) (tk:Nat),StrSet w h' s.heap.objs.size (jA w) (jP (fun i=>ns.getD i ⟨#[]⟩) items.size)→
   (∀b o,b < s.heap.objs.size→s.heap.get? b=some o→h'.get? b=some o)→Q (.ref s.heap.objs.size) {s with heap:=h',toks:=tk}):
  wpAny (model prog w) A (call (.type "set") [.ref l]) Q E s:=by
 obtain⟨c,tl,hmro⟩:=PySem.F.called_set.mro
 have hmade:=PySem.F.called_set.made
 have hsub:=PySem.F.called_set.sub
 refine wpAny_call (codeAny_of_tree ?_)
 show wpAny _ _ (callAny (.type "set") _) _ _ _
 refine wpAny_pure ⟨Code.quiet_builtin _ (by decide+kernel),codeAny_builtin PySem.F.entry_type_call ?_⟩
 rw[Around.under_plain (weight_type_call_type "set" [.ref l] []) rfl]
 have h1:=PySem.F.called_set.notType
 have h2:=PySem.F.called_set.canCreate
 have hct:=PySem.F.typeCall_set_1 (.ref l)
 repeat (any_goals (first |assumption |wp_step))
 generalize hled:jA w=led at h
 refine codeAny_mono (sq (w:=w) (.ref l) (E:=E) (Q₁:=fun obj s₁=>obj=.ref s.heap.objs.size∧s₁={s with heap:=s.heap.push {cls:=.type "set",dict:=none,data:=.set #[] 0 (.fresh 0 0 led)}}) (by rw[hled];exact⟨rfl,rfl⟩)) fun r s₁ hr=>?_
 cases r with
 |error e=>exact hr
 |ok fl=>
  cases fl with
  |ret obj=>
   obtain⟨rfl,rfl⟩:=hr
   have hS:(s.heap.push {cls:=.type "set",dict:=none,data:=.set #[] 0 (.fresh 0 0 led)}).get? s.heap.objs.size=some {cls:=.type "set",dict:=none,data:=.set #[] 0 (.fresh 0 0 led)}:=ie _ rfl
   have hT:Shared.TypeIs {s with heap:=s.heap.push {cls:=.type "set",dict:=none,data:=.set #[] 0 (.fresh 0 0 led)}} (.ref s.heap.objs.size) "set":=⟨_,hS,rfl⟩
   have hli:=PySem.F.called_set.init.lookup
   have hbi:=PySem.F.called_set.init.bind (.ref s.heap.objs.size)
   repeat (any_goals (first |assumption |wp_step))
   refine codeAny_mono (codeAny_call_builtin (R:=wants (fun r s₂=>r=.none∧∃h' tk,s₂={s with heap:=h',toks:=tk}∧
     StrSet w h' s.heap.objs.size led (jP (fun i=>ns.getD i ⟨#[]⟩) items.size)∧
     (∀b o,b < s.heap.objs.size→s.heap.get? b=some o→h'.get? b=some o)) E) PySem.F.called_set.init.plain PySem.F.entry_set_init (check_set_init_1 hT ?_)) fun r₂ s₂ hr₂=>?_
   ·obtain⟨ol,hol,hcl,nl,hdl⟩:=hl
    obtain⟨ocls,odict,odata,oslots⟩:=ol
    simp only at hcl hdl
    subst hcl;subst hdl
    have hol':(s.heap.push {cls:=.type "set",dict:=none,data:=.set #[] 0 (.fresh 0 0 led)}).get? l=some {cls:=.type "list",dict:=odict,data:=.seq items nl,slots:=oslots}:=dF _ hol
    have hsls:=PySem.F.sub_list_set
    have hslf:=PySem.F.sub_list_frozenset
    have hne:(Value.type "list" == Value.type "dict")=false:=by decide
    have hl1:(s.heap.push {cls:=.type "set",dict:=none,data:=.set #[] 0 (.fresh 0 0 led)}).IsList l items:=⟨_,hol',rfl,nl,rfl⟩
    unfold Builtin.«set.__init__» noKeywords Builtin.Frozenset.updateFrom
    generalize hPI:pyIter=PI
    wp_walk
    subst hPI
    refine wpAny_pyIter_list hl1 ?_
    refine wpAny_bind (wpAny_runValue ?_)
    have hlS:l < s.heap.objs.size:=dM hol
    have hh3:A.in1.in1.in1.handled=none:=by simp[hh]
    have hneI:l≠(s.heap.push {cls:=.type "set",dict:=none,data:=.set #[] 0 (.fresh 0 0 led)}).objs.size:=by
     rw[rh];exact eF (vt hlS)
    have hSf:s.heap.objs.size∉[(s.heap.push {cls:=.type "set",dict:=none,data:=.set #[] 0 (.fresh 0 0 led)}).objs.size,l]:=by
     rw[rh];simp only[Zaf,Zak,List.not_mem_nil,or_false,not_or]
     exact⟨eF (Nat.lt_succ_self _),Nat.ne_of_gt hlS⟩
    have hval:∀(i:Nat) (v:Value),items[i]? =some v→∃t,v=.str ((fun i=>ns.getD i ⟨#[]⟩) i) t:=fun i v hv=>
     vX hi i v (by rw[Array.getElem?_toList];exact hv)
    refine lC ((Walks.list hh3 _ l hneI items).toS) s.heap.objs.size
     hSf led (fun i=>ns.getD i ⟨#[]⟩) hval hb (items.size - 0) 0 _ (by omega) (Nat.zero_le _)
     ⟨⟨_,ie _ rfl,rfl,rfl⟩,(hl1.push _)⟩ ?hS0 ?hR
    case hS0=>
     have hget:((s.heap.push {cls:=.type "set",dict:=none,data:=.set #[] 0 (.fresh 0 0 led)}).push {cls:=.type "list_iterator",data:=.fields #[.ref l,.int 0 0]}).get? s.heap.objs.size
       =some {cls:=.type "set",dict:=none,data:=.set #[] 0 (.fresh 0 0 led)}:=dF _ hS
     exact⟨_,_,_,hget,ke w led⟩
    case hR=>
     intro s' hm hS'
     obtain⟨h',g',d',tk',os'⟩:=s'
     have eg:g'=s.gens:=hm.gens
     have ed:d'=s.drawn:=hm.drawn
     have eo:os'=s.os:=hm.os
     subst eg;subst ed;subst eo
     show wpAny _ _ _ _ _ _
     refine wpAny_pure ?_
     show wpAny _ _ (ret Value.none) _ _ _
     refine wpAny_pure ⟨rfl,h',tk',rfl,hS',fun b o hb e=>?_⟩
     have hb1:b≠s.heap.objs.size:=eF hb
     have hb2:b≠(s.heap.push {cls:=.type "set",dict:=none,data:=.set #[] 0 (.fresh 0 0 led)}).objs.size:=by
      rw[rh];exact eF (vt hb)
     exact hm.heap b o (by simp only[Zaf,Zak,List.not_mem_nil,or_false,not_or];exact⟨hb1,hb2⟩) (dF _ (dF _ e))
   ·cases r₂ with
    |error e=>exact hr₂
    |ok fl₂=>
     cases fl₂ with
     |ret r=>
      obtain⟨rfl,h',tk,rfl,hS',hk'⟩:=hr₂
      repeat (any_goals (first |assumption |wp_step))
      exact h _ _ hS' hk'
     |_=>exact hr₂.elim
  |_=>exact hr.elim
def gV(x:Str)(i:Nat):Str:=⟨#[x.cps.getD i 0]⟩
set_option maxHeartbeats 4000000 in
theorem zO{x:Str}{t:Tok}{Q:Value→Shared→Prop}
  (hh:A.handled=none) (hb:x.cps.size+1 < scanBound)
  (h:∀(h':Heap) (tk:Nat),StrSet w h' s.heap.objs.size (jA w) (jP (gV x) x.cps.size)→
   (∀b o,b < s.heap.objs.size→s.heap.get? b=some o→h'.get? b=some o)→Q (.ref s.heap.objs.size) {s with heap:=h',toks:=tk}):
  wpAny (model prog w) A (call (.type "set") [.str x t]) Q E s:=by
 obtain⟨c,tl,hmro⟩:=PySem.F.called_set.mro
 have hmade:=PySem.F.called_set.made
 have hsub:=PySem.F.called_set.sub
 refine wpAny_call (codeAny_of_tree ?_)
 show wpAny _ _ (callAny (.type "set") _) _ _ _
 refine wpAny_pure ⟨Code.quiet_builtin _ (by decide+kernel),codeAny_builtin PySem.F.entry_type_call ?_⟩
 rw[Around.under_plain (weight_type_call_type "set" [.str x t] []) rfl]
 have h1:=PySem.F.called_set.notType
 have h2:=PySem.F.called_set.canCreate
 have hct:=PySem.F.typeCall_set_1 (.str x t)
 repeat (any_goals (first |assumption |wp_step))
 generalize hled:jA w=led at h
 refine codeAny_mono (sq (w:=w) (.str x t) (E:=E) (Q₁:=fun obj s₁=>obj=.ref s.heap.objs.size∧s₁={s with heap:=s.heap.push {cls:=.type "set",dict:=none,data:=.set #[] 0 (.fresh 0 0 led)}}) (by rw[hled];exact⟨rfl,rfl⟩)) fun r s₁ hr=>?_
 cases r with
 |error e=>exact hr
 |ok fl=>
  cases fl with
  |ret obj=>
   obtain⟨rfl,rfl⟩:=hr
   have hS:(s.heap.push {cls:=.type "set",dict:=none,data:=.set #[] 0 (.fresh 0 0 led)}).get? s.heap.objs.size=some {cls:=.type "set",dict:=none,data:=.set #[] 0 (.fresh 0 0 led)}:=ie _ rfl
   have hT:Shared.TypeIs {s with heap:=s.heap.push {cls:=.type "set",dict:=none,data:=.set #[] 0 (.fresh 0 0 led)}} (.ref s.heap.objs.size) "set":=⟨_,hS,rfl⟩
   have hli:=PySem.F.called_set.init.lookup
   have hbi:=PySem.F.called_set.init.bind (.ref s.heap.objs.size)
   repeat (any_goals (first |assumption |wp_step))
   refine codeAny_mono (codeAny_call_builtin (R:=wants (fun r s₂=>r=.none∧∃h' tk,s₂={s with heap:=h',toks:=tk}∧
     StrSet w h' s.heap.objs.size led (jP (gV x) x.cps.size)∧
     (∀b o,b < s.heap.objs.size→s.heap.get? b=some o→h'.get? b=some o)) E) PySem.F.called_set.init.plain PySem.F.entry_set_init (check_set_init_1 hT ?_)) fun r₂ s₂ hr₂=>?_
   ·have hsls:=F.sr
    have hslf:=F.kf
    have hne:(Value.type "str" == Value.type "dict")=false:=by decide
    have hTx:Shared.TypeIs {s with heap:=s.heap.push {cls:=.type "set",dict:=none,data:=.set #[] 0 (.fresh 0 0 led)}} (.str x t) "str":=rfl
    unfold Builtin.«set.__init__» noKeywords Builtin.Frozenset.updateFrom
    generalize hPI:pyIter=PI
    wp_walk
    subst hPI
    refine wpAny_pyIter_str fun o St W hst=>?_
    refine wpAny_bind (wpAny_runValue ?_)
    have hh3:A.in1.in1.in1.handled=none:=by simp[hh]
    have hSf:s.heap.objs.size∉[(s.heap.push {cls:=.type "set",dict:=none,data:=.set #[] 0 (.fresh 0 0 led)}).objs.size]:=by
     rw[rh];simp only[Zaf,Zak,List.not_mem_nil,or_false,not_or]
     exact eF (Nat.lt_succ_self _)
    have hval:∀(i:Nat) (v:Value),SignAt x i v→∃t,v=.str (gV x i) t:=fun i v ⟨c,u,hc,hv⟩=>⟨u,by rw[hv];simp[gV,Array.getD_eq_getD_getElem?,hc]⟩
    refine lC ((W _ hh3).toS) s.heap.objs.size
     hSf led (gV x) hval hb (x.cps.size - 0) 0 _ (by omega) (Nat.zero_le _) hst ?hS0 ?hR
    case hS0=>exact⟨_,_,_,dF _ hS,ke w led⟩
    case hR=>
     intro s' hm hS'
     obtain⟨h',g',d',tk',os'⟩:=s'
     have eg:g'=s.gens:=hm.gens
     have ed:d'=s.drawn:=hm.drawn
     have eo:os'=s.os:=hm.os
     subst eg;subst ed;subst eo
     show wpAny _ _ _ _ _ _
     refine wpAny_pure ?_
     show wpAny _ _ (ret Value.none) _ _ _
     refine wpAny_pure ⟨rfl,h',tk',rfl,hS',fun b o hb e=>?_⟩
     have hb1:b≠s.heap.objs.size:=eF hb
     have hb2:b≠(s.heap.push {cls:=.type "set",dict:=none,data:=.set #[] 0 (.fresh 0 0 led)}).objs.size:=by
      rw[rh];exact eF (vt hb)
     exact hm.heap b o (by simp only[Zaf,Zak,List.not_mem_nil,or_false,not_or];exact⟨hb1,hb2⟩) (dF _ (dF _ e))
   ·cases r₂ with
    |error e=>exact hr₂
    |ok fl₂=>
     cases fl₂ with
     |ret r=>
      obtain⟨rfl,h',tk,rfl,hS',hk'⟩:=hr₂
      repeat (any_goals (first |assumption |wp_step))
      exact h _ _ hS' hk'
     |_=>exact hr₂.elim
  |_=>exact hr.elim
end
end NhSet
namespace NhSet
open PySem PyProof.Rows
theorem jQ{α:Type}:∀{l:List α} {i:Nat} (h:i < l.length),(l[i]::l.eraseIdx i).Perm l
 |x::xs,0,h=>List.Perm.refl _
 |x::xs,i+1,h=>by
  have:=jQ (l:=xs) (i:=i) (by simpa using h)
  simp only[List.getElem_cons_succ,List.eraseIdx_cons_succ]
  exact(List.Perm.swap x _ _).trans (this.cons x)
theorem pw{α:Type}(next:Nat→Nat):∀(fuel k:Nat) (left:List α) (out:Array α),left.length=fuel→(pickOrder.go next fuel k left out).toList.Perm (out.toList++left)
 | 0,k,left,out,h=>by
  have:left=[]:=List.length_eq_zero_iff.mp h
  subst this;simp[pickOrder.go]
 |fuel+1,k,left,out,h=>by
  unfold pickOrder.go
  have hlt:next k % left.length < left.length:=Nat.mod_lt _ (by omega)
  rw[oR hlt]
  dsimp only
  refine(pw next fuel (k+1) _ _ (by rw[List.length_eraseIdx_of_lt hlt];omega)).trans ?_
  rw[Array.toList_push,List.append_assoc]
  exact(jQ hlt).append_left _
theorem mS{α:Type}(next:Nat→Nat)(xs:Array α):(pickOrder next xs).toList.Perm xs.toList:=by
 have:=pw next xs.size 0 xs.toList #[] (by simp)
 simpa[pickOrder]using this
section
variable {M:Model} {A:Around} {E:Value→Shared→Prop}
theorem qg{src:Source}{n:Nat}{s:Shared}{Q:Nat→Shared→Prop}(hn:n≠0)(h:∀i d,i < n→Q i {s with drawn:=d}):wpAny M A (choose src n) Q E s:=fun Γ p hΓ=>by
 show Sem.wp M Γ (.choose src n .pure) _ _ p s
 rw[Sem.wp_choose]
 exact⟨hn,by rw[Sem.wp_pure];exact h _ _ (Nat.mod_lt _ (Nat.pos_of_ne_zero hn))⟩
theorem hO{α:Type}:∀(n:Nat) (xs:List α) (s:Shared) {Q:List α→Shared→Prop},xs.length=n→(∀ys d,ys.Perm xs→Q ys {s with drawn:=d})→wpAny M A (drawOrder n xs) Q E s
 | 0,xs,s,Q,hl,h=>by
  have:xs=[]:=List.length_eq_zero_iff.mp hl
  subst this
  exact wpAny_pure (h [] s.drawn (List.Perm.refl _))
 |n+1,[],s,Q,hl,h=>by simp at hl
 |n+1,x::xs,s,Q,hl,h=>by
  show wpAny M A (choose .order (x::xs).length >>= _) Q E s
  refine wpAny_bind (qg (by simp) fun i d hi=>?_)
  rw[oR hi]
  dsimp only
  refine wpAny_bind (hO n _ _ (by rw[List.length_eraseIdx_of_lt hi];simpa using hl) fun ys d' hp=>?_)
  exact wpAny_pure (h _ d' ((hp.cons _).trans (jQ hi)))
end
namespace F
theorem mT:entryFor table "set.__iter__"=some Builtin.«frozenset.__iter__»:=
 entryFor_alias (id':="frozenset.__iter__") (by kernel_rfl) rfl (by decide+kernel) (by kernel_rfl)
theorem slot_next:Slot "set_iterator" "__next__" "set_iterator.__next__":=
 .of (owner:="set_iterator") (n:="__next__") (by rw[typeLookup_type,builtinLookup_eq_fast];kernel_rfl) (by decide+kernel) (by decide+kernel) (by decide+kernel)
  (by first |exact .inl (by decide+kernel) |exact .inr (by decide+kernel)) (by rw[isSubtype_type];kernel_rfl)
theorem um:entryFor table "set_iterator.__next__"=some Builtin.«set_iterator.__next__»:=entryFor_of_fast (by kernel_rfl)
theorem xx(a:Value):argsOk "set_iterator.__next__" ⟨[a],[]⟩:=by unfold argsOk;kernel_rfl
theorem py:Slot "set_iterator" "__iter__" "set_iterator.__iter__":=
 .of (owner:="set_iterator") (n:="__iter__") (by rw[typeLookup_type,builtinLookup_eq_fast];kernel_rfl) (by decide+kernel) (by decide+kernel) (by decide+kernel)
  (by first |exact .inl (by decide+kernel) |exact .inr (by decide+kernel)) (by rw[isSubtype_type];kernel_rfl)
theorem uo:entryFor table "set_iterator.__iter__"=some Builtin.«dict_keyiterator.__iter__»:=
 entryFor_alias (id':="dict_keyiterator.__iter__") (by kernel_rfl) rfl (by decide+kernel) (by kernel_rfl)
theorem xy(a:Value):argsOk "set_iterator.__iter__" ⟨[a],[]⟩:=by unfold argsOk;kernel_rfl
end F
abbrev su(first:Value)(i:Nat)(a:Addr)(n ep:Nat):Obj:={cls:=.type "set_iterator",data:=.fields #[first,.int i 0,.ref a,.int n 0,.int ep 0]}
section
variable {prog:Program} {w:World} {A:Around} {E:Value→Shared→Prop} {s:Shared}
theorem qh{I:Addr}{first:Value}{i:Nat}{a:Addr}{n ep:Nat}{Q:Value→Shared→Prop}(ho:s.heap.get? I=some (su first i a n ep))(h:Q (.ref I) s):wpAny (model prog w) A (pyIter (.ref I)) Q E s:=by
 have hT:s.TypeIs (.ref I) "set_iterator":=⟨_,ho,rfl⟩
 refine wpAny_pyIter_slot hT F.py (wpAny_call_entry F.py hT F.uo ?_ (F.xy _))
 show wpAny _ _ (ret (.ref I)) _ _ s
 exact wpAny_pure ⟨_,rfl,"set_iterator",_,hT,F.slot_next.lookup,h⟩
theorem sx{a:Addr}{es:Array (Int×Value)}{ep:Nat}{t:SetTable}{Q:Bool→Shared→Prop}(ho:s.heap.get? a=some (ck es ep t))(hf:t.fits es.size=true)
  (h:Q (!(w.params.followText "set-order")&&(!t.plain&&decide (es.size > 1))) s):wpAny (model prog w) A (setDrawn a) Q E s:=by
 unfold setDrawn setsByText
 refine wpAny_bind (wpAny_setState_of ho rfl hf ?_)
 dsimp only
 refine wpAny_bind (wpAny_bind (wpAny_askSetting (wpAny_pure ?_)))
 exact wpAny_pure h
theorem qi{I:Addr}{Q:Option Value→Shared→Prop}(hh:A.handled=none){o:Obj}(hQ:∀h',Heap.ExtBut I s.heap h'→Q none {s with heap:=h'}){h1:Heap}(k:Heap.ExtBut I s.heap h1):
  wpAny (model prog w) A.in1 (newExc (.type "StopIteration") [] >>= fun e=>raiseNew e) (fun(fin:Fin) s'=>∃r,fin=.done (.ret r)∧wpAny (model prog w) A (pure (some r)) Q E s')
   (fun e s'=>wpAny (model prog w) A (isInstance e (.type "StopIteration") >>= fun b=>if b=true then pure none else throw e) Q E s') {s with heap:=h1}:=by
 refine wpAny_bind ?_
 simp only[newExc,newTuple]
 refine wpAny_bind (wpAny_newObj_type ?_ (by size_fits))
 refine wpAny_bind (m:=firstArgMember _ _) (wpAny_of_eq (a:=Value.none) (by first |rfl |(simp only[firstArgMember];rfl)) ?_)
 refine wpAny_newObj_type ?_ (by size_fits)
 simp only[raiseNew]
 refine wpAny_bind (wpAny_handled ?_)
 rw[show A.in1.handled=none from hh]
 refine wpAny_bind (wpAny_pure (wpAny_throw ?_))
 refine wpAny_bind (wpAny_isInstance (T:="StopIteration") (b:=true) ⟨_,ie _ rfl,rfl⟩ isSubtype_stop ?_)
 exact wpAny_pure (hQ _ ((k.push _).push _))
end
end NhSet
namespace NhSet
open PySem PyProof.Rows
section
variable {prog:Program} {w:World} {A:Around} {E:Value→Shared→Prop} {s:Shared}
theorem fc{I:Addr}{first:Value}{i:Nat}{a:Addr}{n ep:Nat}{Q:Option Value→Shared→Prop}(hI:s.heap.get? I=some (su first i a n ep)){es:Array (Int×Value)}{t:SetTable}(ha:s.heap.get? a=some (ck es ep t))(hf:t.fits es.size=true)(hn:es.size=n)
  (h:wpAny (model prog w) A.in1 (if let .int slot _:=first then do
    match ←setNext a slot.toNat i ep with
    |some (x,next)=>do
     setField (.ref I) 0 (rawInt next)
     setField (.ref I) 1 (rawInt (i+1))
     ret x
    |none=>do setField (.ref I) 2 .none;raiseNew (←newExc (.type "StopIteration") [])
   else do
    let some places ←seqItems? first |unsupported "internal:set_iterator"
    match places[i]? with
    |some (.int place _)=>do
     let x ←setNextDrawn a place.toNat ep
     setField (.ref I) 1 (rawInt (i+1))
     ret x
    |some _=>unsupported "internal:set_iterator"
    |none=>do setField (.ref I) 0 (rawInt 0);setField (.ref I) 2 .none;raiseNew (←newExc (.type "StopIteration") []))
   (fun(fin:Fin) s'=>∃r,fin=.done (.ret r)∧wpAny (model prog w) A (pure (some r)) Q E s')
   (fun e s'=>wpAny (model prog w) A (isInstance e (.type "StopIteration") >>= fun b=>if b=true then pure none else throw e) Q E s') s):
  wpAny (model prog w) A (pyNext (.ref I)) Q E s:=by
 have hT':s.TypeIs (.ref I) "set_iterator":=⟨_,hI,rfl⟩
 unfold pyNext
 refine wpAny_bind (wpAny_attempt (wpAny_callSpecial?_slot (name:=Str.ofString "__next__") hT' F.slot_next (wpAny_call_entry F.slot_next hT' F.um ?_ (F.xx _))))
 unfold Builtin.«set_iterator.__next__»
 refine wpAny_bind (m:=slotArgs _ _ _) (wpAny_pure ?_)
 refine wpAny_bind (wpAny_fieldsOf hI rfl ?_)
 dsimp only
 refine wpAny_bind (wpAny_setEntries_of ha rfl hf ?_)
 rw[if_neg (by simp[hn])]
 exact h
abbrev DU(es:Array (Int×Value))(j:Nat):Value:=(es.getD j (0,.none)).2
theorem cg{I:Addr}{o:Obj}{vs:Array Value}{k:Nat}{x:Value}{Q:Unit→Shared→Prop}(ho:s.heap.get? I=some o)(hd:o.data=.fields vs)(hk:k < vs.size)(hQ:∀h',Heap.SameBut I s.heap h'→h'.get? I=some {o with data:=.fields (vs.setIfInBounds k x)}→Q () {s with heap:=h'}):wpAny (model prog w) A (setField (.ref I) k x) Q E s:=by
 refine wpAny_setField ho hd hk (hQ _ (Heap.SameBut.update ..) ?_)
 have:=vq (Obj.mapFields fun vs=>vs.setIfInBounds k x) ho (Obj.isFreed_of_fields (Obj.data_mapFields hd _))
 rw[this]
 obtain⟨c,d,dt,sl⟩:=o
 simp only at hd
 subst hd
 rfl
theorem uq(hh:A.handled=none){I T a:Addr}{es:Array (Int×Value)}{ep:Nat}{t:SetTable}(π:List Nat)(hp:∀j∈π,j < es.size)(hl:π.length=es.size)(hf:t.fits es.size=true)(hTI:T≠I)(haI:a≠I):
  Walks prog w A I [I,T,a] [I] (π.map (DU es)).length (fun i v=>(π.map (DU es))[i]? =some v)
   (fun i h=>h.get? I=some (su (.ref T) i a es.size ep)∧h.get? T=some {cls:=.type "tuple",data:=.seq (π.map fun(i:Nat)=>rawInt i).toArray}∧h.get? a=some (ck es ep t)) where
 sub:=fun b hb=>by simp at hb;simp[hb]
 frame:=fun _ _ _ st hk=>⟨hk I (by simp) _ st.1,hk T (by simp) _ st.2.1,hk a (by simp) _ st.2.2⟩
 self:=fun _ _ _ _ st hQ=>qh st.1 hQ
 item:=fun i s Q E hi st hQ=>by
  obtain⟨hI,hT,ha⟩:=st
  rw[dY]at hi
  refine fc hI ha hf rfl ?_
  dsimp only
  refine wpAny_bind (wpAny_seqItems hT rfl ?_)
  dsimp only
  have e:(π.map fun(i:Nat)=>rawInt i).toArray[i]? =some (.int (π[i]:Nat) 0):=by
   simp[hi,rawInt]
  rw[e]
  dsimp only
  have hj:=hp π[i] (List.getElem_mem hi)
  unfold setNextDrawn
  refine wpAny_bind (wpAny_bind (wpAny_setState_of ha rfl hf ?_))
  dsimp only
  rw[if_neg (by simp)]
  have e2:es[((π[i]:Nat):Int).toNat]? =some (es[π[i]]):=by simp[hj]
  rw[e2]
  refine wpAny_pure ?_
  refine wpAny_bind (cg hI rfl (by simp) fun h' hs' ho'=>?_)
  refine wpAny_pure ⟨_,rfl,wpAny_pure (hQ _ h' s.toks ?_ ⟨?_,?_,?_⟩ fun b o hb e=>hs'.extBut b o (fun z=>hb (by simp[z])) e)⟩
  ·simp[hi,DU,hj]
  ·rw[ho'];simp[rawInt]
  ·exact hs'.extBut T _ hTI hT
  ·exact hs'.extBut a _ haI ha
 done:=fun s Q E st hQ=>by
  obtain⟨hI,hT,ha⟩:=st
  refine fc hI ha hf rfl ?_
  dsimp only
  refine wpAny_bind (wpAny_seqItems hT rfl ?_)
  dsimp only
  have e:(π.map fun(i:Nat)=>rawInt i).toArray[(π.map (DU es)).length]? =none:=by simp
  rw[e]
  dsimp only
  refine wpAny_bind (cg hI rfl (by simp) fun h' hs' ho'=>?_)
  refine wpAny_bind (cg (s:={s with heap:=h'}) ho' rfl (by simp) fun h2 hs2 _=>?_)
  exact qi (I:=I) (o:=ck es ep t) hh (fun h3 k=>hQ h3 s.toks fun b o hb e=>k b o (fun z=>hb (by simp[z])) e) (hs'.trans hs2).extBut
theorem kh {a:Addr} {es:Array (Int×Value)} {ep:Nat} {t:SetTable} {slot given:Nat} {Q:Option (Value×Nat)→Shared→Prop} (hb:w.params.followText "set-order"=true) (ha:s.heap.get? a=some (ck es ep t)) (hf:t.fits es.size=true)
  (h:Q (((pickOrder (w.params.setOrder a ep) es)[given]?).map fun e=>(e.2,slot)) s):wpAny (model prog w) A (setNext a slot given ep) Q E s:=by
 unfold setNext setsByText
 refine wpAny_bind (wpAny_setState_of ha rfl hf ?_)
 dsimp only
 refine wpAny_bind (wpAny_bind (wpAny_askSetting (wpAny_pure ?_)))
 rw[if_pos (show(model prog w).w.params.followText "set-order"=true from hb)]
 rw[if_neg (by simp)]
 refine wpAny_bind ?_
 unfold setWalk setsByText
 refine wpAny_bind (wpAny_setState_of ha rfl hf ?_)
 dsimp only
 refine wpAny_bind (wpAny_bind (wpAny_askSetting (wpAny_pure ?_)))
 rw[if_pos (show(model prog w).w.params.followText "set-order"=true from hb)]
 refine wpAny_bind (wpAny_askSetting (wpAny_pure ?_))
 exact wpAny_pure h
theorem lG {a:Addr} {es:Array (Int×Value)} {ep:Nat} {t:SetTable} {slot given:Nat} {Q:Option (Value×Nat)→Shared→Prop} (hb:w.params.followText "set-order"=false) (hsz:es.size≤1) (hled:t.led=true) (ha:s.heap.get? a=some (ck es ep t)) (hf:t.fits es.size=true)
  (h:Q (match es[SetTable.below t.place slot]?,t.place[SetTable.below t.place slot]? with |some (_,x),some j=>some (x,j+1) |_,_=>none) s):wpAny (model prog w) A (setNext a slot given ep) Q E s:=by
 unfold setNext setsByText
 refine wpAny_bind (wpAny_setState_of ha rfl hf ?_)
 dsimp only
 refine wpAny_bind (wpAny_bind (wpAny_askSetting (wpAny_pure ?_)))
 rw[if_neg (show ¬((model prog w).w.params.followText "set-order"=true) by show ¬(w.params.followText "set-order"=true);rw[hb];decide)]
 have hd:(!t.plain&&decide (es.size > 1))=false:=by rw[decide_eq_false (by omega)];simp
 show wpAny _ _ (if (!t.plain&&decide (es.size > 1))=true then _ else _) _ _ _
 rw[hd,if_neg (by decide)]
 show wpAny _ _ ((if (!t.led&& !es.isEmpty)=true then unsupported "set:maker-not-led" else pure PUnit.unit) >>= _) _ _ _
 rw[hled,if_neg (by simp)]
 refine wpAny_bind (wpAny_pure ?_)
 exact wpAny_pure h
theorem xz (hh:A.handled=none) {I a:Addr} {es:Array (Int×Value)} {ep:Nat} {t:SetTable} (hb:w.params.followText "set-order"=true) (hf:t.fits es.size=true) (haI:a≠I):
  Walks prog w A I [I,a] [I] ((pickOrder (w.params.setOrder a ep) es).toList.map (·.2)).length (fun i v=>((pickOrder (w.params.setOrder a ep) es).toList.map (·.2))[i]? =some v)
   (fun i h=>h.get? I=some (su (.int 0 0) i a es.size ep)∧h.get? a=some (ck es ep t)) where
 sub:=fun b hb=>by simp at hb;simp[hb]
 frame:=fun _ _ _ st hk=>⟨hk I (by simp) _ st.1,hk a (by simp) _ st.2⟩
 self:=fun _ _ _ _ st hQ=>qh st.1 hQ
 item:=fun i s Q E hi st hQ=>by
  obtain⟨hI,ha⟩:=st
  have hi':i < (pickOrder (w.params.setOrder a ep) es).size:=by simpa using hi
  refine fc hI ha hf rfl ?_
  dsimp only
  refine wpAny_bind (kh hb ha hf ?_)
  rw[Array.getElem?_eq_getElem hi']
  dsimp only[Z1]
  refine wpAny_bind (cg hI rfl (by simp) fun h' hs' ho'=>?_)
  refine wpAny_bind (cg (s:={s with heap:=h'}) ho' rfl (by simp) fun h2 hs2 ho2=>?_)
  refine wpAny_pure ⟨_,rfl,wpAny_pure (hQ _ h2 s.toks ?_ ⟨?_,?_⟩ fun b o hb e=>(hs'.trans hs2).extBut b o (fun z=>hb (by simp[z])) e)⟩
  ·simp[hi']
  ·rw[ho2];simp[rawInt]
  ·exact(hs'.trans hs2).extBut a _ haI ha
 done:=fun s Q E st hQ=>by
  obtain⟨hI,ha⟩:=st
  refine fc hI ha hf rfl ?_
  dsimp only
  refine wpAny_bind (kh hb ha hf ?_)
  rw[show(pickOrder (w.params.setOrder a ep) es)[((pickOrder (w.params.setOrder a ep) es).toList.map (·.2)).length]? =none by simp]
  dsimp only[Option.map_none]
  refine wpAny_bind (cg hI rfl (by simp) fun h' hs' ho'=>?_)
  exact qi (I:=I) (o:=ck es ep t) hh (fun h3 k=>hQ h3 s.toks fun b o hb e=>k b o (fun z=>hb (by simp[z])) e) hs'.extBut
theorem mU{xs:Array Nat}(h:xs.size≤1):SetTable.below xs 0=0:=by
 obtain⟨l⟩:=xs
 match l,h with
 |[],_=>rfl
 |[p],_=>simp[SetTable.below,SetTable.below.go]
theorem ur{p:Nat}:SetTable.below #[p] (p+1)=1:=by simp[SetTable.below,SetTable.below.go]
theorem zP (hh:A.handled=none) {I a:Addr} {es:Array (Int×Value)} {ep:Nat} {t:SetTable} (hb:w.params.followText "set-order"=false) (hsz:es.size≤1) (hled:t.led=true) (hf:t.fits es.size=true) (haI:a≠I):
  Walks prog w A I [I,a] [I] (es.toList.map (·.2)).length (fun i v=>(es.toList.map (·.2))[i]? =some v)
   (fun i h=>h.get? I=some (su (.int (if i=0 then 0 else (t.place.getD 0 0+1:Nat)) 0) i a es.size ep)∧h.get? a=some (ck es ep t)) where
 sub:=fun b hb=>by simp at hb;simp[hb]
 frame:=fun _ _ _ st hk=>⟨hk I (by simp) _ st.1,hk a (by simp) _ st.2⟩
 self:=fun _ _ _ _ st hQ=>qh st.1 hQ
 item:=fun i s Q E hi st hQ=>by
  obtain⟨hI,ha⟩:=st
  have hi':i < es.size:=by simpa using hi
  have hi0:i=0:=by omega
  subst hi0
  rw[if_pos rfl]at hI
  have hps:t.place.size=es.size:=by
   have:=hf;simp only[SetTable.fits,lQ,beq_iff_eq]at this;exact this.1
  refine fc hI ha hf rfl ?_
  dsimp only
  refine wpAny_bind (lG hb hsz hled ha hf ?_)
  rw[show((0:Int)).toNat=0 from rfl,mU (by omega),Array.getElem?_eq_getElem hi',Array.getElem?_eq_getElem (show 0 < t.place.size by omega)]
  dsimp only
  refine wpAny_bind (cg hI rfl (by simp) fun h' hs' ho'=>?_)
  refine wpAny_bind (cg (s:={s with heap:=h'}) ho' rfl (by simp) fun h2 hs2 ho2=>?_)
  refine wpAny_pure ⟨_,rfl,wpAny_pure (hQ _ h2 s.toks ?_ ⟨?_,?_⟩ fun b o hb e=>(hs'.trans hs2).extBut b o (fun z=>hb (by simp[z])) e)⟩
  ·simp[hi']
  ·rw[ho2]
   have:t.place.getD 0 0=t.place[0]:=by simp[Array.getD,show 0 < t.place.size by omega]
   simp[rawInt,this]
  ·exact(hs'.trans hs2).extBut a _ haI ha
 done:=fun s Q E st hQ=>by
  obtain⟨hI,ha⟩:=st
  have hps:t.place.size=es.size:=by
   have:=hf;simp only[SetTable.fits,lQ,beq_iff_eq]at this;exact this.1
  have hlen:(es.toList.map (·.2)).length=es.size:=by simp
  rw[hlen]at hI
  refine fc hI ha hf rfl ?_
  dsimp only
  refine wpAny_bind (lG hb hsz hled ha hf ?_)
  have hno:(match es[SetTable.below t.place (if es.size=0 then (0:Int)else ((t.place.getD 0 0+1:Nat):Int)).toNat]?,t.place[SetTable.below t.place (if es.size=0 then (0:Int)else ((t.place.getD 0 0+1:Nat):Int)).toNat]? with |some (_,x),some j=>some (x,j+1) |_,_=>(none:Option (Value×Nat)))=none:=by
   by_cases z:es.size=0
   ·rw[if_pos z,show((0:Int)).toNat=0 from rfl,mU (by omega),Array.getElem?_eq_none (by omega)]
   ·rw[if_neg z]
    obtain⟨⟨p⟩,hp⟩:∃q:{p:Nat // t.place=#[p]},True:=by
     generalize t.place=pl at hps
     obtain⟨l⟩:=pl
     match l,hps with
     |[],h=>simp at h;omega
     |[p],h=>exact⟨⟨p,rfl⟩,trivial⟩
     |_::_::_,h=>simp at h;omega
    rename_i hpl
    rw[hpl]
    simp only[wN]
    have:(#[p]:Array Nat).getD 0 0=p:=rfl
    rw[this,ur,Array.getElem?_eq_none (show es.size≤1 by omega)]
  rw[hno]
  dsimp only
  refine wpAny_bind (cg hI rfl (by simp) fun h' hs' ho'=>?_)
  exact qi (I:=I) (o:=ck es ep t) hh (fun h3 k=>hQ h3 s.toks fun b o hb e=>k b o (fun z=>hb (by simp[z])) e) hs'.extBut
theorem zQ{a:Addr}{es:Array (Int×Value)}{ep:Nat}{t:SetTable}{ks:List Str}{Q:Value→Shared→Prop}(ha:s.heap.get? a=some (ck es ep t))(S:SS w (jA w) ks es t)
  (hQ:∀(s':Shared) (I:Addr) (fp:List Addr) (St:Nat→Heap→Prop) (items:List Value),(∀b o,s.heap.get? b=some o→s'.heap.get? b=some o)→s.heap.objs.size≤s'.heap.objs.size→s'.gens=s.gens→s'.os=s.os→s'.toks=s.toks→(∀b∈fp,b=a∨s.heap.objs.size≤b)→s.heap.objs.size≤I→
   (∀A':Around,A'.handled=none→Walks prog w A' I fp [I] items.length (fun i v=>items[i]? =some v) St)→St 0 s'.heap→items.Perm (es.toList.map (·.2))→Q (.ref I) s'):
  wpAny (model prog w) A (pyIter (.ref a)) Q E s:=by
 have hT:s.TypeIs (.ref a) "set":=⟨_,ha,rfl⟩
 have hlt:a < s.heap.objs.size:=dM ha
 refine wpAny_pyIter_slot hT PySem.F.slot_set_iter (wpAny_call_entry PySem.F.slot_set_iter hT F.mT ?_ (PySem.F.args_set_iter_1 _))
 unfold Builtin.«frozenset.__iter__» Builtin.Frozenset.slot0 slotArgs
 simp only[List.isEmpty_nil,↓reduceIte,bind_assoc,Z5,bne_self_eq_false,bQ]
 unfold Builtin.Frozenset.addrOf Builtin.Frozenset.sizeOf
 refine wpAny_bind (wpAny_pure ?_)
 try dsimp only
 refine wpAny_bind (wpAny_pure ?_)
 refine wpAny_bind (wpAny_bind (wpAny_setEntries_of ha rfl S.fits (wpAny_pure ?_)))
 refine wpAny_bind (sx ha S.fits ?_)
 cases hd:(!(w.params.followText "set-order")&&(!t.plain&&decide (es.size > 1)))with
 |true=>
  simp only[↓reduceIte]
  refine wpAny_bind (hO es.size (List.range es.size) s (by simp) fun π d hp=>?_)
  have hl:π.length=es.size:=by rw[hp.length_eq,List.length_range]
  have hm:∀j∈π,j < es.size:=fun j hj=>List.mem_range.mp (hp.mem_iff.mp hj)
  refine wpAny_bind (wpAny_newTuple (s:={s with drawn:=d}) ?_ (by rw[dY,hl];exact fits_of_scanBound S.bound))
  have ha2:(s.heap.push {cls:=.type "tuple",data:=.seq (π.map fun(i:Nat)=>rawInt i).toArray}).get? a=some (ck es ep t):=dF _ ha
  refine wpAny_bind (wpAny_setEpoch_of (s:={s with drawn:=d,heap:=s.heap.push {cls:=.type "tuple",data:=.seq (π.map fun(i:Nat)=>rawInt i).toArray}}) ha2 rfl S.fits ?_)
  refine wpAny_bind (wpAny_newObj_type ?_)
  have hs1:(s.heap.push {cls:=.type "tuple",data:=.seq (π.map fun(i:Nat)=>rawInt i).toArray}).objs.size=s.heap.objs.size+1:=by rw[rh]
  refine wpAny_pure ⟨_,rfl,"set_iterator",_,⟨_,ie _ rfl,rfl⟩,F.slot_next.lookup,?_⟩
  refine hQ _ _ _ _ (π.map (DU es)) (fun b o e=>dF _ (dF _ e)) (by rw[rh,rh];omega) rfl rfl rfl ?_ (by dsimp only;rw[hs1];omega)
   (fun A' hA=>uq hA (T:=s.heap.objs.size) (a:=a) (ep:=ep) (t:=t) π hm hl S.fits (by dsimp only;rw[hs1];exact eF (Nat.lt_succ_self _)) (by dsimp only;rw[hs1];exact eF (vt hlt)))
   ⟨ie _ rfl,dF _ (ie _ rfl),dF _ ha2⟩ ?_
  ·intro b hb
   rcases Zaf.mp hb with rfl |hb
   ·right;dsimp only;rw[hs1];omega
   rcases Zaf.mp hb with rfl |hb
   ·right;exact dE _
   ·left;exact Zak.mp hb
  ·refine(hp.map (DU es)).trans ?_
   rw[show(List.range es.size).map (DU es)=es.toList.map (·.2)from ?_]
   refine List.ext_getElem (by simp) fun i h1 h2=>?_
   have hi:i < es.size:=by simpa using h1
   simp[DU,hi]
 |false=>
  simp only[Bool.false_eq_true,↓reduceIte]
  refine wpAny_bind (wpAny_pure ?_)
  refine wpAny_bind (wpAny_setEpoch_of ha rfl S.fits ?_)
  refine wpAny_bind (wpAny_newObj_type ?_)
  refine wpAny_pure ⟨_,rfl,"set_iterator",_,⟨_,ie _ rfl,rfl⟩,F.slot_next.lookup,?_⟩
  have hfp:∀b∈[s.heap.objs.size,a],b=a∨s.heap.objs.size≤b:=fun b hb=>by
   rcases Zaf.mp hb with rfl |hb
   ·right;exact dE _
   ·left;exact Zak.mp hb
  cases hb:w.params.followText "set-order" with
  |true=>
   exact hQ _ _ _ _ ((pickOrder (w.params.setOrder a ep) es).toList.map (·.2)) (fun b o e=>dF _ e) (by rw[rh];omega) rfl rfl rfl hfp (dE _)
    (fun A' hA=>xz hA (t:=t) hb S.fits (eF hlt)) ⟨ie _ rfl,dF _ ha⟩ ((mS _ es).map _)
  |false=>
   have hled:t.led=true:=by rw[S.led,jA,hb];rfl
   have hsz:es.size≤1:=by
    rw[hb]at hd
    by_cases z:es.size=0
    ·omega
    ·rw[S.plain z]at hd
     simp at hd
     omega
   exact hQ _ _ _ _ (es.toList.map (·.2)) (fun b o e=>dF _ e) (by rw[rh];omega) rfl rfl rfl hfp (dE _)
    (fun A' hA=>zP hA (t:=t) hb hsz hled S.fits (eF hlt)) ⟨ie _ rfl,dF _ ha⟩ (List.Perm.refl _)
end
end NhSet
namespace NhSet
open PySem PyProof.Rows
namespace F
theorem CB:typeLookup (.type "set") "__len__"=pure (some (.builtin "set.__len__")):=by rw[typeLookup_type,builtinLookup_eq_fast];kernel_rfl
end F
section
variable {prog:Program} {w:World} {A:Around} {E:Value→Shared→Prop} {s:Shared}
theorem sy{a:Addr}{es:Array (Int×Value)}{ep:Nat}{t:SetTable}{ks:List Str}{Q:List Value→Shared→Prop}(hh:A.handled=none)(ha:s.heap.get? a=some (ck es ep t))(S:SS w (jA w) ks es t)
  (hQ:∀(s':Shared) (items:List Value),(∀b o,s.heap.get? b=some o→s'.heap.get? b=some o)→s'.gens=s.gens→s'.os=s.os→s.heap.objs.size≤s'.heap.objs.size→items.Perm (es.toList.map (·.2))→Q items s'):
  wpAny (model prog w) A (collect (.ref a)) Q E s:=by
 have hlt:a < s.heap.objs.size:=dM ha
 unfold collect
 refine wpAny_bind (wpAny_runValue (codeAny_builtin PySem.F.entry_proto_collect ?_))
 rw[Around.under_plainId PySem.F.plain_proto_collect _]
 show wpAny _ A.in1 (newList [] >>= fun l=>again (.builtin "list.__iadd__" ⟨[l,.ref a],[]⟩)) _ _ s
 refine wpAny_bind (wpAny_newObj_type ?_)
 refine wpAny_pure ⟨plainId_quiet PySem.F.plain_list_iadd _,codeAny_builtin PySem.F.entry_list_iadd ?_⟩
 rw[Around.under_plainId PySem.F.plain_list_iadd _]
 show wpAny _ A.in1 (Builtin.List.listExtendWith (.ref s.heap.objs.size) (.ref a) (.ref s.heap.objs.size)) _ _ _
 unfold Builtin.List.listExtendWith
 have ha1:(s.heap.push {cls:=.type "list",data:=.seq ([]:List Value).toArray}).get? a=some (ck es ep t):=dF _ ha
 have hT1:Shared.TypeIs {s with heap:=s.heap.push {cls:=.type "list",data:=.seq ([]:List Value).toArray}} (.ref a) "set":=⟨_,ha1,rfl⟩
 refine wpAny_bind (wpAny_typeOf hT1 ?_)
 have h1:Builtin.List.listSameRef (.ref s.heap.objs.size) (.ref a)=false:=by simp[Builtin.List.listSameRef];exact Nat.ne_of_gt hlt
 have h2:(Value.type "set" == Value.type "list")=false:=by decide
 have h3:(Value.type "set" == Value.type "tuple")=false:=by decide
 simp only[h1,h2,h3,Bool.or_false,bQ]
 refine wpAny_bind (zQ ha1 S fun s2 I fp St items k2 z2 g2 o2 t2 hfp hI W hst hp=>?_)
 have hT2:s2.TypeIs (.ref a) "set":=⟨_,k2 a _ ha1,rfl⟩
 refine wpAny_bind (wpAny_holding ?_)
 unfold Builtin.List.listLengthHint
 refine wpAny_bind (wpAny_specialOf hT2 F.CB ?_)
 wp_delta
 refine wpAny_bind (wpAny_isInstance (T:="set") (b:=true) hT2 sub_set_self ?_)
 show wpAny _ A.in1 (typeOf (Value.ref a) >>= _) _ _ _
 refine wpAny_bind (wpAny_typeOf hT2 ?_)
 refine wpAny_pure ?_
 rw[if_pos (by decide)]
 refine wpAny_bind (wpAny_rule ?_)
 have hS0:s2.heap.get? s.heap.objs.size=some {cls:=.type "list",data:=.seq ([]:List Value).toArray}:=k2 _ _ (ie _ rfl)
 refine wpAny_bind ?_
 show wpAny _ A.in1 (updateSeq s.heap.objs.size (·.push .none) >>= fun _=>updateSeq s.heap.objs.size (·.pop)) _ _ _
 refine wpAny_bind (wpAny_updateSeq hS0 rfl ?_)
 have hS2:=vq (Obj.mapSeq (·.push Value.none)) hS0 rfl
 refine wpAny_updateSeq hS2 rfl ?_
 have hS3:=vq (Obj.mapSeq (·.pop)) hS2 rfl
 have oth:∀b o,b≠s.heap.objs.size→s2.heap.get? b=some o→
   ((s2.heap.update s.heap.objs.size (Obj.mapSeq (·.push Value.none))).update s.heap.objs.size (Obj.mapSeq (·.pop))).get? b=some o:=
  fun b o hb e=>(vp _ _ (Ne.symm hb)).trans ((vp _ _ (Ne.symm hb)).trans e)
 have hz1:(s.heap.push {cls:=.type "list",data:=.seq ([]:List Value).toArray}).objs.size=s.heap.objs.size+1:=by rw[rh]
 have hnS:∀b,(s.heap.push {cls:=.type "list",data:=.seq ([]:List Value).toArray}).objs.size≤b→b≠s.heap.objs.size:=fun b hb e=>by
  rw[hz1,e]at hb;exact Nat.not_succ_le_self _ hb
 have hSf:s.heap.objs.size∉fp:=fun hm=>by
  rcases hfp _ hm with e |e
  ·exact absurd e (Nat.ne_of_gt hlt)
  ·exact hnS _ e rfl
 have hlen:items.length≤sizeLine:=by
  rw[hp.length_eq];simpa using fits_of_scanBound S.bound
 refine wpAny_pure ⟨plainId_quiet PySem.F.plain_extend_loop _,codeAny_extend_loopS (W A.in1 (by simp[hh])).toS hlen _ hSf _ items.length 0 _ _ _ rfl (Nat.zero_le _)
  ((W A.in1 (by simp[hh])).frame 0 s2.heap _ hst fun b hb o e=>oth b o (fun z=>hSf (z▸hb)) e) hS3 (ItemsOf.nil _) fun s' acc' c' hm hS' hacc=>?_⟩
 show wpAny _ A (load s.heap.objs.size >>= _) _ _ s'
 refine wpAny_bind (wpAny_load hS' ?_)
 have hacc':acc'.toList=items:=by
  refine List.ext_getElem? fun i=>?_
  rw[Array.getElem?_toList]
  by_cases hi:i < acc'.size
  ·rw[Array.getElem?_eq_getElem hi]
   exact(hacc.2 i _ (Array.getElem?_eq_getElem hi)).symm
  ·rw[Array.getElem?_eq_none (by omega),List.getElem?_eq_none (by rw[←hacc.1];omega)]
 refine wpAny_pure ?_
 rw[hacc']
 refine hQ s' items (fun b o e=>?_) (hm.gens.trans g2) (hm.os.trans o2) (Nat.le_of_lt (dM hS')) hp
 have hb:b < s.heap.objs.size:=dM e
 refine hm.heap b o (fun z=>?_) (oth b o (eF hb) (k2 b o (dF _ e)))
 rcases Zaf.mp z with z |z
 ·exact absurd z (eF hb)
 ·rw[Zak.mp z]at hb
  have hI':s.heap.objs.size+1≤I:=by rw[←hz1];exact hI
  exact absurd (jH (Nat.lt_succ_self _) hI') (Nat.lt_asymm hb)
theorem ut{a:Addr}{ks:List Str}{Q:Value→Shared→Prop}(hh:A.handled=none)(hS:StrSet w s.heap a (jA w) ks)(h64:ks.length < 64)
  (h:∀(s':Shared) (l:Addr) (out:Array Value) (e:Nat) (ss':List Str),(∀b o,s.heap.get? b=some o→s'.heap.get? b=some o)→s'.gens=s.gens→s'.os=s.os→s.heap.objs.size≤l→s'.heap.get? l=some (seqObj "list" out e)→StrsAre out.toList ss'→ss'.Perm ks→sortedS ss'=true→Q (.ref l) s'):
  wpAny (model prog w) A (call (.builtin "sorted") [.ref a]) Q E s:=by
 obtain⟨es,ep,t,ha,S⟩:=hS
 refine Calls.call_function_entry kind_sorted plain_sorted entry_sorted (args_sorted1 _) ?_
 unfold Builtin.«sorted»
 refine wpAny_bind (m:=checkCount "sorted" 1 1 _) (wpAny_pure ?_)
 refine wpAny_bind (sy (by simp[hh]) ha S fun s1 items k1 g1 o1 hsz hp=>?_)
 have hpk:(items.map strOf).Perm ks:=(hp.map strOf).trans (by rw[List.map_map];exact S.perm)
 have hst:∀v∈items,∃x tk,v=.str x tk:=fun v hv=>by
  obtain⟨e,he,rfl⟩:=Zau.mp (hp.mem_iff.mp hv)
  obtain⟨x,tk,rfl⟩:=S.elems e he
  exact⟨x,tk,rfl⟩
 have hSA:=strsAre_map items hst
 have hl64:items.length < 64:=by have:=hpk.length_eq;rw[dY]at this;omega
 refine wpAny_bind (wpAny_newList ?_)
 have hoL:(s1.heap.push (seqObj "list" items.toArray 0)).get? s1.heap.objs.size=some (seqObj "list" items.toArray 0):=ie _ rfl
 refine wpAny_bind (wpAny_holding (wpAny_call_entry slot_list_sort ⟨_,hoL,rfl⟩ entry_list_sort (list_sort_treeK (s:={s1 with heap:=s1.heap.push (seqObj "list" items.toArray 0)}) strKind_oneLt hoL hSA.keysOf (fun v₁ v₂ aQ e=>keyKind_strs (by rw[←e];exact hSA)) hl64 fun st' a1 a2=>⟨_,rfl,?_⟩) (args_list_sort _)))
 obtain⟨ss',b1,b2,b3⟩:=sorted_out_str hSA a1 a2
 obtain⟨e,he⟩:=sortedHeap_at (out:=(arrOf st').map (·.2)) hoL
 refine wpAny_pure ⟨_,rfl,h _ s1.heap.objs.size _ e ss' (fun b o hb=>?_) g1 o1 hsz he b1 (b2.trans hpk) b3⟩
 have hb1:=k1 b o hb
 have hlt:=dM hb1
 dsimp only
 rw[sortedHeap_old (eF hlt) (by rw[size_push'];exact vt hlt),Heap.get?_push_ne _ _ _ (eF hlt)]
 exact hb1
end
end NhSet
namespace PL
open PySem L2 Nh
def xA(w:World)(a:Addr)(ks:List Str):HO:=.ext fun h=>NhSet.StrSet w h a (NhSet.jA w) ks
theorem zR(ns:List Str)(n:Nat)(h:n=ns.length):NhSet.jP (fun i=>ns.getD i ⟨#[]⟩) n=iE ns:=by
 have e:(List.range n).map (fun i=>ns.getD i ⟨#[]⟩)=ns:=by
  subst h
  refine List.ext_getElem (by simp) fun i h1 h2=>?_
  simp[h2]
 show((List.range n).map (fun i=>ns.getD i ⟨#[]⟩)).foldl NhSet.lV []=ns.foldl BB []
 rw[e]
 rfl
theorem xB(x:Str):NhSet.jP (NhSet.gV x) x.cps.size=iE (kc x):=by
 have e:(List.range x.cps.size).map (NhSet.gV x)=kc x:=by
  refine List.ext_getElem (by simp[kc]) fun i h1 h2=>?_
  have hi:i < x.cps.size:=by simpa using h1
  simp[kc,NhSet.gV,hi]
 show((List.range x.cps.size).map (NhSet.gV x)).foldl NhSet.lV []=(kc x).foldl BB []
 rw[e]
 rfl
section
variable {X:Cx} {e:Expr} {m1:Bool} {f:aD} {p p2 pos pos2:Pos}
def sC(K:Frag)(w:World):List V→Hp→VK→Prop:=fun xs H Q=>
 (∃(p:Addr) (ss:List Str),xs=[.ref p]∧SqL K H p (ss.map V.str)∧ss.length < 4000∧∀a,H a=none→Q (.ref a) (upd H a (xA w a (iE ss))))∨
 ∃x:Str,xs=[.str x]∧(kc x).length < 4000∧∀a,H a=none→Q (.ref a) (upd H a (xA w a (iE (kc x))))
theorem xC(hc:X.calm=true):CallR X (.type "set") (sC X.K X.w):=by
 intro pins s σ H xs us Q I r h
 rcases h with⟨p,ss,rfl,hq,hl,q⟩ |⟨x,rfl,hl,q⟩
 ·cases r with
  |cons r rr=>
   cases rr
   cases r
   obtain⟨its,rv,pl,hz⟩:=I.list hq
   have hS:=mP rv
   have hlen:its.length=ss.length:=by have:=rv.length;simpa using this.symm
   refine NhSet.xw (I.ok.hd hc) pl.isList (by simpa using hS) (by simp only[kJ,scanBound];omega) fun h' tk S k=>?_
   rw[zR ss its.toArray.size (by simpa using hlen)]at S
   exact⟨.ref s.heap.objs.size,_,I.laid (fun b o e=>k b o (dM e) e) (dE _) (show ObjOk X.prog X.w _ _ _ (xA X.w s.heap.objs.size (iE ss))from⟨S,S.obj,fun h1 h2 T kk=>T.at' kk⟩),rfl,q _ (I.hok.fresh (dE _))⟩
 ·cases r with
  |cons r rr=>
   cases rr
   obtain⟨t,rfl⟩:=r
   have hl2:x.cps.size < 4000:=by simpa[kc]using hl
   refine NhSet.zO (I.ok.hd hc) (by simp only[scanBound];omega) fun h' tk S k=>?_
   rw[xB]at S
   exact⟨.ref s.heap.objs.size,_,I.laid (fun b o e=>k b o (dM e) e) (dE _) (show ObjOk X.prog X.w _ _ _ (xA X.w s.heap.objs.size (iE (kc x)))from⟨S,S.obj,fun h1 h2 T kk=>T.at' kk⟩),rfl,q _ (I.hok.fresh (dE _))⟩
def zS(w:World):List V→Hp→VK→Prop:=fun xs H Q=>∃(a:Addr) (ks:List Str),xs=[.ref a]∧H a=some (xA w a ks)∧ks.length < 64∧∀l,H l=none→Q (.ref l) (upd H l (.lst ((hJ ks).map V.str)))
theorem qj(hc:X.calm=true):CallR X (.builtin "sorted") (zS X.w):=by
 intro pins s σ H xs us Q I r h
 obtain⟨a,ks,rfl,ha,h64,q⟩:=h
 cases r with
 |cons r rr=>
  cases rr
  cases r
  obtain⟨S,_,_⟩:ObjOk X.prog X.w H s.heap a (xA X.w a ks):=I.hok a _ ha
  refine NhSet.ut (I.ok.hd hc) S h64 fun s' l out e ss' k g o hl he b1 b2 b3=>?_
  have:=mO b2 b3
  subst this
  have new:ObjOk X.prog X.w (upd H l (.lst ((hJ ks).map V.str))) s'.heap l (.lst ((hJ ks).map V.str)):=⟨by rw[dY,kY];exact fE (by omega),out.toList,e,mQ b1,he⟩
  exact⟨.ref l,_,I.call' (ch:=[]) o (Un.laid k hl (I.hok.fresh hl)) (I.hok.laid k hl new) (by rw[g];exact I.bare) (fun _ z=>nomatch z),rfl,q _ (I.hok.fresh hl)⟩
theorem mV (hc:X.calm=true) (hg:Gl X "sorted") (hm:X.mg "sorted"=none) (hg2:Gl X "set") (hm2:X.mg "set"=none) (ha:EX X e m1 f) (he:starEach [e] X.env=[(false,eval e X.env)]:=by rfl)
  (he2:starEach [.Call (.Name "set" p2) [e] [] pos2] X.env=[(false,eval (.Call (.Name "set" p2) [e] [] pos2) X.env)]:=by rfl):EX X (.Call (.Name "sorted" p) [.Call (.Name "set" p2) [e] [] pos2] [] pos) m1 (f_ f):=by
 refine bn (iq (qj hc) hg hm PyProof.Rows.boot_sorted (bZ (o5 (xC hc) hg2 hm2 PyProof.Rows.boot_set (bZ ha dG he) (by decide) (by decide) he rfl) dG he2) (by decide) (by decide) he2 rfl) fun σ H Q z=>?_
 obtain⟨B,E,xs,Xs,res,E',fr,cl,e,q⟩:=z
 obtain⟨⟨s,E1⟩,e1,e⟩:=Za.mp e
 refine⟨B,E,xs,Xs,s,E1,fr,cl,e1,fun v1 H1 ⟨F,A,fr1⟩=>?_⟩
 obtain⟨A',fr2⟩:=fr1.pop
 simp only at e
 split at e
 ·rename_i ds ld
  obtain⟨ss,es,e⟩:=Za.mp e
  split at e
  ·rename_i hc
   cases e
   have r:=(fr1.look0 ld).1
   cases r with
   |lst h1 h2=>
    have:=kb h2 es
    subst this
    exact .inl ⟨_,ss,rfl,h1,hc.1,fun a ha=>⟨a,_,rfl,upd_same,hc.2,fun l hl=>q _ _ ⟨_,_,(fr2.grow (eJ ha _)).newl (f8 _) hl⟩⟩⟩
  ·cases e
 ·rename_i x ld
  split at e
  ·rename_i hc
   cases e
   have r:=(fr1.look0 ld).1
   cases r
   exact .inr ⟨x,rfl,hc.1,fun a ha=>⟨a,_,rfl,upd_same,hc.2,fun l hl=>q _ _ ⟨_,_,(fr2.grow (eJ ha _)).newl (f8 _) hl⟩⟩⟩
  ·cases e
 ·cases e
end
end PL
namespace PL
open PySem L2 Nh
def uv(g:aD):aD:=fun E=>(g E).bind fun a=>match look a.2 a.1 with
 |some (.list ds)=>if !jr a.2 a.1||bT ds then some (.sh (.tuple ds),a.2)else none
 |_=>none
section
variable {X:Cx} {e:Expr} {m1:Bool} {f:aD} {p pos:Pos}
theorem zT (hg:Gl X "tuple") (hm:X.mg "tuple"=none) (ha:EX X e m1 f) (he:starEach [e] X.env=[(false,eval e X.env)]:=by rfl):EX X (.Call (.Name "tuple" p) [e] [] pos) m1 (uv f):=by
 refine bn (o5 oh hg hm PyProof.Rows.boot_tuple (bZ ha dG he) (by decide) (by decide) he rfl) fun σ H Q z=>?_
 obtain⟨B,E,xs,Xs,res,E',fr,cl,e,q⟩:=z
 obtain⟨⟨s,E1⟩,e1,e⟩:=Za.mp e
 refine⟨B,E,xs,Xs,s,E1,fr,cl,e1,fun v1 H1 ⟨F,A,fr1⟩=>?_⟩
 obtain⟨A',fr2⟩:=fr1.pop
 simp only at e
 split at e
 ·rename_i ds ld
  split at e
  ·rename_i hc
   cases e
   obtain⟨a,vs,ev,h1,h2⟩:=fr1.items (k:=0) rfl ld hc
   cases ev
   exact⟨a,vs,rfl,.inl ⟨h1,fun l hl=>q _ _ ⟨_,_,fr2.newt h2 hl⟩⟩⟩
  ·cases e
 ·cases e
end
end PL
namespace PL
open PySem L2 Nh
theorem CC {X:Cx} {x y:Str} {t:Tok} {pos:Pos} (hg:Gl X x) (hm:X.mg x=some (.str y t)) (hd:(x == ("__debug__":Str))=false:=by decide):EX X (.Name x pos) false (pC (.str y)):=by
 refine bn (vv (v:=.str y) hg hm ⟨t,rfl⟩ hd) fun σ H Q z=>?_
 obtain⟨B,E,xs,Xs,res,E',⟨F,A,fr⟩,cl,e,q⟩:=z
 cases e
 exact q _ _ ⟨F,A,fr.push ⟨rfl,_,rfl,.str _⟩⟩
end PL
namespace Nh
open PySem L2 PL
theorem Hl:∀j,j < 26→(Str.ofString "abcdefghijklmnopqrstuvwxyz").cps.toList[j]? =some (97+j):=by decide+kernel
theorem IB(v:Int):atI (Str.ofString "abcdefghijklmnopqrstuvwxyz").cps.toList (v % 26)=some (97+(v % 26).toNat):=by
 have h0:=Int.emod_nonneg v (show(26:Int)≠0 by decide)
 have h1:=Int.emod_lt_of_pos v (show(0:Int) < 26 by decide)
 rw[qd h0]
 exact Hl _ (by omega)
theorem Fr:(Str.ofString "abcdefghijklmnopqrstuvwxyz").length≤1000000:=by decide+kernel
theorem qk{i j:Int}(h1: -(2 ^ 64) < j)(h2:j < 2 ^ 64):gm i j=true:=by
 simp only[gm,Bool.or_eq_true,decide_eq_true_eq]
 exact .inl (.inr ⟨h1,h2⟩)
theorem ql{i j:Int}(h1: -(2 ^ 64) < i)(h2:i < 2 ^ 64):gm i j=true:=by
 simp only[gm,Bool.or_eq_true,decide_eq_true_eq]
 exact .inl (.inl ⟨h1,h2⟩)
theorem zU{j:Int}(h1:0 < j)(h2:j < 2 ^ 200):mD j=true:=decide_eq_true ⟨h1,h2⟩
theorem i7(i j:Int):vN (.int i) (.int j)=some (decide (i=j)):=rfl
end Nh
namespace L2
open PySem PySem.Spec PyProof.Rows
def vY(K:Frag)(h:Heap):Prop:=∀b q,io K b=some q→h.get? b=some (tabObj #[])∧(∃c,PySem.W.CodeHd h c b)∧K.lookup b=none
def cX(K:Frag)(a:Addr)(so:Option HO):Hp:=fun b=>match io K b with
 |some q=>some (.tbl q)
 |none=>if b=a then so else none
theorem uw{K:Frag}{a b:Addr}{so:Option HO}{q:Str}(e:io K b=some q):cX K a so b=some (.tbl q):=by unfold cX;rw[e]
theorem xD{K:Frag}{a:Addr}{so:Option HO}(e:io K a=none):cX K a so a=so:=by unfold cX;rw[e];exact if_pos rfl
theorem fw{K:Frag}{a b:Addr}{so:Option HO}{u:HO}(e:cX K a so b=some u):(∃q,io K b=some q∧u=.tbl q)∨(b=a∧so=some u):=by
 unfold cX at e
 split at e
 ·rename_i q h;cases e;exact .inl ⟨q,h,rfl⟩
 ·by_cases hb:b=a
  ·rw[if_pos hb]at e;exact .inr ⟨hb,e⟩
  ·rw[if_neg hb]at e;cases e
section
variable {P:Program} {w:World} {K:Frag} {mg mb:Str→Option Value} {CX:yU} {k:Nat} {fa a:Addr} {fd:FuncData} {x:Str} {sp:Sp} {s₁:Shared} {vs:List Value} {ns:List Int}
theorem CD (KX:K.In s₁.heap) (hns:s₁.heap.Ns mainGlobals mg) (hb:s₁.heap.Ns builtinsNs mb) (hbb:∀x:Str,x≠"__name__"→mb x=bootBuiltins x) (hlim:s₁.heap.NoLimit) (hg:s₁.gens=#[]) (hbm:∃bm ob,mg "__builtins__"=some (.ref bm)∧bm≠builtinsNs∧s₁.heap.get? bm=some ob∧ob.cls=.type "module"∧ob.dict=some builtinsNs∧ob.data=.plain) (hT:vY K s₁.heap)
  (ha:s₁.heap.get? a=some {cls:=.type "list",data:=.seq vs.toArray}) (hi:IntsAre vs ns) (hl:ns.length≤sizeLine) (hr:Room k callerA)
  (F:∀base:Heap,K.In base→base.Ns mainGlobals mg→FnOk P w K mg base CX k fa fd [x] sp) (hbind:∀(s:Shared) (u:Value),BindsTo s fd ⟨[u],[]⟩ [(x,u)])
  (hsp:∀H:Hp,SqL K H a (ns.map V.int)→sp [.ref a] H (fun v _=>v=.bl true) fun _ _ _=>False)
  (hCX:∀H e s',CX [] H s₁ (fun _ _ _=>False) e s'→False):
  codeAny (model P w) callerA (.call (.ref fa) ⟨[.ref a],[]⟩) (fun r s'=>r=.ok (.ret (.bool true))∧OldK s₁.heap s'.heap∧s'.os=s₁.os∧AllBare s'.gens) s₁:=by
 have rv:=iX hi
 have lenV:=hi.length
 have tabA:io K a=none:=by
  cases q:io K a with
  |none=>rfl
  |some z=>
   have e:=(hT a z q).1
   rw[ha]at e
   cases e
 have main:∀so:Option HO,(so=none∨(so=some (.frz {cls:=.type "list",data:=.seq vs.toArray} (.lst (ns.map V.int)))∧K.lookup a=none))→SqL K (cX K a so) a (ns.map V.int)→
   codeAny (model P w) callerA (.call (.ref fa) ⟨[.ref a],[]⟩) (fun r s'=>r=.ok (.ret (.bool true))∧OldK s₁.heap s'.heap∧s'.os=s₁.os∧AllBare s'.gens) s₁:=by
  intro so hso hS
  have hok:HOk P w (cX K a so) s₁.heap:=fun b u e=>by
   rcases fw e with⟨q,e1,rfl⟩ |⟨rfl,e1⟩
   ·exact ObjOk.tbl0 (hT b q e1).1
   ·rcases hso with z |⟨z,_⟩
    ·rw[z]at e1;cases e1
    ·rw[z]at e1;cases e1
     exact⟨ha,by rw[dY];exact hl,vs,_,rv,ha⟩
  have free:∀{b:Addr} {o:Obj} {es:Array DictEntry} {ep:Nat},s₁.heap.get? b=some o→o.data=.dict es ep→cX K a so b=none:=fun {b o es ep} e d=>by
   cases q:cX K a so b with
   |none=>rfl
   |some u=>
    rcases fw q with⟨z,e1,_⟩ |⟨rfl,_⟩
    ·rw[(hT b z e1).1]at e;cases e;cases d
    ·rw[ha]at e;cases e;cases d
  have nsK:∀{b:Addr} {m:Str→Option Value},s₁.heap.Ns b m→(rm s₁.heap (cX K a so)).Ns b m:=fun {b m} ⟨o,es,ep,e,d,r⟩=>⟨o,es,ep,mj e (free e d),d,r⟩
  have kin:K.In (rm s₁.heap (cX K a so)):=fun b o e=>mj (KX b o e) (by
   cases q:cX K a so b with
   |none=>rfl
   |some u=>
    rcases fw q with⟨z,e1,_⟩ |⟨rfl,e1⟩
    ·rw[(hT b z e1).2.2]at e;cases e
    ·rcases hso with z |⟨_,z⟩
     ·rw[z]at e1;cases e1
     ·rw[z]at e;cases e)
  have bmK:∃bm ob,mg "__builtins__"=some (.ref bm)∧bm≠builtinsNs∧(rm s₁.heap (cX K a so)).get? bm=some ob∧ob.cls=.type "module"∧ob.dict=some builtinsNs∧ob.data=.plain:=by
   obtain⟨bm,ob,c1,c2,c3,c4,c5⟩:=hbm
   refine⟨bm,ob,c1,c2,mj c3 ?_,c4,c5⟩
   cases q:cX K a so bm with
   |none=>rfl
   |some u=>
    rcases fw q with⟨z,e1,_⟩ |⟨rfl,_⟩
    ·rw[(hT bm z e1).1]at c3;cases c3;cases c4
    ·rw[ha]at c3
     cases c3
     injection c4 with c6
     exact absurd c6 (by decide)
  have e0:Env0 P w K mg (rm s₁.heap (cX K a so)) callerA [] s₁ (cX K a so):=
   ⟨rfl,⟨kin,nsK hns,⟨mb,nsK hb,hbb⟩,let ⟨mc,h1,h2⟩:=hlim;⟨mc,nsK h1,h2⟩,bmK⟩,fun b o e=>BD e,Nat.le_of_eq (wQ _ _),trivial,fun b hb=>absurd (show b∈([]:List Addr)from hb) (by simp),hok,.of_eq hg,fun b q e=>uw e⟩
  refine codeAny_mono ((F _ kin (nsK hns)).run callerA [] s₁ _ ⟨[.ref a],[]⟩ [.ref a] [.ref a] _ _ hr e0 (hbind s₁ (.ref a)) (.cons rfl .nil) (hsp _ hS)) fun r s' h=>?_
  cases r with
  |error e=>exact(hCX _ e s' h).elim
  |ok fl=>
   cases fl with
   |next=>exact False.elim h
   |brk=>exact False.elim h
   |cont=>exact False.elim h
   |ret u=>
    obtain⟨v,H',os,bare,un,hok',r',q⟩:=h
    have q':v=.bl true:=q
    subst q'
    obtain rfl:u=Value.bool true:=r'
    have nofs:∀b,b∉fT ([]:List Env):=fun b z=>absurd (show b∈([]:List Addr)from z) (by simp)
    have step:∀b o,s₁.heap.get? b=some o→asItWas s₁.heap s'.heap b o∧∃o',s'.heap.get? b=some o':=fun b o e=>by
     cases q:cX K a so b with
     |none=>exact⟨.inl (un.keep b o e q (nofs b) (by simp)),_,un.keep b o e q (nofs b) (by simp)⟩
     |some u=>
      rcases fw q with⟨z,e1,rfl⟩ |⟨rfl,e1⟩
      ·obtain⟨t1,⟨c,t2⟩,_⟩:=hT b z e1
       obtain⟨ps,p1,_⟩:=hok' b _ (un.tbls b z q)
       rw[t1]at e
       cases e
       exact⟨.inr (.inl ⟨(t2.tab t1).isCodeTable,rfl,#[],ps,rfl,by simpa using p1⟩),_,p1⟩
      ·rcases hso with z |⟨z,_⟩
       ·rw[z]at e1;cases e1
       ·rw[z]at e1;cases e1
        have z2:=un.frzs b _ _ q
        obtain⟨e2,_⟩:=hok' b _ z2
        rw[ha]at e;cases e
        exact⟨.inl e2,_,e2⟩
    exact⟨rfl,⟨fun b o e=>(step b o e).1,fun b o e=>(step b o e).2⟩,os,bare⟩
 cases hk:K.lookup a with
 |some o=>
  have e:=KX a o hk
  rw[ha]at e
  cases e
  exact main none (.inl rfl) (.inr ⟨_,vs.toArray,_,hk,rfl,rfl,rfl,by rw[kJ,lenV];exact hl,by simpa using rv⟩)
 |none=>exact main _ (.inr ⟨rfl,hk⟩) (.inl (.inr ⟨_,xD tabA⟩))
end
theorem zV{l:OpenLaw}{n k:Nat}{q:Program}{loose:List Str}{XP:(Str→Option Value)→Heap→Prop}{YP:World→Heap→Prop}{d:DefRec}{K:Params→Frag}{CX:World→yU}{sp:World→Sp}{x:Str}
  (hn:l.most=some n) (hn2:n≤sizeLine) (hdf:d.params.defaults=[]) (hr:Room k callerA)
  (hY:∀(w:World) (h:Heap),YP w h→(K w.params).In h∧vY (K w.params) h)
  (F:∀(w:World) (mg:Str→Option Value) (fa:Addr) (h:Heap),(K w.params).In h→h.Ns mainGlobals mg→mg d.name=some (.ref fa)→
   ∃fd:FuncData,(∀(s:Shared) (u:Value),BindsTo s fd ⟨[u],[]⟩ [(x,u)])∧
    ∀base:Heap,(K w.params).In base→base.Ns mainGlobals mg→FnOk l.prog w (K w.params) mg base (CX w) k fa fd [x] (sp w))
  (hsp:∀(w:World) (H:Hp) (a:Addr) (ns:List Int),ns.length≤n→SqL (K w.params) H a (ns.map V.int)→sp w [.ref a] H (fun v _=>v=.bl true) fun _ _ _=>False)
  (hCX:∀(w:World) (H:Hp) (s:Shared) (e:Value) (s':Shared),CX w [] H s (fun _ _ _=>False) e s'→False):
  PySem.W.WalkO q loose XP YP l.row.toRowW d [] (fun f vs=>PySem.call f vs):=by
 refine Att.rA hn hdf fun w s₀ s₁ mg mb fa o pm cd doc a vs ns G Y ho hd hcd hmg hobj hints hlen hg=>?_
 obtain⟨KX,KT⟩:=hY w _ Y
 obtain⟨fd,hb,hF⟩:=F w mg fa _ KX G.T.g hmg
 exact CD KX G.T.g G.T.b G.T.builtins G.T.nolimit hg G.T.bmain KT hobj hints (kK hlen hn2) hr hF hb (fun H hS=>hsp w H a ns hlen hS) fun H e s'=>hCX w H s₁ e s'
end L2
namespace PL
open PySem
theorem k7:Manifest.owners.lookup (String.ofList ['d','e','s','r','e','v','e','r'].reverse)=some Manifest.sig_reversed:=by kernel_rfl
theorem slot_rev_next:Slot "reversed" "__next__" "reversed.__next__":=
 .of (owner:="reversed") (n:="__next__") (by rw[typeLookup_type,builtinLookup_eq_fast];kernel_rfl) (by decide+kernel) (by decide+kernel) (by decide+kernel)
  (by first |exact .inl (by decide+kernel) |exact .inr (by decide+kernel)) (by rw[isSubtype_type];kernel_rfl)
theorem iF:entryFor table "reversed.__next__"=some Builtin.«reversed.__next__»:=entryFor_of_tree (by kernel_rfl)
theorem hW(a:Value):argsOk "reversed.__next__" ⟨[a],[]⟩:=by
 unfold argsOk;rw[signature?_of (id:="reversed.__next__") (n:=['_','_','t','x','e','n','_','_']) (o:=['d','e','s','r','e','v','e','r']) (by kernel_rfl) k7];kernel_rfl
theorem jB:Slot "reversed" "__iter__" "reversed.__iter__":=
 .of (owner:="reversed") (n:="__iter__") (by rw[typeLookup_type,builtinLookup_eq_fast];kernel_rfl) (by decide+kernel) (by decide+kernel) (by decide+kernel)
  (by first |exact .inl (by decide+kernel) |exact .inr (by decide+kernel)) (by rw[isSubtype_type];kernel_rfl)
theorem lW(a:Value):argsOk "reversed.__iter__" ⟨[a],[]⟩:=by
 unfold argsOk;rw[signature?_of (id:="reversed.__iter__") (n:=['_','_','r','e','t','i','_','_']) (o:=['d','e','s','r','e','v','e','r']) (by kernel_rfl) k7];kernel_rfl
theorem mW:entryFor table "reversed.__iter__"=some Builtin.«dict_keyiterator.__iter__»:=
 entryFor_alias (id':="dict_keyiterator.__iter__") (by kernel_rfl) (by first |rfl |decide+kernel |(unfold String.splitOn;simp+decide [String.splitOnAux])) (by decide+kernel) (by kernel_rfl)
theorem slot_rev_hint:Slot "reversed" "__length_hint__" "reversed.__length_hint__":=
 .of (owner:="reversed") (n:="__length_hint__") (by rw[typeLookup_type,builtinLookup_eq_fast];kernel_rfl) (by decide+kernel) (by decide+kernel) (by decide+kernel)
  (by first |exact .inl (by decide+kernel) |exact .inr (by decide+kernel)) (by rw[isSubtype_type];kernel_rfl)
theorem mX:entryFor table "reversed.__length_hint__"=some Builtin.«reversed.__length_hint__»:=entryFor_of_tree (by kernel_rfl)
theorem lX(a:Value):argsOk "reversed.__length_hint__" ⟨[a],[]⟩:=by
 unfold argsOk;rw[signature?_of (id:="reversed.__length_hint__") (n:=['_','_','t','n','i','h','_','h','t','g','n','e','l','_','_']) (o:=['d','e','s','r','e','v','e','r']) (by kernel_rfl) k7];kernel_rfl
theorem ou:Slot "reversed" "__init__" "object.__init__":=
 .of (owner:="object") (n:="__init__") (by rw[typeLookup_type,builtinLookup_eq_fast];kernel_rfl) (by decide+kernel) (by decide+kernel) (by decide+kernel)
  (by first |exact .inl (by decide+kernel) |exact .inr (by decide+kernel)) (by rw[isSubtype_type];kernel_rfl)
theorem called_rev:TypeCalled "reversed" "reversed.__new__" "object.__init__":=⟨by decide+kernel,F.create_reversed,⟨_,_,F.mro_reversed⟩,F.made_reversed,F.plain_reversed_new,F.sub_reversed_self,ou⟩
theorem xE:typeLookup (.type "reversed") "__len__"=pure none:=by rw[typeLookup_type,builtinLookup_eq_fast];kernel_rfl
theorem xF:typeLookup (.type "str") "__reversed__"=pure none:=by rw[typeLookup_type,builtinLookup_eq_fast];kernel_rfl
theorem uz:isSubtype (.type "str") (.type "dict")=pure false:=by rw[isSubtype_type];kernel_rfl
end PL
namespace PL
open PySem
section
variable {I it S:Addr} {x:Str} {t:Tok} {prog:Program} {w:World} {A:Around} {E:Value→Shared→Prop} {s:Shared}
def zW(x:Str)(t:Tok)(i:Int):Obj:={cls:=.type "reversed",data:=.fields #[.str x t,rawInt i]}
def IsRev(h:Heap)(a:Addr)(x:Str)(t:Tok)(i:Int):Prop:=∃o,h.get? a=some o∧o.cls=.type "reversed"∧o.data=.fields #[.str x t,rawInt i]
theorem IsRev.ty{a:Addr}{i:Int}(r:IsRev s.heap a x t i):s.TypeIs (.ref a) "reversed":=let ⟨o,ho,hc,_⟩:=r;⟨o,ho,hc⟩
theorem qm{Q₁:Value→Shared→Prop}(hn:(x.length:Int) < 2 ^ 63)
  (h:∀tk,Q₁ (.ref s.heap.objs.size) {s with heap:=s.heap.push (zW x t ((x.length:Int) - 1)),toks:=tk}):
  codeAny (model prog w) A (.call (.builtin "reversed.__new__") ⟨[.type "reversed",.str x t],[]⟩) (wants Q₁ E) s:=by
 refine codeAny_of_tree ?_
 show wpAny _ A.in1 (do checkBuiltinCall "reversed.__new__" ⟨[.type "reversed",.str x t],[]⟩;again (.builtin "reversed.__new__" ⟨[.type "reversed",.str x t],[]⟩)) _ _ s
 refine wpAny_bind (wpAny_of_eq (F.newCall_reversed_1 _) (wpAny_pure ⟨plainId_quiet F.plain_reversed_new _,codeAny_builtin F.entry_reversed_new ?_⟩))
 rw[Around.under_plainId F.plain_reversed_new _]
 unfold Builtin.«reversed.__new__»
 refine wpAny_bind (wpAny_of_eq (newClass_reversed _) ?_)
 try dsimp only
 refine wpAny_bind (wpAny_of_eq (a:=()) (by first |rfl |kernel_rfl) ?_)
 refine wpAny_bind (wpAny_of_eq (a:=()) (by first |rfl |kernel_rfl) ?_)
 try dsimp only
 refine wpAny_bind (wpAny_specialOf (T:="str") rfl xF ?_)
 try dsimp only
 refine wpAny_bind ?_
 wp_delta
 refine wpAny_bind (wpAny_isInstance (T:="str") rfl uz ?_)
 refine wpAny_bind (wpAny_specialOf (T:="str") rfl F.slot_str_getitem.lookup ?_)
 refine wpAny_pure ?_
 refine wpAny_bind (P.len_str (by omega) ?_)
 refine wpAny_bind (m:=asInt? _) (wpAny_pure ?_)
 refine wpAny_bind (m:=newObj (.type "reversed") (.fields #[.str x t,rawInt ((x.length:Int) - 1)])) (wpAny_newObj_type ?_)
 refine wpAny_pure ?_
 exact h _
theorem qo{Q:Value→Shared→Prop}(hn:(x.length:Int) < 2 ^ 63)
  (h:∀tk,Q (.ref s.heap.objs.size) {s with heap:=s.heap.push (zW x t ((x.length:Int) - 1)),toks:=tk}):
  wpAny (model prog w) A (call (.type "reversed") [.str x t]) Q E s:=by
 refine callType_codes (Q₁:=fun obj s₁=>s₁.TypeIs obj "reversed"∧Q obj s₁) called_rev (F.typeCall_reversed_1 _) F.entry_object_init
  (qm hn fun tk=>⟨⟨_,ie _ rfl,rfl⟩,h tk⟩) fun obj s₁ h₁=>?_
 exact⟨h₁.1,F.args_object_init_2 obj _,object_init_meets called_rev.init.lookup called_rev.made (by decide) prog w A.in1 _ s₁ ⟨h₁.1,rfl,h₁.2⟩⟩
theorem ov{i c:Nat}{Q:Option Value→Shared→Prop}(hit:IsRev s.heap it x t (i:Int))(hn:(x.length:Int) < 2 ^ 63)(hx:x.cps[i]? =some c)
  (hQ:∀h' u tk,IsRev h' it x t ((i:Int) - 1)→Heap.SameBut it s.heap h'→Q (some (.str ⟨#[c]⟩ u)) {s with heap:=h',toks:=tk}):wpAny (model prog w) A (pyNext (.ref it)) Q E s:=by
 obtain⟨o,ho,hc,hd⟩:=id hit
 have hlt:i < x.length:=(Array.getElem?_eq_some_iff.mp hx).1
 unfold pyNext
 refine wpAny_bind (wpAny_attempt (wpAny_callSpecial?_slot (name:=Str.ofString "__next__") hit.ty slot_rev_next
  (wpAny_call_entry slot_rev_next hit.ty iF ?_ (hW _))))
 unfold Builtin.«reversed.__next__»
 refine wpAny_bind (wpAny_of_eq (a:=(Value.ref it,[])) rfl ?_)
 try dsimp only
 refine wpAny_bind (wpAny_field ho hd (x:=.str x t) rfl ?_)
 refine wpAny_bind (wpAny_field ho hd (x:=rawInt (i:Int)) rfl ?_)
 show wpAny _ _ (if (i:Int) < 0 then _ else _) _ _ s
 rw[if_neg (by omega)]
 refine wpAny_bind (wpAny_specialOf (T:="str") rfl F.slot_str_getitem.lookup ?_)
 rw[if_neg (show ¬((some (Value.builtin "str.__getitem__")).isNone=true)from n_)]
 refine wpAny_bind (wpAny_mkInt ?_)
 refine wpAny_bind (wpAny_attempt (P.getItem_str (c:=c) (by simp;omega) ?_ ?_))
 ·have e:seqIndex? (i:Int) x.length=some i:=by
   unfold seqIndex?;simp;omega
  rw[e];exact hx
 refine wpAny_bind (wpAny_field ho hd (x:=rawInt (i:Int)) rfl ?_)
 refine wpAny_bind (wpAny_setField ho hd (by simp) ?_)
 refine wpAny_pure ⟨_,rfl,wpAny_pure (hQ _ _ _ ?_ (Heap.SameBut.update ..))⟩
 exact⟨_,vq _ ho (Obj.isFreed_of_fields (Obj.data_mapFields hd _)),(Obj.cls_mapFields ..).trans hc,by
  rw[Obj.data_mapFields hd];simp⟩
theorem qp{Q:Option Value→Shared→Prop}(hh:A.handled=none)(hit:IsRev s.heap it x t (-1))
  (hQ:∀h',Heap.ExtBut it s.heap h'→Q none {s with heap:=h'}):wpAny (model prog w) A (pyNext (.ref it)) Q E s:=by
 obtain⟨o,ho,hc,hd⟩:=id hit
 unfold pyNext
 refine wpAny_bind (wpAny_attempt (wpAny_callSpecial?_slot (name:=Str.ofString "__next__") hit.ty slot_rev_next
  (wpAny_call_entry slot_rev_next hit.ty iF ?_ (hW _))))
 unfold Builtin.«reversed.__next__»
 refine wpAny_bind (wpAny_of_eq (a:=(Value.ref it,[])) rfl ?_)
 try dsimp only
 refine wpAny_bind (wpAny_field ho hd (x:=.str x t) rfl ?_)
 refine wpAny_bind (wpAny_field ho hd (x:=rawInt (-1)) rfl ?_)
 show wpAny _ _ (if (-1:Int) < 0 then _ else _) _ _ s
 rw[if_pos (by decide)]
 refine wpAny_bind (wpAny_rule ?_)
 refine wpAny_bind ?_
 wp_delta
 refine wpAny_bind (wpAny_setField ho hd (by simp) ?_)
 have hd1:=Obj.data_mapFields hd (fun x=>x.set! 1 (rawInt (-1)))
 have ho1:=vq _ ho (Obj.isFreed_of_fields hd1)
 refine wpAny_setField ho1 hd1 (by simp) ?_
 have hs1:=Heap.SameBut.update s.heap it (Obj.mapFields (fun x=>x.setIfInBounds 1 (rawInt (-1))))
 have hs2:=Heap.SameBut.update (s.heap.update it (Obj.mapFields (fun x=>x.setIfInBounds 1 (rawInt (-1))))) it (Obj.mapFields (fun x=>x.setIfInBounds 0 Value.none))
 refine wpAny_bind ?_
 unfold Builtin.SmallTypes.stopIteration
 refine wpAny_bind ?_
 simp only[newExc,newTuple]
 refine wpAny_bind (wpAny_newObj_type ?_ (by size_fits))
 refine wpAny_bind (m:=firstArgMember _ _) (wpAny_of_eq (a:=Value.none) (by first |rfl |(simp only[firstArgMember];rfl)) ?_)
 refine wpAny_newObj_type ?_ (by size_fits)
 simp only[raiseNew]
 refine wpAny_bind (wpAny_handled ?_)
 first |rw[show A.in1.handled=none from hh] |rw[hh]
 refine wpAny_bind (wpAny_pure (wpAny_throw ?_))
 refine wpAny_bind (wpAny_isInstance (T:="StopIteration") (b:=true) ⟨_,ie _ rfl,rfl⟩ isSubtype_stop ?_)
 refine wpAny_pure (hQ _ (Heap.ExtBut.push (Heap.ExtBut.push ?_ _) _))
 exact fun b o hb e=>(hs2.2 b hb).trans ((hs1.2 b hb).trans e)
theorem sD{i:Int}{Q:Value→Shared→Prop}(hit:IsRev s.heap it x t i)(h:Q (.ref it) s):wpAny (model prog w) A (pyIter (.ref it)) Q E s:=by
 refine wpAny_pyIter_slot hit.ty jB (wpAny_call_entry jB hit.ty mW ?_ (lW _))
 show wpAny _ _ (ret (.ref it)) _ _ s
 exact wpAny_pure ⟨_,rfl,"reversed",_,hit.ty,slot_rev_next.lookup,h⟩
theorem IsRev.at{h h':Heap}{a:Addr}{i:Int}(r:IsRev h a x t i)(e:∀o,h.get? a=some o→h'.get? a=some o):IsRev h' a x t i:=let ⟨o,ho,r⟩:=r;⟨o,e _ ho,r⟩
def qr(x:Str)(i:Nat)(v:Value):Prop:=∃c u,x.cps[x.length - 1 - i]? =some c∧v=.str ⟨#[c]⟩ u
theorem xG(hh:A.handled=none)(I:Addr)(x:Str)(t:Tok)(hn:(x.length:Int) < 2 ^ 63):
  Walks prog w A I [I] [I] x.length (qr x) (fun i h=>i≤x.length∧IsRev h I x t ((x.length:Int) - 1 - (i:Int))) where
 sub:=fun b hb=>hb
 frame:=fun _ _ _ r hk=>⟨r.1,r.2.at fun o e=>hk I (by simp) o e⟩
 item:=fun i s Q E hi r hQ=>by
  have e:(x.length:Int) - 1 - (i:Int)=((x.length - 1 - i:Nat):Int):=by omega
  have hit:=r.2
  rw[e]at hit
  have hl:x.length - 1 - i < x.cps.size:=by show _ < x.length;omega
  have hx:x.cps[x.length - 1 - i]? =some (x.cps[x.length - 1 - i]'hl):=Array.getElem?_eq_getElem hl
  refine ov hit hn hx fun h' u tk hit' hs'=>?_
  have e2:((x.length - 1 - i:Nat):Int) - 1=(x.length:Int) - 1 - ((i+1:Nat):Int):=by omega
  rw[e2]at hit'
  exact hQ _ h' tk ⟨_,u,hx,rfl⟩ ⟨hi,hit'⟩ fun b o hb eo=>hs'.extBut b o (fun h=>hb (by simp[h])) eo
 done:=fun s Q E r hQ=>by
  have e:(x.length:Int) - 1 - (x.length:Int)= -1:=by omega
  have hit:=r.2
  rw[e]at hit
  exact qp hh hit fun h' he'=>hQ h' s.toks fun b o hb eo=>he' b o (fun h=>hb (by simp[h])) eo
 self:=fun _ _ _ _ r hQ=>sD r.2 hQ
theorem oA{Q:Value→Shared→Prop}(hn:(x.length:Int) < 2 ^ 63)(hit:IsRev s.heap I x t ((x.length:Int) - 1))
  (h:∀u tk,Q (.int x.length u) {s with toks:=tk}):wpAny (model prog w) A (call (.builtin "reversed.__length_hint__") [.ref I]) Q E s:=by
 obtain⟨o,ho,hc,hd⟩:=id hit
 refine wpAny_call_entry slot_rev_hint hit.ty mX ?_ (lX _)
 unfold Builtin.«reversed.__length_hint__»
 refine wpAny_bind (wpAny_of_eq (a:=Value.ref I) rfl ?_)
 refine wpAny_bind (wpAny_field ho hd (x:=.str x t) rfl ?_)
 rw[if_neg (show ¬((Value.str x t == Value.none)=true)from n_)]
 refine wpAny_bind (P.len_str (by omega) ?_)
 refine wpAny_bind (m:=asInt? _) (wpAny_pure ?_)
 refine wpAny_bind (wpAny_field ho hd (x:=rawInt ((x.length:Int) - 1)) rfl ?_)
 show wpAny _ _ (if (x.length:Int) < (x.length:Int) - 1+1 then _ else _) _ _ _
 rw[if_neg (by omega)]
 have e:(x.length:Int) - 1+1=x.length:=by omega
 rw[e]
 unfold retInt
 exact wpAny_bind (wpAny_mkInt (wpAny_pure ⟨_,rfl,h _ _⟩))
theorem zX{Q:Bool→Shared→Prop}(hn:x.length≤2 ^ 24)(hit:IsRev s.heap I x t ((x.length:Int) - 1))
  (h:∀tk,Q ((x.length:Int) != 0) {s with toks:=tk}):wpAny (model prog w) A (Builtin.List.listLengthHint (.ref I)) Q E s:=by
 unfold Builtin.List.listLengthHint
 refine wpAny_bind (wpAny_specialOf hit.ty xE ?_)
 try dsimp only
 refine wpAny_ite_split (fun hab=>absurd hab (by decide)) (fun _=>?_)
 refine wpAny_ite_split (fun hab=>absurd hab (by decide)) (fun _=>?_)
 refine wpAny_bind (wpAny_specialOf hit.ty slot_rev_hint.lookup ?_)
 generalize hid:("reversed.__length_hint__":String)=id0
 wp_delta
 rw[show splitId id0=some ("reversed","__length_hint__")from by subst hid;decide+kernel]
 subst hid
 refine wpAny_bind (wpAny_isInstance (T:="reversed") (b:=true) hit.ty F.sub_reversed_self ?_)
 refine wpAny_ite_split (fun hab=>absurd hab (by decide)) (fun _=>?_)
 refine wpAny_ite_split (fun hab=>absurd hab (by decide+kernel)) (fun _=>?_)
 refine wpAny_bind (wpAny_rule ?_)
 refine wpAny_bind (wpAny_of_eq (slot_rev_hint.bind _) ?_)
 refine wpAny_bind (wpAny_attempt (oA (by omega) hit fun u tk=>?_))
 have htl:Builtin.List.listTooLong ((x.length:Int).toNat)=false:=by simp[Builtin.List.listTooLong,sizeLine];omega
 have hfi:Builtin.List.listFitsIndex (x.length:Int)=true:=by simp[Builtin.List.listFitsIndex];omega
 dsimp only
 generalize hz2:({heap:=s.heap,gens:=s.gens,drawn:=s.drawn,toks:=tk,os:=s.os}:Shared)=sz
 have ha:asInt? (Value.int (x.length:Int) u)=pure (some (x.length:Int)):=rfl
 rw[ha,pure_bind]
 dsimp only
 subst hz2
 generalize hz:((x.length:Nat):Int)=z at htl hfi h ⊢
 refine wpAny_ite_split (fun hab=>absurd hab (by rw[hfi];decide)) (fun _=>?_)
 refine wpAny_ite_split (fun hab=>absurd hab (by omega)) (fun _=>?_)
 exact wpAny_ite_split (fun hab=>absurd hab (by rw[htl];decide)) (fun _=>wpAny_pure (h _))
def zY(x:Str)(I S:Addr)(R:Result→Shared→Prop)(s:Shared):Prop:=∀h' tk acc' c',(∀b o,b≠S→b≠I→s.heap.get? b=some o→h'.get? b=some o)→h'.get? S=some {cls:=.type "list",dict:=none,data:=.seq acc' c',slots:=#[]}→
   ItemsOf (qr x) acc' x.length→R (.ok (.ret .none)) {s with heap:=h',toks:=tk}
abbrev zZ(prog:Program)(w:World)(A:Around)(m:Sem PySem.Fin)(R:Result→Shared→Prop)(s:Shared):Prop:=wpAny (model prog w) A.in1 m
   (fun fin s'=>match fin with |.done f=>R (.ok f) s' |.again c'=>c'.quiet=true∧codeAny (model prog w) A c' R s') (fun e s'=>R (.error e) s') s
theorem z_ (hit:IsRev s.heap I x t ((x.length:Int) - 1)) {c₀:Nat} (hS:s.heap.get? S=some {cls:=.type "list",data:=.seq #[] c₀}):S≠I:=fun e=>by
  obtain⟨o,ho,hc,_⟩:=hit
  rw[e,ho]at hS
  have hc2:=(Option.some.inj hS)▸hc
  exact absurd (Value.type.inj hc2) (by decide)
theorem uA {R:Result→Shared→Prop} (hh:A.handled=none) (hn:x.length≤2 ^ 24) (hit:IsRev s.heap I x t ((x.length:Int) - 1)) (c₀:Nat) (hS:s.heap.get? S=some {cls:=.type "list",data:=.seq #[] c₀})
  (hR:zY x I S R s):zZ prog w A (Builtin.List.listExtendWith (.ref S) (.ref I) .none) R s:=by
 have hSI:=z_ hit hS
 have hSf:S∉[I]:=fun hm=>hSI (Zak.mp hm)
 have W:=(xG (prog:=prog) (w:=w) (A:=A.in1) hh I x t (by omega)).toS
 have key:∀(h:Heap) (c₁ tk:Nat),IsRev h I x t ((x.length:Int) - 1)→(∀b o,b≠S→s.heap.get? b=some o→h.get? b=some o)→
   h.get? S=some {cls:=.type "list",data:=.seq #[] c₁}→codeAny (model prog w) A (.builtin "list.extend.loop" ⟨[.ref S,.ref I,.none],[]⟩) R {s with heap:=h,toks:=tk}:=by
  intro h c₁ tk hit hk hS₁
  refine codeAny_extend_loopS W (by rw[sizeLine_eq];omega) S hSf .none x.length 0 _ #[] c₁ rfl (Nat.zero_le _) ⟨Nat.zero_le _,by simpa using hit⟩ hS₁ (ItemsOf.nil _) fun s' acc' c' hm hS' hacc=>?_
  rw[Moved.eq_with hm]
  refine hR s'.heap s'.toks acc' c' (fun b o hb hI e=>hm.heap b o (fun hmem=>?_) (hk b o hb e)) hS' hacc
  rcases Zaf.mp hmem with e' |hmem
  ·exact hb e'
  ·exact hI (Zak.mp hmem)
 unfold Builtin.List.listExtendWith
 refine wpAny_bind (wpAny_typeOf hit.ty ?_)
 have h1:Builtin.List.listSameRef (.ref S) (.ref I)=false:=by simp[Builtin.List.listSameRef,hSI]
 have h2:(Value.type "reversed" == Value.type "list")=false:=by decide
 have h3:(Value.type "reversed" == Value.type "tuple")=false:=by decide
 simp only[h1,h2,h3,Bool.or_false,bQ]
 refine wpAny_bind (sD hit ?_)
 refine wpAny_bind (wpAny_holding (zX hn hit fun tk=>?_))
 refine wpAny_ite_split (fun _=>?_) (fun _=>wpAny_pure ⟨plainId_quiet F.plain_extend_loop _,key _ c₀ _ hit (fun b o _ e=>e) hS⟩)
 refine wpAny_bind (wpAny_rule ?_)
 refine wpAny_bind ?_
 show wpAny _ _ (updateSeq S (·.push .none) >>= fun _=>updateSeq S (·.pop)) _ _ _
 refine wpAny_bind (wpAny_updateSeq hS rfl ?_)
 have hS₂:=vq (Obj.mapSeq (·.push Value.none)) hS rfl
 refine wpAny_updateSeq (hz:=by seq_fits) hS₂ rfl ?_
 have hS₃:=vq (Obj.mapSeq (·.pop)) hS₂ rfl
 have oth:∀b o,b≠S→s.heap.get? b=some o→((s.heap.update S (Obj.mapSeq (·.push Value.none))).update S (Obj.mapSeq (·.pop))).get? b=some o:=
  fun b o hb e=>(vp _ _ (Ne.symm hb)).trans ((vp _ _ (Ne.symm hb)).trans e)
 exact wpAny_pure ⟨plainId_quiet F.plain_extend_loop _,key _ _ _ (hit.at fun o e=>oth I o (Ne.symm hSI) e) oth hS₃⟩
theorem Aa {R:Result→Shared→Prop} (hh:A.handled=none) (hn:x.length≤2 ^ 24) (hit:IsRev s.heap I x t ((x.length:Int) - 1)) (hS:s.heap.get? S=some {cls:=.type "list",data:=.seq #[]})
  (hR:zY x I S R s):zZ prog w A (Builtin.«list.__init__» ⟨[.ref S,.ref I],[]⟩) R s:=by
 have hSI:=z_ hit hS
 show wpAny _ _ (do let old ←Builtin.List.listItems (.ref S);Builtin.List.listUpdate (.ref S) (fun _=>#[]);letGo old.toList.reverse;Builtin.List.listExtendWith (.ref S) (.ref I) .none) _ _ s
 refine wpAny_bind ?_
 unfold Builtin.List.listItems
 refine wpAny_bind (wpAny_seqItems hS rfl (wpAny_pure ?_))
 show wpAny _ _ (updateSeq S (fun _=>#[]) >>= fun _=>letGo (#[]:Array Value).toList.reverse >>= fun _=>Builtin.List.listExtendWith (.ref S) (.ref I) .none) _ _ s
 refine wpAny_bind (wpAny_updateSeq hS rfl ?_)
 have hS₂:=vq (Obj.mapSeq (fun _=>(#[]:Array Value))) hS rfl
 have oth:∀b o,b≠S→s.heap.get? b=some o→(s.heap.update S (Obj.mapSeq (fun _=>(#[]:Array Value)))).get? b=some o:=
  fun b o hb e=>(vp _ _ (Ne.symm hb)).trans e
 refine wpAny_bind (wpAny_letGo ?_)
 refine uA hh hn (hit.at fun o e=>oth I o (Ne.symm hSI) e) _ hS₂ fun h' tk acc' c' hk hS' hacc=>?_
 exact hR h' tk acc' c' (fun b o hb hI e=>hk b o hb hI (oth b o hb e)) hS' hacc
theorem Ab{Q:Value→Shared→Prop}(hh:A.handled=none)(hn:x.length≤2 ^ 24)(hit:IsRev s.heap I x t ((x.length:Int) - 1))
  (hQ:∀h' tk acc' c',(∀b o,b≠I→s.heap.get? b=some o→h'.get? b=some o)→
   h'.get? s.heap.objs.size=some {cls:=.type "list",dict:=none,data:=.seq acc' c',slots:=#[]}→ItemsOf (qr x) acc' x.length→Q (.ref s.heap.objs.size) {s with heap:=h',toks:=tk}):
  wpAny (model prog w) A (call (.type "list") [.ref I]) Q E s:=by
 refine callType_codes (Q₁:=fun obj s₁=>obj=.ref s.heap.objs.size∧s₁={s with heap:=s.heap.push {cls:=.type "list",data:=.seq #[]}}) F.called_list (F.typeCall_list_1 _) F.entry_list_init
  (code_list_new _ ⟨rfl,rfl⟩) fun obj s₁ h₁=>?_
 obtain⟨rfl,rfl⟩:=h₁
 have hS:(s.heap.push {cls:=.type "list",data:=.seq #[]}).get? s.heap.objs.size=some {cls:=.type "list",data:=.seq #[]}:=ie _ rfl
 refine⟨⟨_,hS,rfl⟩,F.args_list_init_2 _ _,Aa (A:=A.in1) hh hn (hit.at fun o e=>dF _ e) hS fun h' tk acc' c' hk hS' hacc=>?_⟩
 exact⟨rfl,hQ h' tk acc' c' (fun b o hI e=>hk b o (eF (dM e)) hI (dF _ e)) hS' hacc⟩
end
end PL
namespace PL
open PySem L2 Nh
def jC(z:Str):List Str:=z.cps.toList.reverse.map fun c=>⟨#[c]⟩
theorem pz(z:Str):(jC z).length=z.length:=by
 unfold jC;simp;rfl
theorem vZ:∀{ws:List Str} {vs:List Value},vs.length=ws.length→(∀(j:Nat) (v:Value),vs[j]? =some v→∃c u,ws[j]? =some c∧v=Value.str c u)→Vals (ws.map V.str) vs
 |[],[],_,_=>.nil
 |w::ws,v::vs,e,h=>by
  refine .cons ?_ (vZ (by simpa using e) fun j v' hv=>?_)
  ·obtain⟨c,u,ec,rfl⟩:=h 0 v rfl
   cases ec
   exact⟨u,rfl⟩
  ·exact h (j+1) v' hv
theorem xH{z:Str}{acc:Array Value}(h:ItemsOf (qr z) acc z.length):Vals ((jC z).map V.str) acc.toList:=by
 refine vZ (by rw[pz,yC];exact h.1) fun j v hv=>?_
 have hv':acc[j]? =some v:=by simpa using hv
 have hj:j < z.length:=by have:=(Array.getElem?_eq_some_iff.mp hv').1;rw[h.1]at this;exact this
 obtain⟨c,u,hc,rfl⟩:=h.2 j v hv'
 refine⟨⟨#[c]⟩,u,?_,rfl⟩
 unfold jC
 rw[q_,List.getElem?_reverse (by rw[yC];exact hj)]
 have:z.cps.toList[z.cps.toList.length - 1 - j]? =some c:=by rw[yC,Array.getElem?_toList];exact hc
 rw[this];rfl
def Hm:List V→Hp→VK→Prop:=fun xs H Q=>∃z,xs=[.str z]∧z.length≤1000000∧∀l,H l=none→Q (.ref l) (upd H l (.lst ((jC z).map V.str)))
def sG(g:aD):aD:=fun E=>(g E).bind fun a=>match look a.2 a.1 with
 |some (.str z)=>if z.length≤1000000 then some (.ow ((jC z).map .str),a.2)else none
 |_=>none
section
variable {X:Cx} {e:Expr} {m1:Bool} {f:aD} {p p2 pos pos2:Pos}
theorem CF {t:TA} (hc:X.calm=true) (hg:Gl X "list") (hm:X.mg "list"=none) (hg2:Gl X "reversed") (hm2:X.mg "reversed"=none) (ha:PA X [e] t)
  (he:starEach [e] X.env=[(false,eval e X.env)]:=by rfl):PE X (.Call (.Name "list" p) [.Call (.Name "reversed" p2) [e] [] pos2] [] pos) (HM Hm t):=by
 intro pins s σ H Q I h
 refine wpAny_Call_Name_kw (fX I hg hm PyProof.Rows.boot_list ?_ (by decide) (by decide))
 refine PyProof.Rows.callWith_type1 ?_ rfl rfl
 show wpAny _ _ (spliced ((false,eval (.Call (.Name "reversed" p2) [e] [] pos2) X.env)::backTo pos (starEach [] X.env))) _ _ s
 refine Calls.spliced_cons ?_
 refine wpAny_Call_Name_kw (fX I hg2 hm2 PyProof.Rows.boot_reversed ?_ (by decide) (by decide))
 refine PyProof.Rows.callWith_type1 (bR (ha pos2 pins s σ H _ I h) fun us s1 ⟨vs,H1,I1,r1,q1⟩=>?_) he rfl
 obtain⟨z,rfl,hz,q⟩:=q1
 obtain⟨u,rfl,rx⟩:=vB r1
 obtain⟨t,rfl⟩:=rx
 refine qo (by omega) fun tk=>?_
 refine Calls.spliced_nil ?_
 refine Ab (I1.ok.hd hc) (by omega) ⟨_,ie _ rfl,rfl,rfl⟩ fun h' tk' acc' c' kp e' hacc=>?_
 have k:∀b o,s1.heap.get? b=some o→h'.get? b=some o:=fun b o eb=>kp b o (eF (dM eb)) (dF _ eb)
 have sz:(s1.heap.push (zW z t ((z.length:Int) - 1))).objs.size=s1.heap.objs.size+1:=by simp[Heap.push]
 refine⟨.ref _,_,I1.laid (a:=(s1.heap.push (zW z t ((z.length:Int) - 1))).objs.size) (o:=.lst ((jC z).map V.str)) (t':=tk') k (by omega) ⟨?_,acc'.toList,c',xH hacc,by simpa using e'⟩,rfl,q _ (I1.hok.fresh (show s1.heap.objs.size≤(s1.heap.push (zW z t ((z.length:Int) - 1))).objs.size by omega))⟩
 rw[dY,pz]
 exact fE (by omega)
theorem CG (hc:X.calm=true) (hg:Gl X "list") (hm:X.mg "list"=none) (hg2:Gl X "reversed") (hm2:X.mg "reversed"=none) (ha:EX X e m1 f)
  (he:starEach [e] X.env=[(false,eval e X.env)]:=by rfl):EX X (.Call (.Name "list" p) [.Call (.Name "reversed" p2) [e] [] pos2] [] pos) m1 (sG f):=by
 refine bn (CF hc hg hm hg2 hm2 (bZ ha dG he) he) fun σ H Q z=>?_
 obtain⟨B,E,xs,Xs,res,E',fr,cl,e,q⟩:=z
 obtain⟨⟨s,E1⟩,e1,e⟩:=Za.mp e
 refine⟨B,E,xs,Xs,s,E1,fr,cl,e1,fun v1 H1 ⟨F,A,fr1⟩=>?_⟩
 simp only at e
 split at e
 ·rename_i z ld
  split at e
  ·rename_i hz
   cases e
   have r1:=(fr1.look0 ld).1
   obtain⟨A',fr2⟩:=fr1.pop
   cases r1
   exact⟨z,rfl,hz,fun l hl=>q _ _ ⟨F,_,by have:=fr2.newl (f8 (jC z)) hl;exact this⟩⟩
  ·cases e
 ·cases e
end
end PL
namespace PL
open PySem PySem.SeqAt
open AutoSeq1 (wpAny_loadPart')
open MeetsSeq MeetsSeq2 MeetsSeq3 SeqRoads2
def RcGtAtE(A:Around)(s:Shared)(y x:Value)(b:Bool):Prop:=
 ∀(prog:Program) (w:World) (E:Value→Shared→Prop) (Q:Value→Shared→Prop),Q (.bool b) s→wpAny (model prog w) A (richCompare .GtE y x) Q E s
theorem sH(l b:Addr)(items items2:Array Value)(n n2:Nat)(dd dd2:Option Addr)(sl sl2:Array (Option Value))(e r:Nat→Bool):
  Meets (Builtin.«tuple.__ge__» ⟨[.ref l,.ref b],[]⟩)
   (fun A R s=>s.heap.get? l=some {cls:=.type "tuple",dict:=dd,data:=.seq items n,slots:=sl}∧s.heap.get? b=some {cls:=.type "tuple",dict:=dd2,data:=.seq items2 n2,slots:=sl2}∧
    (∀j (h1:j < items.size) (h2:j < items2.size),EqAt A.in1 s items[j] items2[j] (e j))∧(∀j (h1:j < items.size) (h2:j < items2.size),e j=false→RcGtAtE A.in1 s items[j] items2[j] (r j))∧
    R (.ok (.ret (.bool (zL e r (decide (items2.size≤items.size)) (List.range (min items.size items2.size)))))) s):=
 .of_wp fun prog w A R s h=>by
  obtain⟨hp,g,d,tk,os⟩:=s;obtain⟨hl,hb,he,hr,h⟩:=h
  have f2:=AutoSeq1.sub_tuple_tuple
  have hZ:(items.toList.zip items2.toList).length=min items.size items2.size:=by simp
  wp_walk using wpAny_loadPart' hl,wpAny_loadPart' hb,wpAny_forIn_list _ (fun aQ b s'=>b.1=none∧s'=⟨hp,g,d,tk,os⟩∧∃i,aQ=(items.toList.zip items2.toList).drop i∧
   R (.ok (.ret (.bool (zL e r (decide (items2.size≤items.size)) ((List.range (min items.size items2.size)).drop i))))) ⟨hp,g,d,tk,os⟩) _
  case turn=>
   rintro⟨y,x⟩ aQ b s' ⟨hb',rfl,i,hz,hR⟩
   have hlt:i < (items.toList.zip items2.toList).length:=by
    rcases Nat.lt_or_ge i (items.toList.zip items2.toList).length with h' |h'
    ·exact h'
    ·rw[List.drop_of_length_le h']at hz;cases hz
   have hm:i < min items.size items2.size:=hZ▸hlt
   have h1:i < items.size:=jH hm (Nat.min_le_left _ _)
   have h2:i < items2.size:=jH hm (Nat.min_le_right _ _)
   rw[By hlt]at hz
   injection hz with hyx hrest
   have hy:y=items[i]:=by have:=congrArg Prod.fst hyx;simpa using this
   have hx:x=items2[i]:=by have:=congrArg Prod.snd hyx;simpa using this
   subst hy hx
   have hd:(List.range (min items.size items2.size)).drop i=i::(List.range (min items.size items2.size)).drop (i+1):=by simp[By,hm]
   rw[hd,zL]at hR
   refine wpAny_bind (he i h1 h2 prog w _ _ ?_)
   cases hy:e i with
   |true=>
    rw[hy,if_pos rfl]at hR
    wp_walk
    exact⟨rfl,rfl,i+1,hrest,hR⟩
   |false=>
    rw[hy,if_neg (by decide)]at hR
    rw[show(!false)=true from rfl,if_pos rfl]
    refine wpAny_bind (wpAny_rule (wpAny_bind (hr i h1 h2 hy prog w _ _ ?_)))
    wp_walk
    exact⟨_,rfl,hR⟩
  case fin=>
   rintro⟨b1,b2⟩ s' ⟨hb',rfl,i,hz,hR⟩
   simp only at hb'
   subst hb'
   have hge:min items.size items2.size≤i:=by
    rcases Nat.lt_or_ge i (items.toList.zip items2.toList).length with h' |h'
    ·rw[By h']at hz;cases hz
    ·exact hZ▸h'
   rw[List.drop_of_length_le (by simpa using hge)]at hR
   wp_walk
   exact⟨_,rfl,hR⟩
  case h=>
   exact⟨rfl,rfl,0,rfl,by simpa using h⟩
section
variable {A:Around} {s:Shared}
theorem RcGtAtE.tuples{l b:Addr}{items items2:Array Value}{e r:Nat→Bool}(hl:s.heap.IsTuple l items)(hb:s.heap.IsTuple b items2)(hu:A.units < cLine)
  (he:∀j (h1:j < items.size) (h2:j < items2.size),EqAt A.in1 s items[j] items2[j] (e j)) (hr:∀j (h1:j < items.size) (h2:j < items2.size),e j=false→RcGtAtE A.in1 s items[j] items2[j] (r j)):RcGtAtE A s (.ref l) (.ref b) (zL e r (decide (items2.size≤items.size)) (List.range (min items.size items2.size))):=fun prog w E Q h=>by
 obtain⟨⟨cls,dd,data,sl⟩,ho,hc,n,hd⟩:=id hl
 obtain⟨⟨cls2,dd2,data2,sl2⟩,ho2,hc2,n2,yD⟩:=id hb
 simp only at hc hd hc2 yD
 subst hc hd hc2 yD
 exact richCompare_meets_room (op:= .GtE) ⟨_,ho,rfl⟩ ⟨_,ho2,rfl⟩ F.slot_tuple_ge F.entry_tuple_ge (F.args_tuple_ge_2 _ _) (sH l b items items2 n n2 dd dd2 sl sl2 e r)
  ⟨ho,ho2,he,hr,show Value.bool _≠Value.notImplemented∧Q (.bool _) s from⟨(fun x=>nomatch x),h⟩⟩ hu
theorem RcGtAtE.ints(i j:Int)(t u:Tok):RcGtAtE A s (.int i t) (.int j u) (decide (j≤i)):=fun prog w E Q h=>PyProof.Rows.ge_int h
theorem RcGtAtE.strs(x y:Str)(t u:Tok):RcGtAtE A s (.str x t) (.str y u) (!decide (x.cps.toList < y.cps.toList)):=fun prog w E Q h=>PySem.P.ge_str h
end
end PL
namespace PL
open PySem PySem.SeqAt L2 Nh
def CI(i j:Int)(x y:Str):Bool:=if PyData.eqv (.int i) (.int j)then (if PyData.eqv (.str x) (.str y)then true else !decide (x.cps.toList < y.cps.toList))else decide (j≤i)
def sI:PyData→PyData→Option PyData
 |.tuple [.int i,.str x],.tuple [.int j,.str y]=>if shaped (.tuple [.int i,.str x])&&shaped (.tuple [.int j,.str y])then some (.bool (CI i j x y))else none
 |_,_=>none
def DV(K:Frag):R2:=fun v u H Q=>∃i j x y,DOf K H v (.tuple [.int i,.str x])∧DOf K H u (.tuple [.int j,.str y])∧(shaped (.tuple [.int i,.str x])&&shaped (.tuple [.int j,.str y]))=true∧Q (.bl (CI i j x y)) H
theorem mY{h:Heap}{v:Value}{i:Int}{x:Str}{as:List Addr}(r:Reads h v (.tuple [.int i,.str x]) as):∃a t u,v=.ref a∧h.IsTuple a #[.int i t,.str x u]:=by
 cases r with
 | @tuple a o vs n _ _ g c d r=>
  obtain⟨l⟩:=vs
  have r':ReadsAll h l [.int i,.str x] as:=r
  cases r' with
  |cons h1 t1=>
   cases t1 with
   |cons h2 t2=>
    cases t2
    cases h1
    cases h2
    exact⟨a,_,_,rfl,o,g,c,n,d⟩
theorem CJ{X:Cx}(hu:X.A.units+70 < cLine):OpR X (compareOp .GtE) (DV X.K):=by
 intro pins s σ H v u w z Q I rx ry h
 obtain⟨i,j,x,y,hd,he,sh,q⟩:=h
 obtain⟨as,ra⟩:=hd.reads I rx
 obtain⟨bs,rb⟩:=he.reads I ry
 obtain⟨a,t,t1,rfl,ta⟩:=mY ra
 obtain⟨b,t2,t3,rfl,tb⟩:=mY rb
 have s1:=Bool.and_eq_true_iff.mp sh
 have c1:(PyData.str x).canLay0=true:=PyData.canLay0_of_mem [.int i,.str x] _ (canLay_of_shaped s1.1) (by simp)
 have c2:(PyData.str y).canLay0=true:=PyData.canLay0_of_mem [.int j,.str y] _ (canLay_of_shaped s1.2) (by simp)
 have q0:=eqAt_reads (.int i) (.int j) X.A.in1 s _ _ [] [] (.int i t) (.int j t2) (PyData.canLay0_of_mem [.int i,.str x] _ (canLay_of_shaped s1.1) (by simp)) (PyData.canLay0_of_mem [.int j,.str y] _ (canLay_of_shaped s1.2) (by simp)) (by show X.A.units+1+min 0 0 < cLine;omega)
 have q1:=eqAt_reads (.str x) (.str y) X.A.in1 s _ _ [] [] (.str x t1) (.str y t3) c1 c2 (by show X.A.units+1+min 0 0 < cLine;omega)
 have g:=RcGtAtE.tuples (A:=X.A) (s:=s) (e:=fun k=>if k=0 then PyData.eqv (.int i) (.int j)else PyData.eqv (.str x) (.str y)) (r:=fun k=>if k=0 then decide (j≤i)else !decide (x.cps.toList < y.cps.toList)) ta tb (by omega)
  (fun k h1 h2=>match k,h1 with
   | 0,_=>q0
   | 1,_=>q1)
  (fun k h1 h2 _=>match k,h1 with
   | 0,_=>RcGtAtE.ints _ _ _ _
   | 1,_=>RcGtAtE.strs _ _ _ _)
 exact g X.prog X.w X.xe _ ⟨.bl _,H,I,rfl,q⟩
theorem Fs{K:Frag}:oi K (DV K) sI:=fun d1 d2 d v1 v2 H Q e r1 r2=>by
 unfold sI at e
 split at e
 ·split at e
  ·rename_i hs
   cases e
   have s1:=Bool.and_eq_true_iff.mp hs
   exact⟨_,rfl,fun q=>⟨_,_,_,_,r1.dof s1.1,r2.dof s1.2,hs,q⟩⟩
  ·cases e
 ·cases e
section
variable {X:Cx} {a b:Expr} {m1 m2:Bool} {f g:aD} {pos:Pos}
theorem CK(hu:X.A.units+70 < cLine)(ha:EX X a m1 f)(hb:EX X b m2 g):TX X (.Compare a [.GtE] [b] pos) (m1||m2) (cf (af (eK sI) m2 f g)):=jL (CJ hu) (gS Fs) ha hb (kM _)
end
end PL
namespace PL
open PySem PySem.Spec PyProof.Rows L2 Nh PySem.W PySem.Calls Builtin Builtin.ObjectAttr Builtin.Getset_descriptor
structure ExCls (K:Frag) (C:Addr):Prop where
 cls:∃cd,clsIn K C=some cd
 ga:findIn K (.ref C) "__getattribute__"=some (some (.builtin "BaseException.__getattribute__"))
 gt:findIn K (.ref C) "__getattr__"=some none
 ca:findIn K (.ref C) "__class__"=some (some (.builtin "object.__class__"))
 mb:mroIn K C (.type "BaseException")=some true
 mo:mroIn K C (.type "object")=some true
section
variable {K:Frag} {a C:Addr} {M:Model} {h:Heap}
theorem jR(p:e9 a C h):Looks M h (typeOf (.ref a)) (.ref C):=by
 obtain⟨o,h1,h2⟩:=p
 exact h2▸(Looks.ld h1).andThen .now
theorem CL{prog:Program}{w:World}{A:Around}{R:Result→Shared→Prop}{s:Shared}{tp:Value}(Z:ExCls K C)(X:K.In s.heap)(I:e9 a C s.heap)(h:R (.ok (.ret (.ref C))) s):
  codeAny (model prog w) A (.call (.builtin "getset_descriptor.__get__") ⟨[.builtin "object.__class__",.ref a,tp],[]⟩) R s:=by
 obtain⟨hh,g,dr,t,os⟩:=s
 have L0:=jR (M:=model prog w) I
 have L1:=looks_mroIn (M:=model prog w) X Z.mo
 refine codeAny_call_builtin KF.slot_gs.plain KF.entry_gs (KF.slot_gs.check _ _ _ _ _ _ _ _ KF.type_class (KF.args_gs _ _ _) ?_)
 unfold Builtin.«getset_descriptor.__get__» descrGet
 rw[dga_obj]
 refine wpAny_bind (wpAny_pure ?_)
 unfold descrGetter descrCheckInstance descrNameAndClass isInstance
 simp only[KF.owner_class]
 repeat lk
 refine⟨Code.quiet_builtin _ (by decide+kernel),codeAny_builtin KF.entry_class ?_⟩
 unfold Builtin.«object.__class__» shownTypeOf
 repeat lk
 exact h
theorem xI{prog:Program}{w:World}{A:Around}{E:Value→Shared→Prop}{Q:Fin→Shared→Prop}{s:Shared}{tk:Tok}(Z:ExCls K C)(X:K.In s.heap)(I:e9 a C s.heap)(h:Q (.done (.ret (.ref C))) s):
  wpAny (model prog w) A (Builtin.«object.__getattribute__» ⟨[.ref a,.str "__class__" tk],[]⟩) Q E s:=by
 obtain⟨hh,g,dr,t,os⟩:=s
 have L0:=jR (M:=model prog w) I
 have L1:=looks_findIn (M:=model prog w) X Z.ca
 have hT5:(⟨hh,g,dr,t,os⟩:Shared).TypeIs (.builtin "object.__class__") "getset_descriptor":=F.typeOf_object_class
 have f5:=F.typeOf_object_class
 have f6:=F.slot_gs_get.lookup
 have f7:=F.slot_gs_set.lookup
 repeat (any_goals (first |assumption |with_reducible refine L0.at ?_ |with_reducible refine L1.at ?_ |wp_step))
 refine CL Z X I ?_
 repeat (any_goals (first |assumption |wp_step))
theorem xJ{A:Around}{E:Value→Shared→Prop}{nameV:Value}{Q:Unit→Shared→Prop}{s:Shared}(Z:ExCls K C)(X:K.In s.heap)(I:e9 a C s.heap)(hq:Q () s):wpAny M A (checkBuiltinCall "BaseException.__getattribute__" ⟨[.ref a,nameV],[]⟩) Q E s:=by
 obtain⟨hh,g,dr,t,os⟩:=s
 have L0:=jR (M:=M) I
 have L1:=looks_mroIn (M:=M) X Z.mb
 have hk:builtinKind "BaseException.__getattribute__"=some .slot:=by decide+kernel
 have hsplit:splitId "BaseException.__getattribute__"=some ("BaseException","__getattribute__"):=by decide+kernel
 have ha:=F.args_bexc_ga (.ref a) nameV
 simp only[checkBuiltinCall,hk,hsplit]
 refine wpAny_bind ?_
 unfold isInstance
 repeat (first |with_reducible refine L0.at ?_ |with_reducible refine L1.at ?_ |wp_step)
 exact hq
theorem Ft{prog:Program}{w:World}{A:Around}{E:Value→Shared→Prop}{Q:Value→Shared→Prop}{s:Shared}{tk:Tok}{fill expr:Bool}(Z:ExCls K C)(X:K.In s.heap)(I:e9 a C s.heap)(hq:Q (.ref C) s):
  wpAny (model prog w) A (getAttrBy (.ref a) (.str "__class__" tk) fill expr) Q E s:=by
 obtain⟨hh,g,dr,t,os⟩:=s
 have L0:=jR (M:=model prog w) I
 have L1:=looks_findIn (M:=model prog w) X Z.ga
 have L2:=looks_findIn (M:=model prog w) X Z.gt
 have f3:=F.attr_ValueError.ga.bind (.ref a)
 have hx0:(expr&&onTheHeap (Value.builtin "BaseException.__getattribute__"))=false:=by cases expr <;> rfl
 have hx2:(Value.builtin "BaseException.__getattribute__" == Value.builtin "object.__getattribute__")=false:=by decide+kernel
 have hx1:(onTheHeap (Value.ref C)&&Value.builtin "BaseException.__getattribute__" == Value.builtin "object.__getattribute__")=false:=by rw[hx2];rfl
 repeat (any_goals (first |assumption |with_reducible refine L0.at ?_ |with_reducible refine L1.at ?_ |with_reducible refine L2.at ?_ |wp_step))
 refine codeAny_call_builtin F.attr_ValueError.ga.plain F.entry_bexc_ga (xJ Z X I (xI Z X I ?_))
 repeat (any_goals (first |assumption |wp_step))
theorem Ac{prog:Program}{w:World}{A:Around}{E:Value→Shared→Prop}{Q:Option Value→Shared→Prop}{s:Shared}(Z:ExCls K C)(X:K.In s.heap)(I:e9 a C s.heap)(hq:Q (some (.ref C)) {s with toks:=s.toks+1}):
  wpAny (model prog w) A (getAttr? (.ref a) "__class__") Q E s:=by
 obtain⟨hh,g,dr,t,os⟩:=s
 unfold getAttr?
 repeat (any_goals (first |assumption |with_reducible apply Ft (s:=⟨hh,g,dr,t+1,os⟩) Z X I |wp_step))
theorem Ad(Z:ExCls K C):KitX K (.ref a) (.ref C) (e9 a C) where
 ty:=fun _ _ _ I=>jR I
 it:=fun _ _ X _=>by
  obtain⟨cdD,hcD⟩:=Z.cls
  unfold clsIn at hcD
  split at hcD
  ·rename_i c' d' cd' sl' ho
   intro A' Q' E' s' k q
   unfold isType loadHead
   exact wpAny_bind (wpAny_loadPart (k _ _ (X _ _ ho)) (wpAny_pure q))
  ·cases hcD
 ne:=fun h tp dd its n sl X htp=>by
  obtain⟨cdD,hcD⟩:=Z.cls
  refine Bool.eq_false_iff.mpr fun q=>?_
  have e:C=tp:=Value.ref.inj (beq_iff_eq.mp q)
  subst e
  unfold clsIn at hcD
  split at hcD
  ·rename_i c' d' cd' sl' ho
   have z:=(X _ _ ho).symm.trans htp
   cases z
  ·cases hcD
 ca:=fun X I k=>Ac Z X I k
end
end PL
namespace PL
open PySem PySem.Spec PyProof.Rows L2 Nh
def CtxV(v:Value)(e:Addr)(h:Heap):Prop:=∃o vs,h.get? e=some o∧o.data=.fields vs∧vs[2]? =some v
abbrev IC(e:Addr)(h:Heap):Prop:=CtxV .none e h
def v5:List (Addr×Obj)→Value
 |[]=>.none
 |p::_=>.ref p.1
def ChainP:List (Addr×Obj)→Prop
 |[]=>True
 |p::ps=>(∃ws,p.2.data=.fields ws∧ws[2]? =some (v5 ps))∧(∀q∈ps,q.1≠p.1)∧ChainP ps
def CtxN(Hf:Hp)(base:Heap)(e:Addr)(h:Heap):Prop:=∃ps,ChainP ps∧CtxV (v5 ps) e h∧(∀p∈ps,base.get? p.1=some p.2∧Hf p.1=none)∧∀p∈ps,p.1≠e
theorem CtxN.zero{Hf:Hp}{base:Heap}{e:Addr}{h:Heap}(c:IC e h):CtxN Hf base e h:=⟨[],trivial,c,fun _ z=>(nomatch z),fun _ z=>(nomatch z)⟩
def K2(f:Obj→Obj):Prop:=∀o vs,o.data=.fields vs→∃ws,(f o).data=.fields ws∧ws[2]? =vs[2]?
def Tm{α:Type}:Sem α→Prop
 |.pure _=>True
 |.raise _=>True
 |.unsupported _=>True
 |.rule _ k=>Tm (k ())
 |.at _ k=>Tm (k ())
 |.load _ _ k=>∀o,Tm (k o)
 |.update _ _ f k=>K2 f∧Tm (k ())
 |.loadIfAlive _ k=>∀o,Tm (k o)
 |.point _ k=>Tm (k ())
 |.alloc _ k=>∀a,Tm (k a)
 |.fresh k=>∀t,Tm (k t)
 |.handled _ k=>∀x,Tm (k x)
 |.stack k=>∀x,Tm (k x)
 |_=>False
theorem Tm.bind{α β:Type}{k:α→Sem β}(hk:∀a,Tm (k a)):∀{t:Sem α},Tm t→Tm (t >>= k)
 |.pure a,_=>hk a
 |.raise _,_=>trivial
 |.unsupported _,_=>trivial
 |.rule _ f,h=>Tm.bind hk (t:=f ()) h
 |.at _ f,h=>Tm.bind hk (t:=f ()) h
 |.load _ _ f,h=>fun o=>Tm.bind hk (t:=f o) (h o)
 |.update _ _ g f,h=>⟨h.1,Tm.bind hk (t:=f ()) h.2⟩
 |.loadIfAlive _ f,h=>fun o=>Tm.bind hk (t:=f o) (h o)
 |.point _ f,h=>Tm.bind hk (t:=f ()) h
 |.alloc _ f,h=>fun a=>Tm.bind hk (t:=f a) (h a)
 |.fresh f,h=>fun a=>Tm.bind hk (t:=f a) (h a)
 |.handled _ f,h=>fun a=>Tm.bind hk (t:=f a) (h a)
 |.stack f,h=>fun a=>Tm.bind hk (t:=f a) (h a)
 |.finish _,h=>h.elim
 |.register _ _,h=>h.elim
 |.ask _,h=>h.elim
 |.choose _ _ _,h=>h.elim
 |.os _ _ _,h=>h.elim
 |.call _ _ _ _ _,h=>h.elim
 |.newGen _ _,h=>h.elim
 |.genState _ _,h=>h.elim
 |.resume _ _ _ _,h=>h.elim
 |.yield _ _ _ _,h=>h.elim
 |.fork _ _,h=>h.elim
 |.thread _,h=>h.elim
 |.await _ _ _ _ _,h=>h.elim
theorem CtxV.upd{v:Value}{e a:Addr}{h:Heap}{f:Obj→Obj}(x:CtxV v e h)(k:K2 f):CtxV v e (h.update a f):=by
 obtain⟨o,vs,ho,hd,h2⟩:=x
 by_cases q:a=e
 ·subst q
  obtain⟨ws,hw,e2⟩:=k o vs hd
  exact⟨_,ws,vq f ho (Obj.isFreed_of_fields hw),hw,e2.trans h2⟩
 ·exact⟨o,vs,(vp _ _ q).trans ho,hd,h2⟩
theorem iG{α:Type}{M:Model}{Γ:PySem.Ctx}{Q:α→Pos→Shared→Prop}{E:Value→Pos→Shared→Prop}{v:Value}{e:Addr}:∀{t:Sem α} {p:Pos} {s:Shared},Tm t→CtxV v e s.heap→Sem.wp M Γ t Q E p s→Sem.wp M Γ t (fun a p s'=>Q a p s'∧CtxV v e s'.heap) (fun x p s'=>E x p s'∧CtxV v e s'.heap) p s
 |.pure a,p,s,_,c,h=>by rw[Sem.wp]at h ⊢;exact⟨h,c⟩
 |.raise _,p,s,_,c,h=>by rw[Sem.wp]at h ⊢;exact⟨h,c⟩
 |.unsupported _,p,s,_,c,h=>by rw[Sem.wp]at h;exact h.elim
 |.rule _ f,p,s,t,c,h=>by rw[Sem.wp]at h ⊢;exact iG (t:=f ()) t c h
 |.at _ f,p,s,t,c,h=>by rw[Sem.wp]at h ⊢;exact iG (t:=f ()) t c h
 |.load _ _ f,p,s,t,c,h=>by rw[Sem.wp]at h ⊢;obtain⟨o,ho,h⟩:=h;exact⟨o,ho,iG (t:=f o) (t o) c h⟩
 |.update _ _ g f,p,s,t,c,h=>by rw[Sem.wp]at h ⊢;exact⟨h.1,iG (t:=f ()) t.2 (c.upd t.1) h.2⟩
 |.loadIfAlive _ f,p,s,t,c,h=>by rw[Sem.wp]at h ⊢;exact iG (t:=f _) (t _) c h
 |.point _ f,p,s,t,c,h=>by rw[Sem.wp]at h ⊢;exact iG (t:=f ()) t c h
 |.alloc _ f,p,s,t,c,h=>by rw[Sem.wp]at h ⊢;exact iG (t:=f _) (t _) (let ⟨o,vs,ho,r⟩:=c;⟨o,vs,dF _ ho,r⟩) h
 |.fresh f,p,s,t,c,h=>by rw[Sem.wp]at h ⊢;exact iG (t:=f _) (t _) c h
 |.handled _ f,p,s,t,c,h=>by rw[Sem.wp]at h ⊢;exact iG (t:=f _) (t _) c h
 |.stack f,p,s,t,c,h=>by rw[Sem.wp]at h ⊢;exact iG (t:=f _) (t _) c h
 |.finish _,_,_,h,_,_=>h.elim
 |.register _ _,_,_,h,_,_=>h.elim
 |.ask _,_,_,h,_,_=>h.elim
 |.choose _ _ _,_,_,h,_,_=>h.elim
 |.os _ _ _,_,_,h,_,_=>h.elim
 |.call _ _ _ _ _,_,_,h,_,_=>h.elim
 |.newGen _ _,_,_,h,_,_=>h.elim
 |.genState _ _,_,_,h,_,_=>h.elim
 |.resume _ _ _ _,_,_,h,_,_=>h.elim
 |.yield _ _ _ _,_,_,h,_,_=>h.elim
 |.fork _ _,_,_,h,_,_=>h.elim
 |.thread _,_,_,h,_,_=>h.elim
 |.await _ _ _ _ _,_,_,h,_,_=>h.elim
theorem Ae{α:Type}{M:Model}{A:Around}{Q:α→Shared→Prop}{E:Value→Shared→Prop}{v:Value}{e:Addr}{t:Sem α}{s:Shared}(T:Tm t)(c:CtxV v e s.heap)(h:wpAny M A t Q E s):wpAny M A t (fun a s'=>Q a s'∧CtxV v e s'.heap) (fun x s'=>E x s'∧CtxV v e s'.heap) s:=fun Γ p hΓ=>iG T c (h Γ p hΓ)
theorem CtxN.upd{Hf:Hp}{base:Heap}{e a:Addr}{h:Heap}{f:Obj→Obj}(x:CtxN Hf base e h)(k:K2 f):CtxN Hf base e (h.update a f):=let ⟨ps,c,v,r⟩:=x;⟨ps,c,v.upd k,r⟩
theorem xK(v:Value):Tm (fieldsOf v):=by
 unfold fieldsOf
 split
 ·refine Tm.bind (fun o=>?_) (fun o=>trivial)
  split <;> trivial
 ·trivial
theorem ki(v:Value)(i:Nat):Tm (field v i):=by
 unfold field
 refine Tm.bind (fun vs=>?_) (xK v)
 split <;> trivial
theorem uB{i:Nat}{x:Value}(h:i≠2):K2 (Obj.mapFields (·.setIfInBounds i x)):=fun o vs hd=>⟨_,Obj.data_mapFields hd _,by rw[Array.getElem?_setIfInBounds_ne h]⟩
theorem uC(v:Value){i:Nat}(x:Value)(h:i≠2):Tm (setField v i x):=by
 unfold setField
 split
 ·unfold updateField
  refine Tm.bind (fun o=>?_) (fun o=>trivial)
  split
  ·split
   ·exact⟨uB h,trivial⟩
   ·trivial
  ·trivial
 ·trivial
theorem xM(env:Env)(outer:List Env):Tm (behindIsImport env outer):=by
 unfold behindIsImport
 split
 ·trivial
 ·split
  ·trivial
  ·refine Tm.bind (fun a=>?_) (ki _ _)
   trivial
theorem Af:Tm underTheClaimsCaller:=by
 unfold underTheClaimsCaller
 refine Tm.bind (fun a=>?_) (fun a=>?_)
 ·trivial
 ·trivial
theorem CM(env:Env)(b:Bool)(outer:List Env):Tm (keptBack env b outer):=by
 cases outer with
 |nil=>
  show Tm (if _ then _ else _)
  by_cases h:(env.scope.isGenerator||env.scope.isCoroutine)=true
  ·rw[if_pos h];trivial
  ·rw[if_neg h]
   refine Tm.bind (fun a=>?_) Af
   trivial
 |cons c r=>trivial
theorem sJ:∀l:List Env,Tm (readyFrames l)
 |[]=>trivial
 |env::outer=>by
  unfold readyFrames
  split
  ·refine Tm.bind (fun o=>?_) (fun o=>?_)
   ·split
    ·trivial
    ·refine Tm.bind (fun _=>?_) (xM _ _)
     refine Tm.bind (fun _=>?_) (CM _ _ _)
     refine Tm.bind (fun _=>sJ outer) ?_
     exact⟨fun o vs hd=>⟨vs,hd,rfl⟩,trivial⟩
   ·trivial
  ·trivial
theorem uD(env:Env):Tm (PySem.frameOf env):=by
 unfold PySem.frameOf
 refine Tm.bind (fun l=>?_) ?_
 ·refine Tm.bind (fun o=>?_) ?_
  ·split <;> trivial
  ·generalize List.dropWhile _ _=l
   cases l with
   |nil=>trivial
   |cons e r=>
    refine Tm.bind (fun _=>?_) (sJ _)
    trivial
 ·refine Tm.bind (fun a=>?_) (fun a=>?_)
  ·trivial
  ·trivial
theorem Ag(f:Addr)(b:Bool):Tm (entryPlaceOf f b):=by
 unfold entryPlaceOf
 refine Tm.bind (fun l=>?_) (fun _=>?_)
 ·split <;> trivial
 ·trivial
theorem Fu(ty:String)(vs:List Value):Tm (newFields ty vs):=by
 show Tm (if _ then _ else _)
 split
 ·trivial
 ·refine Tm.bind (fun _=>?_) (fun _=>?_)
  ·trivial
  ·trivial
theorem l_(e:Value)(env:Env):Tm (noteFrame e env):=by
 have last:∀(hd:Value) (f:Addr),Tm (do setField e 1 (←EntryCells.newEntry hd (←PySem.frameOf env) .none (rawInt f) .none (←entryPlaceOf f (hd !=.none)))):=fun hd f=>by
  refine Tm.bind (fun fr=>?_) (uD _)
  refine Tm.bind (fun pl=>?_) (Ag _ _)
  refine Tm.bind (fun en=>?_) (Fu _ _)
  exact uC _ _ (by decide)
 unfold noteFrame
 split
 ·refine Tm.bind (fun hd=>?_) (ki _ _)
  split
  ·refine Tm.bind (fun w=>?_) (ki _ _)
   split
   ·trivial
   ·refine Tm.bind (fun _=>last _ _) (uC _ _ (by decide))
  ·exact last _ _
 ·trivial
theorem k8(e:Value):Tm (setFlight e none):=by
 unfold setFlight
 refine Tm.bind (fun tb=>?_) (ki _ _)
 split
 ·exact uC _ _ (by decide)
 ·trivial
theorem mZ(env:Env)(e:Value):Tm (leaving env e):=by
 unfold leaving
 exact Tm.bind (fun _=>k8 e) (l_ e env)
def FlyC(Hf:Hp)(base:Heap)(l:List Env)(e:Addr)(cls a0:Value)(h:Heap):Prop:=base.StaysIn h∧base.get? e=none∧h.FunFrames base l∧h.TracedW base e cls a0∧CtxN Hf base e h
def HeldC(Hf:Hp)(base:Heap)(l:List Env)(e:Addr)(cls a0:Value)(L:Addr)(h:Heap):Prop:=base.StaysIn h∧base.get? e=none∧h.FunFrames base l∧h.TracedAtW base e cls a0 (rawInt L)∧CtxN Hf base e h
section
variable {M:Model} {A:Around} {E:Value→Shared→Prop} {s:Shared} {Hf:Hp} {base:Heap} {env:Env} {outer l:List Env} {L e:Addr} {cls a0:Value} {Q:Unit→Shared→Prop} {h:Heap}
theorem FlyC.to(x:FlyC Hf base l e cls a0 h):Heap.FlyingW base l e cls a0 h:=⟨x.1,x.2.1,x.2.2.1,x.2.2.2.1⟩
theorem FlyC.of(x:Heap.FlyingW base l e cls a0 h)(c:CtxN Hf base e h):FlyC Hf base l e cls a0 h:=⟨x.1,x.2.1,x.2.2.1,x.2.2.2,c⟩
theorem HeldC.to(x:HeldC Hf base l e cls a0 L h):Heap.HeldW base l e cls a0 L h:=⟨x.1,x.2.1,x.2.2.1,x.2.2.2.1⟩
theorem HeldC.of(x:Heap.HeldW base l e cls a0 L h)(c:CtxN Hf base e h):HeldC Hf base l e cls a0 L h:=⟨x.1,x.2.1,x.2.2.1,x.2.2.2,c⟩
theorem FlyC.there(x:FlyC Hf base l e cls a0 h):∃ob,h.get? e=some ob∧ob.cls=cls:=x.to.there
theorem FlyC.first(x:FlyC Hf base l e cls a0 h):∃oe vs,h.get? e=some oe∧oe.cls=cls∧oe.data=.fields vs∧vs[0]? =some a0:=x.to.first
theorem m5{t:Sem Unit}{P:Heap→Prop}(T:Tm t)(c:CtxN Hf base e s.heap)(k:∀{Q:Unit→Shared→Prop},(∀h',P h'→Q () {s with heap:=h'})→wpAny M A t Q E s)(hQ:∀h',P h'→CtxN Hf base e h'→Q () {s with heap:=h'}):wpAny M A t Q E s:=by
 obtain⟨ps,cp,c,r1,r2⟩:=c
 exact wpAny_mono (Ae T c (k (Q:=fun _ s'=>∃h',P h'∧s'={s with heap:=h'}) fun h' p=>⟨h',p,rfl⟩)) (fun _ s' ⟨⟨h',p,z⟩,c'⟩=>by subst z;exact hQ h' p ⟨ps,cp,c',r1,r2⟩) fun _ _ z=>z.1
theorem m6(hfr:A.frames=some (env::outer))(hf:env.frame=some L)(hfl:FlyC Hf base (env::outer) e cls a0 s.heap)(hQ:∀h',FlyC Hf base outer e cls a0 h'→s.heap.UpToSlots h'→Q () {s with heap:=h'}):wpAny M A (leaving env (.ref e)) Q E s:=
 m5 (P:=fun h'=>Heap.FlyingW base outer e cls a0 h'∧s.heap.UpToSlots h') (mZ _ _) hfl.2.2.2.2 (fun k=>wpAny_leaves_onW hfr hf hfl.to fun h' a b=>k h' ⟨a,b⟩) fun h' p c=>hQ h' (.of p.1 c) p.2
theorem i8(hfr:A.frames=some (env::outer))(hf:env.frame=some L)(hfl:FlyC Hf base (env::outer) e cls a0 s.heap)(hQ:∀h',HeldC Hf base (env::outer) e cls a0 L h'→s.heap.UpToSlots h'→Q () {s with heap:=h'}):wpAny M A (noteFrame (.ref e) env) Q E s:=
 m5 (P:=fun h'=>Heap.HeldW base (env::outer) e cls a0 L h'∧s.heap.UpToSlots h') (l_ _ _) hfl.2.2.2.2 (fun k=>wpAny_looks_onW hfr hf hfl.to fun h' a b=>k h' ⟨a,b⟩) fun h' p c=>hQ h' (.of p.1 c) p.2
theorem uE(hh:HeldC Hf base l e cls a0 L s.heap)(hQ:∀h',FlyC Hf base l e cls a0 h'→s.heap.UpToSlots h'→Q () {s with heap:=h'}):wpAny M A (setFlight (.ref e) none) Q E s:=
 m5 (P:=fun h'=>Heap.FlyingW base l e cls a0 h'∧s.heap.UpToSlots h') (k8 _) hh.2.2.2.2 (fun k=>wpAny_landsW hh.to fun h' a b=>k h' ⟨a,b⟩) fun h' p c=>hQ h' (.of p.1 c) p.2
theorem kj(hh:FlyC Hf base l e cls a0 s.heap)(hQ:∀h',FlyC Hf base l e cls a0 h'→s.heap.UpToSlots h'→Q () {s with heap:=h'}):wpAny M A (setFlight (.ref e) none) Q E s:=
 m5 (P:=fun h'=>Heap.FlyingW base l e cls a0 h'∧s.heap.UpToSlots h') (k8 _) hh.2.2.2.2 (fun k=>lands_againW hh.to fun h' a b=>k h' ⟨a,b⟩) fun h' p c=>hQ h' (.of p.1 c) p.2
theorem sK{args:List Value}{h':Heap}(hx:Heap.MadeExcOf h h' e cls args):CtxN Hf base e h':=let ⟨_,he,_⟩:=hx.there; .zero ⟨_,_,he,rfl,rfl⟩
theorem qu{args:List Value}(hfr:A.frames=some (env::outer))(hf:env.frame=some L)(hkb:base.StaysIn h)(hl:h.FunFrames base (env::outer))(hx:Heap.MadeExcOf h s.heap e cls args)
  (hQ:∀h' t,FlyC Hf base outer e cls (.ref t) h'→h'.TupAt t args→base.get? t=none→s.heap.UpToSlots h'→Q () {s with heap:=h'}):wpAny M A (leaving env (.ref e)) Q E s:=
 m5 (P:=fun h'=>∃t,Heap.FlyingW base outer e cls (.ref t) h'∧h'.TupAt t args∧base.get? t=none∧s.heap.UpToSlots h') (mZ _ _) (sK hx) (fun k=>wpAny_leaves_madeW hfr hf hkb hl hx fun h' t a b c d=>k h' ⟨t,a,b,c,d⟩) fun h' ⟨t,a,b,c,d⟩ z=>hQ h' t (.of a z) b c d
end
end PL
namespace PL
open PySem PySem.Spec PyProof.Rows L2 Nh
theorem oD:entryFor table "proto.unchain"=some Builtin.«proto.unchain»:=entryFor_of_fast (by kernel_rfl)
section
variable {prog:Program} {w:World} {A:Around} {E:Value→Shared→Prop} {s:Shared}
theorem sL{id:String}{args:Args}{b:Builtin}{R:Result→Shared→Prop}(hb:entryFor table id=some b)
  (h:wpAny (model prog w) (A.under (.builtin id args)) (b args) (fun fin s'=>match fin with |.done f=>R (.ok f) s' |.again c'=>c'.quiet=true∧codeAny (model prog w) A c' R s') (fun e s'=>R (.error e) s') s):codeAny (model prog w) A (.builtin id args) R s:=by
 refine codeAny_of_tree ?_
 show wpAny _ _ (match entryFor table id with |some b=>b args |none=>unsupported ((withoutEnding? id "#data").getD id)) _ _ s
 rw[hb]
 exact h
def Hn(h:Heap)(p:Addr×Obj)(v:Value):Prop:=h.get? p.1=some p.2∧∃ws,p.2.data=.fields ws∧ws[2]? =some v
theorem ChainP.node{h:Heap}(L:List (Addr×Obj)):∀(k:Nat) (p:Addr×Obj),ChainP L→(∀q∈L,h.get? q.1=some q.2)→L[k]? =some p→Hn h p (v5 (L.drop (k+1))):=by
 induction L with
 |nil=>intro k p _ _ e;rw[List.getElem?_nil]at e;cases e
 |cons q L ih=>
  intro k p c g e
  cases k with
  |zero=>
   rw[List.getElem?_cons_zero]at e
   injection e with e
   subst e
   exact⟨g q (gk ..),c.1⟩
  |succ k=>
   rw[List.getElem?_cons_succ]at e
   exact ih k p c.2.2 (fun r hr=>g r (fJ _ hr)) e
theorem ChainP.apart(L:List (Addr×Obj)):∀(i j:Nat) (p q:Addr×Obj),ChainP L→i < j→L[i]? =some p→L[j]? =some q→q.1≠p.1:=by
 induction L with
 |nil=>intro i j p q _ _ e;rw[List.getElem?_nil]at e;cases e
 |cons r L ih=>
  intro i j p q c l e1 e2
  cases j with
  |zero=>omega
  |succ j=>
   rw[List.getElem?_cons_succ]at e2
   cases i with
   |zero=>
    rw[List.getElem?_cons_zero]at e1
    injection e1 with e1
    subst e1
    exact c.2.1 q (List.mem_of_getElem? e2)
   |succ i=>
    rw[List.getElem?_cons_succ]at e1
    exact ih i j p q c.2.2 (by omega) e1 e2
theorem qv{L:List (Addr×Obj)}{e:Value}{R:Result→Shared→Prop}(c:ChainP L)(g:∀q∈L,s.heap.get? q.1=some q.2)(hne:∀q∈L,Value.ref q.1≠e)(hR:R (.ok (.ret .none)) s):
  ∀(n i j:Nat) (t:Bool) (o sl:Addr×Obj),L.length=i+n→L[i]? =some o→L[j]? =some sl→j≤i→(t=true→j < i)→codeAny (model prog w) A (.builtin "proto.unchain" ⟨[e,.ref o.1,.ref sl.1,.bool t],[]⟩) R s:=by
 intro n
 induction n with
 |zero=>
  intro i j t o sl hl ho _ _ _
  rw[List.getElem?_eq_none (by omega)]at ho
  cases ho
 |succ n ih=>
  intro i j t o sl hl ho hs ji ht
  obtain⟨g1,ws,hd,h2⟩:=ChainP.node L i o c g ho
  refine sL oD ?_
  show wpAny _ _ (field (.ref o.1) 2 >>= _) _ _ s
  cases eq:L[i+1]? with
  |none=>
   have:L.drop (i+1)=[]:=List.drop_eq_nil_of_le (List.getElem?_eq_none_iff.mp eq)
   rw[this]at h2
   exact wpAny_bind (wpAny_field g1 hd h2 (wpAny_pure hR))
  |some q=>
   have hd':L.drop (i+1)=q::L.drop (i+1+1):=by
    have hlt:=(Zar.mp eq).1
    rw[By hlt]
    congr 1
    exact(Zar.mp eq).2
   rw[hd']at h2
   have h2:ws[2]? =some (.ref q.1):=h2
   refine wpAny_bind (wpAny_field g1 hd h2 ?_)
   have n1:((Value.ref q.1 == Value.none)=false):=rfl
   have n2:(Value.ref q.1 == e)=false:=beq_eq_false_iff_ne.mpr (hne q (List.mem_of_getElem? eq))
   have n3:(Value.ref q.1 == Value.ref sl.1)=false:=beq_eq_false_iff_ne.mpr fun z=>ChainP.apart L j (i+1) sl q c (Nat.lt_succ_of_le ji) hs eq (Value.ref.inj z)
   show wpAny _ _ (if (Value.ref q.1 == Value.none)=true then _ else _) _ _ s
   simp only[n1,n2,n3,bQ]
   cases t with
   |false=>
    refine wpAny_bind (wpAny_pure ?_)
    exact wpAny_pure ⟨Code.quiet_builtin _ (by decide+kernel),ih (i+1) j true q sl (by omega) eq hs (by omega) fun _=>by omega⟩
   |true=>
    have jl:=ht rfl
    obtain⟨g3,ws3,hd3,h3⟩:=ChainP.node L j sl c g hs
    obtain⟨nx,hnx⟩:∃nx,L[j+1]? =some nx:=⟨_,oR (show j+1 < L.length by have:=(Zar.mp eq).1;omega)⟩
    have hd4:v5 (L.drop (j+1))=.ref nx.1:=by
     have hlt:=(Zar.mp hnx).1
     rw[By hlt,←(Zar.mp hnx).2]
     rfl
    rw[hd4]at h3
    refine wpAny_bind (wpAny_field g3 hd3 h3 ?_)
    exact wpAny_pure ⟨Code.quiet_builtin _ (by decide+kernel),ih (i+1) (j+1) false q nx (by omega) eq hnx (by omega) fun z=>(nomatch z)⟩
theorem sM{L:List (Addr×Obj)}{e:Value}{p:Addr×Obj}{Q:Value→Shared→Prop}(c:ChainP (p::L))(g:∀q∈p::L,s.heap.get? q.1=some q.2)(hne:∀q∈p::L,Value.ref q.1≠e)(hQ:Q .none s):
  wpAny (model prog w) A (runValue (.builtin "proto.unchain" ⟨[e,.ref p.1,.ref p.1,.bool false],[]⟩)) Q E s:=
 wpAny_runValue (qv c g hne hQ (L.length+1) 0 0 false p p (by simp) rfl rfl (dE _) fun z=>(nomatch z))
theorem uF{it:Addr}{x left step:Int}{ea:Addr×Obj}{L:List (Addr×Obj)}{Q:Option Value→Shared→Prop}(hh:A.handled=some (.ref ea.1))(hL:ChainP (ea::L))(hg:∀q∈ea::L,s.heap.get? q.1=some q.2)(hit:IsRangeIter s.heap it x left step)(hleft:left≤0)
  (hQ:∀h',Heap.ExtBut it s.heap h'→Q none {s with heap:=h'}):wpAny (model prog w) A (pyNext (.ref it)) Q E s:=by
 have hT:s.TypeIs (.ref it) "range_iterator":=⟨_,hit,rfl⟩
 unfold pyNext
 refine wpAny_bind (wpAny_attempt (wpAny_callSpecial?_slot (name:=Str.ofString "__next__") hT F.slot_range_iterator_next
  (wpAny_call_entry F.slot_range_iterator_next hT F.entry_range_iterator_next ?_ (F.args_range_iterator_next_1 _))))
 show wpAny _ _ (field (.ref it) 0 >>= _) _ _ s
 refine wpAny_bind (wpAny_field hit rfl (x:=rawInt x) rfl ?_)
 show wpAny _ _ (field (.ref it) 1 >>= _) _ _ s
 refine wpAny_bind (wpAny_field hit rfl (x:=rawInt left) rfl ?_)
 show wpAny _ _ (field (.ref it) 2 >>= _) _ _ s
 refine wpAny_bind (wpAny_field hit rfl (x:=rawInt step) rfl ?_)
 show wpAny _ _ (if left≤0 then _ else _) _ _ s
 rw[if_pos hleft]
 refine wpAny_bind (wpAny_rule ?_)
 refine wpAny_bind ?_
 show wpAny _ _ (newExc (.type "StopIteration") [] >>= _) _ _ _
 refine wpAny_bind ?_
 simp only[newExc,newTuple]
 refine wpAny_bind (wpAny_newObj_type ?_ (by size_fits))
 refine wpAny_bind (m:=firstArgMember _ _) (wpAny_of_eq (a:=Value.none) (by first |rfl |(simp only[firstArgMember];rfl)) ?_)
 refine wpAny_newObj_type ?_ (by size_fits)
 simp only[raiseNew]
 refine wpAny_bind (wpAny_handled ?_)
 first |rw[show A.in1.handled=some (.ref ea.1)from hh] |rw[hh]
 simp only
 have ho:=hg ea (gk ..)
 have hlt:=dM ho
 rw[if_pos (by rw[bne_iff_ne];intro z;injection z with z;rw[z,rh]at hlt;exact absurd (Nat.lt_of_succ_lt hlt) (Nat.lt_irrefl _))]
 refine wpAny_bind (wpAny_holding (sM hL (fun q hq=>dF _ (dF _ (hg q hq))) (fun q hq z=>?_) ?_))
 ·injection z with z
  have:=dM (hg q hq)
  rw[z,rh]at this
  exact absurd (Nat.lt_of_succ_lt this) (Nat.lt_irrefl _)
 show wpAny _ _ (setField (.ref _) 2 (.ref ea.1) >>= _) _ _ _
 have hn:=ie (s.heap.push {cls:=Value.type "tuple",data:=Data.seq #[]}) (o:={cls:=Value.type "StopIteration",data:=Data.fields (#[Value.ref s.heap.objs.size,Value.none,Value.none,Value.none,Value.bool false,Value.none]++ownMembersOf (Value.type "StopIteration") [])}) rfl
 refine wpAny_bind (wpAny_setField hn rfl (by rw[Array.size_append];exact jH (by decide) (Nat.le_add_right 6 _)) (wpAny_throw ?_))
 refine wpAny_bind (wpAny_isInstance (T:="StopIteration") (b:=true) ⟨_,vq _ hn (Obj.isFreed_of_fields (Obj.data_mapFields rfl _)),rfl⟩ isSubtype_stop ?_)
 refine wpAny_pure (hQ _ fun b o hb e=>?_)
 have:=dM e
 rw[vp _ _ (by rw[rh];intro z;rw[←z]at this;exact absurd (Nat.lt_of_succ_lt this) (Nat.lt_irrefl _))]
 exact dF _ (dF _ e)
end
end PL
namespace PL
open PySem PySem.Spec PyProof.Rows L2 Nh
structure UnB (fs:List Addr) (H H':Hp) (h B h':Heap):Prop where
 keep:∀b o,h.get? b=some o→H b=none→b∉fs→B.get? b=some o
 slot:∀b o,h.get? b=some o→H b=none→b∈fs→∃sl,h'.get? b=some {o with slots:=sl}
 free:∀b o,h.get? b=some o→H b=none→H' b=none
 there:∀b o,h.get? b=some o→b∉fs→∃o',B.get? b=some o'
 tups:∀b xs,H b=some (.tup xs)→H' b=some (.tup xs)
 frzs:∀b o u,H b=some (.frz o u)→H' b=some (.frz o u)
 tbls:∀b ps,H b=some (.tbl ps)→H' b=some (.tbl ps)
theorem UnB.un{fs:List Addr}{H H':Hp}{h B h':Heap}(u:UnB fs H H' h B h')(st:B.StaysIn h')(hf:∀b∈fs,H b=none):Un fs [] H H' h h':=
 ⟨fun b o e n hb _=>st b o (u.keep b o e n hb),fun b o e n hb _=>u.slot b o e n hb,fun b o e n _=>u.free b o e n,fun b o e _=>by
  by_cases hb:b∈fs
  ·obtain⟨sl,z⟩:=u.slot b o e (hf b hb) hb
   exact⟨_,z⟩
  ·obtain⟨o',z⟩:=u.there b o e hb
   exact⟨o',st b o' z⟩,u.tups,u.frzs,u.tbls⟩
theorem UnB.on{l:List Env}{H H':Hp}{h B h' h2:Heap}(u:UnB (fT l) H H' h B h')(ff:h'.FunFrames B l)(k:h'.UpToSlots h2):UnB (fT l) H H' h B h2:=
 ⟨u.keep,fun b o e n hb=>by
  obtain⟨sl,z⟩:=u.slot b o e n hb
  obtain⟨_,o',ho',hd⟩:=ff.mem hb
  rw[z]at ho'
  cases ho'
  obtain⟨sl2,z2⟩:=k b _ z hd
  exact⟨sl2,z2⟩,u.free,u.there,u.tups,u.frzs,u.tbls⟩
theorem UnB.out{X:Cx}{pins:List (Addr×Obj)}{σ:L2.St}{H H':Hp}{s:Shared}{B h':Heap}(I:Inv X pins σ H s)(hx:X.ex=[])(u:UnB (fT X.stack) H H' s.heap B h'):UnB X.fs X.H₀ H' X.s₀.heap B h':=by
 have nx:∀b:Addr,b∉X.ex:=fun b z=>by rw[hx]at z;cases z
 have ne:∀b o,X.s₀.heap.get? b=some o→b≠X.env.locals:=fun b o e=>eF (jH (dM e) I.ok.above)
 have nf:∀b o,X.s₀.heap.get? b=some o→b∉X.fs→b∉fT X.stack:=fun b o e hb z=>(Zaf.mp (I.stkSub b z)).elim (ne b o e) hb
 refine⟨fun b o e n hb=>u.keep b o (I.base.keep b o e n hb (nx b)) (I.base.free b o e n (nx b)) (nf b o e hb),fun b o e n hb=>?_,fun b o e n=>?_,fun b o e hb=>?_,fun b xs e=>u.tups b xs (I.base.tups b xs e),fun b o v e=>u.frzs b o v (I.base.frzs b o v e),fun b ps e=>u.tbls b ps (I.base.tbls b ps e)⟩
 ·obtain⟨sl,z⟩:=I.base.slot b o e n hb (nx b)
  have hb':b∈fT X.stack:=by
   rcases I.ok.stk with q |⟨q,hf⟩
   ·rw[q];exact hb
   ·rw[q];unfold fT;rw[List.filterMap_cons,hf];exact fJ _ hb
  obtain⟨sl2,z2⟩:=u.slot b _ z (I.base.free b o e n (nx b)) hb'
  exact⟨sl2,z2⟩
 ·obtain⟨o',z⟩:=I.base.there b o e (nx b)
  exact u.free b o' z (I.base.free b o e n (nx b))
 ·obtain⟨o',z⟩:=I.base.there b o e (nx b)
  exact u.there b o' z (nf b o e hb)
theorem lH{P:Program}{w:World}{H:Hp}{h:Heap}{a:Addr}{o:HO}(x:ObjOk P w H h a o):∃u,h.get? a=some u:=by
 cases o with
 |lst xs=>obtain⟨_,_,_,_,e⟩:=x;exact⟨_,e⟩
 |tup xs=>obtain⟨_,_,_,o,e,_⟩:=x;exact⟨_,e⟩
 |dK kvs=>obtain⟨_,_,_,_,o,_,_,e,_⟩:=x;exact⟨_,e⟩
 |dT kvs=>obtain⟨_,_,_,_,o,_,_,e,_⟩:=x;exact⟨_,e⟩
 |set S n=>obtain⟨o,_,_,_,e,_⟩:=x;exact⟨_,e⟩
 |ins C dx fs=>obtain⟨_,_,_,e,_⟩:=x;exact⟨_,e⟩
 |own y=>obtain⟨_,e⟩:=x;exact⟨_,e⟩
 |xd fs=>obtain⟨_,⟨_,_,_,e,_⟩,_⟩:=x;exact⟨_,e⟩
 |rng lo hi=>obtain⟨_,_,_,e⟩:=x;exact⟨_,e⟩
 |frz ob u=>obtain⟨e,_⟩:=x;exact⟨_,e⟩
 |tbl q=>obtain⟨_,e,_⟩:=x;exact⟨_,e⟩
 |met f y=>exact⟨_,(show h.get? a=some _ from x)⟩
 |ext φ=>obtain⟨_,⟨_,e⟩,_⟩:=x;exact⟨_,e⟩
def DW(P:Program)(w:World):yU:=fun outer H s E e s'=>∃H' ea C a0 B,e=.ref ea∧E (.ref C) none H'∧s'.os=s.os∧AllBare s'.gens∧FlyC H' B outer ea (.ref C) a0 s'.heap∧HOk P w H' B∧UnB (fT outer) H H' s.heap B s'.heap
def Ah(X:Cx)(C:Addr)(pins:List (Addr×Obj))(σ:L2.St)(H:Hp):Prop:=∀s h' ea vs,Inv X pins σ H s→Heap.MadeExcOf s.heap h' ea (.ref C) vs→X.xe (.ref ea) {s with heap:=h'}
def Ai(X:Cx)(C:Addr)(pins:List (Addr×Obj))(σ:L2.St)(H':Hp):Prop:=∀H s ea s' a0 B,Inv X pins σ H s→s'.os=s.os→AllBare s'.gens→FlyC H' B X.stack ea (.ref C) a0 s'.heap→HOk X.prog X.w H' B→UnB (fT X.stack) H H' s.heap B s'.heap→X.xe (.ref ea) s'
def sN(X:Cx)(C:Addr)(pins:List (Addr×Obj))(σ:L2.St)(H':Hp):Prop:=∀H s ea s' a0 B,Inv X pins σ H s→s'.os=s.os→AllBare s'.gens→HeldC H' B X.stack ea (.ref C) a0 X.env.locals s'.heap→HOk X.prog X.w H' B→UnB (fT X.stack) H H' s.heap B s'.heap→X.xe (.ref ea) s'
theorem sO{M:Model}{A:Around}{E:Value→Shared→Prop}{s:Shared}{Hf:Hp}{base:Heap}{env:Env}{outer:List Env}{L e:Addr}{cls a0:Value}{Q:Unit→Shared→Prop}(hf:env.frame=some L)(hh:HeldC Hf base (env::outer) e cls a0 L s.heap)
  (hQ:∀h',FlyC Hf base outer e cls a0 h'→s.heap.UpToSlots h'→Q () {s with heap:=h'}):wpAny M A (leaving env (.ref e)) Q E s:=by
 unfold leaving
 refine wpAny_bind (wpAny_noteFrame_againW hf hh.2.2.2.1 ?_)
 refine uE hh fun h' hfl k=>?_
 obtain⟨k1,k2,⟨_,_,k3⟩,k4⟩:=hfl
 exact hQ h' ⟨k1,k2,k3,k4⟩ k
section
variable {P:Program} {w:World} {K:Frag} {mg:Str→Option Value} {base:Heap} {N:List Str} {qual:Str} {scope:Scope} {f:Addr} {cd:Value} {A:Around} {outer:List Env} {s:Shared} {H H':Hp} {E:XK} {C:Addr} {pins:List (Addr×Obj)} {σ:L2.St}
theorem CN(hE:E (.ref C) none H'):Ah (fY (DW P w) P w K mg base N qual scope f cd A outer s H E) C pins σ H':=by
 intro s1 h' ea vs I hx
 show wpAny (model P w) _ (leaving _ (.ref ea)) _ _ _
 have st:=I.stack
 have hin:∀env∈(fY (DW P w) P w K mg base N qual scope f cd A outer s H E).stack,∀b,env.frame=some b→b∈fT (fY (DW P w) P w K mg base N qual scope f cd A outer s H E).stack:=fun env he b hb=>List.mem_filterMap.mpr ⟨env,he,hb⟩
 refine qu (Hf:=H') (base:=hideAll s1.heap (fT (fY (DW P w) P w K mg base N qual scope f cd A outer s H E).stack)) (h:=s1.heap) I.ok.frames rfl (fun b o q=>of_hideAll _ q) (funFrames_hide st hin) hx fun h2 t x1 x2 x3 x4=>?_
 refine⟨H',ea,C,_,_,rfl,hE,I.os,I.bare,x1,fun a o e=>?_,?_⟩
 ·refine(I.hok a o e).stay (fun b u hb q=>hideAll_get _ q fun z=>?_) (fun _ q=>q) fun _ _ q=>q
  have n:=I.stkFree b z
  rcases hb with rfl |hb
  ·rw[n]at e;cases e
  ·rw[n]at hb;cases hb
 ·refine UnB.out I rfl ⟨fun b o e n hb=>hideAll_get _ e hb,fun b o e n hb=>?_,fun _ _ _ n=>n,fun b o e hb=>⟨o,hideAll_get _ e hb⟩,fun _ _ e=>e,fun _ _ _ e=>e,fun _ _ e=>e⟩
  obtain⟨_,o',ho',hd⟩:=st.mem hb
  rw[e]at ho'
  cases ho'
  exact x4 b o (hx.keeps b o e) hd
theorem Fv(hE:E (.ref C) none H'):Ai (fY (DW P w) P w K mg base N qual scope f cd A outer s H E) C pins σ H':=by
 intro H1 s1 ea s' a0 B I os bare fl hok u
 show wpAny (model P w) _ (leaving _ (.ref ea)) _ _ _
 refine m6 I.ok.frames rfl fl fun h2 x1 x2=>?_
 exact⟨H',ea,C,a0,B,rfl,hE,os.trans I.os,bare,x1,hok,UnB.out I rfl (u.on fl.2.2.1 x2)⟩
theorem CO(hE:E (.ref C) none H'):sN (fY (DW P w) P w K mg base N qual scope f cd A outer s H E) C pins σ H':=by
 intro H1 s1 ea s' a0 B I os bare fl hok u
 show wpAny (model P w) _ (leaving _ (.ref ea)) _ _ _
 refine sO rfl fl fun h2 x1 x2=>?_
 exact⟨H',ea,C,a0,B,rfl,hE,os.trans I.os,bare,x1,hok,UnB.out I rfl (u.on fl.2.2.1 x2)⟩
end
abbrev gb:=List Sl→Option (Str×List Sl)
def BC(X:Cx)(mk al:Bool)(body:List Stmt)(r:gb):Prop:=∀pins s σ H B E n E',Inv X pins σ H s→Frm X.K B σ H E [] []→r E=some (n,E')→
 (∀pins',(al=false→pins'=pins)→∀σ' C H',nsIn X.K mainGlobals n=some (some (.ref C))→Frm X.K B σ' H' E' [] []→(mk=true→Ah X C pins' σ' H')∧Ai X C pins' σ' H'∧(al=true→sN X C pins' σ' H'))→wpAny (model X.prog X.w) X.A (execs body X.env) (fun _ _=>False) X.xe s
def RX(X:Cx)(mk al:Bool)(st:Stmt)(r:gb):Prop:=∀pins s σ H B E n E',Inv X pins σ H s→Frm X.K B σ H E [] []→r E=some (n,E')→
 (∀pins',(al=false→pins'=pins)→∀σ' C H',nsIn X.K mainGlobals n=some (some (.ref C))→Frm X.K B σ' H' E' [] []→(mk=true→Ah X C pins' σ' H')∧Ai X C pins' σ' H'∧(al=true→sN X C pins' σ' H'))→wpAny (model X.prog X.w) X.A (exec st X.env) (fun _ _=>False) X.xe s
def qw(g:cI)(r:gb):gb:=fun E=>match g E with
 |some (E',.nx)=>r E'
 |_=>none
def qZ(t:ig)(r:gb):gb:=fun E=>match t E with
 |some (true,E')=>r E'
 |_=>none
def uG(r q:gb):gb:=fun E=>match r E with
 |some x=>some x
 |none=>q E
def jD(n:Str):gb:=fun E=>some (n,E)
section
variable {X:Cx} {mk al:Bool} {st:Stmt} {aQ a b:List Stmt} {g:cI} {r:gb} {c:Expr} {m:Bool} {t:ig} {pos:Pos}
theorem c8(h:RX X mk al st r):BC X mk al (st::aQ) r:=fun pins s σ H B E n E' I fr e k=>
 wpAny_execs_cons (wpAny_mono (h pins s σ H B E n E' I fr e k) (fun _ _ z=>z.elim) fun _ _ z=>z)
theorem uH(h1:SX X.nox st g)(h2:BC X mk al aQ r):BC X mk al (st::aQ) (qw g r):=fun pins s σ H B E n E' I fr e k=>by
 unfold qw at e
 split at e
 ·rename_i E1 eg
  have q:=h1 pins s σ H {nx:=fun σ' H'=>Frm X.K B σ' H' E1 [] [],bk:=fun _ _=>False,ct:=fun _ _=>False,rt:=fun _ _=>False} (I.wish _) ⟨B,E,[],[],E1,.nx,fr,rfl,eg,fun σ' H' f=>f⟩
  refine wpAny_execs_cons (wpAny_mono q (fun f s1 z=>?_) fun _ _ z=>z.elim)
  cases f with
  |next=>obtain⟨σ',H',I',fr'⟩:=z;exact h2 pins s1 σ' H' B E1 n E' I'.unwish fr' e k
  |brk=>obtain⟨_,_,_,z⟩:=z;exact z.elim
  |cont=>obtain⟨_,_,_,z⟩:=z;exact z.elim
  |ret u=>obtain⟨_,_,_,_,_,z⟩:=z;exact z.elim
 ·cases e
theorem sP(hc:TX X.nox c m t)(h:BC X mk al a r):RX X mk al (.If c a b pos) (qZ t r):=fun pins s σ H B E n E' I fr e k=>by
 unfold qZ at e
 split at e
 ·rename_i E1 et
  have q:=hc pins s σ H (fun bb H1=>bb=true∧Frm X.K B σ H1 E1 [] []) (I.wish _) ⟨B,E,[],[],true,E1,fr,fun _=>Calm.nil rfl,et,fun H1 f=>⟨rfl,f⟩⟩
  refine wpAny_If (wpAny_mono q (fun bb s1 z=>?_) fun _ _ z=>z.elim)
  obtain⟨H1,I1,rfl,fr1⟩:=z
  exact h pins s1 σ H1 B E1 n E' I1.unwish fr1 e k
 ·cases e
theorem Aj{q:gb}(h1:BC X mk al a r)(h2:BC X mk al a q):BC X mk al a (uG r q):=fun pins s σ H B E n E' I fr e k=>by
 unfold uG at e
 split at e
 ·rename_i x ex
  cases e
  exact h1 pins s σ H B E n E' I fr ex k
 ·exact h2 pins s σ H B E n E' I fr e k
end
end PL
namespace PL
open PySem PySem.Spec PyProof.Rows L2 Nh
abbrev ID:List Value:=[.type "ValueError",.type "Exception",.type "BaseException",.type "object"]
structure XC (K:Frag) (mg:Str→Option Value) (x:Str) (C:Addr):Prop where
 ns:nsIn K mainGlobals x=some (some (.ref C))
 mg:mg x=some (.ref C)
 ex:excIn K C ID "ValueError.__new__"=true
 cls:ExCls K C
theorem Ak{K:Frag}{h:Heap}{mg:Str→Option Value}{x:Str}{C:Addr}{bmB:List Value}{newId:String}(X:K.In h)(m:mg x=some (.ref C))(q:excIn K C bmB newId=true):OwnCls x C bmB newId mg h:=by
 refine⟨m,?_⟩
 unfold excIn at q
 split at q
 ·rename_i dd cd sl ho
  split at q
  ·rename_i C' bm k0 k1 k2 k3 n k5 hm hs
   simp only[lQ,beq_iff_eq,Bool.not_eq_true']at q
   obtain⟨⟨⟨⟨⟨rfl,rfl⟩,hdel⟩,ht⟩,hok⟩,hni⟩:=q
   obtain⟨nm,bs,mro,ns,qn,hd,sn,sub,ab,col,del⟩:=cd
   dsimp only at hm hdel hok hni
   subst hm hdel
   have hsl:sl=#[k0,k1,k2,k3,some (.builtin n),k5]:=by
    obtain⟨l⟩:=sl
    simp only at hs
    rw[hs]
   subst hsl
   exact⟨bm,ns,nm,qn,bs,hd,sn,sub,ab,col,dd,k0,k1,k2,k3,k5,_,X _ _ ho,.of_isNs (PySem.W.isNs_of_in X hok),PySem.W.nsMap_none_of_in X hok hni,PySem.W.tail_of_in X ht⟩
  ·cases q
 ·cases q
section
variable {X:Cx} {mk al:Bool} {x:Str} {C:Addr} {np p cpos pos:Pos}
theorem iH {tx:Str} {j:Nat} (hcalm:X.calm=true) (hg:Gl X x) (Z:XC X.K X.mg x C) (hd:(x == ("__debug__":Str))=false:=by decide)
  (he:starEach [.Constant (.str tx) j p] X.env=[(false,eval (.Constant (.str tx) j p) X.env)]:=by rfl):
  RX X true al (.Raise (some (.Call (.Name x np) [.Constant (.str tx) j p] [] cpos)) none pos) (jD x):=fun pins s σ H B E n E' I fr e k=>by
 cases e
 obtain⟨tl,N,nm,q,bs,hdct,sn,sub,ab,col,dd,k0,k1,k2,k3,k5,mN,hC,hN,hni,T⟩:=(Ak I.ok.mod.kin Z.mg Z.ex).obj
 refine wpAny_Raise_call_subT (C:=C) (nm:=nm) (q:=q) (N:=N) (bs:=bs) (bm:=tl) (hdct:=hdct) (sn:=sn) (sub:=sub) (ab:=ab) (col:=col) (dd:=dd) (k0:=k0) (k1:=k1) (k2:=k2) (k3:=k3) (k5:=k5)
  PySem.F.excBase_ValueError (mN:=mN) (T.hasType PySem.F.excBase_ValueError.hasBase) (I.ok.hd hcalm) (by rw[he];rfl) hni (eI I hg Z.mg ⟨rfl,?_⟩ hd)
 have q1:=bZ (X:=X) (pP (x:=tx) (j:=j) (pos:=p)) dG he cpos pins s σ H (fun vs H1=>vs=[.str tx]∧H1=H) I ⟨rfl,rfl⟩
 rw[he]at q1 ⊢
 refine Calls.evalArgs_plain (bR q1 fun vs s2 ⟨us,H2,I2,r,eu,eH⟩=>?_)
 subst eu eH
 have fin:=(k pins (fun _=>rfl) σ C H2 Z.ns fr).1 rfl
 exact⟨rfl,by rw[←r.length];exact Nat.le_of_ble_eq_true rfl,I2.bk _ _ hC,hN.keeps I2.bk,T.keeps I2.bk,fun h' ea hm=>fin s2 h' ea vs I2 hm⟩
end
def sQ(K:Frag)(r:List PyData→Option Str):Sp:=fun vs H _ E=>∃ds n,r ds=some n∧RpA K H vs ds∧∀C H',nsIn K mainGlobals n=some (some (.ref C))→Same H H'→E (.ref C) none H'
structure OwnR (P:Program) (w:World) (K:Frag) (mg:Str→Option Value) (base:Heap) (k:Nat) (x:Str) (ps:List Str) (sp:Sp):Prop where
 ex:∃(f:Addr) (fd:FuncData),FnOk P w K mg base (DW P w) k f fd ps sp∧Binds K fd ps []∧mg x=some (.ref f)∧keepIn K (.ref f)=true
def fA(r:List PyData→Option Str)(g:j0):gb:=fun E=>(g E).bind fun a=>(bB a.2 a.1).bind fun ds=>(r ds).map fun n=>(n,a.2)
section
variable {X:Cx} {k:Nat} {x:Str} {ps:List Str} {r:List PyData→Option Str} {p pos cpos:Pos} {e:Expr} {es:List Expr} {m:Bool} {g:j0}
theorem k9 (D:OwnR X.prog X.w X.K X.mg X.base k x ps (sQ X.K r)) (hr:Room k X.A) (hg:Gl X x) (ha:AX X.nox (e::es) m g) (hdb:(x == ("__debug__":Str))=false) (he:starEach (e::es) X.env=(false,eval e X.env)::starEach es X.env) (hpl:(backTo pos (starEach es X.env)).any (·.1)=false)
  {pins:List (Addr×Obj)} {s:Shared} {σ:L2.St} {H B:Hp} {E E':List Sl} {n:Str} (I:Inv X pins σ H s) (fr:Frm X.K B σ H E [] []) (ee:fA r g E=some (n,E')) (k:∀C H',nsIn X.K mainGlobals n=some (some (.ref C))→Frm X.K B σ H' E' [] []→Ai X C pins σ H'):
  wpAny (model X.prog X.w) X.A (eval (.Call (.Name x p) (e::es) [] pos) X.env) (fun _ _=>False) X.xe s:=by
 obtain⟨f,fd,F,b,mx,kp⟩:=D.ex
 obtain⟨⟨rs,E1⟩,e1,ee⟩:=Za.mp ee
 obtain⟨ds,e2,ee⟩:=Za.mp ee
 obtain⟨n',e3,ee⟩:=Zab.mp ee
 cases ee
 refine wpAny_Call_Name_kw (eI I hg mx ?_ hdb)
 have q1:=ha pos pins s σ H (fun vs H1=>vs.length=rs.length∧Frm X.K B σ H1 E1 (vs.reverse++[]) (rs.reverse++[])) (I.wish _) ⟨B,E,[],[],rs,E1,fr,fun _=>Calm.nil rfl,e1,fun vs H1 hl f=>⟨hl,f⟩⟩
 refine callWith_K (h₀:=X.base) I.ok.mod.kin kp (wpAny_mono q1 (fun us s1 ⟨vs,H1,I1,rv,hl,F1,A1,fr1⟩=>⟨I1.kIn,?_⟩) fun _ _ z=>z.elim) he hpl
 have I1:=I1.unwish
 obtain⟨r1,A',fr2⟩:=fr1.looks hl e2
 have hlen:(us++[]).length=ps.length:=by
  rw[tR,←rv.length]
  exact F.len vs H1 (fun _ _=>False) (fun _ _ _=>True) ⟨ds,n,e3,r1,fun _ _ _ _=>trivial⟩
 have bd:=b s1 us I1.kIn hlen
 rw[tR]at bd
 refine wpAny_call (codeAny_mono (F.run X.A X.stack s1 H1 ⟨us,[]⟩ us vs (fun _ _=>False) (fun c _ H'=>∃C,c=.ref C∧nsIn X.K mainGlobals n=some (some (.ref C))∧Same H1 H') hr I1.env0 bd rv ⟨ds,n,e3,r1,fun C H' z g=>⟨C,rfl,z,g⟩⟩) fun rr s' hq=>?_)
 cases rr with
 |error er=>
  obtain⟨H',ea,C,a0,B',rfl,⟨C',eC,ns,g⟩,os,bare,fl,hok,u⟩:=hq
  cases eC
  exact k C H' ns ⟨_,_,fr2.grow g⟩ H1 s1 ea s' a0 B' I1 os bare fl hok u
 |ok fl=>
  cases fl with
  |ret u=>obtain⟨_,_,_,_,_,_,_,z⟩:=hq;exact z
  |next=>exact False.elim hq
  |brk=>exact False.elim hq
  |cont=>exact False.elim hq
theorem Fw (D:OwnR X.prog X.w X.K X.mg X.base k x ps (sQ X.K r)) (hr:Room k X.A) (hg:Gl X x) (ha:AX X.nox (e::es) m g) (hdb:(x == ("__debug__":Str))=false:=by decide) (he:starEach (e::es) X.env=(false,eval e X.env)::starEach es X.env:=by rfl) (hpl:(backTo cpos (starEach es X.env)).any (·.1)=false:=by rfl) {mk al:Bool}:
  RX X mk al (.Return (some (.Call (.Name x p) (e::es) [] cpos)) pos) (fA r g):=fun pins s σ H B E n E' I fr ee k=>
 wpAny_Return_some (bR (k9 D hr hg ha hdb he hpl I fr ee fun C H' z f=>(k pins (fun _=>rfl) σ C H' z f).2.1) fun _ _ z=>z.elim)
end
def Al(k n:Nat)(r:gb):List PyData→Option Str:=fun ds=>if ds.length=k then (r (aZ n ds)).map (·.1)else none
theorem CP{P:Program}{w:World}{K:Frag}{mg:Str→Option Value}{base:Heap}{x:Str}{st:Stmt}{N ps:List Str}{k a n:Nat}{r:gb}{mk al:Bool}(D:Def K mg x st ps)(S:FnScope N ps (ah st))(hpa:ps.length=a)(hNn:N.length=n)(hps:a≤n)
  (hbody:∀(f:Addr) (cdv:Value) (A:Around) (outer:List Env) (s:Shared) (H:Hp) (E:XK),Room k (A.deeper (PyProof.Rows.envOfC x (ah st) s.heap.objs.size f cdv))→
   BC (fY (DW P w) P w K mg base N x (ah st) f cdv A outer s H E) mk al (a7 st) r):OwnR P w K mg base (k+1) x ps (sQ K (Al a n r)):=by
 subst hpa hNn
 obtain⟨f,fd,F,mx,b⟩:=D.ex
 have kp:=F.kp
 obtain⟨oc,od,kV,doc,pm,an,cdv,ct,osl,rfl,lk,hcd⟩:=F.ex
 refine⟨f,_,vC lk hcd S (fun vs H Q E h=>?_) fun A outer s H vs Q E hr h=>?_,b,mx,kp⟩
 ·obtain⟨ds,n,e,rp,_⟩:=h
  unfold Al at e
  split at e
  ·rename_i hl
   rw[rp.len];exact hl
  ·cases e
 obtain⟨ds,n,e,rp,q⟩:=h
 unfold Al at e
 split at e
 ·rename_i hl
  obtain⟨⟨n',E'⟩,er,z⟩:=Zab.mp e
  cases z
  refine⟨fun D σ H'=>σ=de N vs∧H'=H,fun pins s1 σ H1 D I z=>?_,rfl,rfl⟩
  obtain⟨rfl,rfl⟩:=z
  refine bR (hbody f cdv A outer s H1 E hr pins s1 _ H1 H1 (aZ N.length ds) n' E' I ⟨H1,[],i3 rp (by omega)⟩ er fun _ _ σ' C H' ns ⟨F',A',fr'⟩=>?_) fun _ _ z=>z.elim
  have hE:=q C H' ns (fr'.bf.trans fr'.fh)
  exact⟨fun _=>CN hE,Fv hE,fun _=>CO hE⟩
 ·cases e
end PL
namespace PL
open PySem PySem.Spec PyProof.Rows L2 Nh
abbrev Gv(X:Cx)(ea:Addr):Cx:={X with A:=X.A.mark (some (.ref ea)),calm:=false,xe:=fun _ _=>False}
abbrev hX(X:Cx)(ea:Addr)(oe:Obj)(C:Addr)(ex:List (Addr×Obj)):Cx:={X with A:=X.A.mark (some (.ref ea)),calm:=false,xe:=fun _ _=>False,H₀:=upd X.H₀ ea (.frz oe (.ext (e9 ea C))),pn:=ex++X.pn}
def sR(X:Cx)(H:Hp)(h:Heap)(p:Addr×Obj):Prop:=h.get? p.1=some p.2∧H p.1=none∧p.1≠X.env.locals∧p.1∉X.fs∧∀v,p.2.data≠ .cell v
structure EaNew (X:Cx) (ea:Addr):Prop where
 s0:X.s₀.heap.get? ea=none
 nt:∀xs,X.H₀ ea≠some (.tup xs)
 nf:∀o u,X.H₀ ea≠some (.frz o u)
 nb:∀q,X.H₀ ea≠some (.tbl q)
section
variable {X:Cx} {pins:List (Addr×Obj)} {σ:L2.St} {H:Hp} {s:Shared} {ea:Addr}
theorem km(I:Inv X pins σ H s):Inv (Gv X ea) pins σ H s:=
 let ok:=I.ok
 ⟨⟨ok.mod,ok.kind,ok.glob,ok.blt,ok.above,ok.inj,ok.has,ok.cab,fun z=>(nomatch z),ok.frames,ok.stk,ok.exf,ok.bs,ok.bsz,ok.noex,ok.exfs,ok.funs,ok.frf,ok.tab⟩,I.os,I.bare,I.base,I.loc,I.cell,I.free,I.freeC,I.pin,I.hok,I.len⟩
theorem CQ{oe:Obj}{C:Addr}{ex:List (Addr×Obj)}(I:Inv X pins σ H s)(n:EaNew X ea)(hH:H ea=some (.frz oe (.ext (e9 ea C))))(hp:∀p∈ex,sR X H s.heap p):Inv (hX X ea oe C ex) pins σ H s:=by
 have ok:=I.ok
 have ne:∀b o,X.s₀.heap.get? b=some o→b≠ea:=fun b o e z=>by rw[z,n.s0]at e;cases e
 have up:∀b u,(upd X.H₀ ea (.frz oe (.ext (e9 ea C)))) b=u→b≠ea→X.H₀ b=u:=fun b u e z=>by rw[ar z]at e;exact e
 refine⟨⟨ok.mod,ok.kind,ok.glob,ok.blt,ok.above,ok.inj,ok.has,ok.cab,fun z=>(nomatch z),ok.frames,ok.stk,ok.exf,fun b o e=>?_,ok.bsz,ok.noex,ok.exfs,ok.funs,fun b hb=>?_,fun b q e=>?_⟩,I.os,I.bare,⟨fun b o e h=>I.base.keep b o e (up b _ h (ne b o e)),fun b o e h=>I.base.slot b o e (up b _ h (ne b o e)),fun b o e h=>I.base.free b o e (up b _ h (ne b o e)),I.base.there,fun b xs e=>?_,fun b o u e=>?_,fun b q e=>?_⟩,I.loc,I.cell,I.free,I.freeC,fun p q=>?_,I.hok,I.len⟩
 ·obtain⟨e1,e2⟩:=ok.bs b o e
  exact⟨e1,(ar (ne b o e1)).trans e2⟩
 ·obtain⟨_,o,e1,_⟩:=ok.funs.mem hb
  exact(ar (ne b o e1)).trans (ok.frf b hb)
 ·refine(ar fun z=>?_).trans (ok.tab b q e)
  subst z
  exact n.nb q (ok.tab _ q e)
 ·by_cases z:b=ea
  ·subst z
   replace e:=upd_same.symm.trans e
   cases e
  ·exact I.base.tups b xs (up b _ e z)
 ·by_cases z:b=ea
  ·subst z
   replace e:=upd_same.symm.trans e
   cases e
   exact hH
  ·exact I.base.frzs b o u (up b _ e z)
 ·by_cases z:b=ea
  ·subst z
   replace e:=upd_same.symm.trans e
   cases e
  ·exact I.base.tbls b q (up b _ e z)
 ·rcases Zao.mp q with q |q
  ·rcases Zao.mp q with q |q
   ·exact hp p q
   ·exact I.pin p (Zb _ q)
  ·exact I.pin p (jx _ q)
theorem Ho{ex:List (Addr×Obj)}(I:Inv X pins σ H s)(hp:∀p∈ex,sR X H s.heap p):Inv X (pins++ex) σ H s:=by
 refine {I with pin:=fun p q=>?_}
 rcases Zao.mp q with q |q
 ·exact I.pin p (Zb _ q)
 ·rcases Zao.mp q with q |q
  ·exact I.pin p (jx _ q)
  ·exact hp p q
theorem Hq{ex:List (Addr×Obj)}(I:Inv X (pins++ex) σ H s):Inv X pins σ H s∧∀p∈ex,sR X H s.heap p:=by
 refine⟨{I with pin:=fun p q=>I.pin p ?_},fun p q=>I.pin p (jx _ (jx _ q))⟩
 rcases Zao.mp q with q |q
 ·exact Zb _ q
 ·exact jx _ (Zb _ q)
theorem Am{oe:Obj}{C:Addr}{ex:List (Addr×Obj)}(I:Inv (hX X ea oe C ex) pins σ H s)(ok:X.Ok)(n:EaNew X ea):Inv X pins σ H s:=by
 have ne:∀b o,X.s₀.heap.get? b=some o→b≠ea:=fun b o e z=>by rw[z,n.s0]at e;cases e
 have dn:∀b u,X.H₀ b=u→b≠ea→(hX X ea oe C ex).H₀ b=u:=fun b u e z=>(ar z).trans e
 exact⟨ok,I.os,I.bare,⟨fun b o e h=>I.base.keep b o e (dn b _ h (ne b o e)),fun b o e h=>I.base.slot b o e (dn b _ h (ne b o e)),fun b o e h=>I.base.free b o e (dn b _ h (ne b o e)),I.base.there,fun b xs e=>I.base.tups b xs (dn b _ e fun z=>n.nt xs (z▸e)),fun b o u e=>I.base.frzs b o u (dn b _ e fun z=>n.nf o u (z▸e)),fun b q e=>I.base.tbls b q (dn b _ e fun z=>n.nb q (z▸e))⟩,I.loc,I.cell,I.free,I.freeC,fun p q=>I.pin p (by
  rcases Zao.mp q with q |q
  ·exact Zb _ (jx _ q)
  ·exact jx _ q),I.hok,I.len⟩
theorem xN{a:Addr}{o:HO}(I:Inv X pins σ H s)(hn:H a=none)(h0:X.s₀.heap.get? a=none)(hL:X.env.locals≠a)(hc:∀x c,X.env.cells.lookup x=some c→c≠a)(hp:∀p∈X.pn++pins,p.1≠a)(ok:ObjOk X.prog X.w (upd H a o) s.heap a o):Inv X pins σ (upd H a o) s:=by
 have ne:∀b u,H b=some u→b≠a:=fun b u e=>bj e hn
 refine⟨I.ok,I.os,I.bare,⟨I.base.keep,I.base.slot,fun b u e n hx=>?_,I.base.there,fun b xs e=>?_,fun b u v e=>?_,fun b q e=>?_⟩,I.loc,I.cell,?_,fun x c e=>?_,fun p q=>?_,fun b u e=>?_,I.len⟩
 ·rw[ar (fun z=>by rw[z,h0]at e;cases e)];exact I.base.free b u e n hx
 ·have z:=I.base.tups b xs e
  rw[ar (ne _ _ z)];exact z
 ·have z:=I.base.frzs b u v e
  rw[ar (ne _ _ z)];exact z
 ·have z:=I.base.tbls b q e
  rw[ar (ne _ _ z)];exact z
 ·rw[ar hL];exact I.free
 ·rw[ar (hc x c e)];exact I.freeC x c e
 ·obtain⟨e1,e2,e3⟩:=I.pin p q
  exact⟨e1,by rw[ar (hp p q)];exact e2,e3⟩
 ·by_cases hb:b=a
  ·subst hb;rw[upd_same]at e;cases e;exact ok
  ·rw[ar hb]at e
   refine(I.hok b u e).stay (fun c w' _ q=>q) (fun c q=>?_) fun c xs q=>?_
   ·rw[ar (ne _ _ q)];exact q
   ·rw[ar (ne _ _ q)];exact q
theorem An{M:Model}{A:Around}{E:Value→Shared→Prop}{i:Nat}{x:Str}{pos:Pos}{Q:Unit→Shared→Prop}(I:Inv X pins σ H s)(hN:X.N.Nodup)(hi:X.N[i]? =some x)(hk:X.env.scope.names.lookup x=some .local)
  (h:∀s',Inv X pins (σ.set i none) H s'→Q () s'):wpAny M A (do bindName X.env x .none;unbindBehindTheSuite X.env x pos) Q E s:=by
 obtain⟨m,hn,hl⟩:=id I.loc
 have hcls:(X.env.scope.kind ==.class||(X.env.scope.kind ==.module&&X.env.locals != X.env.globals))=false:=by rw[I.ok.kind];rfl
 have hiσ:i < σ.length:=by rw[I.len];exact(Zar.mp hi).1
 have cne:=I.cne
 refine wpAny_nameGoes_keeps hk hn hcls fun h' v hn' hs=>?_
 obtain⟨oL,_,_,hoL,_⟩:=id hn
 refine h _ ⟨I.ok,I.os,I.bare,⟨fun b o e n hb hx=>?_,fun b o e n hb hx=>?_,I.base.free,fun b o e hx=>?_,I.base.tups,I.base.frzs,I.base.tbls⟩,⟨_,hn',fun j y v' e1 e2 e3=>?_⟩,fun y c e=>?_,I.free,I.freeC,fun p hp=>?_,fun b ob e=>?_,by simpa using I.len⟩
 ·exact(hs.2 b (eF (jH (dM e) I.ok.above))).trans (I.base.keep b o e n hb hx)
 ·obtain⟨sl,e1⟩:=I.base.slot b o e n hb hx
  exact⟨sl,(hs.2 b (eF (jH (dM e) I.ok.above))).trans e1⟩
 ·obtain⟨o',e1⟩:=I.base.there b o e hx
  exact⟨o',(hs.2 b (eF (jH (dM e) I.ok.above))).trans e1⟩
 ·by_cases hj:j=i
  ·subst hj
   rw[List.getElem?_set_self hiσ]at e2
   cases e2
  ·rw[List.getElem?_set_ne (Ne.symm hj)]at e2
   obtain⟨u',r',q⟩:=hl j y v' e1 e2 e3
   refine⟨u',r',?_⟩
   rcases q with⟨k,e⟩ |⟨k,c,e,z⟩
   ·refine .inl ⟨k,?_⟩
    have:y≠x:=fun e=>hj (ml hN e1 (e▸hi))
    simp[this,e]
   ·exact .inr ⟨k,c,e,z.sameBut hs (cne y c e)⟩
 ·obtain⟨w',z⟩:=I.cell y c e
  exact⟨w',z.sameBut hs (cne y c e)⟩
 ·obtain⟨e,n,ne,nf,d⟩:=I.pin p hp
  exact⟨(hs.2 p.1 ne).trans e,n,ne,nf,d⟩
 ·refine(I.hok b ob e).stay (fun c w' hc q=>(hs.2 c ?_).trans q) (fun _ q=>q) fun _ _ q=>q
  rintro rfl
  rcases hc with rfl |hc
  ·rw[I.free]at e;cases e
  ·rw[I.free]at hc;cases hc
end
theorem gW:∀{ps:List (Addr×Obj)} {p:Addr×Obj},ChainP ps→p∈ps→∃ws,p.2.data=.fields ws∧∃v,ws[2]? =some v:=by
 intro ps
 induction ps with
 |nil=>intro p _ h;cases h
 |cons q ps ih=>
  intro p c h
  rcases Zaf.mp h with z |z
  ·subst z
   obtain⟨ws,a,b⟩:=c.1
   exact⟨ws,a,_,b⟩
  ·exact ih c.2.2 z
abbrev Fx(n:Str):PyData:=.dict [(.none,.str n)]
end PL
namespace PL
open PySem PySem.Spec PyProof.Rows L2 Nh
def XT(K:Frag)(c:Value)(tab:List (Str×Bool)):Prop:=∀n b C,tab.lookup n=some b→nsIn K mainGlobals n=some (some (.ref C))→ExCls K C∧kitOne K (.ref C) c=some b
theorem gc{K:Frag}{c:Value}:XT K c []:=fun _ _ _ e=>nomatch e
theorem bx{K:Frag}{c:Value}{n:Str}{C:Addr}{b:Bool}{tab:List (Str×Bool)}(ns:nsIn K mainGlobals n=some (some (.ref C)))(Z:ExCls K C)(k:kitOne K (.ref C) c=some b)(h:XT K c tab):XT K c ((n,b)::tab):=fun n' b' C' e ns'=>by
 rw[List.lookup_cons]at e
 split at e
 ·rename_i q
  rw[beq_iff_eq]at q
  subst q
  rw[ns]at ns'
  cases ns'
  cases e
  exact⟨Z,k⟩
 ·exact h n' b' C' e ns'
def jv(tab:List (Str×Bool)):PyData→Option PyData
 |.dict [(.none,.str n)]=>(tab.lookup n).map .bool
 |_=>none
theorem Fy{K:Frag}{H:Hp}{v:V}{n:Str}(r:Rp K H v (.dict [(.none,.str n)])):∃a C o,v=.ref a∧H a=some (.frz o (.ext (e9 a C)))∧nsIn K mainGlobals n=some (some (.ref C)):=by
 generalize e:PyData.dict [(PyData.none,PyData.str n)]=d at r
 cases r with
 |exc h1 h2=>cases e;exact⟨_,_,_,rfl,h1,h2⟩
 |dct h1 h2=>
  cases h2 with
  |nil=>cases e
  | @cons k x us d kvs a b=>cases k <;> cases e
 |_=>cases e
section
variable {X:Cx} {e:Expr} {m1:Bool} {f:aD} {p p2 pos:Pos}
theorem xP{c:Value}{vc:V}{tab:List (Str×Bool)}(rc:∀u,RelV vc u→u=c)(T:XT X.K c tab):CallR X (.builtin "isinstance") (fun xs H Q=>∃x d r,xs=[x,vc]∧Rp X.K H x d∧jv tab d=some r∧∀b,r=.bool b→Q (.bl b) H):=by
 intro pins s σ H xs us Q I r h
 obtain⟨x,d,r',rfl,rp,hd,q⟩:=h
 obtain⟨u,w',rfl,ru,rw'⟩:=r.two
 cases rc w' rw'
 unfold jv at hd
 split at hd
 ·rename_i n
  obtain⟨b,eb,z⟩:=Zab.mp hd
  obtain⟨a,C,oz,rfl,ha,ns⟩:=Fy rp
  obtain⟨Z,k⟩:=T n b C eb ns
  cases(show u=Value.ref a from ru)
  exact kia_one (Ad Z) I.kIn (show e9 a C s.heap from(I.hok a _ ha).2.1) k (fun z=>nomatch z) fun tk=>⟨.bl b,H,I.tok _,rfl,q b z.symm⟩
 ·cases hd
theorem v7 {c:Value} {vc:V} {tab:List (Str×Bool)} (rc:∀u,RelV vc u→u=c) (T:XT X.K c tab) (hg:Gl X "isinstance") (hm:X.mg "isinstance"=none) (ha:EX X e m1 f) {x:Str} (h2:PE X (.Name x p2) (tC vc))
  (he:starEach [e,.Name x p2] X.env=(false,eval e X.env)::starEach [.Name x p2] X.env) (he2:starEach [.Name x p2] X.env=[(false,eval (.Name x p2) X.env)]) (hpl:(backTo pos (starEach [.Name x p2] X.env)).any (·.1)=false):
  EX X (.Call (.Name "isinstance" p) [e,.Name x p2] [] pos) m1 (fM (jv tab) f):=by
 refine bn (iq (xP rc T) hg hm PyProof.Rows.boot_isinstance (bZ ha (bZ h2 dG he2) he) (by decide) (by decide) he hpl) fun σ H Q z=>?_
 obtain⟨B,E,xs,Xs,res,E',fr,cl,e,q⟩:=z
 obtain⟨⟨s,E1⟩,e1,e⟩:=Za.mp e
 obtain⟨d1,e2,e⟩:=Za.mp e
 obtain⟨d2,e3,e⟩:=Zab.mp e
 cases e
 refine⟨B,E,xs,Xs,s,E1,fr,cl,e1,fun v1 H1 ⟨F,A,fr1⟩=>?_⟩
 obtain⟨A',fr2⟩:=fr1.pop
 exact⟨v1,d1,d2,rfl,(fr1.look0 e2).1,e3,fun b z=>q _ _ ⟨F,A',fr2.push ⟨rfl,_,rfl,z▸ .bl b⟩⟩⟩
theorem fi {C:Addr} {tab:List (Str×Bool)} (hg:Gl X "isinstance") (hm:X.mg "isinstance"=none) (ha:EX X e m1 f) {x:Str} (hgx:Gl X x) (hmx:X.mg x=some (.ref C)) (T:XT X.K (.ref C) tab) (hdx:(x == ("__debug__":Str))=false:=by decide)
  (he:starEach [e,.Name x p2] X.env=(false,eval e X.env)::starEach [.Name x p2] X.env:=by rfl) (he2:starEach [.Name x p2] X.env=[(false,eval (.Name x p2) X.env)]:=by rfl) (hpl:(backTo pos (starEach [.Name x p2] X.env)).any (·.1)=false:=by rfl):
  EX X (.Call (.Name "isinstance" p) [e,.Name x p2] [] pos) m1 (fM (jv tab) f):=v7 (vc:=.ref C) (fun _ z=>z) T hg hm ha (vv (v:=.ref C) hgx hmx rfl hdx) he he2 hpl
theorem CS {t:String} {tab:List (Str×Bool)} (hg:Gl X "isinstance") (hm:X.mg "isinstance"=none) (ha:EX X e m1 f) {x:Str} (hgx:Gl X x) (hmx:X.mg x=none) (hbx:bootBuiltins x=some (.type t)) (T:XT X.K (.type t) tab) (hnx:x≠"__name__":=by decide) (hdx:(x == ("__debug__":Str))=false:=by decide)
  (he:starEach [e,.Name x p2] X.env=(false,eval e X.env)::starEach [.Name x p2] X.env:=by rfl) (he2:starEach [.Name x p2] X.env=[(false,eval (.Name x p2) X.env)]:=by rfl) (hpl:(backTo pos (starEach [.Name x p2] X.env)).any (·.1)=false:=by rfl):
  EX X (.Call (.Name "isinstance" p) [e,.Name x p2] [] pos) m1 (fM (jv tab) f):=v7 (vc:=.ty t) (fun _ z=>z) T hg hm ha (vw (v:=.ty t) hgx hmx hbx rfl hnx hdx) he he2 hpl
end
structure RoomH (k:Nat) (A:Around):Prop where
 dp:A.depth+3*k+5 < recursionLimit
 un:A.units+16*k+200 < cLine
theorem RoomH.mono{j k:Nat}{A:Around}(r:RoomH k A)(h:j≤k):RoomH j A:=⟨by have:=r.dp;omega,by have:=r.un;omega⟩
theorem RoomH.deeper{k:Nat}{A:Around}(r:RoomH (k+1) A)(env:Env):RoomH k (A.deeper env):=
 ⟨by have:=r.dp;show A.depth+1+3*k+5 < _;omega,by have:=r.un;show A.units+3+16*k+200 < _;omega⟩
theorem RoomH.depth{k:Nat}{A:Around}(r:RoomH k A):A.depth < recursionLimit:=by have:=r.dp;omega
theorem RoomH.units{k:Nat}{A:Around}(r:RoomH k A):A.units+64 < cLine:=by have:=r.un;omega
theorem Room.mark{k:Nat}{A:Around}(r:Room k A)(v:Option Value):RoomH k (A.mark v):=⟨r.dp,r.un⟩
abbrev HR(P:Program)(w:World)(K:Frag)(mg:Str→Option Value)(base:Heap)(N:List Str)(qual:Str)(scope:Scope)(f:Addr)(cd:Value)(A:Around)(outer:List Env)(s:Shared)(H:Hp)(E:XK):Cx:={fY mv P w K mg base N qual scope f cd A outer s H E with calm:=false,xe:=fun _ _=>False}
structure FnOkH (P:Program) (w:World) (K:Frag) (mg:Str→Option Value) (base:Heap) (k:Nat) (f:Addr) (fd:FuncData) (ps:List Str) (sp:Sp):Prop where
 len:∀vs H Q E,sp vs H Q E→vs.length=ps.length
 run:∀(A:Around) (outer:List Env) (s:Shared) (H:Hp) (args:Args) (us:List Value) (vs:List V) (Q:VK) (E:XK),RoomH k A→Env0 P w K mg base A outer s H→BindsTo s fd args (ps.zip us)→Vals vs us→sp vs H Q E→
  codeAny (model P w) A (.call (.ref f) args) (CR mv outer P w H s Q E) s
structure OwnH (P:Program) (w:World) (K:Frag) (mg:Str→Option Value) (base:Heap) (k:Nat) (x:Str) (ps:List Str) (sp:Sp):Prop where
 ex:∃(f:Addr) (fd:FuncData),FnOkH P w K mg base k f fd ps sp∧Binds K fd ps []∧mg x=some (.ref f)∧keepIn K (.ref f)=true
theorem Fz{P:Program}{w:World}{K:Frag}{mg:Str→Option Value}{base:Heap}{k:Nat}{f:Addr}{name qual:Str}{params:Arguments}{body:List Stmt}{scope:Scope}{dV kV doc pm cdv ct oc:Value}{an od:Option Addr}
  {osl:Array (Option Value)} {N ps:List Str} {sp:Sp} (lk:K.lookup f=some ⟨oc,od,.func (fnOf name qual params body scope dV kV doc pm an cdv ct),osl⟩) (hcd:codeIn K cdv qual=true) (S:FnScope N ps scope)
  (len:∀vs H Q E,sp vs H Q E→vs.length=ps.length)
  (hbody:∀(A:Around) (outer:List Env) (s:Shared) (H:Hp) (vs:List V) (Q:VK) (E:XK),RoomH k (A.deeper (envOfC qual scope s.heap.objs.size f cdv))→sp vs H Q E→
   ∃t,PSs (HR P w K mg base N qual scope f cdv A outer s H E) body t∧t {nx:=fun _ H'=>Q .non H',rt:=Q} (de N vs) H):
  FnOkH P w K mg base (k+1) f (fnOf name qual params body scope dV kV doc pm an cdv ct) ps sp:=by
 refine⟨len,fun A outer s H args us vs Q E hr e0 hb r hsp=>?_⟩
 have hl:=len _ _ _ _ hsp
 have KX:K.In s.heap:=e0.mod.kin.keeps fun b o e=>(e0.bs b o e).1
 have lim:s.heap.NoLimit:=e0.mod.nolimit.keeps fun b o e=>(e0.bs b o e).1
 have hkind:∀y∈ps.zip us,scope.names.lookup y.1=some .local∨(scope.names.lookup y.1=some .cell∧((cellsFrom (s.heap.objs.size+1) scope.names []).lookup y.1).isSome=true):=fun⟨n,v⟩ hy=>by
  rcases S.par n (List.of_mem_zip hy).1 with q |q
  ·exact .inl q
  ·exact .inr ⟨q,cellsFrom_some _ _ _ (.inl q)⟩
 refine codeAny_call_function hr.depth (KX _ _ lk) rfl S.co S.gen rfl (codeRec_of KX hcd) (hb _ _ _ _ ?_)
 refine wpAny_newFunctionEnv_cells S.kind hkind fun env he s1 x=>?_
 subst he
 refine⟨lim.keeps x.toInCall.keep,codeAny_func ?_⟩
 obtain⟨t,ht,hq⟩:=hbody A outer s H vs Q E (hr.deeper _) hsp
 have I0:Inv (fY mv P w K mg base N qual scope f cdv {A with handled:=none} outer s H E) [] (de N vs) H s1:=kP S rfl ⟨e0.frames,e0.mod,e0.bs,e0.bsz,e0.funs,e0.frf,e0.hok,e0.bare,e0.tab⟩ hl r x
 have I:Inv (HR P w K mg base N qual scope f cdv A outer s H E) [] (de N vs) H s1:=
  let ok:=I0.ok
  ⟨⟨ok.mod,ok.kind,ok.glob,ok.blt,ok.above,ok.inj,ok.has,ok.cab,fun z=>(nomatch z),Around.frames_deeper e0.frames,ok.stk,ok.exf,ok.bs,ok.bsz,ok.noex,ok.exfs,ok.funs,ok.frf,ok.tab⟩,I0.os,I0.bare,I0.base,I0.loc,I0.cell,I0.free,I0.freeC,I0.pin,I0.hok,I0.len⟩
 refine wpAny_mono (ht [] s1 (de N vs) H _ I hq) (fun fl s' hs=>?_) fun e s' hs=>hs.elim
 have fin:∀{σ':L2.St} {H':Hp} {v:V} {u:Value},Inv (HR P w K mg base N qual scope f cdv A outer s H E) [] σ' H' s'→RelV v u→Q v H'→CE outer P w H s Q u s':=
  fun {σ' H' v u} J rv q=>⟨v,H',J.os,J.bare,J.base,J.hok,rv,q⟩
 cases fl with
 |ret u=>
  obtain⟨v,σ',H',J,rv,q⟩:=hs
  exact fin J rv q
 |next=>
  obtain⟨σ',H',J,q⟩:=hs
  exact fin (v:=V.non) (u:=Value.none) J rfl q
 |brk=>
  obtain⟨_,_,_,q⟩:=hs
  exact False.elim q
 |cont=>
  obtain⟨_,_,_,q⟩:=hs
  exact False.elim q
theorem IE{P:Program}{w:World}{K:Frag}{mg:Str→Option Value}{base:Heap}{x:Str}{st:Stmt}{N ps:List Str}{k a n:Nat}{g:cI}(D:Def K mg x st ps)(S:FnScope N ps (ah st))(hpa:ps.length=a)(hNn:N.length=n)(hps:a≤n)
  (hbody:∀(f:Addr) (cdv:Value) (A:Around) (outer:List Env) (s:Shared) (H:Hp) (E:XK),RoomH k (A.deeper (PyProof.Rows.envOfC x (ah st) s.heap.objs.size f cdv))→
   qX (HR P w K mg base N x (ah st) f cdv A outer s H E) (a7 st) g):OwnH P w K mg base (k+1) x ps (eN K (fV a n g)):=by
 subst hpa hNn
 obtain⟨f,fd,F,mx,b⟩:=D.ex
 have kp:=F.kp
 obtain⟨oc,od,kV,doc,pm,an,cdv,ct,osl,rfl,lk,hcd⟩:=F.ex
 refine⟨f,_,Fz lk hcd S (fun vs H Q E h=>?_) fun A outer s H vs Q E hr h=>?_,b,mx,kp⟩
 ·obtain⟨ds,r,e,rp,_⟩:=h
  unfold fV at e
  split at e
  ·rename_i hl
   rw[rp.len];exact hl
  ·cases e
 obtain⟨ds,r,e,rp,q⟩:=h
 unfold fV at e
 split at e
 ·rename_i hl
  refine⟨_,hbody f cdv A outer s H E hr,?_⟩
  obtain⟨⟨E',fl⟩,e1,e⟩:=Za.mp e
  refine⟨H,aZ N.length ds,[],[],E',fl,⟨H,[],i3 rp (by omega)⟩,rfl,e1,?_⟩
  cases fl with
  |nx=>
   cases e
   rintro σ' H' ⟨F',A',fr'⟩
   exact q _ _ (fr'.bf.trans fr'.fh) .non
  |bk=>cases e
  |ct=>cases e
  |rt r'=>
   rintro σ' v H' ⟨F',A',fr'⟩
   obtain⟨s1,s2⟩:=fr'.resultO e
   exact q v H' s1 s2
 ·cases e
theorem CT{X:Cx}{k:Nat}{x:Str}{ps:List Str}{c:List PyData→Option Sl}{p pos:Pos}{e:Expr}{es:List Expr}{m:Bool}{g:j0}(D:OwnH X.prog X.w X.K X.mg X.base k x ps (eN X.K c))(hr:RoomH k X.A)(hg:Gl X x)(ha:AX X (e::es) m g)
  (hdb:(x == ("__debug__":Str))=false:=by decide) (he:starEach (e::es) X.env=(false,eval e X.env)::starEach es X.env:=by rfl) (hpl:(backTo pos (starEach es X.env)).any (·.1)=false:=by rfl):
  EX X (.Call (.Name x p) (e::es) [] pos) m (aw c g):=by
 obtain⟨f,fd,F,b,mx,kp⟩:=D.ex
 have hc:PE X (.Call (.Name x p) (e::es) [] pos) (yV (eN X.K c) [] E0 (ra X.K m g)):=by
  intro pins s σ H Q I h
  refine wpAny_Call_Name_kw (eI I hg mx ?_ hdb)
  refine callWith_K (h₀:=X.base) I.ok.mod.kin kp (bR (ha pos pins s σ H _ I h) fun us s1 ⟨vs,H1,I1,r,q⟩=>⟨I1.kIn,?_⟩) he hpl
  have q:eN X.K c (vs++[]) H1 Q E0:=q
  rw[tR]at q
  have hlen:(us++[]).length=ps.length:=by rw[tR,←r.length];exact F.len _ _ _ _ q
  have bd:=b s1 us I1.kIn hlen
  rw[tR]at bd
  refine wpAny_call (codeAny_mono (F.run X.A X.stack s1 H1 ⟨us,[]⟩ us vs Q E0 hr I1.env0 bd r q) fun rr s' hq=>?_)
  cases rr with
  |error e=>exact False.elim hq
  |ok fl=>
   cases fl with
   |ret u=>exact I1.after hq
   |next=>exact False.elim hq
   |brk=>exact False.elim hq
   |cont=>exact False.elim hq
 refine bn hc fun σ H Q z=>?_
 obtain⟨B,E,xs,Xs,res,E',fr,cl,e,q⟩:=z
 obtain⟨⟨rs,E1⟩,e1,e⟩:=Za.mp e
 obtain⟨ds,e2,e⟩:=Za.mp e
 obtain⟨r,e3,e⟩:=Zab.mp e
 cases e
 refine⟨B,E,xs,Xs,rs,E1,fr,cl,e1,fun vs H1 hl ⟨F,A,fr1⟩=>?_⟩
 obtain⟨r1,A',fr2⟩:=fr1.looks hl e2
 exact⟨ds,res,e3,by rw[tR];exact r1,fun v H' g q'=>q v H' (fr2.told g q')⟩
end PL
namespace PL
open PySem PySem.Spec PyProof.Rows L2 Nh
section
variable {M:Model} {A:Around} {E:Value→Shared→Prop} {s:Shared}
theorem sS{base h:Heap}{env:Env}{outer:List Env}{L e:Addr}{cls:Value}{args:List Value}{Q:Unit→Shared→Prop}
  (hfr:A.frames=some (env::outer)) (hf:env.frame=some L) (hkb:base.StaysIn h) (hl:h.FunFrames base (env::outer)) (hx:Heap.MadeExcOf h s.heap e cls args)
  (hQ:∀h' t,Heap.HeldW base (env::outer) e cls (.ref t) L h'→s.heap.UpToSlots h'→Q () {s with heap:=h'}):wpAny M A (noteFrame (.ref e) env) Q E s:=by
 obtain⟨t,he,htn,ht⟩:=hx.there
 have hen:base.get? e=none:=by
  cases hq:base.get? e with
  |none=>rfl
  |some o'=>have:=hkb e o' hq;rw[hx.new]at this;cases this
 have h1:(#[Value.ref t,.none,.none,.none,.bool false,.none]:Array Value)[1]? =some Value.none:=rfl
 unfold noteFrame
 simp only[hf]
 refine wpAny_bind (wpAny_field he rfl h1 ?_)
 rw[if_neg (show ¬((Value.none != Value.none)=true)from by decide)]
 exact wpAny_entryW (a0:=.ref t) hfr (hl.of_keeps fun b o hb _=>⟨o,hx.keeps b o hb,rfl⟩) hf he (fun b o hb=>hx.keeps b o (hkb b o hb)) hen rfl (by simp) rfl fun h' ⟨x1,x2,x3,x4⟩=>hQ h' t ⟨x1,hen,x2,x3⟩ x4
theorem uI{Hf:Hp}{base h:Heap}{env:Env}{outer:List Env}{L e:Addr}{cls:Value}{args:List Value}{Q:Unit→Shared→Prop}
  (hfr:A.frames=some (env::outer)) (hf:env.frame=some L) (hkb:base.StaysIn h) (hl:h.FunFrames base (env::outer)) (hx:Heap.MadeExcOf h s.heap e cls args)
  (hQ:∀h' t,HeldC Hf base (env::outer) e cls (.ref t) L h'→s.heap.UpToSlots h'→Q () {s with heap:=h'}):wpAny M A (noteFrame (.ref e) env) Q E s:=
 m5 (P:=fun h'=>∃t,Heap.HeldW base (env::outer) e cls (.ref t) L h'∧s.heap.UpToSlots h') (l_ _ _) (sK hx) (fun k=>sS hfr hf hkb hl hx fun h' t a b=>k h' ⟨t,a,b⟩) fun h' ⟨t,a,b⟩ z=>hQ h' t (.of a z) b
theorem pA{Hf:Hp}{base:Heap}{env:Env}{l:List Env}{L e:Addr}{cls a0:Value}(hf:env.frame=some L)(hh:HeldC Hf base l e cls a0 L s.heap)
  (hE:∀h',HeldC Hf base l e cls a0 L h'→s.heap.UpToSlots h'→E (.ref e) {s with heap:=h'}):cameBackBy M A env E (.ref e) s:=by
 obtain⟨hkb,hen,hl,⟨oe,vs,T,oT,ts,he,hcls,hd,h1,hnT,hTe,hT,hdT,h3⟩,c0⟩:=hh
 have hsz3:3 < ts.size:=(Array.getElem?_eq_some_iff.mp h3).1
 have other:∀b,b≠T→(s.heap.update T (Obj.mapFields (·.setIfInBounds 3 ((some L).elim Value.none fun f=>rawInt f)))).get? b=s.heap.get? b:=
  fun b hb=>vp _ _ (Ne.symm hb)
 have noRecord:∀b o,s.heap.get? b=some o→(∀vs,o.data≠ .fields vs)→b≠T:=fun b o hb hnf q=>by
  rw[q,hT]at hb;injection hb with hb;subst hb;exact hnf ts hdT
 unfold cameBackBy
 refine wpAny_bind (wpAny_field he hd h1 ?_)
 rw[if_neg (show ¬((Value.ref T == Value.none)=true)from by simp)]
 rw[hf]
 unfold setFlight
 refine wpAny_bind (wpAny_field he hd h1 ?_)
 rw[if_pos (show(Value.ref T != Value.none)=true from by simp)]
 refine wpAny_setField hT hdT hsz3 (hE _ ⟨fun b o hbo=>(other b fun q=>by rw[q,hnT]at hbo;cases hbo).trans (hkb b o hbo),hen,
  hl.of_keeps fun b o hb hnf=>⟨o,(other b (noRecord b o hb hnf)).trans hb,rfl⟩,?_⟩ fun b o hb hnf=>⟨o.slots,(other b (noRecord b o hb hnf)).trans hb⟩)
 exact⟨⟨oe,vs,T,_,_,(other e (Ne.symm hTe)).trans he,hcls,hd,h1,hnT,hTe,vq _ hT (Obj.isFreed_of_fields (Obj.data_mapFields hdT _)),Obj.data_mapFields hdT _,by simp[hsz3]⟩,CtxN.upd c0 (uB (by decide))⟩
end
def iI(g:fZ)(b:cI)(r:gb):List PyData→gb
 |[]=>fun _=>none
 |d::ds=>fun E=>(g d E).bind fun E1=>match r E1 with
  |some x=>some x
  |none=>match b E1 with
   |some (E2,.nx)=>iI g b r ds E2
   |some (E2,.ct)=>iI g b r ds E2
   |_=>none
def Hr(it:ij)(g:fZ)(b:cI)(r:gb):gb:=fun E=>(it E).bind fun a=>iI g b r a.1 a.2
def Ao(X:Cx)(mk:Bool)(n:Str)(B:Hp)(E':List Sl)(e:Value)(s':Shared):Prop:=∃pins σ C H' ea,e=.ref ea∧nsIn X.K mainGlobals n=some (some (.ref C))∧Frm X.K B σ H' E' [] []∧
 ((mk=true∧∃s h' vs,Inv X pins σ H' s∧Heap.MadeExcOf s.heap h' ea (.ref C) vs∧s'={s with heap:=h'})∨
  (∃H s a0 Bb,Inv X pins σ H s∧s'.os=s.os∧AllBare s'.gens∧FlyC H' Bb X.stack ea (.ref C) a0 s'.heap∧HOk X.prog X.w H' Bb∧UnB (fT X.stack) H H' s.heap Bb s'.heap)∨
  (∃H s a0 Bb,Inv X pins σ H s∧s'.os=s.os∧AllBare s'.gens∧HeldC H' Bb X.stack ea (.ref C) a0 X.env.locals s'.heap∧HOk X.prog X.w H' Bb∧UnB (fT X.stack) H H' s.heap Bb s'.heap))
theorem Ap{X:Cx}{mk:Bool}{n:Str}{B:Hp}{E':List Sl}(hst:X.stack=X.env::X.outer)(hfr:X.env.frame=some X.env.locals):PassesOwn (model X.prog X.w) X.A X.env (Ao X mk n B E'):=by
 intro e s' h
 obtain⟨pins,σ,C,H',ea,rfl,ns,fr,h⟩:=h
 have came:∀(s1:Shared) (H:Hp) (s:Shared) (a0:Value) (Bb:Heap),Inv X pins σ H s→s1.os=s.os→AllBare s1.gens→HeldC H' Bb X.stack ea (.ref C) a0 X.env.locals s1.heap→HOk X.prog X.w H' Bb→UnB (fT X.stack) H H' s.heap Bb s1.heap→cameBackBy (model X.prog X.w) X.A X.env (Ao X mk n B E') (.ref ea) s1:=fun s1 H s a0 Bb I os bare hh hok u=>
  pA hfr hh fun h2 x1 x2=>⟨pins,σ,C,H',ea,rfl,ns,fr,.inr (.inr ⟨H,s,a0,Bb,I,os,bare,x1,hok,u.on hh.2.2.1 x2⟩)⟩
 show wpAny _ _ (noteFrame _ _) _ _ _
 rcases h with⟨hm,s,h',vs,I,hx,rfl⟩ |⟨H,s,a0,Bb,I,os,bare,fl,hok,u⟩ |⟨H,s,a0,Bb,I,os,bare,hh,hok,u⟩
 ·have st:=I.stack
  have hin:∀env∈X.stack,∀b,env.frame=some b→b∈fT X.stack:=fun env he b hb=>List.mem_filterMap.mpr ⟨env,he,hb⟩
  have ff:=funFrames_hide st hin
  refine uI (Hf:=H') (base:=hideAll s.heap (fT X.stack)) (h:=s.heap) (outer:=X.outer) (by rw[I.ok.frames,hst]) hfr (fun b o q=>of_hideAll _ q) (hst▸ff) hx fun h2 t x1 x2=>?_
  refine came {s with heap:=h2} H' s (.ref t) _ I rfl I.bare (hst▸x1) (fun a o e=>?_) ⟨fun b o e n hb=>hideAll_get _ e hb,fun b o e n hb=>?_,fun _ _ _ n=>n,fun b o e hb=>⟨o,hideAll_get _ e hb⟩,fun _ _ e=>e,fun _ _ _ e=>e,fun _ _ e=>e⟩
  ·refine(I.hok a o e).stay (fun b u hb q=>hideAll_get _ q fun z=>?_) (fun _ q=>q) fun _ _ q=>q
   have n:=I.stkFree b z
   rcases hb with rfl |hb
   ·rw[n]at e;cases e
   ·rw[n]at hb;cases hb
  ·obtain⟨_,o',ho',hd⟩:=st.mem hb
   rw[e]at ho'
   cases ho'
   exact x2 b o (hx.keeps b o e) hd
 ·refine i8 (outer:=X.outer) (by rw[I.ok.frames,hst]) hfr (hst▸fl) fun h2 x1 x2=>?_
  exact came {s' with heap:=h2} H s a0 Bb I os bare (hst▸x1) hok (u.on fl.2.2.1 x2)
 ·exact wpAny_noteFrame_againW hfr hh.2.2.2.1 (came s' H s a0 Bb I os bare hh hok u)
theorem FB{X:Cx}{mk:Bool}{tg iter:Expr}{body:List Stmt}{m:Bool}{it:ij}{g:fZ}{b:cI}{r:gb}{pos:Pos}(hst:X.stack=X.env::X.outer)(hfr:X.env.frame=some X.env.locals)(hc:X.calm=true)(hi:∀W,IX (X.wish W) tg iter m it)(hg:∀W,GX (X.wish W) tg g)(hb:qX X.nox body b)(hr:∀W,BC (X.wish W) mk true body r)
  (hs:∀x,foldedSetIterable iter X.env x=pure x:=by intro _;rfl):RX X mk true (.For tg iter body [] pos) (Hr it g b r):=fun pins s σ H B E n E' I fr e k=>by
 obtain⟨⟨ds,E1⟩,e1,e⟩:=Za.mp e
 have hbW:PSs (X.wish (Ao X mk n B E')) body (rs X.K b):=fun pins s σ H D I hw=>
  wpAny_mono (hb pins s σ H D (I.unwish.wish _) hw) (fun _ _ q=>SP.unwish (X:=X) q |> fun z=>by
   rename_i f s'
   cases f with
   |next=>obtain⟨σ',H',I,q⟩:=z;exact⟨σ',H',I.wish _,q⟩
   |brk=>obtain⟨σ',H',I,q⟩:=z;exact⟨σ',H',I.wish _,q⟩
   |cont=>obtain⟨σ',H',I,q⟩:=z;exact⟨σ',H',I.wish _,q⟩
   |ret u=>obtain⟨v,σ',H',I,r,q⟩:=z;exact⟨v,σ',H',I.wish _,r,q⟩) fun _ _ z=>z.elim
 have hbody:PSs (X.wish (Ao X mk n B E')) body (fun D σ H=>rs X.K b D σ H∨∃B' Ei,Same B B'∧Frm X.K B' σ H Ei [] []∧r Ei=some (n,E')):=fun pins s σ H D I hw=>by
  rcases hw with hw |⟨B',Ei,sb,fri,er⟩
  ·exact hbW pins s σ H D I hw
  ·refine wpAny_mono (hr _ pins s σ H B' Ei n E' I fri er fun pp _ σ' C H' ns fr'=>⟨fun hm=>?_,?_,fun _=>?_⟩) (fun _ _ z=>z.elim) fun _ _ z=>z
   ·exact fun s h' ea vs I hx=>⟨pp,σ',C,H',ea,rfl,ns,fr'.base sb,.inl ⟨hm,s,h',vs,I.unwish,hx,rfl⟩⟩
   ·exact fun H s ea s' a0 Bb I os bare fl hok u=>⟨pp,σ',C,H',ea,rfl,ns,fr'.base sb,.inr (.inl ⟨H,s,a0,Bb,I.unwish,os,bare,fl,hok,u⟩)⟩
   ·exact fun H s ea s' a0 Bb I os bare fl hok u=>⟨pp,σ',C,H',ea,rfl,ns,fr'.base sb,.inr (.inr ⟨H,s,a0,Bb,I.unwish,os,bare,fl,hok,u⟩)⟩
 have q:=yO (X:=X.wish (Ao X mk n B E')) (pos:=pos) (Ap hst hfr) hc (hi _) (hg _) hbody hs pins s σ H {nx:=fun _ _=>False,bk:=fun _ _=>False,ct:=fun _ _=>False,rt:=fun _ _=>False} (I.wish _) (by
  refine⟨B,E,[],[],ds,E1,fr,fun _=>Calm.nil rfl,e1,fun B' J H1 hB fr1 ok=>?_⟩
  refine⟨fun i mm σ' H'=>mm=ds.length - i∧i≤ds.length∧∃Ei,iI g b r (ds.drop i) Ei=some (n,E')∧Frm X.K B' σ' H' Ei [] [],⟨ds.length,by simp,Nat.zero_le _,E1,by simpa using e,fr1⟩,?_⟩
  rintro i mm σ' H' ⟨rfl,hi,Ei,ei,F,A,fri⟩
  obtain⟨go,stop⟩:=ok i (Same.refl _) fri
  by_cases hlt:i < ds.length
  ·obtain⟨d,ed⟩:∃d,ds[i]? =some d:=⟨ds[i],oR hlt⟩
   obtain⟨g1,yl⟩:=go d ed
   have edr:ds.drop i=d::ds.drop (i+1):=by
    rw[By hlt]
    congr 1
    exact Option.some.inj ((oR hlt).symm.trans ed)
   rw[edr]at ei
   obtain⟨E3,e3,ei⟩:=Za.mp ei
   refine .inr ⟨g1,fun σ2 H2=>∃Ej,iI g b r (ds.drop (i+1)) Ej=some (n,E')∧Frm X.K B' σ2 H2 Ej [] [],fun σ2 H2 ⟨Ej,ej,frj⟩=>⟨ds.length - (i+1),by omega,rfl,hlt,Ej,ej,frj⟩,fun x H2 y=>?_⟩
   refine⟨B',Ei,[],[],d,E3,yl x H2 y,Still.nil rfl,e3,fun σ3 H3 fr3=>?_⟩
   split at ei
   ·rename_i x er
    cases ei
    exact .inr ⟨B',E3,hB,fr3,er⟩
   ·split at ei
    ·rename_i E2 eb
     exact .inl ⟨B',E3,[],[],E2,.nx,fr3,rfl,eb,fun σ4 H4 fr4=>⟨E2,ei,fr4⟩⟩
    ·rename_i E2 eb
     exact .inl ⟨B',E3,[],[],E2,.ct,fr3,rfl,eb,fun σ4 H4 fr4=>⟨E2,ei,fr4⟩⟩
    ·cases ei
  ·have e0:i=ds.length:=by omega
   rw[e0,List.drop_length]at ei
   cases ei)
 refine wpAny_mono q (fun f s1 z=>?_) fun e1 s1 z=>?_
 ·cases f with
  |next=>obtain⟨_,_,_,z⟩:=z;exact z
  |brk=>obtain⟨_,_,_,z⟩:=z;exact z
  |cont=>obtain⟨_,_,_,z⟩:=z;exact z
  |ret u=>obtain⟨_,_,_,_,_,z⟩:=z;exact z
 ·obtain⟨pp,σ',C,H',ea,rfl,ns,fr',z⟩:=z
  obtain⟨k1,k2,k3⟩:=k pp (fun h=>nomatch h) σ' C H' ns fr'
  rcases z with⟨hm,s2,h2,vs,I2,hx,rfl⟩ |⟨H2,s2,a0,Bb,I2,os,bare,fl,hok,u⟩ |⟨H2,s2,a0,Bb,I2,os,bare,fl,hok,u⟩
  ·exact k1 hm s2 h2 ea vs I2 hx
  ·exact k2 H2 s2 ea s1 a0 Bb I2 os bare fl hok u
  ·exact k3 rfl H2 s2 ea s1 a0 Bb I2 os bare fl hok u
end PL
namespace PL
open PySem PySem.Spec PyProof.Rows L2 Nh
def v8(t ea:Addr):Array Value:=#[.ref t,.none,.ref ea,.none,.bool true,.none]
section
variable {prog:Program} {w:World} {A:Around} {E:Value→Shared→Prop} {env:Env}
variable {nm q:Str} {C N:Addr} {bs bm:List Value} {hdct:Bool} {sn:List Str} {sub:List Value} {ab:Bool} {col:Option Bool} {dd:Option Addr} {k0 k1 k2 k3 k5:Option Value} {B newId initId:String} {bmB:List Value}
theorem CU {s:Shared} {e:Addr} {vs:Array Value} {msg:String} {Q:Value→Shared→Prop} (hbase:bm.contains (.type "BaseException")=true) (hC:s.heap.get? C=some (excClassObj nm q C N bs bm hdct sn sub ab col dd k0 k1 k2 k3 k5 newId)) (he:s.heap.get? e=some {cls:=.ref C,data:=.fields vs}) (hQ:Q (.ref e) s):
  wpAny (model prog w) A (excFromValue (.ref e) msg) Q E s:=by
 have hcB:(Value.ref C::bm).contains (.type "BaseException")=true:=by rw[List.contains_cons,hbase,Bool.or_true]
 obtain⟨hp,g,d,tk,os⟩:=s
 unfold excFromValue
 repeat (first |with_reducible refine wpAny_loadPart_at he ?_ |with_reducible refine wpAny_loadPart_at hC ?_ |(with_reducible refine wpAny_isSubtype_exc hC ?_;rw[hcB]) |wp_step)
 exact hQ
theorem JB{α:Type}{s:Shared}{e:Addr}{vs:Array Value}{k:Bool→Sem α}{Q:α→Shared→Prop}(he:s.heap.get? e=some {cls:=.ref C,data:=.fields vs})(hQ:wpAny (model prog w) A (k false) Q E s):wpAny (model prog w) A (isType (.ref e) >>= k) Q E s:=by
 refine wpAny_bind ?_
 simp only[isType,loadHead]
 exact wpAny_bind (wpAny_loadPart he (wpAny_pure hQ))
theorem IF{α:Type}{s:Shared}{e:Addr}{vs:Array Value}{k:Value→Sem α}{Q:α→Shared→Prop}(hC:s.heap.get? C=some (excClassObj nm q C N bs bm hdct sn sub ab col dd k0 k1 k2 k3 k5 newId))(he:s.heap.get? e=some {cls:=.ref C,data:=.fields vs})(hQ:wpAny (model prog w) A (k (.ref e)) Q E s):wpAny (model prog w) A (raisedInstance (.ref e) >>= k) Q E s:=by
 refine wpAny_bind ?_
 obtain⟨hp,g,d,tk,os⟩:=s
 unfold raisedInstance
 repeat (first |with_reducible refine wpAny_loadPart_at he ?_ |with_reducible refine wpAny_loadPart_at hC ?_ |wp_step)
 exact hQ
theorem m8 {s:Shared} {x c:Sem Value} {Q:Flow→Shared→Prop} {ea:Addr} (hbase:bm.contains (.type "BaseException")=true) (hh:A.handled=some (.ref ea))
  (h:wpAny (model prog w) A x (fun v s₁=>∃e t oe L,v=.ref e∧s₁.heap.get? C=some (excClassObj nm q C N bs bm hdct sn sub ab col dd k0 k1 k2 k3 k5 newId)∧
   s₁.heap.get? e=some {cls:=.ref C,data:=.fields #[.ref t,.none,.none,.none,.bool false,.none]}∧ChainP ((ea,oe)::L)∧(∀p∈(ea,oe)::L,s₁.heap.get? p.1=some p.2∧p.1≠e)∧
   ∀h',h'.get? e=some {cls:=.ref C,data:=.fields (v8 t ea)}→Heap.SameBut e s₁.heap h'→E (.ref e) {s₁ with heap:=h'}) E s)
  (hc:∀{Q':Value→Shared→Prop} {s₁:Shared},Q' .none s₁→wpAny (model prog w) A c Q' E s₁):wpAny (model prog w) A (raiseStmt env (some x) (some c)) Q E s:=by
 unfold raiseStmt
 refine wpAny_bind (wpAny_mono h (fun v s₁ h₁=>?_) fun _ _ x=>x)
 obtain⟨e,t,oe,L,rfl,hC,he,hch,hnd,hE⟩:=h₁
 have nC:C≠e:=fun z=>by rw[z,he]at hC;cases hC
 refine wpAny_bind (wpAny_holding (hc ?_))
 refine wpAny_bind (wpAny_pure ?_)
 dsimp only
 refine wpAny_bind (wpAny_holding (CU hbase hC he ?_))
 rw[if_pos (show(Value.none == Value.none)=true from rfl)]
 refine wpAny_bind (wpAny_pure ?_)
 refine wpAny_bind (wpAny_setField_rec he (by simp) fun h1 he1 hs1=>?_)
 refine wpAny_bind (wpAny_setField_rec he1 (by simp) fun h2 he2 hs2=>?_)
 have sb:Heap.SameBut e s₁.heap h2:=hs1.trans hs2
 have he2':h2.get? e=some {cls:=.ref C,data:=.fields #[.ref t,.none,.none,.none,.bool true,.none]}:=he2
 have hC2:h2.get? C=some (excClassObj nm q C N bs bm hdct sn sub ab col dd k0 k1 k2 k3 k5 newId):=(sb.2 C nC).trans hC
 refine JB he2' ?_
 simp only[bQ]
 refine IF hC2 he2' ?_
 unfold setFlight
 refine wpAny_bind (wpAny_bind (wpAny_field he2' rfl (x:=.none) rfl ?_))
 rw[if_neg (by decide)]
 refine wpAny_pure ?_
 unfold raiseNew
 refine wpAny_bind (wpAny_handled ?_)
 rw[hh]
 simp only
 have ne:(Value.ref ea != Value.ref e)=true:=bne_iff_ne.mpr fun z=>(hnd _ (gk ..)).2 (Value.ref.inj z)
 rw[if_pos ne]
 refine wpAny_bind (wpAny_holding (sM hch (fun p hp=>(sb.2 p.1 (hnd p hp).2).trans (hnd p hp).1) (fun p hp z=>(hnd p hp).2 (Value.ref.inj z)) ?_))
 show wpAny _ _ (setField (.ref e) 2 (.ref ea) >>= _) _ _ _
 refine wpAny_bind (wpAny_setField_rec he2' (by simp) fun h3 he3 hs3=>?_)
 exact wpAny_throw (hE h3 he3 (sb.trans hs3))
theorem uJ{s:Shared}(F:ExcBaseFacts B newId initId bmB){mN:Str→Option Value}{x:Str}{np cpos pos p2:Pos}{j2:Nat}{args:List Expr}{Q:Flow→Shared→Prop}{ea:Addr}{oe:Obj}{L:List (Addr×Obj)}
  (hbase:bm.contains (.type "BaseException")=true) (hh:A.handled=some (.ref ea)) (hch:ChainP ((ea,oe)::L)) (hplain:(backTo cpos (starEach args env)).any (·.1)=false) (hni:mN "__init__"=none)
  (h:wpAny (model prog w) A (eval (.Name x np) env) (fun f s₁=>f=.ref C∧wpAny (model prog w) A (evalArgs (.ref C) true (backTo cpos (starEach args env)) [])
   (fun a s₂=>a.kw=[]∧a.pos.length≤sizeLine∧s₂.heap.get? C=some (excClassObj nm q C N bs bm hdct sn sub ab col dd k0 k1 k2 k3 k5 newId)∧s₂.heap.Ns N mN∧OwnTail s₂.heap bmB bm∧(∀p∈(ea,oe)::L,s₂.heap.get? p.1=some p.2)∧
    ∀h' h'' e t,Heap.MadeExcOf s₂.heap h' e (.ref C) a.pos→h''.get? e=some {cls:=.ref C,data:=.fields (v8 t ea)}→Heap.SameBut e h' h''→E (.ref e) {s₂ with heap:=h''}) E s₁) E s):
  wpAny (model prog w) A (exec (.Raise (some (.Call (.Name x np) args [] cpos)) (some (.Constant .none j2 p2)) pos) env) Q E s:=by
 rw[arm_exec_Raise]
 simp only[evalOpt,Option.map]
 refine wpAny_bind (wpAny_standAt (m8 (C:=C) (nm:=nm) (q:=q) (N:=N) (bs:=bs) (bm:=bm) (hdct:=hdct) (sn:=sn) (sub:=sub) (ab:=ab) (col:=col) (dd:=dd) (k0:=k0) (k1:=k1) (k2:=k2) (k3:=k3) (k5:=k5) (newId:=newId) hbase hh ?_ fun q=>wpAny_bind (wpAny_Constant_none (wpAny_bind (wpAny_standAt (wpAny_pure q))))))
 refine wpAny_bind (wpAny_mono (wpAny_Call_ofName (wpAny_mono h (fun f s₁ h₁=>?_) fun _ _ x=>x)) (fun v s₃ h₃=>wpAny_bind (wpAny_standAt (wpAny_pure h₃))) fun _ _ x=>x)
 obtain⟨rfl,h₁⟩:=h₁
 unfold callWith
 refine wpAny_bind (wpAny_holding (wpAny_mono h₁ (fun a s₂ h₂=>wpAny_bind (wpAny_standAt ?_)) fun _ _ x=>x))
 obtain⟨apos,akw⟩:=a
 obtain⟨hkw,hlen,hC,hn,T,hnd,h₂⟩:=h₂
 obtain rfl:akw=[]:=hkw
 obtain⟨hp,g,d,tk,os⟩:=s₂
 simp only[hplain]
 refine wpAny_bind (wpAny_keeperOf_exc hC ?_)
 refine wpAny_bind (wpAny_call_exc_subT (hrest:=hlen) F T hC hn hni fun h' e hm=>wpAny_bind (wpAny_holding (wpAny_point (wpAny_pure ?_))))
 obtain⟨t,ht,_,_⟩:=hm.there
 exact⟨e,t,oe,L,rfl,hm.keeps _ _ hC,ht,hch,fun p hp=>⟨hm.keeps _ _ (hnd p hp),fun z=>by have:=hnd p hp;rw[z]at this;have n:=hm.new;rw[this]at n;cases n⟩,fun h'' a b=>h₂ h' h'' e t hm a b⟩
end
def m9(ok:List Str)(n2:Str)(r:gb):gb:=fun E=>match r E with
 |some (n,E')=>if n∈ok then some (n2,E')else none
 |none=>none
theorem xQ{X:Cx}{pins:List (Addr×Obj)}{σ:L2.St}{H:Hp}{s:Shared}{ea:Addr}(I:Inv (Gv X ea) pins σ H s)(ok:X.Ok):Inv X pins σ H s:=
 ⟨ok,I.os,I.bare,I.base,I.loc,I.cell,I.free,I.freeC,I.pin,I.hok,I.len⟩
theorem CV{X:Cx}{mk:Bool}{body:List Stmt}{cn x2 tx:Str}{CH C2:Addr}{np hpos pos np2 p cpos rpos p2:Pos}{j j2:Nat}{ok:List Str}{r:gb}(hex:X.ex=[])(hst:X.stack=X.env::X.outer)(hfr:X.env.frame=some X.env.locals)(hg:Gl X cn)(hm:X.mg cn=some (.ref CH))
  (hok:∀n∈ok,∀C,nsIn X.K mainGlobals n=some (some (.ref C))→exmOne X.K (.ref C) (.ref CH)=some true) (hr:∀W,BC (X.wish W) false false body r) (hg2:Gl X x2) (Z:XC X.K X.mg x2 C2) (hdb:(cn == ("__debug__":Str))=false:=by decide) (yD:(x2 == ("__debug__":Str))=false:=by decide)
  (he:starEach [.Constant (.str tx) j p] X.env=[(false,eval (.Constant (.str tx) j p) X.env)]:=by rfl):
  RX X mk true (.Try body [.ExceptHandler (some (.Name cn np)) none [.Raise (some (.Call (.Name x2 np2) [.Constant (.str tx) j p] [] cpos)) (some (.Constant .none j2 p2)) rpos] hpos] [] [] pos) (m9 ok x2 r):=fun pins s σ H B E n E' I fr e k=>by
 unfold m9 at e
 split at e
 rotate_left
 ·cases e
 rename_i n1 E1 er
 split at e
 rotate_left
 ·cases e
 rename_i hc
 cases e
 refine wpAny_Try_except (wpAny_mono (hr (fun e s₁=>wpAny (model X.prog X.w) X.A (noteFrame e X.env) (fun _ s₂=>wpAny (model X.prog X.w) X.A (setFlight e none) (fun _ s₃=>wpAny (model X.prog X.w) X.A (handleBy e X.env [.ExceptHandler (some (.Name cn np)) none [.Raise (some (.Call (.Name x2 np2) [.Constant (.str tx) j p] [] cpos)) (some (.Constant .none j2 p2)) rpos] hpos]) (fun _ _=>False) X.xe s₃) X.xe s₂) X.xe s₁) pins s σ H B E n1 E' (I.wish _) fr er fun pp hp σ' C H' ns fr'=>⟨fun z=>(nomatch z),?_,fun z=>(nomatch z)⟩) (fun _ _ z=>z.elim) fun _ _ z=>z)
 cases hp rfl
 intro H1 s1 ea s' a0 Bb I1 os bare fly hokB u
 have I1:Inv X pins σ' H1 s1:=I1.unwish
 have ff:s'.heap.FunFrames Bb X.stack:=fly.2.2.1
 have fly':FlyC H' Bb (X.env::X.outer) ea (.ref C) a0 s'.heap:=hst▸fly
 have invAt:∀h5,Bb.StaysIn h5→s'.heap.UpToSlots h5→Inv X pins σ' H' {s' with heap:=h5}:=fun h5 st k=>by
  have u2:UnB (fT X.stack) H1 H' s1.heap Bb h5:=u.on ff k
  exact I1.call' (s':={s' with heap:=h5}) os (u2.un st I1.stkFree) (hokB.kept fun b o e=>st b o e) bare fun b z=>(nomatch z)
 refine i8 (by rw[I1.ok.frames,hst]) hfr fly' fun h4 held4 k4=>?_
 refine uE held4 fun h5 fly5 k5=>?_
 have I5:=invAt h5 fly5.1 (k4.trans k5)
 obtain⟨ob,hob,hobc⟩:=fly5.there
 have Z5:e9 ea C h5:=⟨ob,hob,hobc⟩
 refine wpAny_handleBy_cons (codeAny_handlers_test (eI (X:=Gv X ea) (km I5) hg hm ?_ hdb)) (by intro q;cases q)
 refine(PySem.W.exm_one (I5.kIn) (jR Z5) (hok n1 hc C ns)).here ?_
 refine codeAny_handlers_suite ?_
 refine kj fly5 fun h6 fly6 k6=>?_
 have I6:=invAt h6 fly6.1 ((k4.trans k5).trans k6)
 obtain⟨oe,vs,hoe,hoec,hoed,_⟩:=fly6.first
 have nB:Bb.get? ea=none:=fly6.2.1
 have hn6:H' ea=none:=by
  cases q:H' ea with
  |none=>rfl
  |some o=>
   obtain⟨z,e⟩:=lH (hokB ea o q)
   rw[nB]at e
   cases e
 obtain⟨ps,hcp,cv,r1,r2⟩:=fly6.2.2.2.2
 have hchn:ChainP ((ea,oe)::ps):=by
  obtain⟨o,ws,ho,hd,h2⟩:=cv
  rw[hoe]at ho
  cases ho
  exact⟨⟨ws,hd,h2⟩,r2,hcp⟩
 have pk:∀q∈(ea,oe)::ps,sR X H' h6 q:=fun q hq=>by
  obtain⟨ws,hd,_⟩:=gW hchn hq
  have gq:h6.get? q.1=some q.2∧H' q.1=none:=by
   rcases Zaf.mp hq with z |z
   ·subst z;exact⟨hoe,hn6⟩
   ·exact⟨fly6.1 q.1 q.2 (r1 q z).1,(r1 q z).2⟩
  refine⟨gq.1,gq.2,fun z=>?_,fun z=>?_,fun v z=>by rw[hd]at z;cases z⟩
  ·obtain⟨_,⟨o,_,_,ho,hdo,_⟩,_⟩:=I6.loc
   rw[←z]at ho
   have:=gq.1.symm.trans ho
   injection this with this
   rw[←this,hd]at hdo
   cases hdo
  ·have hz:q.1∈fT X.stack:=by rw[hst];unfold fT;rw[List.filterMap_cons,hfr];exact fJ _ z
   obtain⟨_,o',ho',hdn⟩:=(show h6.FunFrames Bb X.stack from hst▸fly6.2.2.1).mem hz
   rw[gq.1]at ho'
   cases ho'
   exact hdn ws hd
 have I6p:=Ho I6 pk
 obtain⟨tl,N,nm,qq,bs,hdct,sn,sub,ab,col,dd,k0,k1,k2,k3,k5,mN,hC,hN,hni,T⟩:=(Ak I6.ok.mod.kin Z.mg Z.ex).obj
 refine wpAny_execs_cons (wpAny_mono (uJ (Q:=fun _ _=>False) (C:=C2) (nm:=nm) (q:=qq) (N:=N) (bs:=bs) (bm:=tl) (hdct:=hdct) (sn:=sn) (sub:=sub) (ab:=ab) (col:=col) (dd:=dd) (k0:=k0) (k1:=k1) (k2:=k2) (k3:=k3) (k5:=k5) (mN:=mN) (ea:=ea) (oe:=oe) (L:=ps)
  PySem.F.excBase_ValueError (T.hasType PySem.F.excBase_ValueError.hasBase) rfl hchn (by rw[he];rfl) hni (eI (X:=Gv X ea) (km I6p) hg2 Z.mg ⟨rfl,?_⟩ yD)) (fun _ _ z=>z.elim) fun _ _ z=>z)
 have q1:=bZ (X:=Gv X ea) (pP (x:=tx) (j:=j) (pos:=p)) dG he cpos _ _ σ' H' (fun vs H1=>vs=[.str tx]∧H1=H') (km I6p) ⟨rfl,rfl⟩
 rw[he]at q1 ⊢
 refine Calls.evalArgs_plain (wpAny_mono q1 (fun vs s2 z=>?_) fun _ _ z=>z.elim)
 obtain⟨us,H2,I2,rv,eu,eH⟩:=z
 subst eu eH
 have I2:=xQ I2 I6.ok
 obtain⟨I2,pk2⟩:=Hq I2
 refine⟨rfl,by rw[←rv.length];exact Nat.le_of_ble_eq_true rfl,I2.bk _ _ hC,hN.keeps I2.bk,T.keeps I2.bk,fun q hq=>(pk2 q hq).1,fun h7 h8 e2 t hmd he2 sb=>?_⟩
 have st:=I2.stack
 have hin:∀env∈X.stack,∀b,env.frame=some b→b∈fT X.stack:=fun env he b hb=>List.mem_filterMap.mpr ⟨env,he,hb⟩
 have ffh:=funFrames_hide st hin
 have ne2:∀b o,s2.heap.get? b=some o→b≠e2:=fun b o e z=>by rw[z,hmd.new]at e;cases e
 have kp8:∀b o,s2.heap.get? b=some o→h8.get? b=some o:=fun b o e=>(sb.2 b (ne2 b o e)).trans (hmd.keeps b o e)
 have hen:(hideAll s2.heap (fT X.stack)).get? e2=none:=by
  cases hq:(hideAll s2.heap (fT X.stack)).get? e2 with
  |none=>rfl
  |some o'=>have:=of_hideAll _ hq;rw[hmd.new]at this;cases this
 have nfs:∀q∈(ea,oe)::ps,q.1∉fT X.stack:=fun q hq z=>by
  rcases Zaf.mp (I2.stkSub q.1 z)with w |w
  ·exact(pk2 q hq).2.2.1 w
  ·exact(pk2 q hq).2.2.2.1 w
 have cx:CtxN H2 (hideAll s2.heap (fT X.stack)) e2 h8:=⟨(ea,oe)::ps,hchn,⟨_,_,he2,rfl,rfl⟩,fun q hq=>⟨hideAll_get _ (pk2 q hq).1 (nfs q hq),(pk2 q hq).2.1⟩,fun q hq=>ne2 _ _ (pk2 q hq).1⟩
 show wpAny _ _ (noteFrame _ _) _ _ _
 refine m5 (Hf:=H2) (base:=hideAll s2.heap (fT X.stack)) (P:=fun h'=>Heap.HeldW (hideAll s2.heap (fT X.stack)) (X.env::X.outer) e2 (.ref C2) (.ref t) X.env.locals h'∧h8.UpToSlots h') (l_ _ _) cx (fun kk=>?_) fun h9 ⟨x1,x2⟩ z9=>?_
 ·have h1:(v8 t ea)[1]? =some Value.none:=rfl
  unfold noteFrame
  simp only[hfr]
  refine wpAny_bind (wpAny_field he2 rfl h1 ?_)
  rw[if_neg (show ¬((Value.none != Value.none)=true)from by decide)]
  exact wpAny_entryW (a0:=.ref t) (by show X.A.frames=_;rw[I1.ok.frames,hst]) ((hst▸ffh:s2.heap.FunFrames (hideAll s2.heap (fT X.stack)) (X.env::X.outer)).of_keeps fun b o hb _=>⟨o,kp8 b o hb,rfl⟩) hfr he2 (fun b o hb=>kp8 b o (of_hideAll _ hb)) hen rfl (by simp[v8]) rfl fun h' ⟨y1,y2,y3,y4⟩=>kk h' ⟨⟨y1,hen,y2,y3⟩,y4⟩
 ·have hh:HeldC H2 (hideAll s2.heap (fT X.stack)) X.stack e2 (.ref C2) (.ref t) X.env.locals h9:=by
   have q:=HeldC.of x1 z9
   rw[←hst]at q
   exact q
  refine pA hfr hh fun h10 y1 y2=>?_
  refine(k pins (fun z=>(nomatch z)) σ' C2 H2 Z.ns fr').2.2 rfl H2 s2 e2 {s2 with heap:=h10} (.ref t) _ I2 rfl I2.bare y1 (fun a o e=>?_) ⟨fun b o e n hb=>hideAll_get _ e hb,fun b o e n hb=>?_,fun _ _ _ n=>n,fun b o e hb=>⟨o,hideAll_get _ e hb⟩,fun _ _ e=>e,fun _ _ _ e=>e,fun _ _ e=>e⟩
  ·refine(I2.hok a o e).stay (fun b u hb q=>hideAll_get _ q fun z=>?_) (fun _ q=>q) fun _ _ q=>q
   have n:=I2.stkFree b z
   rcases hb with rfl |hb
   ·rw[n]at e;cases e
   ·rw[n]at hb;cases hb
  ·obtain⟨_,o',ho',hd⟩:=st.mem hb
   rw[e]at ho'
   cases ho'
   exact(x2.trans y2) b o (kp8 b o e) hd
end PL
namespace PL
open PySem PySem.Spec PyProof.Rows L2 Nh
def RE(X:Cx)(al:Bool)(e:Expr)(r:gb):Prop:=∀pins s σ H B E n E',Inv X pins σ H s→Frm X.K B σ H E [] []→r E=some (n,E')→
 (∀pins',(al=false→pins'=pins)→∀σ' C H',nsIn X.K mainGlobals n=some (some (.ref C))→Frm X.K B σ' H' E' [] []→Ai X C pins' σ' H'∧(al=true→sN X C pins' σ' H'))→wpAny (model X.prog X.w) X.A (eval e X.env) (fun _ _=>False) X.xe s
section
variable {X:Cx} {k:Nat} {x:Str} {ps:List Str} {r:gb} {p pos cpos:Pos} {e:Expr} {es:List Expr} {m al mk:Bool}
theorem v9 {q:List PyData→Option Str} {g:j0} (D:OwnR X.prog X.w X.K X.mg X.base k x ps (sQ X.K q)) (hr:Room k X.A) (hg:Gl X x) (ha:AX X.nox (e::es) m g) (hdb:(x == ("__debug__":Str))=false:=by decide) (he:starEach (e::es) X.env=(false,eval e X.env)::starEach es X.env:=by rfl) (hpl:(backTo pos (starEach es X.env)).any (·.1)=false:=by rfl):
  RE X al (.Call (.Name x p) (e::es) [] pos) (fA q g):=fun pins s σ H B E n E' I fr ee k=>
 k9 D hr hg ha hdb he hpl I fr ee fun C H' z f=>(k pins (fun _=>rfl) σ C H' z f).1
theorem FC {ps:List Str} {sp:Sp} {k:Nat} (D:Own X.prog X.w X.K X.mg X.base k x ps sp) (hg:Gl X x) (h:RE X al e r) (hdb:(x == ("__debug__":Str))=false:=by decide) (he:starEach (e::es) X.env=(false,eval e X.env)::starEach es X.env:=by rfl) (hpl:(backTo pos (starEach es X.env)).any (·.1)=false:=by rfl):
  RE X al (.Call (.Name x p) (e::es) [] pos) r:=fun pins s σ H B E n E' I fr ee k=>by
 obtain⟨f,fd,F,b,mx,kp⟩:=D
 refine wpAny_Call_Name_kw (eI I hg mx ?_ hdb)
 refine callWith_K (h₀:=X.base) I.ok.mod.kin kp ?_ he hpl
 rw[he]
 exact Calls.spliced_cons (wpAny_mono (h pins s σ H B E n E' I fr ee k) (fun _ _ z=>z.elim) fun _ _ z=>z)
theorem CW(h:RE X al e r):RX X mk al (.Return (some e) pos) r:=fun pins s σ H B E n E' I fr ee k=>
 wpAny_Return_some (bR (h pins s σ H B E n E' I fr ee fun pp q σ' C H' z f=>(k pp q σ' C H' z f).2) fun _ _ z=>z.elim)
end
theorem CY{a b:Env}(h:a.frame=b.frame)(e:Value):noteFrame e a=noteFrame e b:=by
 unfold noteFrame PySem.frameOf
 rw[h]
section
variable {M:Model} {A:Around} {E:Value→Shared→Prop} {s:Shared}
theorem sT{Hf:Hp}{base:Heap}{l:List Env}{L e:Addr}{cls a0:Value}{Q:Unit→Shared→Prop}(hh:HeldC Hf base l e cls a0 L s.heap)
  (hQ:∀h',HeldC Hf base l e cls a0 L h'→s.heap.UpToSlots h'→Q () {s with heap:=h'}):wpAny M A (setFlight (.ref e) (some L)) Q E s:=by
 obtain⟨hkb,hen,hl,⟨oe,vs,T,oT,ts,he,hcls,hd,h1,hnT,hTe,hT,hdT,h3⟩,c0⟩:=hh
 have hz:3 < ts.size:=(Array.getElem?_eq_some_iff.mp h3).1
 have other:∀b,b≠T→(s.heap.update T (Obj.mapFields (·.setIfInBounds 3 ((some L).elim Value.none fun f=>rawInt f)))).get? b=s.heap.get? b:=fun b hb=>vp _ _ (Ne.symm hb)
 have noRec:∀b o,s.heap.get? b=some o→(∀vs,o.data≠ .fields vs)→b≠T:=fun b o hb hnf q=>by
  rw[q,hT]at hb;injection hb with hb;subst hb;exact hnf ts hdT
 unfold setFlight
 refine wpAny_bind (wpAny_field he hd h1 ?_)
 rw[if_pos (show(Value.ref T != Value.none)=true from by simp)]
 refine wpAny_setField hT hdT hz (hQ _ ⟨fun b o q=>(other b fun z=>by rw[z,hnT]at q;cases q).trans (hkb b o q),hen,
  hl.of_keeps fun b o hb hnf=>⟨o,(other b (noRec b o hb hnf)).trans hb,rfl⟩,?_⟩ fun b o hb hnf=>⟨o.slots,(other b (noRec b o hb hnf)).trans hb⟩)
 exact⟨⟨oe,vs,T,_,_,(other e (Ne.symm hTe)).trans he,hcls,hd,h1,hnT,hTe,vq _ hT (Obj.isFreed_of_fields (Obj.data_mapFields hdT _)),Obj.data_mapFields hdT _,by simp[hz]⟩,CtxN.upd c0 (uB (by decide))⟩
theorem xR{Hf:Hp}{base:Heap}{env:Env}{l:List Env}{L e:Addr}{cls a0:Value}{what:String}{Q:Value→Shared→Prop}(hf:env.frame=some L)(hh:HeldC Hf base l e cls a0 L s.heap)
  (hE:∀h',HeldC Hf base l e cls a0 L h'→s.heap.UpToSlots h'→E (.ref e) {s with heap:=h'}):wpAny M A (PySem.passOn what (.ref e) env) Q E s:=by
 unfold PySem.passOn
 have hh':=hh
 obtain⟨hkb,hen,hl,⟨oe,vs,T,oT,ts,he,hcls,hd,h1,hnT,hTe,hT,hdT,h3⟩,c0⟩:=hh
 refine wpAny_bind (wpAny_field he hd h1 ?_)
 rw[if_neg (show ¬((Value.ref T == Value.none)=true)from by simp),hf]
 exact wpAny_bind (sT hh' fun h' a b=>wpAny_throw (hE h' a b))
end
theorem kn{h:Heap}{C:Addr}{o o':Obj}(e:h.get? C=some o)(nf:o'.isFreed=false):(h.update C fun _=>o').get? C=some o':=vq (fun _=>o') e nf
theorem iJ{h h' B B':Heap}:∀{l:List Env},(∀b,B.get? b=none→B'.get? b=none)→(∀b,B.get? b=none→h'.get? b=h.get? b)→h.FunFrames B l→h'.FunFrames B' l
 |[],_,_,_=>trivial
 |_::_,n,k,⟨a,⟨L,o,hf,hn,ho,hd⟩,r⟩=>⟨a,⟨L,o,hf,n L hn,(k L hn).trans ho,hd⟩,iJ n k r⟩
theorem HeldC.swap{Hf:Hp}{B h h':Heap}{l:List Env}{e:Addr}{cls a0:Value}{L C:Addr}{o o':Obj}(x:HeldC Hf B l e cls a0 L h)(hs:Heap.SameBut C h h')(eB:B.get? C=some o)(nr:∀vs,o.data≠ .fields vs)(eh:h'.get? C=some o')(nf:o'.isFreed=false):HeldC Hf (B.update C fun _=>o') l e cls a0 L h':=by
 obtain⟨k,hn,ff,⟨oe,vs,T,oT,ts,he,hc,hd,h1,hnT,hTe,hT,hdT,h3⟩,ps,cp,⟨oc,vc,hec,hdc,h2⟩,r1,r2⟩:=x
 have nC:∀b,B.get? b=none→b≠C:=fun b q z=>by rw[z,eB]at q;cases q
 have oth:∀b,b≠C→(B.update C fun _=>o').get? b=B.get? b:=fun b q=>vp _ _ (Ne.symm q)
 have same:∀b,B.get? b=none→h'.get? b=h.get? b:=fun b q=>hs.2 b (nC b q)
 have stil:∀b,B.get? b=none→(B.update C fun _=>o').get? b=none:=fun b q=>(oth b (nC b q)).trans q
 refine⟨fun b u q=>?_,stil e hn,iJ stil same ff,⟨oe,vs,T,oT,ts,(same e hn).trans he,hc,hd,h1,stil T hnT,hTe,(same T hnT).trans hT,hdT,h3⟩,ps,cp,⟨oc,vc,(same e hn).trans hec,hdc,h2⟩,fun p hp=>⟨?_,(r1 p hp).2⟩,r2⟩
 rotate_left
 ·refine(oth p.1 fun z=>?_).trans (r1 p hp).1
  obtain⟨ws,hw,_⟩:=gW cp hp
  have q:=(r1 p hp).1
  rw[z,eB]at q
  injection q with q
  exact nr ws (q▸hw)
 by_cases z:b=C
 ·subst z
  rw[kn eB nf]at q
  rw[eh];exact q
 ·rw[oth b z]at q
  exact(hs.2 b z).trans (k b u q)
theorem UnB.swap{fs:List Addr}{H H':Hp}{h B h2 h3:Heap}{C:Addr}{o oB o':Obj}(u:UnB fs H H' h B h2)(nC:C∉fs)(hH:H C=none)(e:h.get? C=some o)(eB:B.get? C=some oB)(nf:o'.isFreed=false)(hs:∀b,b≠C→h3.get? b=h2.get? b):
  UnB fs H H' (h.update C fun _=>o') (B.update C fun _=>o') h3:=by
 have oth:∀(g:Heap) b,b≠C→(g.update C fun _=>o').get? b=g.get? b:=fun g b q=>vp _ _ (Ne.symm q)
 refine⟨fun b p q n hb=>?_,fun b p q n hb=>?_,fun b p q n=>?_,fun b p q hb=>?_,u.tups,u.frzs,u.tbls⟩
 ·by_cases z:b=C
  ·subst z;rw[kn e nf]at q;rw[kn eB nf];exact q
  ·rw[oth h b z]at q;rw[oth B b z];exact u.keep b p q n hb
 ·have z:b≠C:=fun z=>nC (z▸hb)
  rw[oth h b z]at q
  obtain⟨sl,w⟩:=u.slot b p q n hb
  exact⟨sl,(hs b z).trans w⟩
 ·by_cases z:b=C
  ·subst z;exact u.free b o e hH
  ·rw[oth h b z]at q;exact u.free b p q n
 ·by_cases z:b=C
  ·subst z;exact⟨o',kn eB nf⟩
  ·rw[oth h b z]at q;obtain⟨w,hw⟩:=u.there b p q hb;exact⟨w,(oth B b z).trans hw⟩
theorem HOk.swap{P:Program}{w:World}{H:Hp}{B:Heap}{C:Addr}{o o':Obj}(x:HOk P w H B)(hn:H C=none):HOk P w H (B.update C fun _=>o'):=fun a u e=>by
 refine(x a u e).stay (fun b q hb z=>?_) (fun _ z=>z) fun _ _ z=>z
 rw[vp _ _ fun z2=>?_]
 ·exact z
 ·rcases hb with rfl |hb
  ·rw[←z2,hn]at e;cases e
  ·rw[←z2,hn]at hb;cases hb
def FD(M:Model)(A:Around)(E:Value→Shared→Prop)(cenv:Env)(r:Result)(s':Shared):Prop:=match r with
 |.ok _=>False
 |.error x=>∃m,s'.heap.Ns cenv.locals m∧∀h' m',h'.Ns cenv.locals m'→Heap.SameBut cenv.locals s'.heap h'→wpAny M A (PySem.passOn "comprehension.variables-let-go" x cenv:Sem Value) (fun _ _=>False) E {s' with heap:=h'}
section
variable {M:Model} {A:Around} {E:Value→Shared→Prop} {s:Shared} {env:Env}
theorem Aq{e:Expr}{scope:Scope}{pos:Pos}{newAcc first:Sem Value}{g:Comprehension}{gs:List Comprehension}{cl:List (Str×Addr)}{use:Option (Value→Sem Unit)}{Q:Value→Shared→Prop}
  (hcl:clausesOf e=g::gs) (hs:∀x,foldedSetIterable g.iter env x=pure x) (hclos:closureFor scope env=pure cl) (hk:scope.kind=.function) (hnm:∀x∈scope.names,x.2=.local→scope.names.lookup x.1=some .local)
  (h:wpAny M A first (fun x s₁=>wpAny M A (pyIter x) (fun it s₂=>wpAny M A newAcc (fun acc s₃=>wpAny M A (newFunctionEnv scope env.globals cl [] env.qual none .none (some env)) (fun cenv s₄=>
    codeAny M A (.compStart e 0 it acc {cenv with scope:=relabel scope env}) (FD M A E {cenv with scope:=relabel scope env}) s₄) E s₃) E s₂) E s₁) E s):
  wpAny M A (comprehension e scope env pos newAcc false first use) Q E s:=by
 unfold comprehension
 rw[hclos,hcl]
 refine wpAny_bind (bR h fun x s₁ h₁=>wpAny_bind (wpAny_standAt (wpAny_bind (wpAny_of_eq (hs x) (wpAny_bind (wpAny_holding (bR h₁ fun it s₂ h₂=>wpAny_standIf (wpAny_bind (bR h₂ fun acc s₃ h₃=>
  wpAny_bind (wpAny_pure (wpAny_bind (bR h₃ fun cenv s₄ h₄=>?_))))))))))))
 dsimp only
 refine wpAny_holding (wpAny_bind (wpAny_attempt (wpAny_holding (wpAny_run (codeAny_mono h₄ fun r s' hr=>?_)))))
 cases r with
 |ok f=>exact False.elim hr
 |error x=>
  obtain⟨m,hn,hr⟩:=hr
  refine wpAny_bind (wpAny_holding (wpAny_comp_letGo (cenv:={cenv with scope:=relabel scope env}) hk _ s' m (fun y hy hl=>?_) hn fun h' m' hn' hs'=>wpAny_mono (hr h' m' hn' hs') (fun _ _ z=>z.elim) fun _ _ z=>z))
  exact lookup_relabel_local (hnm y (List.mem_filter.mp (List.mem_reverse.mp hy)).1 hl)
end
section
variable {prog:Program} {w:World} {A:Around} {R:Result→Shared→Prop} {s:Shared}
theorem Ar{elt target iter:Expr}{scope:Scope}{pos:Pos}{it acc:Value}{env:Env}(I:Nat→Shared→Prop)
  (turn:∀n s,I n s→wpAny (model prog w) A (pyNext it) (fun r s₁=>match r with
   |none=>R (.ok .next) s₁
   |some v=>wpAny (model prog w) A (letOwnedTupleGo target it v) (fun _ s₁'=>wpAny (model prog w) A (assign target env v) (fun _ s₂=>
      wpAny (model prog w) A (eval elt env) (fun x s₄=>wpAny (model prog w) A (call (.builtin "list.append") [acc,x]) (fun _ s₅=>∃m,m < n∧I m s₅) (fun _ _=>False) s₄) (notedBy (model prog w) A env fun x s'=>R (.error x) s') s₂)
     (fun _ _=>False) s₁') (fun _ _=>False) s₁) (fun _ _=>False) s)
  (n:Nat) (h:I n s):codeAny (model prog w) A (.compLoop (.ListComp elt [⟨target,iter,[],0⟩] scope pos) 0 it acc env) R s:=by
 refine codeAny_loop rfl I (fun n s hI=>?_) n h
 show wpAny _ A ((compTurn (.ListComp elt [⟨target,iter,[],0⟩] scope pos) 0 it acc env).onRaise (fun x=>do noteFrame x env;theTreesLotGoes x)) _ _ s
 refine wpAny_noted ?_
 rw[compTurn_list]
 refine wpAny_bind (wpAny_standAt (wpAny_bind (wpAny_mono (turn n s hI) (fun r s₁ h₁=>?_) fun _ _ z=>z.elim)))
 cases r with
 |none=>exact wpAny_pure h₁
 |some v=>
  refine wpAny_bind (wpAny_mono h₁ (fun _ s₁' h₁'=>wpAny_bind (wpAny_mono h₁' (fun _ s₂ h₂=>wpAny_bind (wpAny_tests_nil ?_)) fun _ _ z=>z.elim)) fun _ _ z=>z.elim)
  exact wpAny_bind (wpAny_bind (bR h₂ fun x s₄ h₄=>wpAny_bind (wpAny_mono h₄ (fun _ s₅ h₅=>wpAny_pure (wpAny_pure ⟨rfl,h₅⟩)) fun _ _ z=>z.elim)))
end
def gf(tg:fZ)(el:aD)(re:gb):List PyData→List Sl→Option Str
 |[],_=>none
 |d::ds,E=>(tg d E).bind fun E1=>match re E1 with
  |some x=>some x.1
  |none=>(el E1).bind fun c=>(frz c.2 c.1).bind fun e=>gf tg el re ds e.2
def sU(js:List (Option Nat))(it:ij)(tg:fZ)(el:aD)(re:gb):gb:=fun E=>(it E).bind fun a=>if a.1.length≤1000000 then (gf tg el re a.1 (jN js a.2)).map fun n=>(n,a.2)else none
def Hs(X Xc:Cx)(n:Str)(H2:Hp)(e:Value)(s':Shared):Prop:=∃pp σ' C H' ea H s a0 Bb,e=.ref ea∧nsIn X.K mainGlobals n=some (some (.ref C))∧Same H2 H'∧Inv Xc pp σ' H s∧s'.os=s.os∧AllBare s'.gens∧FlyC H' Bb X.stack ea (.ref C) a0 s'.heap∧HOk X.prog X.w H' Bb∧UnB (fT X.stack) H H' s.heap Bb s'.heap
section
variable {X:Cx} {elt target iter:Expr} {scope sc:Scope} {cl:List (Str×Addr)} {N:List Str} {pos:Pos} {js:List (Option Nat)} {m m3:Bool} {it:ij} {tg:fZ} {el:aD} {re:gb}
theorem As{use:Option (Value→Sem Unit)}{Qv:Value→Shared→Prop}(K:CompOk X scope sc cl N js)(hst:X.stack=X.env::X.outer)(hfr:X.env.frame=some X.env.locals)(hc:X.calm=true)(hi:IX X.nox target iter m it)
  (hgg:∀C s₀ H₀ fp,GX (X.comp sc cl N C s₀ H₀ fp) target tg) (hee:∀C s₀ H₀ fp,EX (X.comp sc cl N C s₀ H₀ fp) elt m3 el) (hre:∀C s₀ H₀ fp W,RE ((X.comp sc cl N C s₀ H₀ fp).wish W) false elt re)
  (hs:∀x,foldedSetIterable iter X.env x=pure x) {pins:List (Addr×Obj)} {s:Shared} {σ:L2.St} {H B:Hp} {E E':List Sl} {n:Str} (I:Inv X pins σ H s) (fr:Frm X.K B σ H E [] []) (er:sU js it tg el re E=some (n,E'))
  (k:∀C H',nsIn X.K mainGlobals n=some (some (.ref C))→Frm X.K B σ H' E' [] []→sN X C pins σ H'):
  wpAny (model X.prog X.w) X.A (comprehension (.ListComp elt [⟨target,iter,[],0⟩] scope pos) scope X.env (firstIterPos [⟨target,iter,[],0⟩] pos) (newList []) false (firstIter [⟨target,iter,[],0⟩] X.env) use) Qv X.xe s:=by
 obtain⟨⟨ds,E1⟩,e1,er⟩:=Za.mp er
 simp only at er
 split at er
 case isFalse=>cases er
 rename_i hlen
 obtain⟨n',e2,er⟩:=Zab.mp er
 cases er
 have h0:=hi pins s σ H (fun J H2=>∃B',Same B B'∧Frm X.K B' σ H2 E' [] []∧qa X.K B' J ds) (I.wish _) ⟨B,E,[],[],ds,E',fr,fun _=>Calm.nil rfl,e1,fun B' J H' a b c=>⟨B',a,b,c⟩⟩
 refine Aq (use:=use) rfl hs K.clos K.kind K.names (wpAny_mono h0 (fun v s1 h1=>wpAny_mono h1 (fun itv s2 h2=>?_) fun _ _ z=>z.elim) fun _ _ z=>z.elim)
 obtain⟨it,fp,tn,J,H2,e,I2,T,st2,f2,B',hB,⟨F1,A1,fr1⟩,ok⟩:=h2
 subst e
 have I2:=I2.unwish
 refine wpAny_newObj_type (wpAny_newFunctionEnv K.nocell (by intro y hy;simp at hy) (fun h₁ hns₁ hsb₁=>?_) K.kind)
 dsimp only at hns₁ hsb₁ ⊢
 have I3:Inv X pins σ (upd H2 s2.heap.objs.size (.lst [])) {s2 with heap:=s2.heap.push {cls:=.type "list",dict:=none,data:=.seq ([]:List Value).toArray}}:=I2.lnew (t':=s2.toks) (its:=[]) .nil (Nat.zero_le _)
 have hD0:H2 s2.heap.objs.size=none:=I2.hok.fresh (dE _)
 generalize hP:s2.heap.push {cls:=.type "list",dict:=none,data:=.seq ([]:List Value).toArray}=h3 at hns₁ hsb₁ I3 ⊢
 generalize hD:s2.heap.objs.size=D at hD0 I3 ⊢
 have hsz3:h3.objs.size=D+1:=by rw[←hP,rh,hD]
 have old3:∀b o,s2.heap.get? b=some o→h3.get? b=some o:=fun b o e=>by rw[←hP];exact dF _ e
 have old:∀b o,h3.get? b=some o→h₁.get? b=some o:=fun b o e=>hsb₁.extBut b o (eF (dM e)) (dF _ e)
 have fpD:∀b∈fp,b < D:=fun b hb=>by
  obtain⟨o,e,_⟩:=T.obj _ _ st2 b hb
  rw[←hD];exact dM e
 have frD:∀b∈fp,(upd H2 D (.lst [])) b=none:=fun b hb=>by rw[ar (eF (fpD b hb))];exact(f2 b hb).1
 have f3:∀b∈fp,ip X pins (upd H2 D (.lst [])) b:=fun b hb=>⟨frD b hb,(f2 b hb).2⟩
 have Hfresh:∀a,h3.objs.size≤a→(upd H2 D (.lst [])) a=none:=fun a ha=>I3.hok.fresh ha
 have cellC:∀x c,X.env.cells.lookup x=some c→c < h3.objs.size:=fun x c e=>by
  obtain⟨v,q⟩:=I3.cell x c e
  exact q.lt
 have YOk:(X.comp sc cl N h3.objs.size {s2 with heap:=h3} (upd H2 D (.lst [])) fp).Ok:=by
  refine⟨I3.ok.mod,?_,I3.ok.glob,I3.ok.blt,dE _,fun x y c e1 e2=>I3.ok.inj x y c (K.same x c e1) (K.same y c e2),fun x hx=>K.has x hx,fun x c hf _=>absurd hf (by intro z;cases z),I3.ok.hd,I3.ok.frames,.inl rfl,fun b hb=>⟨?_,fun x c e=>(f2 b hb).2.2.2.2.1 x c (K.same x c e)⟩,
   I3.bs,kK I3.ok.bsz I3.sz,fun b o e hb=>?_,fun b hb hm=>?_,I3.stack,I3.stkFree,I3.tab⟩
  ·rw[←K.rel];exact K.kind
  ·exact eF (by rw[hsz3];exact vt (fpD b hb))
  ·rcases(f2 b hb).2.2.2.1 with z |z
   ·exact I3.ok.noex b o e z
   ·exact absurd (jH (dM (I3.ok.bs b o e).1) z) (Nat.lt_irrefl _)
  ·rcases Zaf.mp (I3.stkSub b hm)with z |z
   ·exact(f2 b hb).2.1 z
   ·exact(f2 b hb).2.2.1 z
 have IY:Inv (X.comp sc cl N h3.objs.size {s2 with heap:=h3} (upd H2 D (.lst [])) fp) [] (slots js σ) (upd H2 D (.lst [])) {s2 with heap:=h₁,toks:=s2.toks+([]:List (Str×Value)).length}:=by
  refine⟨YOk,rfl,I3.bare,Un.kept old,⟨_,hns₁,fun i x v e1 e2 e3=>?_⟩,fun x c e=>?_,Hfresh _ (dE _),fun x c e=>I3.freeC x c (K.same x c e),fun p hp=>absurd (show p∈([]:List (Addr×Obj))from hp) (by simp),I3.hok.kept old,?_⟩
  ·unfold slots at e2
   rw[q_]at e2
   cases ej:js[i]? with
   |none=>rw[ej]at e2;cases e2
   |some jo=>
    rw[ej]at e2
    cases jo with
    |none=>cases e2
    |some j=>
     obtain⟨y,n1,n2,k1,k2⟩:=K.from_ i j ej
     have exy:y=x:=Option.some.inj (n1.symm.trans e1)
     subst exy
     have e2':(σ[j]?).join=some v:=Option.some.inj e2
     have e4:σ[j]? =some (some v):=by
      cases es:σ[j]? with
      |none=>rw[es]at e2';cases e2'
      |some w=>rw[es]at e2';exact congrArg some e2'
     obtain⟨m,_,hl⟩:=I3.loc
     obtain⟨u,ru,lk⟩:=hl j y v n2 e4 (by
      rcases k2 with z |z
      ·exact .inr (.inl z)
      ·exact .inr (.inr z))
     refine⟨u,ru,.inr ⟨k1,?_⟩⟩
     obtain⟨c,hcl⟩:=K.has y k1
     refine⟨c,hcl,?_⟩
     rcases lk with⟨z,_⟩ |⟨_,c',e5,ic⟩
     ·rcases k2 with q |q
      ·rw[q]at z;cases z
      ·rw[q]at z;cases z
     ·have:c'=c:=Option.some.inj (e5.symm.trans (K.same y c hcl))
      subst this
      obtain⟨o,ho,hd⟩:=ic
      exact⟨o,old _ _ ho,hd⟩
  ·obtain⟨v,o,ho,hd⟩:=I3.cell x c (K.same x c e)
   exact⟨v,o,old _ _ ho,hd⟩
  ·unfold slots;rw[dY];exact K.len
 generalize hC:h3.objs.size=C at hns₁ hsb₁ Hfresh cellC YOk IY ⊢
 have hCz:C=h3.objs.size:=hC.symm
 have B2:Same B' H2:=fr1.bf.trans fr1.fh
 have fr0:=(rR fr1 js).newl (ds:=[]) .nil hD0
 have nCs:C∉fT X.stack:=fun z=>by
  rcases Zaf.mp (I3.stkSub C z)with q |q
  ·exact absurd I3.lt (by rw[q]at hCz;rw[hCz];exact Nat.lt_irrefl _)
  ·exact I3.nofs (Nat.le_of_eq hCz.symm) q
 -- how a refusal leaves the block
 have leave:∀e s',Hs X (X.comp sc cl N C {s2 with heap:=h3} (upd H2 D (.lst [])) fp) n H2 e s'→notedBy (model X.prog X.w) X.A (X.comp sc cl N C {s2 with heap:=h3} (upd H2 D (.lst [])) fp).env (fun x s'=>FD (model X.prog X.w) X.A X.xe (X.comp sc cl N C {s2 with heap:=h3} (upd H2 D (.lst [])) fp).env (.error x) s') e s':=by
  rintro e s' ⟨pp,σ',Cc,H',ea,H5,s5,a0,Bb,rfl,ns,g2,I5,os,bare,fl,hok,u⟩
  unfold notedBy
  rw[CY (a:=(X.comp sc cl N C {s2 with heap:=h3} (upd H2 D (.lst [])) fp).env) (b:=X.env) rfl]
  refine i8 (outer:=X.outer) (by rw[I3.ok.frames,hst]) hfr (hst▸fl) fun h6 x1 x2=>?_
  have u6:=u.on fl.2.2.1 x2
  have I5f:H5 C=none:=I5.free
  obtain⟨mC,oC,es,ep,hoC,hdC,hrC⟩:=(show ∃m,s5.heap.Ns C m from let ⟨m,a,_⟩:=I5.loc;⟨m,a⟩)
  have bC:=u.keep C oC hoC I5f nCs
  refine⟨mC,⟨oC,es,ep,x1.1 C oC bC,hdC,hrC⟩,fun h7 m7 hn7 hs7=>?_⟩
  obtain⟨o7,es7,ep7,ho7,hd7,hr7⟩:=hn7
  have nf:o7.isFreed=false:=(Heap.get?_some_iff.mp ho7).2
  have hh7:=HeldC.swap (hst▸x1) hs7 bC (fun vs z=>by rw[hdC]at z;cases z) ho7 nf
  refine xR (base:=Bb.update C fun _=>o7) (l:=X.stack) hfr hh7 fun h8 y1 y2=>?_
  have IX:Inv X pins σ H5 s5:=I3.call' (ch:=fp) I5.os I5.base I5.hok I5.bare fun b hb=>⟨(f3 b hb).2.2.2.1,(f3 b hb).2.1,(f3 b hb).2.2.2.2.1,(f3 b hb).2.2.2.2.2⟩
  have IX':Inv X pins σ H5 {s5 with heap:=s5.heap.update C fun _=>o7,toks:=s5.toks}:=IX.turned (it:=C) (fun b o hb e=>by rw[vp _ _ (Ne.symm hb)];exact e) I5f (by rw[hCz];exact Ne.symm (eF I3.lt)) (.inr (by rw[hCz];exact I3.sz)) (fun x c e=>eF (hCz▸cellC x c e)) (fun p hp=>by rw[hCz];exact eF (dM (I3.pin p hp).1))
  refine k Cc H' ns ⟨_,_,(fr1.base hB).grow g2⟩ H5 _ ea _ a0 _ IX' os bare y1 (HOk.swap (o:=oC) hok (u.free C oC hoC I5f)) ?_
  exact(UnB.swap u6 nCs I5f hoC bC nf fun b hb=>hs7.2 b hb).on hh7.2.2.1 y2
 have loop:∀s₃:Shared,s₃={s2 with heap:=h₁,toks:=s2.toks+([]:List (Str×Value)).length}→
   codeAny (model X.prog X.w) X.A (.compLoop (.ListComp elt [⟨target,iter,[],0⟩] scope pos) 0 (.ref it) (.ref D) (X.comp sc cl N C {s2 with heap:=h3} (upd H2 D (.lst [])) fp).env)
    (FD (model X.prog X.w) X.A X.xe (X.comp sc cl N C {s2 with heap:=h3} (upd H2 D (.lst [])) fp).env) s₃:=by
  rintro s₃ rfl
  refine Ar (fun nn s'=>∃i σ' H',Inv (X.comp sc cl N C {s2 with heap:=h3} (upd H2 D (.lst [])) fp) [] σ' H' s'∧tn i s'.heap∧(∀b∈fp,H' b=none)∧nn=ds.length - i∧i≤ds.length∧∃Ei acc,acc.length=i∧gf tg el re (ds.drop i) Ei=some n∧Frm X.K H2 σ' H' Ei [.ref D] [.ow acc]) ?_ ds.length
   ⟨0,_,_,IY,T.keep _ _ _ st2 (fun b hb o e=>old b o (old3 b o e)),frD,rfl,Nat.zero_le _,_,[],rfl,by simpa using e2,⟨_,_,fr0⟩⟩
  rintro nn s4 ⟨i,σ4,H4,I4,st4,fr4,rfl,hil,Ei,acc,ha,ei,F',A',fri⟩
  have ff:∀{H':Hp},(∀b∈fp,H' b=none)→∀b∈fp,ip (X.comp sc cl N C {s2 with heap:=h3} (upd H2 D (.lst [])) fp) [] H' b:=fun hn b hb=>
   ⟨hn b hb,(YOk.exf b hb).1,YOk.exfs b hb,.inl hb,(YOk.exf b hb).2,fun p hp=>absurd (show p∈([]:List (Addr×Obj))from hp) (by simp)⟩
  have hg:=hgg C {s2 with heap:=h3} (upd H2 D (.lst [])) fp
  have he:=hee C {s2 with heap:=h3} (upd H2 D (.lst [])) fp
  obtain⟨go,stop⟩:=ok i B2 fri
  by_cases hlt:i < ds.length
  case neg=>
   have e0:i=ds.length:=by omega
   rw[e0,List.drop_length]at ei
   cases ei
  obtain⟨d,ed⟩:∃d,ds[i]? =some d:=⟨ds[i],oR hlt⟩
  obtain⟨g1,yl⟩:=go d ed
  have edr:ds.drop i=d::ds.drop (i+1):=by
   rw[By hlt]
   congr 1
   exact Option.some.inj ((oR hlt).symm.trans ed)
  rw[edr]at ei
  obtain⟨E3,e3,ei⟩:=Za.mp ei
  refine bR (T.item (X.comp sc cl N C {s2 with heap:=h3} (upd H2 D (.lst [])) fp) rfl rfl rfl hc i [] s4 σ4 H4 _ I4 (ff fr4) st4 g1) fun r s5 ⟨u,hr,h5⟩=>?_
  subst hr
  refine bR h5 fun _ s6 ⟨x,H6,I6,r6,y6,st6,fr6⟩=>?_
  have I6':=I6.pinned (ff fr6) (T.obj _ _ st6)
  refine bR (hg _ s6 σ4 H6 x u (fun σ7 H7=>Frm X.K H2 σ7 H7 E3 [.ref D] [.ow acc]) I6' r6 ⟨H2,Ei,[.ref D],[.ow acc],d,E3,yl x H6 y6,(fun s hs=>by rw[Zak.mp hs];rfl),e3,fun σ3 H3 f3=>f3⟩) fun _ s7 ⟨σ7,H7,I7,F7,A7,fr7⟩=>?_
  split at ei
  ·rename_i x7 ex7
   cases ei
   obtain⟨A8,fr8⟩:=fr7.pop
   refine wpAny_mono (hre C {s2 with heap:=h3} (upd H2 D (.lst [])) fp (Hs X (X.comp sc cl N C {s2 with heap:=h3} (upd H2 D (.lst [])) fp) x7.1 H2) _ s7 σ7 H7 H2 E3 x7.1 x7.2 (I7.wish _) ⟨F7,A8,fr8⟩ ex7 fun pp hp σ' Cc H' ns ⟨F9,A9,fr9⟩=>⟨?_,fun z=>nomatch z⟩) (fun _ _ z=>z.elim) fun e s' z=>leave e s' z
   exact fun H5 s5 ea s' a0 Bb I5 os bare fl hok u=>⟨pp,σ',Cc,H',ea,H5,s5,a0,Bb,rfl,ns,fr9.bf.trans fr9.fh,I5.unwish,os,bare,fl,hok,u⟩
  ·have back:∀{σ7:L2.St} {H7:Hp} {s7:Shared},Inv (X.comp sc cl N C {s2 with heap:=h3} (upd H2 D (.lst [])) fp) ([]++jI fp s6.heap) σ7 H7 s7→
     Inv (X.comp sc cl N C {s2 with heap:=h3} (upd H2 D (.lst [])) fp) [] σ7 H7 s7∧tn (i+1) s7.heap∧∀b∈fp,H7 b=none:=fun {σ7 H7 s7} I7=>
    ⟨I7.unpinned,T.keep _ _ _ st6 fun b hb o e=>(I7.pin (b,o) (jx _ (jx _ (c_ hb e)))).1,fun b hb=>by
     obtain⟨o,e,d⟩:=T.obj _ _ st6 b hb
     exact(I7.pin (b,o) (jx _ (jx _ (c_ hb e)))).2.1⟩
   obtain⟨⟨s5',E5⟩,e5,ei⟩:=Za.mp ei
   obtain⟨⟨d6,E6⟩,e6,ei⟩:=Za.mp ei
   have clm:Calm [Sl.ow acc]:=Calm.cons (fun s hs=>absurd hs (by simp)) rfl
   refine wpAny_mono (he _ s7 σ7 H7 (fun y H9=>Frm X.K H2 σ7 H9 E5 (y::[.ref D]) (s5'::[.ow acc])) I7 ⟨H2,E3,[.ref D],[.ow acc],s5',E5,⟨F7,A7,fr7⟩,fun _=>clm,e5,fun v H' f=>f⟩) (fun yv s9 ⟨y,H9,I9,r9,F9,A9,fr9⟩=>?_) fun _ _ z=>z.elim
   obtain⟨FA,AA,frA⟩:=fr9.frz0 e6
   obtain⟨v',C1,ev,rfl,w,ew,ry⟩:=frA.ext (k:=0) rfl
   cases ev;cases ew
   obtain⟨AB,frB⟩:=frA.pop
   obtain⟨bf,fh,tf,sl,nd,frn,len,pl⟩:=frB
   generalize hT:List.map some [V.ref D]++σ7=TT at sl
   generalize hS:[Sl.ow acc]++E6=SS at sl
   cases sl with
   |nil=>cases hS
   |cons q0 r0=>
    injection hT with h1 hT
    injection hS with h2 hS
    subst h1 h2 hT hS
    obtain⟨l',us,el',rfl,hl5,ru⟩:=q0
    cases el'
    have lu:=ru.len
    refine bR (iW _ s9 σ7 H9 (.ref D) [y] (.ref D) [yv] (fun v H'=>v=.non∧H'=upd H9 D (.lst (us++[y]))) I9 rfl (.cons r9 .nil) ⟨D,us,y,rfl,rfl,hl5,small (by omega),rfl,rfl⟩) fun _ sA ⟨_,HA,IA,_,_,eA⟩=>?_
    subst eA
    obtain⟨J1,J2,J3⟩:=back IA
    refine⟨ds.length - (i+1),by omega,i+1,σ7,_,J1,J2,J3,rfl,hlt,E6,acc++[d6],by simp[ha],ei,FA,_,bf,fun b o qb=>?_,?_,.cons (A:=[D]) ⟨D,us++[y],rfl,rfl,upd_same,ru.snoc ry⟩ (r0.mono fun o s C hs hC qq=>qq.stay (Same.refl _) (fun b hb=>ar fun z=>?_) fun z=>?_),nd,frn,rfl,pl⟩
    ·have lF:FA D=none:=frn D (by simp)
     rw[ar (fun z=>by rw[z,lF]at qb;cases qb)]
     exact fh _ _ qb
    ·rw[my hl5];exact tf
    ·have:=hC b hb
     rw[z]at this
     exact(List.nodup_cons.mp nd).1 this
    ·have:=pl s hs
     cases s <;> simp[Sl.isAl,Sl.isBr]at this z
 rw[K.rel]
 exact codeAny_compStart_list (loop _ rfl) (T.self _ 0 _ _ _ (T.keep _ _ _ st2 (fun b hb o e=>old b o (old3 b o e))) (loop _ rfl))
theorem CZ(K:CompOk X scope sc cl N js)(hst:X.stack=X.env::X.outer)(hfr:X.env.frame=some X.env.locals)(hc:X.calm=true)(hi:IX X.nox target iter m it)(hgg:∀C s₀ H₀ fp,GX (X.comp sc cl N C s₀ H₀ fp) target tg)(hee:∀C s₀ H₀ fp,EX (X.comp sc cl N C s₀ H₀ fp) elt m3 el)(hre:∀C s₀ H₀ fp W,RE ((X.comp sc cl N C s₀ H₀ fp).wish W) false elt re)
  (hs:∀x,foldedSetIterable iter X.env x=pure x:=by intro _;rfl):RE X true (.ListComp elt [⟨target,iter,[],0⟩] scope pos) (sU js it tg el re):=fun pins s σ H B E n E' I fr er k=>by
 rw[eval_ListComp]
 exact As (use:=none) K hst hfr hc hi hgg hee hre hs I fr er fun C H' ns f=>(k pins (fun _=>rfl) σ C H' ns f).2 rfl
end
end PL
namespace NhSG
set_option autoImplicit false
open PySem PyProof PyProof.Rows PySem.W
abbrev Ky:=Int×List Nat
def e8(a b:Ky):Bool:=decide (a.1 < b.1)||(decide (a.1=b.1)&&decide (a.2 < b.2))
theorem ltKy_iff{a b:Ky}:e8 a b=true↔a.1 < b.1∨(a.1=b.1∧a.2 < b.2):=by simp[e8]
theorem qx{a b:Ky}:e8 a b=false↔¬(a.1 < b.1∨(a.1=b.1∧a.2 < b.2)):=by rw[←ltKy_iff];simp
def oF(hp:Heap):Value→Option Ky
 |.ref a=>(hp.get? a).bind fun o=>match o.data with
  |.seq xs _=>match xs.toList with
   |[.int n _,.str z _]=>some (n,z.cps.toList)
   |_=>none
  |_=>none
 |_=>none
theorem C3{hp:Heap}{a:Addr}{o:Obj}{xs:Array Value}{k:Nat}{n:Int}{t u:Tok}{z:Str}(ho:hp.get? a=some o)(hd:o.data=.seq xs k)(hx:xs.toList=[.int n t,.str z u]):oF hp (.ref a)=some (n,z.cps.toList):=by
 simp[oF,ho,hd,hx]
theorem v_{hp:Heap}{v:Value}{y:Ky}(h:oF hp v=some y):∃a o xs k t z u,v=.ref a∧hp.get? a=some o∧o.data=.seq xs k∧xs.toList=[.int y.1 t,.str z u]∧y.2=z.cps.toList:=by
 unfold oF at h
 split at h
 ·rename_i a
  obtain⟨o,ho,h⟩:=Za.mp h
  split at h
  ·rename_i xs k hd
   split at h
   ·rename_i n t z u hx
    cases h
    exact⟨a,o,xs,k,t,z,u,rfl,ho,hd,hx,rfl⟩
   ·cases h
  ·cases h
 ·cases h
@[reducible] def fj (hp:Heap):PyProof.Rows.KeyKind where
 α:=Ky
 blt:=e8
 irrefl a:=by
  rw[qx]
  rintro(h |h)
  ·omega
  ·exact List.lt_irrefl _ h.2
 trans a b c h1 h2:=by
  rw[ltKy_iff]at *
  rcases h1 with h1 |h1
  ·rcases h2 with h2 |h2
   ·exact .inl (by omega)
   ·exact .inl (by omega)
  ·rcases h2 with h2 |h2
   ·exact .inl (by omega)
   ·exact .inr ⟨by omega,List.lt_trans h1.2 h2.2⟩
 negTrans a b c h:=by
  rw[ltKy_iff]at *
  rw[ltKy_iff]
  by_cases hab:a.1 < b.1
  ·exact .inl (.inl hab)
  ·by_cases hbc:b.1 < c.1
   ·exact .inr (.inl hbc)
   ·have e:a.1=c.1∧a.2 < c.2:=by
     rcases h with h |h
     ·omega
     ·exact h
    by_cases hab2:a.2 < b.2
    ·exact .inl (.inr ⟨by omega,hab2⟩)
    ·exact .inr (.inr ⟨by omega,List.lt_of_le_of_lt (List.not_lt.mp hab2) e.2⟩)
 total a b h1 h2:=by
  rw[qx]at *
  have e:a.1=b.1:=by
   have n1:¬a.1 < b.1:=fun z=>h1 (.inl z)
   have n2:¬b.1 < a.1:=fun z=>h2 (.inl z)
   omega
  have e2:a.2=b.2:=List.le_antisymm (List.not_lt.mp fun z=>h2 (.inr ⟨e.symm,z⟩)) (List.not_lt.mp fun z=>h1 (.inr ⟨e,z⟩))
  exact Prod.ext e e2
 keyOf:=oF hp
 dflt:=(0,[])
def JC(prog:Program)(w:World)(A:Around)(κ:PyProof.Rows.KeyKind)(kd:SortKind)(s:Shared):Prop:=
 ∀(E:Value→Shared→Prop) (x y:Value) (a b:κ.α) {Q:Bool→Shared→Prop},κ.keyOf x=some a→κ.keyOf y=some b→Q (κ.blt a b) s→wpAny (model prog w) A (keyLt' kd x y) Q E s
theorem C4{prog:Program}{w:World}{A:Around}{s:Shared}:JC prog w A (fj s.heap) (tuples' true) s:=fun E x y a b Q ha hb hq=>by
 obtain⟨ax,ox,xs,kx,tx,zx,ux,rfl,hox,hdx,hxx,ea⟩:=v_ ha
 obtain⟨ay,oy,ys,ky,ty,zy,uy,rfl,hoy,hdy,hyy,eb⟩:=v_ hb
 refine kat_lt hox hdx hoy hdy ?_
 have fin:decide (xs.size < ys.size)=false:=by
  have l1:xs.size=2:=by rw[←yC,hxx];rfl
  have l2:ys.size=2:=by rw[←yC,hyy];rfl
  rw[l1,l2]
  rfl
 rw[hxx,hyy,fin]
 show KatLex prog w A true false Q [(.int a.1 tx,.int b.1 ty),(.str zx ux,.str zy uy)] 0 s
 refine kat_cons (wpAny_eqBool_int (kat_go (fun e1=>kat_yes (kat_cons (wpAny_eqBool_str (kat_go (fun e2=>kat_yes (kat_nil ?_)) (fun e2=>kat_no ?_))))) (fun e1=>kat_no ?_)))
 ·have e1:a.1=b.1:=by simpa using e1
  have e2:zx=zy:=by simpa using e2
  have:e8 a b=false:=by
   rw[qx,ea,eb,e2]
   rintro(z |z)
   ·omega
   ·exact List.lt_irrefl _ z.2
  rw[←this]
  exact hq
 ·have e1:a.1=b.1:=by simpa using e1
  show wpAny (model prog w) A (oneLt' false (.str zx ux) (.str zy uy)) Q _ s
  refine kat_one _ _ (PySem.P.lt_str ?_)
  have:e8 a b=decide (zx.cps.toList < zy.cps.toList):=by
   unfold e8
   rw[←ea,←eb]
   simp[e1]
  have hq':Q (e8 a b) s:=hq
  rw[this]at hq'
  exact hq'
 ·have e1:¬a.1=b.1:=by simpa using e1
  show wpAny (model prog w) A (oneLt' true (.int a.1 tx) (.int b.1 ty)) Q _ s
  refine oneLt_int ?_
  have:e8 a b=decide (a.1 < b.1):=by
   unfold e8
   simp[e1]
  have hq':Q (e8 a b) s:=hq
  rw[this]at hq'
  exact hq'
end NhSG
namespace NhLS
set_option autoImplicit false
open PySem PyProof.Rows
def Ht:Keyed:=(Value.none,Value.none)
def at'(a:Array Keyed)(i:Nat):Keyed:=a.getD i Ht
theorem Hu{a:Array Keyed}{i:Nat}(h:i < a.size):a[i]? =some (at' a i):=by simp[at',Array.getD,h]
structure Cmp (prog:Program) (w:World) (A:Around) (s:Shared) (κ:SortKind) (O:KeyOrd) (key:Keyed→O.α) (dom:Keyed→Prop):Prop where
 ask:∀(E:Value→Shared→Prop) (x y:Keyed) (Q:Bool→Shared→Prop),dom x→dom y→Q (O.blt (key x) (key y)) s→wpAny (model prog w) A (keyLt' κ x.1 y.1) Q E s
section
variable {prog:Program} {w:World} {A:Around} {E:Value→Shared→Prop} {s:Shared} {κ:SortKind} {O:KeyOrd} {key:Keyed→O.α} {dom:Keyed→Prop} {st:SortSt}
theorem IG(C:Cmp prog w A s κ O key dom){x y:Keyed}{Q:Option Bool→SortSt→Prop}(hk:kindOf st=κ)(dx:dom x)(dy:dom y)(h:Q (some (O.blt (key x) (key y))) st):wpS (model prog w) A E s (lt' x y) Q st:=by
 rw[lt'_eq]
 refine wpS_bind (wpS_get ?_)
 rw[hk]
 refine wpS_bind (wpS_lift (wpAny_attempt (C.ask _ _ _ _ dx dy ⟨rfl,?_⟩)))
 exact wpS_pure h
theorem Hv{arr:Array Keyed}{i:Nat}{Q:Keyed→SortSt→Prop}(hi:i < arr.size)(h:Q (at' arr i) st):wpS (model prog w) A E s (elem' arr i) Q st:=by
 rw[elem'_eq,Hu hi]
 exact wpS_pure h
end
end NhLS
namespace NhLS
set_option autoImplicit false
open PySem PyProof.Rows
def Le(O:KeyOrd)(key:Keyed→O.α)(x y:Keyed):Prop:=O.blt (key y) (key x)=false
section
variable {O:KeyOrd} {key:Keyed→O.α} {a b:Array Keyed} {T:List Keyed} {out:Array Keyed} {i j ia ib k:Nat} {x y z:Keyed}
theorem Le.refl(x:Keyed):Le O key x x:=O.irrefl _
theorem Le.trans(h1:Le O key x y)(h2:Le O key y z):Le O key x z:=KeyOrd.kle_trans (O:=O) (a:=key x) (b:=key y) (c:=key z) h1 h2
theorem Le.of(h:O.blt (key x) (key y)=true):Le O key x y:=KeyOrd.klt_asymm (O:=O) h
theorem FE(h:i < a.toList.length):a.toList[i]=at' a i:=by
 have h':i < a.size:=by simpa using h
 simp[at',Array.getD,h']
theorem At(h:i < a.size):at' a i∈a.toList:=by
 rw[←FE (by simpa using h)]
 exact List.getElem_mem _
end
def SS(st st':SortSt):Prop:=∃g,st'=SortSt.mk' (kindOf st) (arrOf st) (pendingOf st) g (failedOf st)
section
variable {prog:Program} {w:World} {A:Around} {E:Value→Shared→Prop} {s:Shared} {κ:SortKind} {O:KeyOrd} {key:Keyed→O.α} {dom:Keyed→Prop} {st:SortSt}
theorem C5{α:Type}{c:Prop}[Decidable c]{x y:StateT SortSt Sem α}{Q:α→SortSt→Prop}(hc:c)(h:wpS (model prog w) A E s x Q st):wpS (model prog w) A E s (if c then x else y) Q st:=by rw[if_pos hc];exact h
theorem wa{α:Type}{c:Prop}[Decidable c]{x y:StateT SortSt Sem α}{Q:α→SortSt→Prop}(hc:¬c)(h:wpS (model prog w) A E s y Q st):wpS (model prog w) A E s (if c then x else y) Q st:=by rw[if_neg hc];exact h
theorem IH{α:Type}{m:StateT SortSt Sem α}{Q:α→SortSt→Prop}(h:∀R,R=Q→wpS (model prog w) A E s m R st):wpS (model prog w) A E s m Q st:=h Q rfl
end
end NhLS
namespace NhLS
set_option autoImplicit false
open PySem PyProof.Rows
section
variable {prog:Program} {w:World} {A:Around} {E:Value→Shared→Prop} {s:Shared} {κ:SortKind} {O:KeyOrd} {key:Keyed→O.α} {dom:Keyed→Prop} {st:SortSt}
theorem jS{α:Type}{c:Prop}[Decidable c]{x y:StateT SortSt Sem α}{Q:α→SortSt→Prop}(h1:c→wpS (model prog w) A E s x Q st)(h2:¬c→wpS (model prog w) A E s y Q st):wpS (model prog w) A E s (if c then x else y) Q st:=by
 split
 ·rename_i z;exact h1 z
 ·rename_i z;exact h2 z
end
end NhLS
namespace NhLS
set_option autoImplicit false
open PySem PyProof.Rows
def So(O:KeyOrd)(key:Keyed→O.α)(a:Array Keyed)(lo hi:Nat):Prop:=∀i j,lo≤i→i < j→j < hi→Le O key (at' a i) (at' a j)
section
variable {O:KeyOrd} {key:Keyed→O.α} {a b:Array Keyed} {i j lo hi p:Nat} {x y z:Keyed}
theorem So.le(h:So O key a lo hi)(h1:lo≤i)(h2:i≤j)(h3:j < hi):Le O key (at' a i) (at' a j):=by
 by_cases e:i=j
 ·rw[e];exact Le.refl _
 ·exact h i j h1 (by exact Nat.lt_of_le_of_ne ‹_› ‹_›) h3
end
end NhLS
namespace NhLS
set_option autoImplicit false
open PySem PyProof.Rows
structure Sx (a b:Array Keyed) (lo hi:Nat):Prop where
 perm:b.toList.Perm a.toList
 out:∀j,j < lo∨hi≤j→at' b j=at' a j
def Dn(O:KeyOrd)(key:Keyed→O.α)(a:Array Keyed)(lo hi:Nat):Prop:=∀i j,lo≤i→i < j→j < hi→Le O key (at' a j) (at' a i)
def Eqs(O:KeyOrd)(key:Keyed→O.α)(a:Array Keyed)(e q:Nat):Prop:=∀i,e - (q+1)≤i→i < e→Le O key (at' a i) (at' a (e - 1))∧Le O key (at' a (e - 1)) (at' a i)
section
variable {O:KeyOrd} {key:Keyed→O.α} {a b c:Array Keyed} {i j k lo hi n q:Nat}
theorem Sx.refl:Sx a a lo hi:=⟨List.Perm.refl _,fun _ _=>rfl⟩
theorem Sx.trans(h1:Sx a b lo hi)(h2:Sx b c lo hi):Sx a c lo hi:=⟨h2.perm.trans h1.perm,fun j hj=>(h2.out j hj).trans (h1.out j hj)⟩
theorem Sx.size(h:Sx a b lo hi):b.size=a.size:=by have:=h.perm.length_eq;simpa using this
theorem Sx.dom{dom:Keyed→Prop}(h:Sx a b lo hi)(da:∀x∈a.toList,dom x):∀x∈b.toList,dom x:=fun x hx=>da x (h.perm.mem_iff.mp hx)
theorem C6(a:Array Keyed)(i:Nat):at' a i=(a[i]?).getD Ht:=Array.getD_eq_getD_getElem? ..
theorem gX(hj:j≤a.size)(k:Nat):at' (mirror a i j ((j - i) / 2)) k=if i≤k∧k < j then at' a (i+j - 1 - k)else at' a k:=by
 rw[C6,getElem?_mirror_all hj]
 split <;> rw[C6]
theorem uK(hk:k < a.size)(hd:n≤k)(i:Nat):at' (bubble a k n) i=if i=k - n then at' a k else if k - n < i∧i≤k then at' a (i - 1)else at' a i:=by
 rw[C6,getElem?_bubble hk n hd]
 repeat' split
 all_goals rw[C6]
theorem Sx.rev(h1:lo≤i)(h2:j≤hi)(h3:j≤a.size):Sx a (mirror a i j ((j - i) / 2)) lo hi:=
 ⟨Array.perm_iff_toList_perm.mp (mirror_perm _ _ _ _),fun k hk=>by rw[gX h3,if_neg (by lia)]⟩
theorem Sx.bub(h1:k < a.size)(h0:n≤k)(h2:lo≤k - n)(h3:k < hi):Sx a (bubble a k n) lo hi:=
 ⟨Array.perm_iff_toList_perm.mp (bubble_perm _ _ _),fun j hj=>by rw[uK h1 h0,if_neg (by lia),if_neg (by lia)]⟩
theorem So.step(h:So O key a lo hi)(hl:lo < hi)(e:Le O key (at' a (hi - 1)) (at' a hi)):So O key a lo (hi+1):=fun i j h1 h2 h3=>by
 by_cases c:j < hi
 ·exact h i j h1 h2 c
 ·rw[show j=hi by lia]
  exact(h.le h1 (by lia) (by lia):Le O key (at' a i) (at' a (hi - 1))).trans e
theorem Dn.le(h:Dn O key a lo hi)(h1:lo≤i)(h2:i≤j)(h3:j < hi):Le O key (at' a j) (at' a i):=by
 by_cases e:i=j
 ·rw[e];exact Le.refl _
 ·exact h i j h1 (by exact Nat.lt_of_le_of_ne ‹_› ‹_›) h3
theorem Dn.step(h:Dn O key a lo hi)(hl:lo < hi)(e:Le O key (at' a hi) (at' a (hi - 1))):Dn O key a lo (hi+1):=fun i j h1 h2 h3=>by
 by_cases c:j < hi
 ·exact h i j h1 h2 c
 ·rw[show j=hi by lia]
  exact Le.trans e (h.le h1 (by lia) (by lia))
theorem Dn.rev(h:Dn O key a lo hi)(e:Eqs O key a hi q)(hz:hi≤a.size)(hq:lo+(q+1)≤hi):Dn O key (mirror a (hi - (q+1)) hi ((hi - (hi - (q+1))) / 2)) lo hi:=fun i j h1 h2 h3=>by
 rw[gX hz,gX hz]
 by_cases c:hi - (q+1)≤i
 ·rw[if_pos (by lia),if_pos (by lia)]
  exact(e _ (by lia) (by lia)).1.trans (e _ (by lia) (by lia)).2
 ·rw[if_neg (show ¬(hi - (q+1)≤i∧i < hi) by exact fun h=>‹¬_› h.1)]
  by_cases c':hi - (q+1)≤j
  ·rw[if_pos (by exact⟨‹_›,‹_›⟩)]
   exact h _ _ h1 (by lia) (by lia)
  ·rw[if_neg (by exact fun h=>‹¬_› h.1)]
   exact h _ _ h1 h2 h3
theorem Dn.flip(h:Dn O key a lo hi)(hz:hi≤a.size):So O key (mirror a lo hi ((hi - lo) / 2)) lo hi:=fun i j h1 h2 h3=>by
 rw[gX hz,gX hz,if_pos (by lia),if_pos (by lia)]
 exact h _ _ (by lia) (by lia) (by lia)
theorem Eqs.one:Eqs O key a (hi+1) 0:=fun i h1 h2=>by
 rw[show i=hi by lia]
 exact⟨Le.refl _,Le.refl _⟩
end
section
variable {prog:Program} {w:World} {A:Around} {E:Value→Shared→Prop} {s:Shared} {κ:SortKind} {O:KeyOrd} {key:Keyed→O.α} {dom:Keyed→Prop} {a:Array Keyed} {pd:Array (Nat×Nat×Nat)} {g:Nat}
theorem k_(C:Cmp prog w A s κ O key dom){i j:Nat}{Q:Option Bool→SortSt→Prop}(da:∀x∈a.toList,dom x)(hi:i < a.size)(hj:j < a.size)(h:Q (some (O.blt (key (at' a i)) (key (at' a j)))) (SortSt.mk' κ a pd g none)):wpS (model prog w) A E s (ltAt' i j) Q (SortSt.mk' κ a pd g none):=
 wpS_bind (wpS_get (wpS_bind (Hv hi (wpS_bind (Hv hj (IG C rfl (da _ (At hi)) (da _ (At hj)) h))))))
theorem wb{i j:Nat}{Q:Unit→SortSt→Prop}(h:Q () (SortSt.mk' κ (mirror a i j ((j - i) / 2)) pd g none)):wpS (model prog w) A E s (reverseSlice' i j) Q (SortSt.mk' κ a pd g none):=wpS_modify h
theorem FG{k l:Nat}{Q:Unit→SortSt→Prop}(h:Q () (SortSt.mk' κ (bubble a k (k - l)) pd g none)):wpS (model prog w) A E s (moveDown' k l) Q (SortSt.mk' κ a pd g none):=wpS_modify h
theorem DY{lo n0 nrem:Nat}{β:Type}{body:Nat→Option β×Nat→StateT SortSt Sem (ForInStep (Option β×Nat))}{Q:Option β×Nat→SortSt→Prop}(h1:1≤n0)(h2:n0≤nrem)(hs:So O key a lo (lo+n0))
  (hb:∀x n (R:ForInStep (Option β×Nat)→SortSt→Prop),1≤n→n < nrem→R (if O.blt (key (at' a (lo+n))) (key (at' a (lo+n - 1)))=true then .done (none,n)else .yield (none,n+1)) (SortSt.mk' κ a pd g none)→wpS (model prog w) A E s (body x (none,n)) R (SortSt.mk' κ a pd g none))
  (h:∀n,n0≤n→n≤nrem→So O key a lo (lo+n)→(n < nrem→O.blt (key (at' a (lo+n))) (key (at' a (lo+n - 1)))=true)→Q (none,n) (SortSt.mk' κ a pd g none)):
  wpS (model prog w) A E s (forIn [n0:nrem] (none,n0) body) Q (SortSt.mk' κ a pd g none):=by
 refine wpS_forRange (I:=fun x c st'=>st'=SortSt.mk' κ a pd g none∧c=(none,x)∧n0≤x∧So O key a lo (lo+x)) ?_ ?_ ⟨rfl,rfl,dE _,hs⟩
 ·rintro x c st' q1 q2 ⟨rfl,rfl,q3,q4⟩
  refine hb x x _ (by exact jH ‹_› ‹_›) q2 ?_
  cases e:O.blt (key (at' a (lo+x))) (key (at' a (lo+x - 1)))with
  |true=>exact h x q3 (by exact Nat.le_of_lt ‹_›) q4 fun _=>e
  |false=>exact⟨rfl,rfl,by(solve_by_elim (maxDepth:=3) only[*,kK,jH,Nat.lt_of_le_of_lt,Nat.le_of_lt]),q4.step (by lia) e⟩
 ·rintro c st' ⟨rfl,rfl,q3,q4⟩
  rw[show max n0 nrem=nrem by exact Nat.max_eq_right ‹_›]at q4 ⊢
  exact h nrem h2 (dE _) q4 fun z=>absurd z (Nat.lt_irrefl _)
theorem qy(C:Cmp prog w A s κ O key dom){lo n ok:Nat}{Q:Bool→SortSt→Prop}(da:∀x∈a.toList,dom x)(h1:1≤ok)(h2:ok≤n)(hz:lo+n≤a.size)(hs:So O key a lo (lo+ok))
  (h:∀b,Sx a b lo (lo+n)→So O key b lo (lo+n)→Q true (SortSt.mk' κ b pd g none)):wpS (model prog w) A E s (binarySort' lo n ok) Q (SortSt.mk' κ a pd g none):=by
 refine wpS_bind (wpS_mono (wpS_forRange (I:=fun k c st'=>c=(none,())∧∃b,st'=SortSt.mk' κ b pd g none∧Sx a b lo (lo+n)∧So O key b lo (lo+k)) (Q:=fun c st'=>c=(none,())∧∃b,st'=SortSt.mk' κ b pd g none∧Sx a b lo (lo+n)∧So O key b lo (lo+n)) ?s1 ?s2 ⟨rfl,a,rfl,.refl,by rw[show max ok 1=ok by exact Nat.max_eq_left ‹_›];exact hs⟩) ?s3)
 case s3=>
  rintro c st' ⟨rfl,b,rfl,sb,ss⟩
  exact wpS_pure (h b sb ss)
 case s2=>
  rintro c st' ⟨rfl,b,rfl,sb,ss⟩
  rw[show max (max ok 1) n=n by lia]at ss
  exact⟨rfl,b,rfl,sb,ss⟩
 case s1=>
  rintro k c st' k1 k2 ⟨rfl,b,rfl,sb,ss⟩
  have bz:=sb.size
  have ik:lo+k < b.size:=by lia
  refine wpS_bind (wpS_mono (wpS_forRange (I:=fun x c st'=>st'=SortSt.mk' κ b pd g none∧∃l r,c=(none,l,r)∧l≤r∧r≤k∧r+x≤k+l∧(∀i,i < l→Le O key (at' b (lo+i)) (at' b (lo+k)))∧(∀i,r≤i→i < k→Le O key (at' b (lo+k)) (at' b (lo+i))))
   (Q:=fun c st'=>st'=SortSt.mk' κ b pd g none∧∃l,c=(none,l,l)∧l≤k∧(∀i,i < l→Le O key (at' b (lo+i)) (at' b (lo+k)))∧(∀i,l≤i→i < k→Le O key (at' b (lo+k)) (at' b (lo+i)))) ?t1 ?t2 ⟨rfl,0,k,rfl,by exact Nat.zero_le _,by exact dE _,by(solve_by_elim (maxDepth:=3) only[*,kK,jH,Nat.lt_of_le_of_lt,Nat.le_of_lt,Nat.add_le_add_left,Nat.add_lt_add_left,Nat.le_add_right,Nat.lt_of_succ_lt]),fun i hi=>by lia,fun i h1 h2=>by lia⟩) ?t3)
  case t2=>
   rintro c st' ⟨rfl,l,r,rfl,p1,p2,p3,p4,p5⟩
   have:l=r:=by lia
   subst this
   exact⟨rfl,l,rfl,p2,p4,p5⟩
  case t1=>
   rintro x c st' - x2 ⟨rfl,l,r,rfl,p1,p2,p3,p4,p5⟩
   dsimp only
   refine jS (fun z=>?_) (fun z=>?_)
   ·have:l=r:=by exact Nat.le_antisymm ‹_› ‹_›
    subst this
    exact wpS_pure ⟨rfl,l,rfl,p2,p4,p5⟩
   ·have im:lo+(l+r) / 2 < b.size:=by lia
    refine wpS_bind (k_ C (sb.dom da) ik im ?_)
    cases e:O.blt (key (at' b (lo+k))) (key (at' b (lo+(l+r) / 2)))with
    |true=>exact wpS_pure ⟨rfl,l,(l+r) / 2,rfl,by lia,by lia,by lia,p4,fun i r1 r2=>(Le.of e).trans (ss.le (by exact Nat.le_add_right _ _) (by exact Nat.add_le_add_left ‹_› _) (by exact Nat.add_lt_add_left ‹_› _))⟩
    |false=>exact wpS_pure ⟨rfl,(l+r) / 2+1,r,rfl,by lia,by assumption,by lia,fun i r1=>(ss.le (by exact Nat.le_add_right _ _) (by lia) (by lia):Le O key (at' b (lo+i)) (at' b (lo+(l+r) / 2))).trans e,p5⟩
  case t3=>
   rintro c st' ⟨rfl,l,rfl,p2,p4,p5⟩
   refine wpS_bind (FG (wpS_pure ⟨rfl,_,rfl,sb.trans (Sx.bub (k:=lo+k) (n:=lo+k - (lo+l)) ik (by exact Nat.sub_le _ _) (by lia) (by exact Nat.add_lt_add_left ‹_› _)),fun i j r1 r2 r3=>?_⟩))
   have q4:∀i,lo≤i→i < lo+l→Le O key (at' b i) (at' b (lo+k)):=fun i u1 u2=>by have:=p4 (i - lo) (by exact Nat.sub_lt_left_of_lt_add ‹_› ‹_›);rwa [show lo+(i - lo)=i by exact Nat.add_sub_of_le ‹_›]at this
   have q5:∀i,lo+l≤i→i < lo+k→Le O key (at' b (lo+k)) (at' b i):=fun i u1 u2=>by have:=p5 (i - lo) (by exact Nat.le_sub_of_add_le' ‹_›) (by lia);rwa [show lo+(i - lo)=i by exact Nat.add_sub_of_le (kK (Nat.le_add_right _ _) ‹_›)]at this
   show Le O key (at' (bubble b (lo+k) (lo+k - (lo+l))) i) (at' (bubble b (lo+k) (lo+k - (lo+l))) j)
   rw[uK ik (by exact Nat.sub_le _ _),uK ik (by exact Nat.sub_le _ _),show lo+k - (lo+k - (lo+l))=lo+l by lia]
   repeat' split
   all_goals first
    |(exfalso;lia)
    |exact q4 _ (by assumption) (by(first |exact Nat.lt_of_lt_of_eq ‹_› ‹_› |lia))
    |exact q5 _ (by(first |exact Nat.add_le_add_left ‹_› _ |lia)) (by lia)
    |exact ss _ _ (by(first |assumption |lia)) (by(first |assumption |lia)) (by lia)
theorem uM(C:Cmp prog w A s κ O key dom){lo nrem:Nat}{Q:Option Nat→SortSt→Prop}(da:∀x∈a.toList,dom x)(h1:1≤nrem)(hz:lo+nrem≤a.size)
  (h:∀m b,1≤m→m≤nrem→Sx a b lo (lo+nrem)→So O key b lo (lo+m)→Q (some m) (SortSt.mk' κ b pd g none)):wpS (model prog w) A E s (countRun' lo nrem) Q (SortSt.mk' κ a pd g none):=by
 refine wpS_bind (DY (O:=O) (key:=key) (a:=a) (lo:=lo) (n0:=1) (nrem:=nrem) (dE _) h1 (fun i j r1 r2 r3=>by lia) (fun x n R n1 n2 hR=>?_) fun n q1 q2 q3 q4=>?_)
 ·refine wpS_bind (k_ C da (show lo+n < a.size by lia) (show lo+n - 1 < a.size by lia) ?_)
  cases e:O.blt (key (at' a (lo+n))) (key (at' a (lo+n - 1)))with
  |true=>rw[e]at hR;exact wpS_pure hR
  |false=>rw[e]at hR;exact wpS_pure hR
 dsimp -zeta only
 by_cases z:(n == nrem)=true
 ·exact C5 z (wpS_pure (h n a q1 q2 .refl q3))
 refine wa z ?_
 have z':n < nrem:=by simp at z;exact Nat.lt_of_le_of_ne ‹_› ‹_›
 have sn:=q4 z'
 extract_lets
 rename Unit→_=>jp
 have J:∀b,Sx a b lo (lo+nrem)→Dn O key b lo (lo+n+1)→wpS (model prog w) A E s (jp ()) Q (SortSt.mk' κ b pd g none):=by
  intro b sb db
  refine wpS_bind (wpS_lift (wpAny_rule ⟨rfl,?_⟩))
  refine wpS_bind (wpS_mono (wpS_forRange (I:=fun x c st'=>∃b q,st'=SortSt.mk' κ b pd g none∧Sx a b lo (lo+nrem)∧c=(none,x,q)∧q+1≤x∧n+1≤x∧Dn O key b lo (lo+x)∧Eqs O key b (lo+x) q)
   (Q:=fun c st'=>∃b m q,st'=SortSt.mk' κ b pd g none∧Sx a b lo (lo+nrem)∧c=(none,m,q)∧q+1≤m∧m≤nrem∧Dn O key b lo (lo+m)∧Eqs O key b (lo+m) q) ?s1 ?s2 ⟨b,0,rfl,sb,rfl,by exact vt ‹_›,by exact Nat.lt_succ_self _,db,Eqs.one⟩) ?s3)
  case s2=>
   rintro c st' ⟨b,q,rfl,sb,rfl,p1,p2,p3,p4⟩
   rw[show max (n+1) nrem=nrem by exact Nat.max_eq_right ‹_›]at *
   exact⟨b,nrem,q,rfl,sb,rfl,p1,dE _,p3,p4⟩
  case s1=>
   rintro x c st' x1 x2 ⟨b,q,rfl,sb,rfl,p1,p2,p3,p4⟩
   have bz:=sb.size
   have i1:lo+x < b.size:=by lia
   have i2:lo+x - 1 < b.size:=by exact Nat.lt_of_le_of_lt (Nat.sub_le _ _) ‹_›
   refine wpS_bind (k_ C (sb.dom da) i1 i2 ?_)
   cases e:O.blt (key (at' b (lo+x))) (key (at' b (lo+x - 1)))with
   |true=>
    dsimp only
    rw[if_pos rfl]
    refine jS (fun z=>?_) (fun z=>?_)
    ·refine wpS_bind (wb (wpS_pure ⟨_,0,rfl,sb.trans (Sx.rev (by lia) (by lia) (by exact Nat.le_of_lt ‹_›)),rfl,by exact Nat.le_add_left _ _,by exact vt ‹_›,?_,Eqs.one⟩))
     refine(p3.rev p4 (by exact Nat.le_of_lt ‹_›) (by exact Nat.add_lt_add_left ‹_› _)).step (by lia) ?_
     rw[gX (by exact Nat.le_of_lt ‹_›),gX (by exact Nat.le_of_lt ‹_›),if_neg (by lia),if_pos (by lia)]
     exact(Le.of e).trans (p4 _ (by lia) (by lia)).2
    ·exact wpS_pure ⟨b,0,rfl,sb,rfl,by exact Nat.le_add_left _ _,by exact vt ‹_›,p3.step (by lia) (Le.of e),Eqs.one⟩
   |false=>
    dsimp only
    rw[if_neg (by simp)]
    refine wpS_bind (k_ C (sb.dom da) i2 i1 ?_)
    cases e':O.blt (key (at' b (lo+x - 1))) (key (at' b (lo+x)))with
    |true=>exact wpS_pure ⟨b,x,q,rfl,sb,rfl,p1,by exact Nat.le_of_lt ‹_›,p3,p4⟩
    |false=>
     refine wpS_pure ⟨b,q+1,rfl,sb,rfl,by exact Nat.succ_lt_succ ‹_›,by exact vt ‹_›,p3.step (by lia) e',fun i r1 r2=>?_⟩
     show Le O key (at' b i) (at' b (lo+x))∧Le O key (at' b (lo+x)) (at' b i)
     by_cases c:i=lo+x
     ·rw[c];exact⟨Le.refl _,Le.refl _⟩
     ·obtain⟨u1,u2⟩:=p4 i (by lia) (by lia)
      exact⟨u1.trans e,Le.trans e' u2⟩
  case s3=>
   rintro c st' ⟨b,m,q,rfl,sb,rfl,p1,p2,p3,p4⟩
   have bz:=sb.size
   dsimp -zeta only
   extract_lets
   rename Unit→_=>jp2
   have J2:∀b,Sx a b lo (lo+nrem)→Dn O key b lo (lo+m)→wpS (model prog w) A E s (jp2 ()) Q (SortSt.mk' κ b pd g none):=by
    intro b sb db
    have bz:=sb.size
    refine wpS_bind (wb ?_)
    have sc:=sb.trans (Sx.rev (a:=b) (i:=lo) (j:=lo+m) (dE lo) (show lo+m≤lo+nrem by exact Nat.add_le_add_left ‹_› _) (by lia))
    have cz:=sc.size
    have ss:=db.flip (by lia)
    revert sc cz ss
    generalize mirror b lo (lo+m) ((lo+m - lo) / 2)=c
    intro sc cz ss
    refine wpS_bind (DY (O:=O) (key:=key) (a:=c) (lo:=lo) (n0:=m) (nrem:=nrem) (by exact kK (Nat.le_add_left _ _) ‹_›) p2 ss (fun x n R n1 n2 hR=>?_) fun n q1 q2 q3 q4=>?_)
    ·refine wpS_bind (k_ C (sc.dom da) (show lo+n < c.size by lia) (show lo+n - 1 < c.size by lia) ?_)
     cases e:O.blt (key (at' c (lo+n))) (key (at' c (lo+n - 1)))with
     |true=>rw[e]at hR;exact wpS_pure hR
     |false=>rw[e]at hR;exact wpS_pure hR
    ·exact wpS_pure (h n c (by lia) q2 sc q3)
   clear_value jp2
   refine jS (fun z=>?_) (fun z=>?_)
   ·exact wpS_bind (wb (J2 _ (sb.trans (Sx.rev (a:=b) (i:=lo+m - (q+1)) (j:=lo+m) (by lia) (by exact Nat.add_le_add_left ‹_› _) (by lia))) (Dn.rev (hi:=lo+m) (q:=q) p3 p4 (by lia) (by exact Nat.add_lt_add_left ‹_› _))))
   ·exact J2 b sb p3
 clear_value jp
 refine jS (fun c=>?_) (fun c=>?_)
 ·refine wpS_bind (k_ C da (show lo < a.size by lia) (show lo+n - 1 < a.size by lia) ?_)
  cases e:O.blt (key (at' a lo)) (key (at' a (lo+n - 1)))with
  |true=>exact wpS_pure (h n a q1 q2 .refl q3)
  |false=>
   refine wpS_bind (wb (J _ (Sx.rev (dE _) (by exact Nat.add_le_add_left ‹_› _) (by lia)) fun i j r1 r2 r3=>?_))
   have all:∀x y,lo≤x→x < lo+n→lo≤y→y < lo+n→Le O key (at' a x) (at' a y):=fun x y x1 x2 y1 y2=>
    ((q3.le x1 (by lia) (by lia):Le O key (at' a x) (at' a (lo+n - 1))).trans e).trans (q3.le (dE _) y1 y2)
   rw[gX (by lia),gX (by lia),if_pos (show lo≤i∧i < lo+n by lia)]
   by_cases c':j < lo+n
   ·rw[if_pos (by lia)]
    exact all _ _ (by lia) (by lia) (by lia) (by lia)
   ·rw[if_neg (by exact fun h=>‹¬_› h.2),show j=lo+n by lia]
    exact(Le.of sn).trans (all _ _ (by lia) (by lia) (by lia) (by lia))
 ·refine J a .refl fun i j r1 r2 r3=>?_
  rw[show i=lo+n - 1 by lia,show j=lo+n by lia]
  exact Le.of sn
end
end NhLS
namespace NhLS
set_option autoImplicit false
open PySem PyProof.Rows
section
variable {prog:Program} {w:World} {A:Around} {E:Value→Shared→Prop} {s:Shared} {κ:SortKind} {O:KeyOrd} {key:Keyed→O.α} {dom:Keyed→Prop} {a:Array Keyed} {pd:Array (Nat×Nat×Nat)} {g:Nat}
theorem Au{n:Nat}(h:n < 64)(h0:0 < n):minRun' n n 0=n:=by
 obtain⟨k,rfl⟩:∃k,n=k+1:=⟨n - 1,by omega⟩
 rw[minRun'_succ,if_pos h,Nat.add_zero]
theorem uN(hz:a.size < 64)(C:Cmp prog w A s κ O key dom){Q:Unit→SortSt→Prop}(da:∀x∈a.toList,dom x)(h:∀b pd' g',b.toList.Perm a.toList→So O key b 0 a.size→Q () (SortSt.mk' κ b pd' g' none)):wpS (model prog w) A E s sortRuns' Q (SortSt.mk' κ a #[] g none):=by
 refine wpS_bind (wpS_get ?_)
 refine wpS_bind (wpS_mono (wpS_forRange (I:=fun x c st'=>∃b lo pd g,st'=SortSt.mk' κ b pd g none∧b.toList.Perm a.toList∧c=(none,lo)∧((lo=0∧pd=#[]∧x=0)∨(lo=a.size∧pd.size≤1∧So O key b 0 a.size)))
  (Q:=fun c st'=>∃b pd g,st'=SortSt.mk' κ b pd g none∧b.toList.Perm a.toList∧c=(none,a.size)∧pd.size≤1∧So O key b 0 a.size) ?s1 ?s2 ⟨a,0,#[],g,rfl,List.Perm.refl _,rfl,.inl ⟨rfl,rfl,rfl⟩⟩) ?s3)
 case s2=>
  rintro c st' ⟨b,lo,pd,g,rfl,p1,rfl,p3⟩
  rcases p3 with⟨rfl,rfl,e⟩ |⟨rfl,e,p4⟩
  ·have e':max 0 a.size=0:=e
   have e2:a.size=0:=by omega
   refine⟨b,#[],g,rfl,p1,by rw[e2],by simp,?_⟩
   rw[e2]
   exact fun i j _ _ q=>by omega
  ·exact⟨b,pd,g,rfl,p1,rfl,e,p4⟩
 case s1=>
  rintro x c st' - x2 ⟨b,lo,pd,g,rfl,p1,rfl,p3⟩
  have bz:b.size=a.size:=by have:=p1.length_eq;simpa using this
  refine IH fun R hR=>?_
  have Rd:∀b pd g,b.toList.Perm a.toList→pd.size≤1→So O key b 0 a.size→R (.done (none,a.size)) (SortSt.mk' κ b pd g none):=fun b pd g q1 q2 q3=>by rw[hR];exact⟨b,pd,g,rfl,q1,rfl,q2,q3⟩
  have Ry:∀b pd g,b.toList.Perm a.toList→pd.size≤1→So O key b 0 a.size→R (.yield (none,a.size)) (SortSt.mk' κ b pd g none):=fun b pd g q1 q2 q3=>by rw[hR];exact⟨b,a.size,pd,g,rfl,q1,rfl,.inr ⟨rfl,q2,q3⟩⟩
  clear hR
  dsimp -zeta only
  extract_lets
  refine jS (fun z=>?_) (fun z=>?_)
  ·rcases p3 with⟨rfl,rfl,e⟩ |⟨rfl,e,p4⟩
   ·have e2:a.size=0:=Nat.le_zero.mp z
    have q:=Rd b #[] g p1 (by simp) (by rw[e2];exact fun i j _ _ q=>by omega)
    rw[e2]at q
    exact wpS_pure q
   ·exact wpS_pure (Rd b pd g p1 e p4)
  rcases p3 with⟨rfl,rfl,e⟩ |⟨rfl,e,p4⟩
  case inr=>exact absurd (dE _) z
  have z':0 < a.size:=Nat.lt_of_not_le z
  have mr:=Au hz z'
  refine wpS_bind (uM C (fun x hx=>da x (p1.mem_iff.mp hx)) (lo:=0) (nrem:=a.size - 0) (by omega) (by omega) fun n c n1 n2 sc ss=>?_)
  dsimp -zeta only
  extract_lets
  rename Unit→Nat→_=>jp
  have J:∀(n:Nat) (c:Array Keyed),n=a.size→c.toList.Perm a.toList→So O key c 0 a.size→wpS (model prog w) A E s (jp () n) R (SortSt.mk' κ c #[] g none):=by
   intro n c n1 cp ss
   subst n1
   refine wpS_bind (wpS_get ?_)
   dsimp -zeta only
   extract_lets
   rename Unit→_=>jq
   have K:∀g,wpS (model prog w) A E s (jq ()) R (SortSt.mk' κ c #[] g none):=by
    intro g
    have q:R (.yield (none,0+a.size)) (SortSt.mk' κ c (#[].push (0,a.size,0)) g none):=by
     rw[Nat.zero_add]
     exact Ry c (#[].push (0,a.size,0)) g cp (by simp) ss
    exact wpS_bind (wpS_modify (wpS_pure q))
   clear_value jq
   exact K g
  clear_value jp
  have cp:=sc.perm.trans p1
  refine jS (fun y=>?_) (fun y=>?_)
  ·refine wpS_bind (wpS_lift (wpAny_rule ⟨rfl,?_⟩))
   have cz:=sc.size
   have y':n < minRun' a.size a.size 0:=y
   refine wpS_bind (qy C (a:=c) (lo:=0) (n:=min (a.size - 0) (minRun' a.size a.size 0)) (ok:=n) (fun x hx=>da x (p1.mem_iff.mp (sc.perm.mem_iff.mp hx))) n1 (by omega) (by omega) ss fun d sd ds=>?_)
   refine wa (by simp) ?_
   refine J _ d (show min (a.size - 0) (minRun' a.size a.size 0)=a.size by rw[mr];omega) (sd.perm.trans cp) ?_
   have e3:0+min (a.size - 0) (minRun' a.size a.size 0)=a.size:=by omega
   rw[e3]at ds
   exact ds
  ·have y':¬n < minRun' a.size a.size 0:=y
   refine J n c (by omega) cp ?_
   have e3:0+n=a.size:=by omega
   rw[e3]at ss
   exact ss
 case s3=>
  rintro c st' ⟨b,pd,g,rfl,p1,rfl,p2,p4⟩
  refine wpS_bind (wpS_mono (wpS_forRange (I:=fun x r st'=>r=(none,())∧∃c pd g,st'=SortSt.mk' κ c pd g none∧c.toList.Perm a.toList∧So O key c 0 a.size∧pd.size≤1)
   (Q:=fun r st'=>r=(none,())∧∃c pd g,st'=SortSt.mk' κ c pd g none∧c.toList.Perm a.toList∧So O key c 0 a.size∧pd.size≤1) ?t1 (fun _ _ q=>q) ⟨rfl,b,pd,g,rfl,p1,p4,p2⟩) ?t3)
  case t1=>
   rintro y r st' - - ⟨rfl,c,pd,g,rfl,cp,ch,hz⟩
   refine wpS_bind (wpS_get ?_)
   refine jS (fun z=>?_) (fun z=>?_)
   ·exact wpS_pure ⟨rfl,c,pd,g,rfl,cp,ch,z⟩
   ·exact absurd hz z
  case t3=>
   rintro r st' ⟨rfl,c,pd,g,rfl,cp,ch,hz⟩
   exact wpS_pure (h c pd g cp ch)
end
end NhLS
namespace NhSG
set_option autoImplicit false
open PySem PyProof PyProof.Rows PySem.W
def Keep(h h':Heap):Prop:=∀b o,h.get? b=some o→h'.get? b=some o
theorem Keep.trans{h h1 h2:Heap}(a:Keep h h1)(b:Keep h1 h2):Keep h h2:=fun c o e=>b c o (a c o e)
def IsKy(hp:Heap)(v:Value)(y:Ky):Prop:=∃c o xs k t z u,v=.ref c∧hp.get? c=some o∧o.cls=.type "tuple"∧o.data=.seq xs k∧xs.toList=[.int y.1 t,.str z u]∧y.2=z.cps.toList
theorem IsKy.keep{h h':Heap}{v:Value}{y:Ky}(a:IsKy h v y)(k:Keep h h'):IsKy h' v y:=by
 obtain⟨c,o,xs,n,t,z,u,e,ho,r⟩:=a
 exact⟨c,o,xs,n,t,z,u,e,k c o ho,r⟩
theorem IsKy.key{h:Heap}{v:Value}{y:Ky}(a:IsKy h v y):oF h v=some y:=by
 obtain⟨c,o,xs,n,t,z,u,rfl,ho,hc,hd,hx,e⟩:=a
 rw[C3 ho hd hx,←e]
def KA(hp:Heap):List Value→List Ky→Prop
 |[],[]=>True
 |v::vs,y::ys=>IsKy hp v y∧KA hp vs ys
 |_,_=>False
theorem KA.keep{h h':Heap}(k:Keep h h'):∀{vs:List Value} {ys:List Ky},KA h vs ys→KA h' vs ys
 |[],[],_=>trivial
 |v::vs,y::ys,a=>⟨a.1.keep k,KA.keep k a.2⟩
 |[],_::_,a=>a.elim
 |_::_,[],a=>a.elim
theorem KA.len{h:Heap}:∀{vs:List Value} {ys:List Ky},KA h vs ys→vs.length=ys.length
 |[],[],_=>rfl
 |v::vs,y::ys,a=>by simp[KA.len a.2]
 |[],_::_,a=>a.elim
 |_::_,[],a=>a.elim
theorem KA.snoc{h:Heap}{v:Value}{y:Ky}(b:IsKy h v y):∀{vs:List Value} {ys:List Ky},KA h vs ys→KA h (vs++[v]) (ys++[y])
 |[],[],_=>⟨b,trivial⟩
 |_::_,_::_,a=>⟨a.1,KA.snoc b a.2⟩
 |[],_::_,a=>a.elim
 |_::_,[],a=>a.elim
theorem KA.tups{h:Heap}:∀{vs:List Value} {ys:List Ky},KA h vs ys→∃fs,KatTups h vs fs∧(∀f∈fs,∃n t,f=.int n t)∧fs.length=vs.length
 |[],[],_=>⟨[],trivial,(fun _ z=>by cases z),rfl⟩
 |v::vs,y::ys,a=>by
  obtain⟨fs,t,hf,hl⟩:=KA.tups a.2
  obtain⟨c,o,xs,n,tk,z,u,rfl,ho,hc,hd,hx,e⟩:=a.1
  refine⟨.int y.1 tk::fs,KatTups.cons ho hc hd ?_ t,fun f hm=>?_,by simp[hl]⟩
  ·rw[←Array.getElem?_toList,hx]
   rfl
  ·rcases Zaf.mp hm with rfl |hm
   ·exact⟨_,_,rfl⟩
   ·exact hf f hm
 |[],_::_,a=>a.elim
 |_::_,[],a=>a.elim
def xT(ys:List Ky)(vs out:List Value):Prop:=∃ps:List (Ky×Value),ps.Perm (ys.zip vs)∧ps.Pairwise (fun p q=>e8 q.1 p.1=false)∧out=ps.map (·.2)
@[reducible] def sV (h:Heap) (p:Keyed):Ky:=(oF h p.1).getD (0,[])
theorem II{prog:Program}{w:World}{A:Around}{s:Shared}:NhLS.Cmp prog w A s (tuples' true) (fj s.heap).toKeyOrd (sV s.heap) (fun p=>∃y,oF s.heap p.1=some y):=
 ⟨fun E x y Q ⟨a,ha⟩ ⟨b,hb⟩ hq=>by
  have hq':Q (e8 (sV s.heap x) (sV s.heap y)) s:=hq
  unfold sV at hq'
  rw[ha,hb]at hq'
  exact C4 E x.1 y.1 a b ha hb hq'⟩
theorem KA.zip{h:Heap}:∀{ks:List Value} {ys:List Ky} {vs:List Value},KA h ks ys→(ks.zip vs).map (fun p=>(sV h p,p.2))=ys.zip vs
 |[],[],_,_=>by simp
 |k::ks,y::ys,[],_=>by simp
 |k::ks,y::ys,v::vs,a=>by
  simp only[List.zip_cons_cons,dQ]
  rw[KA.zip a.2]
  congr 1
  show((oF h k).getD (0,[]),v)=(y,v)
  rw[a.1.key]
  rfl
 |[],_::_,_,a=>a.elim
 |_::_,[],_,a=>a.elim
theorem KA.dom{h:Heap}{vs:List Value}:∀{ks:List Value} {ys:List Ky},KA h ks ys→∀p∈ks.zip vs,∃y,oF h p.1=some y:=fun {ks ys} a p hp=>by
 have hk:p.1∈ks:=(List.of_mem_zip hp).1
 clear hp
 induction ks generalizing ys with
 |nil=>cases hk
 |cons k ks ih=>cases ys with
  |nil=>exact a.elim
  |cons y ys=>
   rcases Zaf.mp hk with e |hk
   ·rw[e];exact⟨y,a.1.key⟩
   ·exact ih a.2 hk
theorem FH{h:Heap}{ks:List Value}{ys:List Ky}{vs:List Value}{b:Array Keyed}(hK:KA h ks ys)(hp:b.toList.Perm (ks.zip vs))(hs:NhLS.So (fj h).toKeyOrd (sV h) b 0 b.size):xT ys vs (b.map (·.2)).toList:=by
 refine⟨b.toList.map (fun p=>(sV h p,p.2)),?_,?_,?_⟩
 ·rw[←hK.zip (vs:=vs)]
  exact hp.map _
 ·rw[List.pairwise_map,List.pairwise_iff_getElem]
  intro i j hi hj hij
  rw[NhLS.FE,NhLS.FE]
  exact hs i j (Nat.zero_le _) hij (by simpa using hj)
 ·rw[Array.toList_map,List.map_map]
  rfl
section
variable {prog:Program} {w:World} {A:Around} {E:Value→Shared→Prop} {s:Shared} {a kS:Addr} {ks vs:List Value} {ys:List Ky} {e e1:Nat} {P:PySem.Fin→Shared→Prop}
theorem wc {st:SortSt} (hk:s.heap.get? kS=some (seqObj "list" ks.toArray e)) (ha:s.heap.get? a=some (seqObj "list" #[] e1)) (hka:kS≠a) (h64:vs.length < 64) (hl:ks.length=vs.length) (hn:(arrOf st).size=vs.length) (hfl:failedOf st=none)
  (h:∀h' tk c,h'.get? a=some (seqObj "list" ((arrOf st).map (·.2)) c)→(∀b o,b≠a→b≠kS→s.heap.get? b=some o→h'.get? b=some o)→P (.done (.ret .none)) {s with heap:=h',toks:=tk}):
  wpAny (model prog w) A (ksk_tail a false e1 (.ref kS) st) P E s:=by
 have s1:=Heap.SameBut.update s.heap kS (Obj.mapSeq fun _=>(#[]:Array Value))
 have na1:(s.heap.update kS (Obj.mapSeq fun _=>(#[]:Array Value))).get? a=some (seqObj "list" #[] e1):=(s1.2 a hka.symm).trans ha
 have s2:=Heap.SameBut.update (s.heap.update kS (Obj.mapSeq fun _=>(#[]:Array Value))) a (Obj.mapSeq fun _=>(arrOf st).map (·.2))
 obtain⟨c2,hc2⟩:∃c2,((s.heap.update kS (Obj.mapSeq fun _=>(#[]:Array Value))).update a (Obj.mapSeq fun _=>(arrOf st).map (·.2))).get? a=some (seqObj "list" ((arrOf st).map (·.2)) c2):=⟨_,get?_update_seq na1 fun _=>(arrOf st).map (·.2)⟩
 unfold ksk_tail
 try dsimp only
 refine wpAny_bind (listUpdate_at hk rfl ?_ (by rw[kJ,sizeLine_eq];omega) (Nat.zero_le _))
 refine wpAny_bind (wpAny_letGo ?_)
 refine wpAny_bind (seqEpoch_at na1 rfl ?_)
 simp only[bQ]
 refine wpAny_bind (listUpdate_at na1 rfl ?_ (Nat.zero_le _) (by rw[Array.size_map,hn,sizeLine_eq];omega))
 rw[hfl]
 simp only[bne_self_eq_false,bQ]
 exact wpAny_pure (h _ _ c2 hc2 fun b o h1 h2 q=>(s2.2 b h1).trans ((s1.2 b h2).trans q))
theorem FI (hK:KA s.heap ks ys) (hk:s.heap.get? kS=some (seqObj "list" ks.toArray e)) (ha:s.heap.get? a=some (seqObj "list" #[] e1)) (hka:kS≠a) (h64:vs.length < 64) (hl:ks.length=vs.length)
  (h:∀h' tk out c,h'.get? a=some (seqObj "list" out c)→xT ys vs out.toList→(∀b o,b≠a→b≠kS→s.heap.get? b=some o→h'.get? b=some o)→P (.done (.ret .none)) {s with heap:=h',toks:=tk}):
  wpAny (model prog w) A (ksk_end a false vs.toArray e1 (.ref kS) ks.toArray) P E s:=by
 have hzs:(ks.toArray.zip vs.toArray).size=vs.length:=by rw[Array.size_zip,kJ,kJ,hl,Nat.min_self]
 unfold ksk_end
 try dsimp only
 simp only[bQ]
 by_cases h2:vs.toArray.size < 2
 ·rw[if_pos h2,if_pos h2]
  refine wpAny_bind (wpAny_pure ?_)
  rw[StateT.run_pure]
  refine wpAny_bind (wpAny_pure ?_)
  try dsimp only
  refine wc (st:=SortSt.mk' general' (ks.toArray.zip vs.toArray) #[] 7 none) hk ha hka h64 hl hzs rfl fun h' tk c h1 h3=>h h' tk _ c h1 ⟨ys.zip vs,List.Perm.refl _,?_,?_⟩ h3
  ·rw[kJ]at h2
   rw[List.pairwise_iff_getElem]
   intro i j hi hj hij
   simp at hj
   omega
  ·have e1:(ys.zip vs).map (·.2)=vs:=by rw[List.map_snd_zip];have:=hK.len;omega
   have e2:((arrOf (SortSt.mk' general' (ks.toArray.zip vs.toArray) #[] 7 none)).map (·.2)).toList=(ks.zip vs).map (·.2):=by
    show((ks.toArray.zip vs.toArray).map (·.2)).toList=_
    simp
   rw[e1,e2,List.map_snd_zip]
   omega
 ·rw[if_neg h2,if_neg h2]
  rw[kJ]at h2
  obtain⟨fs,tt,hf,lf⟩:=hK.tups
  refine wpAny_bind (kat_kind (T:=.type "int") tt (by omega) (fun v hv=>?_) (by decide) ?_)
  ·obtain⟨n,t,rfl⟩:=hf v hv
   exact .now
  ·have run:=NhLS.uN (E:=E) (a:=ks.toArray.zip vs.toArray) (g:=7) (by rw[Array.size_zip,kJ,kJ];omega) (II (prog:=prog) (w:=w) (A:=A) (s:=s)) (Q:=fun _ st'=>∃b pd g,st'=SortSt.mk' (tuples' true) b pd g none∧b.toList.Perm (ks.zip vs)∧NhLS.So (fj s.heap).toKeyOrd (sV s.heap) b 0 b.size)
    (by simpa using hK.dom) fun b pd g hp hs=>⟨b,pd,g,rfl,by simpa using hp,by have:=hp.length_eq;simp only[yC]at this;rw[this];exact hs⟩
   refine wpAny_bind (wpAny_mono run ?_ fun _ _ e=>e)
   rintro⟨⟨⟩,st'⟩ s' ⟨es,b,pd,g,e,hp,hs⟩
   subst es
   dsimp only at e
   subst e
   try dsimp only
   have hz:b.size=vs.length:=by have:=hp.length_eq;simpa[hl]using this
   exact wc (st:=SortSt.mk' (tuples' true) b pd g none) hk ha hka h64 hl hz rfl fun h' tk c h1 h3=>h h' tk _ c h1 (FH hK hp hs) h3
def i9(prog:Program)(w:World)(A:Around)(f:Value)(s:Shared)(v:Value)(y:Ky):Prop:=∀(h:Heap) (tk:Nat),Keep s.heap h→
 wpAny (model prog w) A (call f [v]) (fun r s'=>∃h' tk',s'={s with heap:=h',toks:=tk'}∧Keep h h'∧IsKy h' r y) (fun _ _=>False) {s with heap:=h,toks:=tk}
theorem C7 {f:Value} {s0:Shared} (hs0:Keep s0.heap s.heap) (hss:∃tk,s={s0 with heap:=s.heap,toks:=tk}) (h0a:s0.heap.get? a=none) (h0k:s0.heap.get? kS=none) (hk:s.heap.get? kS=some (seqObj "list" #[] 0)) (ha:s.heap.get? a=some (seqObj "list" #[] e1)) (hka:kS≠a) (h64:vs.length < 64) (hl:ys.length=vs.length)
  (turn:∀(i:Nat) (v:Value) (y:Ky),vs[i]? =some v→ys[i]? =some y→i9 prog w A f s0 v y)
  (h:∀h' tk out c,h'.get? a=some (seqObj "list" out c)→xT ys vs out.toList→Keep s0.heap h'→P (.done (.ret .none)) {s0 with heap:=h',toks:=tk}):
  wpAny (model prog w) A (ksk_rest a f false vs.toArray e1 (.ref kS)) P E s:=by
 unfold ksk_rest
 refine wpAny_bind (wpAny_rule ?_)
 first
  |rw[List.forIn_toArray]
  |(rw[←Array.forIn_toList];simp only[List.toList_toArray])
  |rw[←Array.forIn_toList]
 obtain⟨tk0,es⟩:=hss
 refine wpAny_bind (ksk_fold (fun i s'=>∃h' tk kL e,s'={s0 with heap:=h',toks:=tk}∧Keep s0.heap h'∧h'.get? kS=some (seqObj "list" kL.toArray e)∧h'.get? a=some (seqObj "list" #[] e1)∧KA h' kL (ys.take i)) vs 0 s
  ⟨s.heap,tk0,[],0,es,hs0,hk,ha,by simp[KA]⟩ ?step ?done)
 case step=>
  rintro j x s' hx ⟨h',tk,kL,e,rfl,F',N1,N2,hK⟩
  simp only[Nat.zero_add]at hK ⊢
  have hj:j < vs.length:=(Zar.mp hx).1
  obtain⟨y,hyj⟩:∃y,ys[j]? =some y:=⟨_,oR (by omega)⟩
  have hz:kL.length≤vs.length:=by
   have h1:=hK.len
   rw[List.length_take]at h1
   omega
  refine wpAny_bind (wpAny_attempt (wpAny_mono (turn j x y hx hyj h' tk F') (fun v s'' he=>?_) fun _ _ hF=>hF.elim))
  obtain⟨g,tk2,rfl,kg,hy⟩:=he
  try dsimp only
  have nk:=kg _ _ N1
  have na:=kg _ _ N2
  have s1:=Heap.SameBut.update g kS (Obj.mapSeq (·.push v))
  obtain⟨c2,hc2⟩:∃c2,(g.update kS (Obj.mapSeq (·.push v))).get? kS=some (seqObj "list" (kL.toArray.push v) c2):=⟨_,get?_update_seq nk (·.push v)⟩
  have ek:ys.take (j+1)=ys.take j++[y]:=by rw[List.take_add_one,hyj];simp
  have ea:kL.toArray.push v=(kL++[v]).toArray:=by simp
  have ng:∀{ks':List Value} {ys':List Ky},KA g ks' ys'→KA (g.update kS (Obj.mapSeq (·.push v))) ks' ys':=fun {ks'} {ys'} q=>by
   induction ks' generalizing ys' with
   |nil=>cases ys' with
    |nil=>trivial
    |cons _ _=>exact q.elim
   |cons k ks' ih=>cases ys' with
    |nil=>exact q.elim
    |cons y' ys'=>
     refine⟨?_,ih q.2⟩
     obtain⟨c,o,xs,n,t,z,u,ec,ho,hcl,r⟩:=q.1
     refine⟨c,o,xs,n,t,z,u,ec,(s1.2 c ?_).trans ho,hcl,r⟩
     intro e3
     subst e3
     rw[nk]at ho
     cases ho
     have e4:Value.type "list"=Value.type "tuple":=hcl
     injection e4 with e5
     exact absurd e5 (by decide)
  refine wpAny_bind (listUpdate_at nk rfl ?_ (by rw[kJ,sizeLine_eq];omega) (kK (Nat.le_of_eq (Array.size_push ..)) (by rw[kJ,sizeLine_eq];omega)))
  refine wpAny_pure ⟨rfl,_,_,kL++[v],c2,rfl,fun b o q=>?_,by rw[←ea];exact hc2,(s1.2 a hka.symm).trans na,by rw[ek];exact ng (KA.snoc hy (hK.keep kg))⟩
  refine(s1.2 b fun e3=>?_).trans (kg _ _ (F' _ _ q))
  subst e3
  rw[h0k]at q
  cases q
 case done=>
  rintro s' ⟨h',tk,kL,e,rfl,F',N1,N2,hK⟩
  have e3:ys.take (0+vs.length)=ys:=List.take_of_length_le (by omega)
  rw[e3]at hK
  try dsimp only
  refine wpAny_bind (listItems_at N1 rfl ?_)
  refine FI (s:={s0 with heap:=h',toks:=tk}) hK N1 N2 hka h64 (by rw[hK.len,hl]) fun h3 tk3 out c g1 g2 g3=>h h3 tk3 out c g1 g2 fun b o q=>g3 b o ?_ ?_ (F' b o q)
  ·intro z;subst z;rw[h0a]at q;cases q
  ·intro z;subst z;rw[h0k]at q;cases q
theorem C8 {f:Value} {n:Nat} {s0:Shared} (hs0:Keep s0.heap s.heap) (hss:∃tk,s={s0 with heap:=s.heap,toks:=tk}) (h0a:s0.heap.get? a=none) (hle:s0.heap.objs.size≤s.heap.objs.size) (ho:s.heap.get? a=some (seqObj "list" vs.toArray n)) (h64:vs.length < 64) (hl:ys.length=vs.length)
  (turn:∀(i:Nat) (v:Value) (y:Ky),vs[i]? =some v→ys[i]? =some y→i9 prog w A f s0 v y)
  (h:∀h' tk out c,h'.get? a=some (seqObj "list" out c)→xT ys vs out.toList→Keep s0.heap h'→P (.done (.ret .none)) {s0 with heap:=h',toks:=tk}):
  wpAny (model prog w) A (ksk_tree a f false) P E s:=by
 have ha:a < s.heap.objs.size:=dM ho
 have s1:=Heap.SameBut.update s.heap a (Obj.mapSeq fun _=>(#[]:Array Value))
 obtain⟨e1,ho1⟩:∃e1,(s.heap.update a (Obj.mapSeq fun _=>(#[]:Array Value))).get? a=some (seqObj "list" #[] e1):=⟨_,get?_update_seq ho fun _=>#[]⟩
 have hkS:((s.heap.update a (Obj.mapSeq fun _=>(#[]:Array Value))).push (seqObj "tuple" vs.toArray 0)).objs.size=s.heap.objs.size+1:=by rw[size_push',Heap.size_update]
 obtain⟨tk0,es⟩:=hss
 unfold ksk_tree
 refine wpAny_bind (listItems_at ho rfl ?_)
 refine wpAny_bind (listUpdate_at ho rfl ?_ (by rw[kJ,sizeLine_eq];omega) (Nat.zero_le _))
 refine wpAny_bind (seqEpoch_at ho1 rfl ?_)
 refine wpAny_bind (wpAny_newTuple ?_ (by show vs.length≤_;rw[sizeLine_eq];omega))
 refine wpAny_bind (wpAny_newList ?_ (Nat.zero_le _))
 refine wpAny_holding ?_
 refine C7 (s:={s with heap:=((s.heap.update a (Obj.mapSeq fun _=>(#[]:Array Value))).push (seqObj "tuple" vs.toArray 0)).push (seqObj "list" #[] 0)}) (kS:=((s.heap.update a (Obj.mapSeq fun _=>(#[]:Array Value))).push (seqObj "tuple" vs.toArray 0)).objs.size) (s0:=s0)
  (fun b o q=>?_) ⟨tk0,by rw[es]⟩ h0a (Heap.get?_none_of_le (by rw[hkS];omega)) (ie _ rfl) (dF _ (dF _ ho1)) (by rw[hkS];exact Nat.ne_of_gt (vt ha)) h64 hl turn h
 refine dF _ (dF _ ((s1.2 b fun z=>?_).trans (hs0 b o q)))
 subst z
 rw[h0a]at q
 cases q
end
end NhSG
namespace NhSG
set_option autoImplicit false
open PySem PyProof PyProof.Rows PySem.W
section
variable {prog:Program} {w:World} {A:Around} {E:Value→Shared→Prop} {s:Shared} {l q:Addr} {vs:List Value} {ys:List Ky} {Q:Value→Shared→Prop}
theorem uP(hl:s.heap.IsList l vs.toArray)(hlen:ys.length=vs.length)(h64:vs.length < 64)
  (turn:∀(i:Nat) (v:Value) (y:Ky),vs[i]? =some v→ys[i]? =some y→i9 prog w A.in1.in1 (.ref q) s v y)
  (h:∀D h' tk out c,h'.get? D=some (seqObj "list" out c)→s.heap.objs.size≤D→xT ys vs out.toList→Keep s.heap h'→Q (.ref D) {s with heap:=h',toks:=tk}):
  wpAny (model prog w) A (call (.builtin "sorted") [.ref l] [(Str.ofString "key",.ref q)]) Q E s:=by
 refine call_function_entry_kw kind_sorted plain_sorted entry_sorted (ksk_s1 _ _) ?_
 unfold Builtin.«sorted»
 refine wpAny_bind (m:=checkCount "sorted" 1 1 _) (wpAny_pure ?_)
 refine wpAny_bind (collect_list hl ?_ (by rw[sizeLine_eq];omega))
 refine wpAny_bind (wpAny_newList ?_ (by rw[sizeLine_eq];omega))
 have hsz:((s.heap.push (seqObj "list" #[] 0)).update s.heap.objs.size (Obj.mapSeq (· ++vs.toArray))).objs.size=s.heap.objs.size+1:=by
  rw[Heap.size_update,size_push']
 have hoL:(((s.heap.push (seqObj "list" #[] 0)).update s.heap.objs.size (Obj.mapSeq (· ++vs.toArray))).push (seqObj "list" vs.toArray 0)).get? (s.heap.objs.size+1)=some (seqObj "list" vs.toArray 0):=by
  rw[←hsz];exact ie _ rfl
 have keep:Keep s.heap (((s.heap.push (seqObj "list" #[] 0)).update s.heap.objs.size (Obj.mapSeq (· ++vs.toArray))).push (seqObj "list" vs.toArray 0)):=fun b o q=>by
  have hlt:b < s.heap.objs.size:=dM q
  rw[Heap.get?_push_ne _ _ _ (by rw[hsz];exact eF (vt hlt)),Heap.get?_update_ne _ _ _ _ (eF hlt),Heap.get?_push_ne _ _ _ (eF hlt)]
  exact q
 show wpAny _ _ _ _ _ {s with heap:=((s.heap.push (seqObj "list" #[] 0)).update s.heap.objs.size (Obj.mapSeq (· ++vs.toArray))).push (seqObj "list" vs.toArray 0)}
 rw[hsz]
 have h0:s.heap.get? (s.heap.objs.size+1)=none:=Heap.get?_none_of_le (Nat.le_succ _)
 refine wpAny_bind (wpAny_holding (wpAny_call_entry_kw slot_list_sort ⟨_,hoL,rfl⟩ entry_list_sort ?body (ksk_l1 _ _)))
 case body=>
  show wpAny (model prog w) A.in1.in1 (Builtin.«list.sort» ⟨[.ref (s.heap.objs.size+1)],[(Str.ofString "key",.ref q)]⟩) _ _ _
  rw[ksk_t1]
  refine C8 (s:={s with heap:=((s.heap.push (seqObj "list" #[] 0)).update s.heap.objs.size (Obj.mapSeq (· ++vs.toArray))).push (seqObj "list" vs.toArray 0)}) (s0:=s) keep ⟨s.toks,rfl⟩ h0 (by rw[size_push',hsz];omega) hoL h64 hlen turn fun h' tk out c g1 g2 g3=>⟨_,rfl,?_⟩
  exact wpAny_pure ⟨_,rfl,h _ h' tk out c g1 (Nat.le_succ _) g2 g3⟩
end
end NhSG
namespace NhSG
set_option autoImplicit false
open PySem
def gL(z:Str):Ky:=(z.length,z.cps.toList)
def q9(a b:Str):Bool:= !e8 (gL b) (gL a)
def iK(ws:List Str):List Str:=ws.mergeSort q9
def tT:Value→Option Str
 |.str z _=>some z
 |_=>none
theorem Av{a b:Str}(h:gL a=gL b):a=b:=by
 have e:a.cps.toList=b.cps.toList:=congrArg Prod.snd h
 cases a;cases b
 congr
 exact Array.toList_inj.mp e
theorem xU(a b c:Str)(h1:q9 a b=true)(h2:q9 b c=true):q9 a c=true:=by
 unfold q9 at *
 simp only[Bool.not_eq_true']at *
 exact(PyProof.Rows.KeyOrd.kle_trans (O:=(fj default).toKeyOrd) h1 h2)
theorem xV(a b:Str):(q9 a b||q9 b a)=true:=by
 unfold q9
 by_cases h:e8 (gL b) (gL a)=true
 ·have:e8 (gL a) (gL b)=false:=PyProof.Rows.KeyOrd.klt_asymm (O:=(fj default).toKeyOrd) h
  simp[this]
 ·simp[Bool.not_eq_true _▸h]
theorem Aw{a b:Str}(h1:q9 a b=true)(h2:q9 b a=true):a=b:=by
 unfold q9 at *
 simp only[Bool.not_eq_true']at *
 exact Av ((fj default).total _ _ h2 h1)
theorem pB{qs ws:List Str}(hp:qs.Perm ws)(hs:qs.Pairwise fun a b=>q9 a b=true):qs=iK ws:=by
 have h1:(iK ws).Pairwise fun a b=>q9 a b=true:=List.pairwise_mergeSort xU xV ws
 have h2:qs.Perm (iK ws):=hp.trans (List.mergeSort_perm ws q9).symm
 exact h2.eq_of_pairwise (fun a b _ _ x y=>Aw x y) hs h1
theorem xW{ws:List Str}{vs out:List Value}(hv:vs.map tT=ws.map some)(h:xT (ws.map gL) vs out):out.map tT=(iK ws).map some:=by
 obtain⟨ps,hp,hs,rfl⟩:=h
 have key:∀(ws:List Str) (vs:List Value),vs.map tT=ws.map some→∀p∈(ws.map gL).zip vs,∃z,p.1=gL z∧tT p.2=some z:=fun ws=>by
  induction ws with
  |nil=>intro vs _ p hp;simp at hp
  |cons w ws ih=>
   intro vs hv p hp
   cases vs with
   |nil=>simp at hp
   |cons v vs=>
    simp only[dQ,List.cons.injEq]at hv
    rw[dQ,List.zip_cons_cons]at hp
    rcases Zaf.mp hp with rfl |hp
    ·exact⟨w,rfl,hv.1⟩
    ·exact ih vs hv.2 p hp
 have zm:∀(ws:List Str) (vs:List Value),vs.map tT=ws.map some→((ws.map gL).zip vs).map (fun p=>tT p.2)=ws.map some:=fun ws=>by
  induction ws with
  |nil=>intro vs _;simp
  |cons w ws ih=>
   intro vs hv
   cases vs with
   |nil=>simp at hv
   |cons v vs=>
    simp only[dQ,List.cons.injEq]at hv
    simp only[dQ,List.zip_cons_cons,hv.1,ih vs hv.2]
 have ex:∀ps:List (Ky×Value),(∀p∈ps,∃z,p.1=gL z∧tT p.2=some z)→∃qs:List Str,ps.map (·.1)=qs.map gL∧ps.map (fun p=>tT p.2)=qs.map some:=fun ps=>by
  induction ps with
  |nil=>intro _;exact⟨[],rfl,rfl⟩
  |cons p ps ih=>
   intro h
   obtain⟨z,h1,h2⟩:=h p (gk ..)
   obtain⟨qs,e1,e2⟩:=ih fun q hq=>h q (fJ _ hq)
   exact⟨z::qs,by simp[h1,e1],by simp[h2,e2]⟩
 obtain⟨qs,e1,e2⟩:=ex ps fun p hp'=>key ws vs hv p (hp.mem_iff.mp hp')
 have perm:qs.Perm ws:=by
  have h1:=hp.map (fun p=>tT p.2)
  rw[e2,zm ws vs hv]at h1
  have h2:=h1.filterMap id
  simpa using h2
 have srt:qs.Pairwise fun a b=>q9 a b=true:=by
  have h1:(ps.map (·.1)).Pairwise fun a b=>e8 b a=false:=List.pairwise_map.mpr hs
  rw[e1,List.pairwise_map]at h1
  exact h1.imp fun h=>by unfold q9;simp[h]
 rw[List.map_map]
 show ps.map (fun p=>tT p.2)=_
 rw[e2,pB perm srt]
end NhSG
namespace NhSG
open PySem PySem.Spec PySem.Calls PyProof PyProof.Rows PySem.W
section
variable {prog:Program} {w:World} {A:Around} {E:Value→Shared→Prop} {s:Shared} {Q:Value→Shared→Prop}
theorem sW {env:Env} {x z:Str} {t:Tok} {m mg mb:Str→Option Value} {p1 p2 p3 p4 pos:Pos} {x1} (hk:env.scope.kind=.function) (hx:env.kindOf x=some .local) (hl:env.kindOf "len"=some .globalImplicit)
  (hn:s.heap.Ns env.locals m) (hm:m x=some (.str z t)) (hg:s.heap.Ns env.globals mg) (hlg:mg "len"=none) (hb:s.heap.Ns env.builtins mb) (hlb:mb "len"=some (.builtin "len")) (hz:z.length≤sizeLine)
  (h:∀h' tk r,Keep s.heap h'→IsKy h' r (gL z)→Q r {s with heap:=h',toks:=tk})
  (hd:(x == ("__debug__":Str))=false:=by decide) (h1:starEach [Expr.Call (.Name "len" p1) [.Name x p2] [] p3,.Name x p4] env=(false,eval (.Call (.Name "len" p1) [.Name x p2] [] p3) env)::starEach [Expr.Name x p4] env:=by rfl)
  (h2:starEach [Expr.Name x p4] env=[(false,eval (.Name x p4) env)]:=by rfl) (h3:starEach [Expr.Name x p2] env=(false,eval (.Name x p2) env)::starEach [] env:=by rfl):
  wpAny (model prog w) A (eval (.Tuple [.Call (.Name "len" p1) [.Name x p2] [] p3,.Name x p4] x1 pos) env) Q E s:=by
 refine wpAny_Tuple_spliced ?_
 rw[h1,h2]
 show wpAny _ _ (spliced ((false,eval (.Call (.Name "len" p1) [.Name x p2] [] p3) env)::backTo pos [(false,eval (.Name x p4) env)])) _ _ s
 refine Calls.spliced_cons ?_
 refine wpAny_Call_Name_kw (Calls.Name_function_global hk hl (Calls.loadGlobal_builtin hg hlg hb hlb ?_) (by decide))
 refine PyProof.Rows.callWith_builtin1 ?_ h3 rfl
 rw[h3]
 show wpAny _ _ (spliced ((false,eval (.Name x p2) env)::backTo p3 (starEach [] env))) _ _ s
 refine Calls.spliced_cons (wpAny_Name (wpAny_loadName_local hk hx hn hm ?_) hd)
 show wpAny _ _ (spliced []) _ _ s
 refine Calls.spliced_nil ?_
 refine len_str (by have:=hz;rw[sizeLine_eq]at this;omega) ?_
 show wpAny _ _ (spliced [(false,standAt pos >>= fun _=>eval (.Name x p4) env)]) _ _ _
 refine Calls.spliced_cons (wpAny_bind (wpAny_standAt (wpAny_Name (wpAny_loadName_local hk hx hn hm ?_) hd)))
 refine Calls.spliced_nil ⟨by rw[sizeLine_eq];simp,?_⟩
 exact h _ _ _ (fun b o e=>dF _ e) ⟨_,_,_,_,_,z,t,rfl,ie _ rfl,rfl,rfl,rfl,rfl⟩
structure KMod (h:Heap):Prop where
 g:∃mg,h.Ns mainGlobals mg∧mg "len"=none
 b:∃mb,h.Ns builtinsNs mb∧mb "len"=some (.builtin "len")
 lim:h.NoLimit
theorem KMod.keeps{h h':Heap}(a:KMod h)(k:Keep h h'):KMod h':=
 ⟨let ⟨mg,e,r⟩:=a.g;⟨mg,e.keeps k,r⟩,let ⟨mb,e,r⟩:=a.b;⟨mb,e.keeps k,r⟩,a.lim.keeps k⟩
theorem sX{f c':Addr}{name qual x z:Str}{t:Tok}{params:Arguments}{scope:Scope}{pm ctv:Value}{p1 p2 p3 p4 pos:Pos}{x1}(M:KMod s.heap)(hroom:A.depth < recursionLimit)
  (ho:s.heap.get? f=some (kla_obj name qual params (.Tuple [.Call (.Name "len" p1) [.Name x p2] [] p3,.Name x p4] x1 pos) scope [] pm c' ctv)) (hcd:s.heap.CodeRec (.ref c') qual) (hz:z.length≤sizeLine)
  (hbind:bindArgs (kla_fn name qual params (.Tuple [.Call (.Name "len" p1) [.Name x p2] [] p3,.Name x p4] x1 pos) scope [] pm (.ref c') ctv) ⟨[.str z t],[]⟩=pure [(x,.str z t)])
  (hx:scope.names.lookup x=some .local) (hlen:scope.names.lookup (Str.ofString "len")=some .globalImplicit) (hco:scope.isCoroutine=false) (hgen:scope.isGenerator=false) (hk:scope.kind=.function) (hcell:∀x∈scope.names,x.2≠ .cell)
  (hd:(x == ("__debug__":Str))=false):i9 prog w A (.ref f) s (.str z t) (gL z):=by
 intro h tk kp
 refine wpAny_call (kla_callFunE hroom (kp _ _ ho) rfl hco hgen rfl (hcd.keeps kp) ?_)
 rw[hbind]
 refine wpAny_pure (wpAny_newFunctionEnv hcell (fun y hy=>?_) (fun h₁ hns hsb=>⟨((M.keeps kp).lim).fresh _ hsb,?_⟩) hk)
 ·rw[Zak.mp hy];exact hx
 have hk₁:Keep h h₁:=fun b o e=>hsb.extBut b o (eF (dM e)) (dF _ e)
 have M1:=(M.keeps kp).keeps hk₁
 obtain⟨mg,g1,g2⟩:=M1.g
 obtain⟨mb,b1,b2⟩:=M1.b
 refine kla_codeExpr (sW (t:=t) (z:=z) (m:=fun y=>List.lookup y [(x,Value.str z t)].reverse) hk hx hlen hns ?_ g1 g2 b1 b2 hz (fun h' tk' r k1 k2=>?_) hd)
 ·simp
 ·exact⟨h',tk',rfl,hk₁.trans k1,k2⟩
theorem Ax{f:Addr}{o:Obj}{fd:FuncData}{x z:Str}{t:Tok}{p1 p2 p3 p4 pos rp:Pos}{x1}(M:KMod s.heap)(hroom:A.depth < recursionLimit)
  (ho:s.heap.get? f=some o) (hfd:o.data=.func fd) (hbody:fd.body=.stmts [.Return (some (.Tuple [.Call (.Name "len" p1) [.Name x p2] [] p3,.Name x p4] x1 pos)) rp]) (hcd:s.heap.CodeRec fd.code fd.qualname) (hz:z.length≤sizeLine)
  (hbind:∀(h:Heap) (tk:Nat),Keep s.heap h→BindsTo {s with heap:=h,toks:=tk} fd ⟨[.str z t],[]⟩ [(x,.str z t)]) (hgl:fd.globals=mainGlobals) (hbl:fd.builtins=builtinsNs)
  (hx:fd.scope.names.lookup x=some .local) (hlen:fd.scope.names.lookup (Str.ofString "len")=some .globalImplicit) (hco:fd.scope.isCoroutine=false) (hgen:fd.scope.isGenerator=false) (hk:fd.scope.kind=.function) (hcell:∀x∈fd.scope.names,x.2≠ .cell)
  (hd:(x == ("__debug__":Str))=false):i9 prog w A (.ref f) s (.str z t) (gL z):=by
 intro h tk kp
 refine wpAny_call (codeAny_call_function hroom (kp _ _ ho) hfd hco hgen hbody (hcd.keeps kp) ?_)
 refine hbind h tk kp _ _ _ _ (wpAny_newFunctionEnv hcell (fun y hy=>?_) (fun h₁ hns hsb=>⟨((M.keeps kp).lim).fresh _ hsb,?_⟩) hk)
 ·rw[Zak.mp hy];exact hx
 have hk₁:Keep h h₁:=fun b o e=>hsb.extBut b o (eF (dM e)) (dF _ e)
 have M1:=(M.keeps kp).keeps hk₁
 obtain⟨mg,g1,g2⟩:=M1.g
 obtain⟨mb,b1,b2⟩:=M1.b
 rw[←hgl]at g1
 rw[←hbl]at b1
 refine codeAny_func (wpAny_execs_cons (wpAny_Return_some (sW (t:=t) (z:=z) (m:=fun y=>List.lookup y [(x,Value.str z t)].reverse) hk hx hlen hns ?_ g1 g2 b1 b2 hz (fun h' tk' r k1 k2=>?_) hd)))
 ·simp
 ·exact⟨h',tk',rfl,hk₁.trans k1,k2⟩
end
end NhSG
namespace PL
open PySem L2 Nh
def iL(f:aD):aD:=fun E=>(f E).bind fun a=>match look a.2 a.1 with
 |some (.list ds)=>(jz ds).bind fun ss=>if (decide (ss.length < 64)&&ss.all fun z=>decide (z.length≤1000))=true then some (.ow ((NhSG.iK ss).map .str),a.2)else none
 |_=>none
theorem sY:∀{ws:List Str} {vs:List Value},Vals (ws.map V.str) vs→vs.map NhSG.tT=ws.map some
 |[],_,.nil=>rfl
 |w::ws,_,.cons r t=>by
  obtain⟨u,rfl⟩:=r
  simp only[dQ,sY t]
  rfl
theorem sZ:∀{ws:List Str} {vs:List Value},vs.map NhSG.tT=ws.map some→Vals (ws.map V.str) vs
 |[],[],_=>.nil
 |[],_::_,h=>by simp at h
 |_::_,[],h=>by simp at h
 |w::ws,v::vs,h=>by
  simp only[dQ,List.cons.injEq]at h
  refine .cons ?_ (sZ h.2)
  have h1:=h.1
  unfold NhSG.tT at h1
  split at h1
  ·cases h1;exact⟨_,rfl⟩
  ·cases h1
section
variable {X:Cx} {pins:List (Addr×Obj)} {σ:L2.St} {H:Hp} {s:Shared}
theorem FJ (I:Inv X pins σ H s) (hl:X.mg "len"=none):NhSG.KMod s.heap:=
 ⟨⟨X.mg,I.mod.glob.keeps I.bk,hl⟩,let ⟨mb,h1,h2⟩:=I.mod.blt;⟨mb,h1.keeps I.bk,(h2 _ (by decide)).trans rfl⟩,I.nolimit⟩
theorem la{l q:Addr}{ss:List Str}{Q:VK}(I:Inv X pins σ H s)(hq:SqL X.K H l (ss.map V.str))(h64:ss.length < 64)
  (turn:∀z t,z∈ss→NhSG.i9 X.prog X.w X.A.in1.in1 (.ref q) s (.str z t) (NhSG.gL z))
  (h:∀D,H D=none→Q (.ref D) (upd H D (.lst ((NhSG.iK ss).map V.str)))):
  wpAny (model X.prog X.w) X.A (call (.builtin "sorted") [.ref l] [(Str.ofString "key",.ref q)]) (EP X pins σ Q) X.xe s:=by
 obtain⟨its,rv,pl,hz⟩:=I.list hq
 have hv:=sY rv
 have hlen:its.length=ss.length:=by have:=congrArg List.length hv;simpa using this
 refine NhSG.uP (ys:=ss.map NhSG.gL) pl.isList (by simp[hlen]) (by omega) (fun i v y hv' hy'=>?_) fun D h' tk out c g1 g2 g3 g4=>?_
 ·rw[q_]at hy'
  obtain⟨z,hz1,rfl⟩:=Zab.mp hy'
  have e:(its.map NhSG.tT)[i]? =(ss.map some)[i]? :=by rw[hv]
  rw[q_,q_,hv',hz1]at e
  have e1:NhSG.tT v=some z:=by simpa using e
  unfold NhSG.tT at e1
  split at e1
  ·cases e1;exact turn _ _ (List.mem_of_getElem? hz1)
  ·cases e1
 ·have ot:=NhSG.xW hv g3
  refine⟨.ref D,_,I.laid (t':=tk) g4 g2 (show ObjOk X.prog X.w _ _ _ (.lst ((NhSG.iK ss).map V.str))from⟨?_,out.toList,c,sZ ot,by simpa using g1⟩),rfl,h D (I.hok.fresh g2)⟩
  rw[dY]
  have:(NhSG.iK ss).length=ss.length:=(List.mergeSort_perm ss NhSG.q9).length_eq
  rw[this,sizeLine_eq]
  omega
end
theorem m_{z:Str}(h:z.length≤1000):z.length≤sizeLine:=by rw[sizeLine_eq];omega
section
variable {X:Cx} {e:Expr} {m:Bool} {f:aD} {p pos kp np:Pos} {x y:Str} {st:Stmt} {k:Nat} {p1 p2 p3 p4 tp rp:Pos} {x1:Nat}
theorem Ay (D:Def X.K X.mg x st [y]) (hr:Room k X.A) (hg:Gl X "sorted") (hm:X.mg "sorted"=none) (hl:X.mg "len"=none) (hgx:Gl X x) (ha:EX X e m f)
  (hb:a7 st=[.Return (some (.Tuple [.Call (.Name "len" p1) [.Name y p2] [] p3,.Name y p4] x1 tp)) rp]:=by rfl)
  (sc1:(ah st).names.lookup y=some .local:=by rfl) (eK:(ah st).names.lookup (Str.ofString "len")=some .globalImplicit:=by rfl) (sc3:(ah st).isCoroutine=false:=by rfl) (sc4:(ah st).isGenerator=false:=by rfl) (sc5:(ah st).kind=.function:=by rfl)
  (sc6:∀x∈(ah st).names,x.2≠ .cell:=by decide) (hdy:(y == ("__debug__":Str))=false:=by decide) (hdx:(x == ("__debug__":Str))=false:=by decide)
  (he:starEach [e] X.env=[(false,eval e X.env)]:=by rfl)
  (he':backTo pos (starEach [e] X.env)=(false,eval e X.env)::backTo pos (starEach [] X.env):=by rfl) (hpl:(backTo pos (starEach [e] X.env)).any (·.1)=false:=by rfl)
  (hall:(backToKw pos (keywordEach [⟨some "key",.Name x np,kp⟩] X.env)).all (·.1.isSome)=true:=by rfl) (hkw:(backToKw pos (keywordEach [⟨some "key",.Name x np,kp⟩] X.env)).any (·.1.isNone)=false:=by rfl)
  (hnm:(backToKw pos (keywordEach [⟨some "key",.Name x np,kp⟩] X.env)).filterMap (·.1)=[Str.ofString "key"]:=by rfl):
  EX X (.Call (.Name "sorted" p) [e] [⟨some "key",.Name x np,kp⟩] pos) m (iL f):=by
 intro pins s σ H Q I z
 obtain⟨B,E,xs,Xs,res,E',fr,cl,e0,q⟩:=z
 obtain⟨⟨r1,E1⟩,e1,e2⟩:=Za.mp e0
 simp only at e2
 split at e2
 ·rename_i ds ld
  obtain⟨ss,en,e3⟩:=Za.mp e2
  split at e3
  ·rename_i hc
   cases e3
   simp only[lQ,decide_eq_true_eq,Zbj]at hc
   refine wpAny_Call_Name_kw (fX I hg hm PyProof.Rows.boot_sorted ?_ (by decide) (by decide))
   refine PyProof.Rows.callWith_kw (bR (bZ ha dG he pos pins s σ H (fun vs H1=>∃p,vs=[.ref p]∧SqL X.K H1 p (ss.map V.str)∧∀D,H1 D=none→Q (.ref D) (upd H1 D (.lst ((NhSG.iK ss).map V.str)))) I ⟨B,E,xs,Xs,r1,_,fr,cl,e1,fun v1 H1 ⟨F,A,fr1⟩=>?_⟩) fun us s2 ⟨vs,H1,I1,r1,p0,ev,hq,q1⟩=>?_) he' hpl hall hkw
   ·obtain⟨A',fr2⟩:=fr1.pop
    have r:=(fr1.look0 ld).1
    cases r with
    |lst h1 h2=>
     have:=kb h2 en
     subst this
     exact⟨_,rfl,h1,fun D hD=>q _ _ ⟨F,_,fr2.newl (f8 _) hD⟩⟩
   ·subst ev
    cases r1 with
    |cons r rr=>
     cases rr
     cases r
     obtain⟨fa,fd,F,hmx,hbd⟩:=D.ex
     refine PyProof.Rows.kws_cons (eI I1 hgx hmx (PyProof.Rows.kws_nil ?_) hdx)
     rw[hnm]
     refine la I1 hq hc.1 (fun z t hz=>?_) q1
     obtain⟨oc,od,kV,doc,pm,an,cdv,ct,osl,rfl,lk,hcd⟩:=F.ex
     exact NhSG.Ax (FJ I1 hl) (show X.A.depth < recursionLimit by have:=hr.dp;omega) (I1.kIn _ _ lk) rfl (by show FuncBody.stmts (a7 st)=_;rw[hb]) (codeRec_of I1.kIn hcd) (m_ (hc.2 z hz))
      (fun h tk kpp=>hbd {s2 with heap:=h,toks:=tk} [.str z t] (I1.kIn.keeps kpp) rfl) rfl rfl sc1 eK sc3 sc4 sc5 sc6 hdy
  ·cases e3
 ·cases e2
end
end PL
namespace PL
open PySem L2 Nh
theorem oG{pos:Pos}{a b:Int}{c cv:Value}(l:List Value)(h:TriplesOk l)(e:codeAmong pos (l++[rawInt a,rawInt b,c])=some cv):codeAmong pos l=some cv∨cv=c:=by
 fun_induction TriplesOk l with
 |case1=>
  simp only[Z8,codeAmong,rawInt]at e
  split at e
  ·cases e;exact .inr rfl
  ·cases e
 |case2 a' t b' u x aQ ih=>
  simp only[Z9,codeAmong]at e ⊢
  split at e
  ·rename_i hc;rw[if_pos hc];exact .inl e
  ·rename_i hc;rw[if_neg hc];exact ih h e
 |case3 l h1 h2=>exact h.elim
section
variable {X:Cx} {pins:List (Addr×Obj)} {σ:L2.St} {H:Hp} {s:Shared}
theorem pD{P c':Addr}{q:Str}{ps:Array Value}{a b:Int}{h':Heap}{tk:Nat}(I:Inv X pins σ H s)(hT:H P=some (.tbl q))(hps:s.heap.get? P=some (tabObj ps))
  (hx:∀b o,b≠P→s.heap.get? b=some o→h'.get? b=some o) (hc:s.heap.objs.size≤c') (hr:h'.CodeRec (.ref c') q) (hP:h'.get? P=some (tabObj (ps++#[rawInt a,rawInt b,.ref c']))):
  Inv X pins σ (upd H c' (.own P)) {s with heap:=h',toks:=tk}:=by
 have hn:H c'=none:=I.hok.fresh hc
 have neP:∀b,H b=none→b≠P:=fun b n z=>by subst z;rw[hT]at n;cases n
 obtain⟨ps0,e0,t0,r0⟩:=I.hok P _ hT
 rw[hps]at e0
 cases e0
 refine I.un (h':=h') (t':=tk) ⟨fun b o e n _ _=>hx b o (neP b n) e,fun b o e n _ _=>⟨o.slots,hx b o (neP b n) e⟩,fun b o e n _=>?_,fun b o e _=>?_,fun b xs e=>?_,fun b o u e=>?_,fun b z e=>?_⟩ fun d o e=>?_
 ·rw[ar (eF (jH (dM e) hc))];exact n
 ·by_cases hb:b=P
  ·subst hb;exact⟨_,hP⟩
  ·exact⟨o,hx b o hb e⟩
 ·rw[ar (bj e hn)];exact e
 ·rw[ar (bj e hn)];exact e
 ·rw[ar (bj e hn)];exact e
 ·by_cases hd:d=c'
  ·subst hd
   rw[upd_same]at e
   cases e
   obtain⟨c2,oc,_,_,hc2,hoc,_⟩:=hr
   cases hc2
   exact⟨oc,hoc⟩
  ·rw[ar hd]at e
   by_cases hp:d=P
   ·subst hp
    rw[hT]at e
    cases e
    refine⟨_,hP,by simpa using TriplesOk_snoc a b (.ref c') _ t0,fun pos cv z=>?_⟩
    rcases oG (a:=a) (b:=b) (c:=.ref c') ps.toList t0 (by simpa using z)with z |z
    ·obtain⟨c,ec,ho,c2,oc,vs,tq,hc2,hoc,hr2⟩:=r0 pos cv z
     subst ec
     cases hc2
     refine⟨c,rfl,by rw[ar (bj ho hn)];exact ho,c,oc,vs,tq,rfl,hx _ _ (fun z=>?_) hoc,hr2⟩
     subst z
     rw[hT]at ho
     cases ho
    ·subst z
     exact⟨c',rfl,upd_same,hr⟩
   ·refine(I.hok d o e).stay (fun b u hb q=>hx b u ?_ q) (fun b hb=>by rw[ar (bj hb hn)];exact hb) fun b xs hb=>by rw[ar (bj hb hn)];exact hb
    rcases hb with rfl |hb
    ·exact hp
    ·intro z
     subst z
     rw[hT]at hb
     cases hb
theorem DZ{P:Addr}{ps:Array Value}(I:Inv X pins σ H s)(hps:s.heap.get? P=some (tabObj ps)):mainGlobals≠P∧s.heap.BuiltinsAt X.mg P:=by
 have hg:=I.mod.glob.keeps I.bk
 obtain⟨bm,ob,b1,b2,b3,b4,b5,b6⟩:=I.mod.bmain
 have b3':=I.bk _ _ b3
 refine⟨fun q=>?_,bm,ob,b1,b2,fun q=>?_,fun q=>?_,b3',b4,b5,b6⟩
 ·obtain⟨o,es,ep,e,hd,_⟩:=hg
  rw[q,hps]at e;cases e;cases hd
 ·obtain⟨o,es,ep,e,hd,_⟩:=hg
  rw[q,e]at b3';cases b3';rw[hd]at b6;cases b6
 ·rw[q,hps]at b3';cases b3';cases b4
end
section
variable {X:Cx} {e:Expr} {m:Bool} {f:aD} {p pos kp lp:Pos} {y:Str} {k:Nat} {p1 p2 p3 p4 tp:Pos} {x1:Nat} {params:Arguments} {scope:Scope} {c P:Addr}
theorem Az (hcode:X.env.code=.ref c) (hP:io X.K P=some "in_told_order.<locals>.<lambda>") (hC:codeHdIn X.K c P=true) (hr:Room k X.A) (hg:Gl X "sorted") (hm:X.mg "sorted"=none) (hl:X.mg "len"=none) (ha:EX X e m f)
  (hq:X.env.qual++"<lambda>"=Str.ofString "in_told_order.<locals>.<lambda>") (hdef:defaultsOf params X.env=([],[]):=by rfl)
  (hbind:∀(name qual:Str) (pm cd ctv u:Value),bindArgs (kla_fn name qual params (.Tuple [.Call (.Name "len" p1) [.Name y p2] [] p3,.Name y p4] x1 tp) scope [] pm cd ctv) ⟨[u],[]⟩=pure [(y,u)]:=by intros;rfl)
  (sc1:scope.names.lookup y=some .local:=by rfl) (eK:scope.names.lookup (Str.ofString "len")=some .globalImplicit:=by rfl) (sc3:scope.isCoroutine=false:=by rfl) (sc4:scope.isGenerator=false:=by rfl) (sc5:scope.kind=.function:=by rfl)
  (sc6:∀x∈scope.names,x.2≠ .cell:=by decide) (sc7:∀x∈scope.names,x.2≠ .free:=by decide) (hdy:(y == ("__debug__":Str))=false:=by decide)
  (he:starEach [e] X.env=[(false,eval e X.env)]:=by rfl)
  (he':backTo pos (starEach [e] X.env)=(false,eval e X.env)::backTo pos (starEach [] X.env):=by rfl) (hpl:(backTo pos (starEach [e] X.env)).any (·.1)=false:=by rfl)
  (hall:(backToKw pos (keywordEach [⟨some "key",.Lambda params (.Tuple [.Call (.Name "len" p1) [.Name y p2] [] p3,.Name y p4] x1 tp) scope lp,kp⟩] X.env)).all (·.1.isSome)=true:=by rfl)
  (hkw:(backToKw pos (keywordEach [⟨some "key",.Lambda params (.Tuple [.Call (.Name "len" p1) [.Name y p2] [] p3,.Name y p4] x1 tp) scope lp,kp⟩] X.env)).any (·.1.isNone)=false:=by rfl)
  (hnm:(backToKw pos (keywordEach [⟨some "key",.Lambda params (.Tuple [.Call (.Name "len" p1) [.Name y p2] [] p3,.Name y p4] x1 tp) scope lp,kp⟩] X.env)).filterMap (·.1)=[Str.ofString "key"]:=by rfl):
  EX X (.Call (.Name "sorted" p) [e] [⟨some "key",.Lambda params (.Tuple [.Call (.Name "len" p1) [.Name y p2] [] p3,.Name y p4] x1 tp) scope lp,kp⟩] pos) m (iL f):=by
 intro pins s σ H Q I z
 obtain⟨B,E,xs,Xs,res,E',fr,cl,e0,q⟩:=z
 obtain⟨⟨r1,E1⟩,e1,e2⟩:=Za.mp e0
 simp only at e2
 split at e2
 ·rename_i ds ld
  obtain⟨ss,en,e3⟩:=Za.mp e2
  split at e3
  ·rename_i hc
   cases e3
   simp only[lQ,decide_eq_true_eq,Zbj]at hc
   refine wpAny_Call_Name_kw (fX I hg hm PyProof.Rows.boot_sorted ?_ (by decide) (by decide))
   refine PyProof.Rows.callWith_kw (bR (bZ ha dG he pos pins s σ H (fun vs H1=>∃p,vs=[.ref p]∧SqL X.K H1 p (ss.map V.str)∧∀H2,Same H1 H2→∀D,H2 D=none→Q (.ref D) (upd H2 D (.lst ((NhSG.iK ss).map V.str)))) I ⟨B,E,xs,Xs,r1,_,fr,cl,e1,fun v1 H1 ⟨F,A,fr1⟩=>?_⟩) fun us s2 ⟨vs,H1,I1,r1,p0,ev,hq1,q1⟩=>?_) he' hpl hall hkw
   ·obtain⟨A',fr2⟩:=fr1.pop
    have r:=(fr1.look0 ld).1
    cases r with
    |lst h1 h2=>
     have:=kb h2 en
     subst this
     exact⟨_,rfl,h1,fun H2 g D hD=>q _ _ ⟨_,_,(fr2.grow g).newl (f8 _) hD⟩⟩
   ·subst ev
    cases r1 with
    |cons r rr=>
     cases rr
     cases r
     refine PyProof.Rows.kws_cons (PySem.W.kla_eval hdef ?_)
     have hT:H1 P=some (.tbl (Str.ofString "in_told_order.<locals>.<lambda>")):=I1.tab P _ hP
     obtain⟨ps,hps,ht,hit⟩:=I1.hok P _ hT
     obtain⟨hgP,hbA⟩:=DZ I1 hps
     have hcl:closureFor scope X.env=pure []:=closureFor_none sc7
     have C:=codeHd_of_K I1.kIn hC
     have hroom:X.A.in1.in1.depth < recursionLimit:=by have:=hr.dp;show X.A.depth < recursionLimit;omega
     cases hca:codeAmong lp ps.toList with
     |none=>
      refine PySem.W.kla_makeFunction hcl I1.ok.glob (I1.mod.glob.keeps I1.bk) hcode C hps ht hca hgP hbA fun c' ctv h' tk hx hge hlt hrec htb=>?_
      rw[hq]at hrec
      have I2:=pD (tk:=tk) I1 hT hps (fun b o hb e=>hx b o hb e) hge hrec htb
      have g:Same H1 (upd H1 c' (.own P)):=eJ (I1.hok.fresh hge) _
      have I3:=I2.kept (t':=tk) (fun b o e=>dF (kla_obj "<lambda>" (X.env.qual++"<lambda>") params (.Tuple [.Call (.Name "len" p1) [.Name y p2] [] p3,.Name y p4] x1 tp) scope [] ((X.mg "__name__").getD .none) c' ctv) e)
      refine PyProof.Rows.kws_nil ?_
      rw[hnm]
      refine la I3 (g.seq hq1) hc.1 (fun z t hz=>?_) (q1 _ g)
      exact NhSG.sX (FJ I3 hl) hroom (ie _ rfl) (by rw[hq];exact hrec.keeps fun b o e=>dF _ e) (m_ (hc.2 z hz)) (hbind _ _ _ _ _ _) sc1 eK sc3 sc4 sc5 sc6 hdy
     |some cv=>
      obtain⟨c',rfl,ho,hrec⟩:=hit lp cv hca
      refine PySem.W.kla_makeFunctionHit hcl I1.ok.glob (I1.mod.glob.keeps I1.bk) hcode C hps ht hca hbA fun ctv h' tk hx hsz=>?_
      have I3:=I1.kept (t':=tk) (fun b o e=>dF (kla_obj "<lambda>" (X.env.qual++"<lambda>") params (.Tuple [.Call (.Name "len" p1) [.Name y p2] [] p3,.Name y p4] x1 tp) scope [] ((X.mg "__name__").getD .none) c' ctv) (hx b o e))
      refine PyProof.Rows.kws_nil ?_
      rw[hnm]
      refine la I3 hq1 hc.1 (fun z t hz=>?_) (q1 _ (Same.refl _))
      exact NhSG.sX (FJ I3 hl) hroom (ie _ rfl) (by rw[hq];exact hrec.keeps fun b o e=>dF _ (hx b o e)) (m_ (hc.2 z hz)) (hbind _ _ _ _ _ _) sc1 eK sc3 sc4 sc5 sc6 hdy
  ·cases e3
 ·cases e2
end
structure DefT (K:Frag) (mg:Str→Option Value) (x:Str) (st:Stmt) (ps:List Str) (c P:Addr):Prop where
 ex:∃(f:Addr) (oc:Value) (od:Option Addr) (kV doc pm:Value) (an:Option Addr) (ct:Value) (osl:Array (Option Value)),
  K.lookup f=some ⟨oc,od,.func (fnOf x x (cM st) (a7 st) (ah st) .none kV doc pm an (.ref c) ct),osl⟩∧codeIn K (.ref c) x=true∧keepIn K (.ref f)=true∧mg x=some (.ref f)∧
   Binds K (fnOf x x (cM st) (a7 st) (ah st) .none kV doc pm an (.ref c) ct) ps []
 hd:codeHdIn K c P=true
 tp:io K P=some (x++".<locals>."++"<lambda>")
theorem IJ{P:Program}{w:World}{K:Frag}{mg:Str→Option Value}{base:Heap}{x:Str}{st:Stmt}{N ps:List Str}{k a n:Nat}{g:cI}{c T:Addr}(D:DefT K mg x st ps c T)(S:FnScope N ps (ah st))(hpa:ps.length=a)(hNn:N.length=n)(hps:a≤n)
  (hbody:∀(f:Addr) (A:Around) (outer:List Env) (s:Shared) (H:Hp) (E:XK),Room k (A.deeper (PyProof.Rows.envOfC x (ah st) s.heap.objs.size f (.ref c)))→
   qX (fY mv P w K mg base N x (ah st) f (.ref c) A outer s H E).nox (a7 st) g):Own P w K mg base (k+1) x ps (eN K (fV a n g)):=by
 subst hpa hNn
 obtain⟨f,oc,od,kV,doc,pm,an,ct,osl,lk,hcd,kp,hm,hb⟩:=D.ex
 refine⟨f,_,vC lk hcd S (fun vs H Q E h=>?_) (fun A outer s H vs Q E hr h=>?_),hb,hm,kp⟩
 ·obtain⟨ds,r,e,rp,_⟩:=h
  unfold fV at e
  split at e
  ·rename_i hl
   rw[rp.len];exact hl
  ·cases e
 obtain⟨ds,r,e,rp,q⟩:=h
 unfold fV at e
 split at e
 ·rename_i hl
  refine⟨_,(hbody f A outer s H E hr).nox,?_⟩
  obtain⟨⟨E',fl⟩,e1,e⟩:=Za.mp e
  refine⟨H,aZ N.length ds,[],[],E',fl,⟨H,[],i3 rp (by omega)⟩,rfl,e1,?_⟩
  cases fl with
  |nx=>
   cases e
   rintro σ' H' ⟨F',A',fr'⟩
   exact q _ _ (fr'.bf.trans fr'.fh) .non
  |bk=>cases e
  |ct=>cases e
  |rt r'=>
   rintro σ' v H' ⟨F',A',fr'⟩
   obtain⟨s1,s2⟩:=fr'.resultO e
   exact q v H' s1 s2
 ·cases e
theorem uQ{K:Frag}{n:Str}(a:nsIn K mainGlobals n=some none):oU K n=none:=by
 unfold oU
 rw[a]
theorem AC{K:Frag}{n:Str}{f c P:Addr}{oc occ:Value}{od odc:Option Addr}{fd:FuncData}{sl slc:Array (Option Value)}{vs:Array Value}(a:nsIn K mainGlobals n=some (some (.ref f)))(l:K.lookup f=some ⟨oc,od,.func fd,sl⟩)(hc:fd.code=.ref c)
  (lc:K.lookup c=some ⟨occ,odc,.fields vs,slc⟩) (hv:(vs[11]? :Option Value)=some (.ref P)):oU K n=some P:=by
 unfold oU
 rw[a]
 simp only[l,hc,lc,hv]
def AD(K:Frag)(n:Str)(o:Option Addr):Prop:=oU K n=o∧∀P,o=some P→∃c,codeHdIn K c P=true
theorem dW{K:Frag}{n:Str}(a:nsIn K mainGlobals n=some none):AD K n none:=⟨uQ a,nofun⟩
theorem s_{K:Frag}{n:Str}{f c P:Addr}{oc occ:Value}{od odc:Option Addr}{fd:FuncData}{sl slc:Array (Option Value)}{vs:Array Value}(a:nsIn K mainGlobals n=some (some (.ref f)))(l:K.lookup f=some ⟨oc,od,.func fd,sl⟩)(hc:fd.code=.ref c)
  (lc:K.lookup c=some ⟨occ,odc,.fields vs,slc⟩) (hv:(vs[11]? :Option Value)=some (.ref P)) (hd:codeHdIn K c P=true):AD K n (some P):=⟨AC a l hc lc hv,fun _ e=>by cases e;exact⟨c,hd⟩⟩
def gr(K:Frag):List (Str×Str)→List (Option Addr)→Prop
 |[],[]=>True
 |n::r,o::os=>AD K n.1 o∧gr K r os
 |_,_=>False
def AE(b:Addr):List (Str×Str)→List (Option Addr)→Option Str
 |n::r,o::os=>if o=some b then some n.2 else AE b r os
 |_,_=>none
theorem ma{K:Frag}{b:Addr}:∀{l:List (Str×Str)} {os:List (Option Addr)},gr K l os→BF K b l=AE b l os
 |[],[],_=>rfl
 |n::r,o::os,h=>by
  unfold BF AE
  rw[h.1.1,ma h.2]
theorem td{b:Addr}{q:Str}:∀{l:List (Str×Str)} {os:List (Option Addr)},AE b l os=some q→some b∈os
 |n::r,o::os,h=>by
  unfold AE at h
  split at h
  ·rename_i e;rw[e];exact gk ..
  ·exact fJ _ (td h)
 |[],_,h=>by cases h
 |_::_,[],h=>by cases h
theorem AF{K:Frag}{h:Heap}{os:List (Option Addr)}(T:gr K oV os)(ht:∀b,some b∈os→h.get? b=some (tabObj #[])∧(∃c,PySem.W.CodeHd h c b)∧K.lookup b=none):vY K h:=fun b q e=>by
 unfold io at e
 rw[ma T]at e
 exact ht b (td e)
def nh(K:Frag)(h:Heap):List (Option Addr)→Prop
 |[]=>True
 |none::r=>nh K h r
 |some P::r=>(h.get? P=some (tabObj #[])∧K.lookup P=none)∧nh K h r
theorem jT{K:Frag}{h:Heap}{b:Addr}:∀{l:List (Str×Str)} {os:List (Option Addr)},gr K l os→nh K h os→some b∈os→h.get? b=some (tabObj #[])∧(∃c,codeHdIn K c b=true)∧K.lookup b=none
 |_,[],_,_,m=>by cases m
 |[],_::_,T,_,_=>T.elim
 |_::l,none::r,T,t,m=>by
  rcases Zaf.mp m with e |e
  ·cases e
  ·exact jT (os:=r) T.2 t e
 |_::l,some P::r,T,t,m=>by
  rcases Zaf.mp m with e |e
  ·cases e;exact⟨t.1.1,T.1.2 _ rfl,t.1.2⟩
  ·exact jT T.2 t.2 e
theorem C9{K:Frag}{h:Heap}{os:List (Option Addr)}(X:K.In h)(T:gr K oV os)(t:nh K h os):vY K h:=AF T fun b m=>
 let ⟨t1,⟨c,t2⟩,t3⟩:=jT T t m
 ⟨t1,⟨c,codeHd_of_K X t2⟩,t3⟩
end PL
namespace PL
open PySem PySem.Spec PyProof.Rows L2 Nh
section
variable {X:Cx} {al mk:Bool} {a b:Expr} {op:CmpOp} {r q:gb} {bd el:List Stmt} {p pos:Pos} {st:Stmt}
theorem FK(h:RE X al a r)(hm:behindInMarks op b=false:=by first |exact yI _ (by decide) (by decide) |rfl):RX X mk al (.If (.Compare a [op] [b] p) bd el pos) r:=fun pins s σ H B E n E' I fr ee k=>
 wpAny_If (wpAny_isTrue_Compare1 (bR (h pins s σ H B E n E' I fr ee fun pp q σ' C H' z f=>(k pp q σ' C H' z f).2) fun _ _ z=>z.elim) hm)
theorem FL(h1:RX X mk al st r)(h2:RX X mk al st q):RX X mk al st (uG r q):=fun pins s σ H B E n E' I fr e k=>by
 unfold uG at e
 split at e
 ·rename_i x ex
  cases e
  exact h1 pins s σ H B E n E' I fr ex k
 ·exact h2 pins s σ H B E n E' I fr e k
end
structure FunT (K:Frag) (x:Str) (st:Stmt) (f0:Addr) (fd:FuncData) (c T:Addr):Prop where
 ex:∃(oc:Value) (od:Option Addr) (kV doc pm:Value) (an:Option Addr) (ct:Value) (osl:Array (Option Value)),
  fd=fnOf x x (cM st) (a7 st) (ah st) .none kV doc pm an (.ref c) ct∧K.lookup f0=some ⟨oc,od,.func fd,osl⟩∧codeIn K (.ref c) x=true
 hd:codeHdIn K c T=true
 tp:io K T=some (x++".<locals>."++"<lambda>")
theorem JD{P:Program}{w:World}{K:Frag}{mg:Str→Option Value}{base:Heap}{x:Str}{st:Stmt}{N ps:List Str}{k a n:Nat}{g:cI}{f0 c T:Addr}{fd:FuncData}(D:FunT K x st f0 fd c T)(S:FnScope N ps (ah st))(hpa:ps.length=a)(hNn:N.length=n)(hps:a≤n)
  (hbody:∀(A:Around) (outer:List Env) (s:Shared) (H:Hp) (E:XK),Room k (A.deeper (PyProof.Rows.envOfC x (ah st) s.heap.objs.size f0 (.ref c)))→
   qX (fY mv P w K mg base N x (ah st) f0 (.ref c) A outer s H E).nox (a7 st) g):FnOk P w K mg base mv (k+1) f0 fd ps (eN K (fV a n g)):=by
 subst hpa hNn
 obtain⟨oc,od,kV,doc,pm,an,ct,osl,rfl,lk,hcd⟩:=D.ex
 refine vC lk hcd S (fun vs H Q E h=>?_) (fun A outer s H vs Q E hr h=>?_)
 ·obtain⟨ds,r,e,rp,_⟩:=h
  unfold fV at e
  split at e
  ·rename_i hl
   rw[rp.len];exact hl
  ·cases e
 obtain⟨ds,r,e,rp,q⟩:=h
 unfold fV at e
 split at e
 ·rename_i hl
  refine⟨_,(hbody A outer s H E hr).nox,?_⟩
  obtain⟨⟨E',fl⟩,e1,e⟩:=Za.mp e
  refine⟨H,aZ N.length ds,[],[],E',fl,⟨H,[],i3 rp (by omega)⟩,rfl,e1,?_⟩
  cases fl with
  |nx=>
   cases e
   rintro σ' H' ⟨F',A',fr'⟩
   exact q _ _ (fr'.bf.trans fr'.fh) .non
  |bk=>cases e
  |ct=>cases e
  |rt r'=>
   rintro σ' v H' ⟨F',A',fr'⟩
   obtain⟨s1,s2⟩:=fr'.resultO e
   exact q v H' s1 s2
 ·cases e
end PL
namespace PL
open PySem PySem.Spec PyProof.Rows L2 Nh
def Hw(W:Value→Shared→Prop)(P:Program)(w:World)(K:Frag)(mg:Str→Option Value)(base:Heap)(N:List Str)(qual:Str)(scope:Scope)(f:Addr)(cd:Value)(cl:List (Str×Addr))(A:Around)(outer:List Env)(s:Shared)(H:Hp):Cx where
 prog:=P
 w:=w
 K:=K
 mg:=mg
 base:=base
 A:=A.deeper (envX qual scope s.heap.objs.size f cd cl)
 N:=N
 s₀:=s
 H₀:=H
 env:=envX qual scope s.heap.objs.size f cd cl
 outer:=outer
 stack:=envX qual scope s.heap.objs.size f cd cl::outer
 ex:=[]
 calm:=true
 fn:=fun _=>false
 pn:=[]
 xe:=W
section
variable {W:Value→Shared→Prop} {P:Program} {w:World} {K:Frag} {mg:Str→Option Value} {base:Heap} {N:List Str} {qual:Str} {scope:Scope} {f:Addr} {cd:Value} {cl:List (Str×Addr)} {A:Around} {outer:List Env} {s:Shared} {H:Hp} {σ:L2.St}
structure LamIn (N:List Str) (scope:Scope) (cl:List (Str×Addr)) (σ:L2.St) (H:Hp) (h:Heap):Prop where
 cell:∀x c,cl.lookup x=some c→(∃v,h.IsCell c v)∧H c=none
 inj:∀x y c,cl.lookup x=some c→cl.lookup y=some c→x=y
 has:∀x,(scope.names.lookup x=some .cell∨scope.names.lookup x=some .free)→∃c,cl.lookup x=some c
 val:∀(i:Nat) x v,N[i]? =some x→σ[i]? =some (some v)→scope.names.lookup x=some .free∧∃u c,RelV v u∧cl.lookup x=some c∧h.IsCell c (some u)
 len:σ.length=N.length
theorem LamIn.keeps{h h':Heap}(L:LamIn N scope cl σ H h)(k:∀b o,h.get? b=some o→h'.get? b=some o):LamIn N scope cl σ H h':=
 ⟨fun x c e=>let ⟨⟨v,o,ho,hd⟩,n⟩:=L.cell x c e;⟨⟨v,o,k _ _ ho,hd⟩,n⟩,L.inj,L.has,fun i x v e1 e2=>let ⟨z,u,c,r,e,o,ho,hd⟩:=L.val i x v e1 e2;⟨z,u,c,r,e,o,k _ _ ho,hd⟩,L.len⟩
theorem C_{h₁:Heap}{tk:Nat}{m:Str→Option Value}(sk:scope.kind=.function)(hd:A.handled=none)(e0:Env0 P w K mg base A outer s H)(L:LamIn N scope cl σ H s.heap)
  (hns:h₁.Ns s.heap.objs.size m) (hk:∀b o,s.heap.get? b=some o→h₁.get? b=some o):Inv (Hw W P w K mg base N qual scope f cd cl A outer s H) [] σ H {s with heap:=h₁,toks:=tk}:=by
 have noA:∀b:Addr,b∉(Hw W P w K mg base N qual scope f cd cl A outer s H).ex:=fun b z=>absurd (show b∈([]:List Addr)from z) (by simp)
 have L1:=L.keeps hk
 refine⟨⟨e0.mod,sk,rfl,rfl,dE _,L.inj,L.has,fun y c z _=>(nomatch z),fun _=>hd,Around.frames_deeper e0.frames,.inr ⟨rfl,rfl⟩,fun b z=>absurd z (noA b),e0.bs,e0.bsz,fun b _ _=>noA b,fun b z=>absurd z (noA b),e0.funs,e0.frf,e0.tab⟩,
  rfl,e0.bare,Un.kept hk,⟨_,hns,fun i y v h1 h2 h3=>?_⟩,fun y c h=>(L1.cell y c h).1,e0.hok.fresh (dE _),fun y c h=>(L.cell y c h).2,fun p hp=>absurd (show p∈([]:List (Addr×Obj))from hp) (by simp),e0.hok.kept hk,L.len⟩
 obtain⟨z,u,c,r,e,o⟩:=L1.val i y v h1 h2
 exact⟨u,r,.inr ⟨.inr z,c,e,o⟩⟩
def Hx(P:Program)(w:World)(K:Frag)(A:Around)(outer:List Env)(H:Hp)(fa:Addr)(n:Str)(s:Shared):Prop:=
 ∀W:Value→Shared→Prop,(∀C H' ea s' a0 B,nsIn K mainGlobals n=some (some (.ref C))→Same H H'→s'.os=s.os→AllBare s'.gens→FlyC H' B outer ea (.ref C) a0 s'.heap→HOk P w H' B→UnB (fT outer) H H' s.heap B s'.heap→W (.ref ea) s')→
  wpAny (model P w) A (call (.ref fa) [] []) (fun _ _=>False) W s
theorem AG{k:Nat}{name x:Str}{ps:List Str}{r:List PyData→Option Str}{p pos:Pos}{e:Expr}{es:List Expr}{m:Bool}{g:j0}{params:Arguments}{pm ctv:Value}{c':Addr}{ds:List PyData}{vs:List V}{n:Str}{E':List Sl}
  (D:OwnR P w K mg base k x ps (sQ K r)) (hr:Room (k+1) A) (e0:Env0 P w K mg base A outer s H) (L:LamIn N scope cl (de N vs) H s.heap) (rp:RpA K H vs ds) (hn:ds.length≤N.length)
  (ho:s.heap.get? f=some (kla_obj name qual params (.Call (.Name x p) (e::es) [] pos) scope cl pm c' ctv)) (hcd:s.heap.CodeRec (.ref c') qual)
  (ha:∀s:Shared,AX (Hw (fun _ _=>False) P w K mg base N qual scope f (.ref c') cl A outer s H) (e::es) m g) (eg:fA r g (aZ N.length ds)=some (n,E'))
  (hbind:bindArgs (kla_fn name qual params (.Call (.Name x p) (e::es) [] pos) scope cl pm (.ref c') ctv) ⟨[],[]⟩=pure [])
  (sg:scope.names.lookup x=some .globalImplicit) (sk:scope.kind=.function) (hco:scope.isCoroutine=false) (hgen:scope.isGenerator=false) (hcell:∀x∈scope.names,x.2≠ .cell) (hdb:(x == ("__debug__":Str))=false)
  (he:∀env,starEach (e::es) env=(false,eval e env)::starEach es env) (hpl:∀env,(backTo pos (starEach es env)).any (·.1)=false):Hx P w K A outer H f n s:=by
 intro W k1
 have hroom:A.depth < recursionLimit:=by have:=hr.dp;omega
 have lim:s.heap.NoLimit:=e0.mod.nolimit.keeps fun b o e=>(e0.bs b o e).1
 refine wpAny_call (PySem.W.kla_callFunE hroom ho rfl hco hgen rfl hcd ?_)
 rw[hbind]
 refine wpAny_pure (wpAny_newFunctionEnv hcell (fun y hy=>(nomatch hy)) (fun h₁ hns hsb=>⟨lim.fresh _ hsb,PySem.W.kla_codeExpr ?_⟩) sk)
 have hk₁:∀b o,s.heap.get? b=some o→h₁.get? b=some o:=fun b o e=>hsb.extBut b o (eF (dM e)) (dF _ e)
 have IL:=fun W'=>C_ (W:=W') (P:=P) (w:=w) (K:=K) (mg:=mg) (base:=base) (qual:=qual) (f:=f) (cd:=.ref c') (tk:=s.toks+([]:List (Str×Value)).length) sk hr.hd e0 L hns hk₁
 refine wpAny_mono (k9 (X:=Hw _ P w K mg base N qual scope f (.ref c') cl A outer s H) (es:=es) D (hr.deeper _) sg (ha s) hdb (he _) (hpl _) (IL (fun e' s'=>wpAny (model P w) (A.deeper (envX qual scope s.heap.objs.size f (.ref c') cl)) (leaving (envX qual scope s.heap.objs.size f (.ref c') cl) e') (fun _ s''=>W e' s'') (fun e'' s''=>W e'' s'') s')) (B:=H) ⟨H,[],i3 rp hn⟩ eg fun C H' ns ⟨F',A',fr'⟩=>?_) (fun _ _ z=>z.elim) fun _ _ z=>z
 intro H1 s1 ea s' a0 B I1 os bare fl hok u
 refine m6 I1.ok.frames rfl fl fun h2 x1 x2=>?_
 exact k1 C H' ea _ a0 B ns (fr'.bf.trans fr'.fh) (os.trans I1.os) bare x1 hok (UnB.out I1 rfl (u.on fl.2.2.1 x2))
end
end PL
namespace PL
open PySem PySem.Spec PyProof.Rows L2 Nh
theorem Hy{P:Program}{w:World}{K:Frag}{mg:Str→Option Value}{base:Heap}{k:Nat}{f:Addr}{name qual:Str}{params:Arguments}{body:List Stmt}{scope:Scope}{dV kV doc pm cdv ct oc:Value}{an od:Option Addr}
  {osl:Array (Option Value)} {N ps:List Str} (lk:K.lookup f=some ⟨oc,od,.func (fnOf name qual params body scope dV kV doc pm an cdv ct),osl⟩) (hcd:codeIn K cdv qual=true) (S:FnScope N ps scope)
  {A:Around} {outer:List Env} {s:Shared} {H:Hp} {args:Args} {us:List Value} {vs:List V} {Q:VK} (hr:Room (k+1) A) (e0:Env0 P w K mg base A outer s H) (hb:BindsTo s (fnOf name qual params body scope dV kV doc pm an cdv ct) args (ps.zip us)) (r:Vals vs us) (hl:vs.length=ps.length)
  (hbody:∀s1,(∀b o,s.heap.get? b=some o→s1.heap.get? b=some o)→Inv (fY mv P w K mg base N qual scope f cdv A outer s H E0).nox [] (de N vs) H s1→Room k (A.deeper (envOfC qual scope s.heap.objs.size f cdv))→
   wpAny (model P w) (A.deeper (envOfC qual scope s.heap.objs.size f cdv)) (execs body (envOfC qual scope s.heap.objs.size f cdv)) (SP (fY mv P w K mg base N qual scope f cdv A outer s H E0).nox [] {nx:=fun _ H'=>Q .non H',rt:=Q}) (fun _ _=>False) s1):
  codeAny (model P w) A (.call (.ref f) args) (CR mv outer P w H s Q E0) s:=by
 have KX:K.In s.heap:=e0.mod.kin.keeps fun b o e=>(e0.bs b o e).1
 have lim:s.heap.NoLimit:=e0.mod.nolimit.keeps fun b o e=>(e0.bs b o e).1
 refine codeAny_call_function hr.depth (KX _ _ lk) rfl S.co S.gen rfl (codeRec_of KX hcd) (hb _ _ _ _ ?_)
 refine wpAny_newFunctionEnv_cells S.kind (fun⟨n,v⟩ hy=>(S.par n (List.of_mem_zip hy).1).imp id fun q=>⟨q,cellsFrom_some _ _ _ (.inl q)⟩) fun env he s1 x=>?_
 subst he
 refine⟨lim.keeps x.toInCall.keep,codeAny_func ?_⟩
 refine wpAny_mono (hbody s1 x.toInCall.keep ((kP (CX:=mv) (E:=E0) S hr.hd e0 hl r x).wish _) (hr.deeper _)) (fun fl s' hs=>?_) fun e s' hs=>hs.elim
 cases fl with
 |ret u=>obtain⟨v,σ',H',J,rv,q⟩:=hs;exact⟨v,H',J.os,J.bare,J.base,J.hok,rv,q⟩
 |next=>obtain⟨σ',H',J,q⟩:=hs;exact⟨V.non,H',J.os,J.bare,J.base,J.hok,rfl,q⟩
 |brk=>obtain⟨_,_,_,q⟩:=hs;exact q.elim
 |cont=>obtain⟨_,_,_,q⟩:=hs;exact q.elim
theorem FM{X:Cx}{body:List Stmt}{cn en:Str}{CH:Addr}{np hpos pos:Pos}{b₀:Stmt}{suite:List Stmt}{ok:List Str}{i:Nat}{hs:cI}(hx:X.xe=fun _ _=>False)(hN:X.N.Nodup)(hex:X.ex=[])(hst:X.stack=X.env::X.outer)(hfr:X.env.frame=some X.env.locals)(hg:Gl X cn)(hm:X.mg cn=some (.ref CH))
  (hok:∀n∈ok,∀C,nsIn X.K mainGlobals n=some (some (.ref C))→exmOne X.K (.ref C) (.ref CH)=some true) (hh:∀ea oe C ex,ChainP ((ea,oe)::ex)→qX (hX X ea oe C ex) (b₀::suite) hs) (hi:X.N[i]? =some en) (hk:X.env.scope.names.lookup en=some .local) (hdb:(cn == ("__debug__":Str))=false)
  {pins:List (Addr×Obj)} {s:Shared} {σ:L2.St} {H B:Hp} {D:Ends} {E E2:List Sl} {n:Str} {sv:Sl} (I:Inv X pins σ H s) (fr:Frm X.K B σ H E [] [])
  (hr:∀W:Value→Shared→Prop,(∀C H' ea s' a0 Bb,nsIn X.K mainGlobals n=some (some (.ref C))→Same H H'→s'.os=s.os→AllBare s'.gens→FlyC H' Bb X.stack ea (.ref C) a0 s'.heap→HOk X.prog X.w H' Bb→UnB (fT X.stack) H H' s.heap Bb s'.heap→W (.ref ea) s')→wpAny (model X.prog X.w) X.A (execs body X.env) (fun _ _=>False) W s)
  (hc:n∈ok∧i < E.length) (eh:hs (E.set i (.sh (Fx n)))=some (E2,.rt sv)) (q:∀σ9 v H9,Frm X.K B σ9 H9 E2 [v] [sv]→D.rt v H9):
  wpAny (model X.prog X.w) X.A (exec (.Try body [.ExceptHandler (some (.Name cn np)) (some en) (b₀::suite) hpos] [] [] pos) X.env) (SP X pins D) X.xe s:=by
 refine wpAny_Try_except (wpAny_mono (hr (fun e s₁=>wpAny (model X.prog X.w) X.A (noteFrame e X.env) (fun _ s₂=>wpAny (model X.prog X.w) X.A (setFlight e none) (fun _ s₃=>wpAny (model X.prog X.w) X.A (handleBy e X.env [.ExceptHandler (some (.Name cn np)) (some en) (b₀::suite) hpos]) (SP X pins D) X.xe s₃) X.xe s₂) X.xe s₁) fun C H' ea s' a0 Bb ns gg os bare fly hokB u=>?_) (fun _ _ z=>z.elim) fun _ _ z=>z)
 have ff:s'.heap.FunFrames Bb X.stack:=fly.2.2.1
 have fly':FlyC H' Bb (X.env::X.outer) ea (.ref C) a0 s'.heap:=hst▸fly
 have invAt:∀h5,Bb.StaysIn h5→s'.heap.UpToSlots h5→Inv X pins σ H' {s' with heap:=h5}:=fun h5 st k=>by
  have u2:UnB (fT X.stack) H H' s.heap Bb h5:=u.on ff k
  exact I.call' (s':={s' with heap:=h5}) os (u2.un st I.stkFree) (hokB.kept fun b o e=>st b o e) bare fun b z=>(nomatch z)
 refine i8 (by rw[I.ok.frames,hst]) hfr fly' fun h4 held4 k4=>?_
 refine uE held4 fun h5 fly5 k5=>?_
 have I5:=invAt h5 fly5.1 (k4.trans k5)
 obtain⟨ob,hob,hobc⟩:=fly5.there
 have Z5:e9 ea C h5:=⟨ob,hob,hobc⟩
 refine wpAny_handleBy_cons (codeAny_handlers_test (eI (X:=Gv X ea) (km I5) hg hm ?_ hdb)) (by intro q;cases q)
 refine(PySem.W.exm_one (I5.kIn) (jR Z5) (hok n hc.1 C ns)).here ?_
 refine codeAny_handlers_suite_as ?_
 refine kj fly5 fun h6 fly6 k6=>?_
 have I6:=invAt h6 fly6.1 ((k4.trans k5).trans k6)
 obtain⟨oe,vs,hoe,hoec,hoed,_⟩:=fly6.first
 have nB:Bb.get? ea=none:=fly6.2.1
 have old:∀b o,s.heap.get? b=some o→b≠ea:=fun b o eb z=>by
  subst z
  by_cases hf:b∈fT X.stack
  ·obtain⟨_,o',ho',hd⟩:=(show h6.FunFrames Bb X.stack from hst▸fly6.2.2.1).mem hf
   rw[hoe]at ho'
   cases ho'
   exact hd vs hoed
  ·obtain⟨o',ho'⟩:=u.there b o eb hf
   rw[nB]at ho'
   cases ho'
 have hn6:H' ea=none:=by
  cases q:H' ea with
  |none=>rfl
  |some o=>
   obtain⟨z,e⟩:=lH (hokB ea o q)
   rw[nB]at e
   cases e
 have hs0:X.s₀.heap.get? ea=none:=by
  cases q:X.s₀.heap.get? ea with
  |none=>rfl
  |some o=>
   obtain⟨o',z⟩:=I.base.there ea o q (by rw[hex];exact fun z=>(nomatch z))
   exact absurd rfl (old ea o' z)
 have hnew:EaNew X ea:=⟨hs0,fun xs z=>(nomatch hn6.symm.trans (I6.base.tups ea xs z)),fun o u z=>(nomatch hn6.symm.trans (I6.base.frzs ea o u z)),fun q z=>(nomatch hn6.symm.trans (I6.base.tbls ea q z))⟩
 obtain⟨ps,hcp,cv,r1,r2⟩:=fly6.2.2.2.2
 have hchn:ChainP ((ea,oe)::ps):=by
  obtain⟨o,ws,ho,hd,h2⟩:=cv
  rw[hoe]at ho
  cases ho
  exact⟨⟨ws,hd,h2⟩,r2,hcp⟩
 have I7:Inv X pins σ (upd H' ea (.frz oe (.ext (e9 ea C)))) {s' with heap:=h6}:=by
  refine xN I6 hn6 ?_ ?_ (fun x c e=>?_) (fun p hp=>?_) ?_
  ·cases q:X.s₀.heap.get? ea with
   |none=>rfl
   |some o=>
    obtain⟨o',z⟩:=I.base.there ea o q (by rw[hex];exact fun z=>(nomatch z))
    exact absurd rfl (old ea o' z)
  ·obtain⟨_,⟨o,_,_,ho,_⟩,_⟩:=I.loc
   exact old _ o ho
  ·obtain⟨v,o,ho,_⟩:=I.cell x c e
   exact old _ o ho
  ·exact old _ _ (I.pin p hp).1
  ·exact⟨hoe,⟨oe,hoe,hoec⟩,⟨oe,hoe⟩,fun h1 h2 ⟨o,z,c⟩ k=>⟨o,k o z,c⟩⟩
 have pins7:∀p∈ps,sR X (upd H' ea (.frz oe (.ext (e9 ea C)))) h6 p:=fun p hp=>by
  obtain⟨b1,b2⟩:=r1 p hp
  have g6:=fly6.1 p.1 p.2 b1
  obtain⟨ws,hd,_⟩:=gW hcp hp
  refine⟨g6,(ar (r2 p hp)).trans b2,fun z=>?_,fun z=>?_,fun v z=>by rw[hd]at z;cases z⟩
  ·obtain⟨_,⟨o,_,_,ho,hdo,_⟩,_⟩:=I7.loc
   rw[←z,g6]at ho
   cases ho
   rw[hd]at hdo
   cases hdo
  ·have hz:p.1∈fT X.stack:=by rw[hst];unfold fT;rw[List.filterMap_cons,hfr];exact fJ _ z
   obtain⟨_,o',ho',hdn⟩:=(show h6.FunFrames Bb X.stack from hst▸fly6.2.2.1).mem hz
   rw[g6]at ho'
   cases ho'
   exact hdn ws hd
 refine mn (X:=X) (Ho I7 pins7) hN hi (.inl hk) (v:=.ref ea) rfl (fun s8 I8p=>?_) (.inr hk)
 obtain⟨I8,hp8⟩:=Hq I8p
 have g:Same H' (upd H' ea (.frz oe (.ext (e9 ea C)))):=fun b o e=>by rw[ar (bj e hn6)];exact e
 obtain⟨F0,A0,fr0⟩:=fr
 have fr1:=fr0.grow gg
 have fr2:=fr1.grow g
 have nA:ea∉A0:=fun z=>by
  rcases fr1.mutA ea z with⟨_,w⟩ |⟨_,w⟩ <;> rw[hn6]at w <;> cases w
 have fr3:=fr2.push (v:=.ref ea) (s:=.sh (Fx n)) ⟨rfl,_,rfl,.exc (by show(if ea∈A0 then none else _)=_;rw[if_neg nA];exact upd_same) ns⟩
 obtain⟨A3,fr4⟩:=fr3.store rfl (fun _ z=>(nomatch z)) hc.2
 have q8:=hh ea oe C ps hchn pins s8 _ _ {nx:=fun _ _=>False,bk:=fun _ _=>False,ct:=fun _ _=>False,rt:=fun v H9=>∃σ9,Frm X.K B σ9 H9 E2 [v] [sv]} (CQ I8 hnew upd_same hp8) ⟨B,_,[],[],E2,.rt sv,⟨_,A3,fr4⟩,rfl,eh,fun σ9 v H9 f=>⟨σ9,f⟩⟩
 refine wpAny_mono q8 (fun f s9 z=>?_) fun _ _ z=>z.elim
 cases f with
 |next=>obtain⟨_,_,_,z⟩:=z;exact z.elim
 |brk=>obtain⟨_,_,_,z⟩:=z;exact z.elim
 |cont=>obtain⟨_,_,_,z⟩:=z;exact z.elim
 |ret uu=>
  obtain⟨v,σ9,H9,I9,rv,σx,fx⟩:=z
  have I9:Inv X pins σ9 H9 s9:=Am I9 I.ok hnew
  exact An I9 hN hi hk fun s10 I10=>⟨v,_,H9,I10,rv,q _ v H9 fx⟩
end PL
namespace PL
open PySem PySem.Spec PyProof.Rows L2 Nh
structure OwnF (P:Program) (w:World) (K:Frag) (mg:Str→Option Value) (base:Heap) (k:Nat) (x:Str) (ok:List Str) (c:Str→PyData→Option Sl):Prop where
 ex:∃(f:Addr) (fd:FuncData) (ps:List Str),ps.length=2∧Binds K fd ps []∧mg x=some (.ref f)∧keepIn K (.ref f)=true∧
  ∀(A:Around) (outer:List Env) (s:Shared) (H:Hp) (us:List Value) (fa:Addr) (o:Obj) (fd':FuncData) (dv:V) (d:PyData) (n:Str) (sv:Sl) (Q:VK),Room (k+1) A→Env0 P w K mg base A outer s H→BindsTo s fd ⟨us,[]⟩ (ps.zip us)→Vals [.ref fa,dv] us→Rp K H dv d→
   s.heap.get? fa=some o→o.data=.func fd'→(∀env s1,Env0 P w K mg base (A.deeper env) (env::outer) s1 H→Room k (A.deeper env)→(∀b o,s.heap.get? b=some o→s1.heap.get? b=some o)→Hx P w K (A.deeper env) (env::outer) H fa n s1)→n∈ok→c n d=some sv→
   (∀v H',Same H H'→rO K H H' v sv→Q v H')→codeAny (model P w) A (.call (.ref f) ⟨us,[]⟩) (CR mv outer P w H s Q E0) s
def IK(n i:Nat)(hs:cI):Str→PyData→Option Sl:=fun nm d=>if 2≤n∧i < n then match hs ((.no:: .sh d::List.replicate (n - 2) .no).set i (.sh (Fx nm)))with
 |some (_,.rt r)=>dk r
 |_=>none
 else none
theorem FN{K:Frag}{H:Hp}{N:List Str}{fv dv:V}{d:PyData}(r:Rp K H dv d):FrF K H H [] (L2.de N [fv,dv]) H (.no:: .sh d::List.replicate (N.length - 2) .no) [] []:=by
 refine⟨Same.refl _,Same.refl _,iZ H,?_,List.nodup_nil,fun a ha=>(by cases ha),rfl,?_⟩
 ·show SAll _ (some fv::some dv::List.replicate (N.length - 2) none) _ []
  refine .cons (A:=[]) rfl (.cons (A:=[]) ⟨rfl,_,rfl,r⟩ ?_)
  generalize N.length - 2=k
  generalize L2.de N [fv,dv]=τ
  induction k with
  |zero=>exact .nil
  |succ k ih=>exact .cons (A:=[]) rfl ih
 ·intro s hs
  rcases Zaf.mp hs with rfl |hs
  ·rfl
  rcases Zaf.mp hs with rfl |hs
  ·rfl
  rw[(List.mem_replicate.mp hs).2]
  rfl
theorem IM{P:Program}{w:World}{K:Frag}{mg:Str→Option Value}{base:Heap}{x dn due cn en:Str}{st b₀:Stmt}{suite aQ:List Stmt}{N:List Str}{k n i:Nat}{hs:cI}{ok:List Str}{CH:Addr}{p1 p2 p3 np hpos tpos:Pos}(D:Def K mg x st [dn,due])(S:FnScope N [dn,due] (ah st))(hNn:N.length=n)
  (hb:a7 st= .Try [.Expr (.Call (.Name dn p1) [] [] p2) p3] [.ExceptHandler (some (.Name cn np)) (some en) (b₀::suite) hpos] [] [] tpos::aQ)
  (hm:mg cn=some (.ref CH)) (hok:∀n∈ok,∀C,nsIn K mainGlobals n=some (some (.ref C))→exmOne K (.ref C) (.ref CH)=some true)
  (hbody:∀(f:Addr) (cdv:Value) (A:Around) (outer:List Env) (s:Shared) (H:Hp),Room k (A.deeper (PyProof.Rows.envOfC x (ah st) s.heap.objs.size f cdv))→∀ea oe C ex,ChainP ((ea,oe)::ex)→qX (hX (fY mv P w K mg base N x (ah st) f cdv A outer s H E0).nox ea oe C ex) (b₀::suite) hs)
  (hg:(ah st).names.lookup cn=some .globalImplicit:=by rfl) (hi:N[i]? =some en:=by rfl) (hk:(ah st).names.lookup en=some .local:=by rfl) (h0:N[0]? =some dn:=by rfl) (hk0:(ah st).names.lookup dn=some .local:=by rfl) (hdb:(cn == ("__debug__":Str))=false:=by decide) (hdb2:(dn == ("__debug__":Str))=false:=by decide)
  (hsw:∀env,swapsWith (.Call (.Name dn p1) [] [] p2) none p3.line env=pure false:=by intro _;rfl):OwnF P w K mg base k x ok (IK n i hs):=by
 subst hNn
 obtain⟨f,fd,F,mx,b⟩:=D.ex
 have kp:=F.kp
 obtain⟨oc,od,kV,doc,pm,an,cdv,ct,osl,rfl,lk,hcd⟩:=F.ex
 refine⟨f,_,_,rfl,b,mx,kp,fun A outer s H us fa o fd' dv d nm sv Q hr e0 bd rv rp ho hfd deed hn hc q=>?_⟩
 refine Hy lk hcd S hr e0 bd rv rfl fun s1 keep I hr1=>?_
 unfold IK at hc
 split at hc
 rotate_left
 ·cases hc
 rename_i hlen
 split at hc
 rotate_left
 ·cases hc
 rename_i E2 r eh
 rw[hb]
 refine wpAny_execs_cons (wpAny_mono (FM (X:=(fY mv P w K mg base N x (ah st) f cdv A outer s H E0).nox) (ok:=ok) (D:={nx:=fun _ _=>False,bk:=fun _ _=>False,ct:=fun _ _=>False,rt:=Q}) rfl S.nd rfl rfl rfl hg hm hok (hbody f cdv A outer s H hr1) hi hk hdb I ⟨H,[],FN rp⟩ (fun W kk=>?_) ⟨hn,by simp;omega⟩ eh fun σ9 v H9 ⟨F9,A9,f9⟩=>?_) (fun fl s' z=>?_) fun _ _ z=>z)
 ·obtain⟨m,hns,hl⟩:=I.loc
  obtain⟨u,ru,lo⟩:=hl 0 dn (.ref fa) h0 rfl (.inl hk0)
  cases(show u=Value.ref fa from ru)
  have hm0:m dn=some (.ref fa):=by
   rcases lo with⟨_,z⟩ |⟨z,_⟩
   ·exact z
   ·rcases z with z |z <;> exact absurd ((show(ah st).names.lookup dn=_ from z).symm.trans hk0) (by decide)
  refine wpAny_execs_cons (wpAny_mono (wpAny_Expr_any (Q:=fun _ _=>False) (wpAny_Call_Name_kw (wpAny_Name (wpAny_loadName_local S.kind hk0 hns hm0 (Calls.callWith_function (evalArgs_nil3 ⟨⟨keep _ _ ho,hfd⟩,?_⟩))) hdb2)) I.quiet (hsw _)) (fun _ _ z=>z.elim) fun _ _ z=>z)
  exact deed _ s1 I.env0 hr1 keep W kk
 ·obtain⟨s1,s2⟩:=f9.resultO hc
  exact q v H9 s1 s2
 ·cases fl with
  |next=>obtain⟨_,_,_,z⟩:=z;exact z.elim
  |brk=>obtain⟨_,_,_,z⟩:=z;exact z.elim
  |cont=>obtain⟨_,_,_,z⟩:=z;exact z.elim
  |ret u=>exact z
end PL
namespace PL
open PySem PySem.Spec PyProof.Rows L2 Nh
structure LamOk (X:Cx) (scope:Scope) (cl:List (Str×Addr)) (N:List Str) (js:List Nat):Prop where
 clos:closureFor scope X.env=pure cl
 same:∀x c,cl.lookup x=some c→X.env.cells.lookup x=some c
 has:∀x,(scope.names.lookup x=some .cell∨scope.names.lookup x=some .free)→∃c,cl.lookup x=some c
 len:js.length=N.length
 from_:∀(i:Nat) x,N[i]? =some x→∃j,js[i]? =some j∧X.N[j]? =some x∧scope.names.lookup x=some .free∧(X.env.kindOf x=some .cell∨X.env.kindOf x=some .free)∧∃c,cl.lookup x=some c
theorem Da{X:Cx}{scope:Scope}{N:List Str}{js:List Nat}(clos:closureFor scope X.env=pure (iD scope X.env):=by rfl)(same:(scope.names.filter fun p=>p.2 ==.free).all (fun p=>(X.env.cells.lookup p.1).isSome)=true:=by rfl)
  (has:scope.names.all (fun y=> !(y.2 ==.cell||y.2 ==.free)||((iD scope X.env).lookup y.1).isSome)=true:=by rfl) (len:js.length=N.length:=by rfl)
  (fr:(js.zip N).all (fun p=>X.N[p.1]? == some p.2&&scope.names.lookup p.2 == some .free&&(X.env.kindOf p.2 == some .cell||X.env.kindOf p.2 == some .free)&&((iD scope X.env).lookup p.2).isSome)=true:=by rfl):LamOk X scope (iD scope X.env) N js:=by
 refine⟨clos,fun x c e=>?_,fun x h=>?_,len,fun i x hx=>?_⟩
 ·have hm:=PySem.mem_of_lookup e
  unfold iD at hm
  obtain⟨p,hp,ep⟩:=Zau.mp (List.mem_reverse.mp hm)
  obtain⟨c',ec⟩:=Option.isSome_iff_exists.mp (Zbj.mp same _ hp)
  injection ep with e1 e2
  subst e1
  rw[ec]at e2 ⊢
  exact congrArg some e2
 ·have key:∀k,scope.names.lookup x=some k→(k == NameKind.cell||k == NameKind.free)=true→∃c,(iD scope X.env).lookup x=some c:=fun k h hk=>by
   have:=Zbj.mp has _ (PySem.mem_of_lookup h)
   simp only[hk,Bool.not_true,Bool.false_or]at this
   exact Option.isSome_iff_exists.mp this
  rcases h with h |h
  ·exact key _ h rfl
  ·exact key _ h rfl
 ·have hi:i < N.length:=(Zar.mp hx).1
  have ej:js[i]? =some (js[i]'(by omega)):=oR (by omega)
  have hz:(js.zip N)[i]? =some (js[i]'(by omega),x):=by rw[List.getElem?_zip_eq_some];exact⟨ej,hx⟩
  have:=Zbj.mp fr _ (List.mem_of_getElem? hz)
  simp only[lQ,Bool.or_eq_true,beq_iff_eq]at this
  exact⟨_,ej,this.1.1.1,this.1.1.2,this.1.2,Option.isSome_iff_exists.mp this.2⟩
def vals(E:List Sl):List Nat→Option (List PyData)
 |[]=>some []
 |j::js=>((E[j]?).bind Sl.val).bind fun d=>(vals E js).map fun ds=>d::ds
theorem FrF.vals{K:Frag}{B F:Hp}{A:List Addr}{σ:L2.St}{H:Hp}{E:List Sl}{xs:List V}{Xs:List Sl}(h:FrF K B F A σ H E xs Xs):∀{js:List Nat} {ds:List PyData},PL.vals E js=some ds→∃vs,RpA K H vs ds∧vs.length=js.length∧∀i j:Nat,js[i]? =some j→∃v,vs[i]? =some v∧σ[j]? =some (some v)
 |[],ds,e=>by cases e;exact⟨[],.nil,rfl,fun i j z=>nomatch z⟩
 |j::js,ds,e=>by
  unfold PL.vals at e
  obtain⟨d,e1,e⟩:=Za.mp e
  obtain⟨ds',e2,e⟩:=Zab.mp e
  cases e
  obtain⟨s,es,ev⟩:=Za.mp e1
  obtain⟨o,A1,eo,hs⟩:=h.var es
  obtain⟨v,rfl,r,_⟩:=hs.val h.fh ev
  obtain⟨vs,r2,l2,f2⟩:=h.vals e2
  refine⟨v::vs,.cons r r2,by simp[l2],fun i k z=>?_⟩
  cases i with
  |zero=>cases z;exact⟨v,rfl,eo⟩
  |succ i=>exact f2 i k z
def AH(js:List Nat)(n:Nat)(r:List PyData→Option Str)(g:j0)(ok:List Str)(c:Str→PyData→Option Sl)(due:Int):aD:=fun E=>(vals E js).bind fun ds=>(fA r g (aZ n ds)).bind fun a=>if a.1∈ok then (c a.1 (.int due)).map fun s=>(s,E)else none
section
variable {X:Cx} {k kg:Nat} {x gx:Str} {ok ps N:List Str} {cF:Str→PyData→Option Sl} {r:List PyData→Option Str} {e:Expr} {es:List Expr} {g:j0} {m m':Bool} {p gp gpos pos lp dp:Pos} {j:Nat} {due:Int} {params:Arguments} {scope:Scope} {cl:List (Str×Addr)} {js:List Nat} {c P:Addr}
theorem FO (F:OwnF X.prog X.w X.K X.mg X.base k x ok cF) (hcode:X.env.code=.ref c) (hQ:io X.K P=some (X.env.qual++"<lambda>")) (hC:codeHdIn X.K c P=true) (hr:Room (k+1) X.A) (hg:Gl X x) (D:OwnR X.prog X.w X.K X.mg X.base kg gx ps (sQ X.K r)) (hkg:kg+1≤k) (L:LamOk X scope cl N js)
  (ha:∀(fa c':Addr) (A:Around) (outer:List Env) (s:Shared) (H:Hp),AX (Hw (fun _ _=>False) X.prog X.w X.K X.mg X.base N (X.env.qual++"<lambda>") scope fa (.ref c') cl A outer s H) (e::es) m' g)
  (hdef:defaultsOf params X.env=([],[]):=by rfl) (hbind:∀(qual:Str) (pm cd ctv:Value),bindArgs (kla_fn "<lambda>" qual params (.Call (.Name gx gp) (e::es) [] gpos) scope cl pm cd ctv) ⟨[],[]⟩=pure []:=by intros;rfl)
  (sg:scope.names.lookup gx=some .globalImplicit:=by rfl) (sk:scope.kind=.function:=by rfl) (hco:scope.isCoroutine=false:=by rfl) (hgen:scope.isGenerator=false:=by rfl) (hcell:∀x∈scope.names,x.2≠ .cell:=by decide) (hdb:(gx == ("__debug__":Str))=false:=by decide) (hdbx:(x == ("__debug__":Str))=false:=by decide)
  (he:∀env,starEach (e::es) env=(false,eval e env)::starEach es env:=by intro _;rfl) (hpl:∀env,(backTo gpos (starEach es env)).any (·.1)=false:=by intro _;rfl)
  (he1:starEach [.Lambda params (.Call (.Name gx gp) (e::es) [] gpos) scope lp,.Constant (.int due) j dp] X.env=(false,eval (.Lambda params (.Call (.Name gx gp) (e::es) [] gpos) scope lp) X.env)::starEach [.Constant (.int due) j dp] X.env:=by rfl)
  (he2:backTo pos (starEach [.Constant (.int due) j dp] X.env)=[(false,eval (.Constant (.int due) j dp) X.env)]:=by rfl):
  EX X (.Call (.Name x p) [.Lambda params (.Call (.Name gx gp) (e::es) [] gpos) scope lp,.Constant (.int due) j dp] [] pos) false (AH js N.length r g ok cF due):=by
 intro pins s σ H Q I z
 obtain⟨B,E,xs,Xs,res,E',⟨F0,A0,fr⟩,_,e0,q⟩:=z
 obtain⟨ds,ev,e0⟩:=Za.mp e0
 obtain⟨⟨n,E1⟩,er,e0⟩:=Za.mp e0
 simp only at e0
 split at e0
 rotate_left
 ·cases e0
 rename_i hn
 obtain⟨sv,ec,e0⟩:=Zab.mp e0
 cases e0
 obtain⟨vs,rp,vl,vf⟩:=fr.vals ev
 obtain⟨f,fd,pF,hp2,hb,mx,kp,run⟩:=F.ex
 refine wpAny_Call_Name_kw (eI I hg mx ?_ hdbx)
 have hT:H P=some (.tbl _):=I.tab P _ hQ
 obtain⟨pt,hps,ht,hit⟩:=I.hok P _ hT
 obtain⟨hgP,hbA⟩:=DZ I hps
 have C:=codeHd_of_K I.kIn hC
 have fin:∀(H3:Hp) (s3:Shared) (fa c':Addr) (pm ctv:Value),Inv X pins σ H3 s3→Same H H3→s3.heap.get? fa=some (kla_obj "<lambda>" (X.env.qual++"<lambda>") params (.Call (.Name gx gp) (e::es) [] gpos) scope cl pm c' ctv)→s3.heap.CodeRec (.ref c') (X.env.qual++"<lambda>")→
   wpAny (model X.prog X.w) X.A (spliced (backTo pos (starEach [.Constant (.int due) j dp] X.env))) (fun us s4=>X.K.In s4.heap∧wpAny (model X.prog X.w) X.A (call (.ref f) ([]++(.ref fa::us))) (EP X pins σ Q) X.xe s4) X.xe s3:=fun H3 s3 fa c' pm ctv I3 g3 ho hrec=>by
  rw[he2]
  refine Calls.spliced_cons (wpAny_Constant_int ?_)
  have I4:=I3.tok (s3.toks+1)
  refine Calls.spliced_nil ⟨I3.kIn,?_⟩
  have bd:=hb {s3 with toks:=s3.toks+1} [.ref fa,.int due s3.toks] I3.kIn hp2.symm
  refine wpAny_call (codeAny_mono (run X.A X.stack _ H3 [.ref fa,.int due s3.toks] fa _ _ (.int due) (.int due) n _ Q hr I4.env0 bd (.cons rfl (.cons ⟨_,rfl⟩ .nil)) (.int _) ho rfl (fun env s1 e01 hr1 keep=>?_) hn ec fun v H' gg rs=>q v H' ((fr.grow g3).told gg rs)) fun rr s' hq=>?_)
  ·have lam:LamIn N scope cl (de N vs) H3 s3.heap:=by
    refine⟨fun y c e=>⟨I3.cell y c (L.same y c e),I3.freeC y c (L.same y c e)⟩,fun y z c e1 e2=>I3.ok.inj y z c (L.same y c e1) (L.same z c e2),L.has,fun i y v e1 e2=>?_,?_⟩
    ·obtain⟨jj,ej,en,k1,k2,cc,ecl⟩:=L.from_ i y e1
     obtain⟨v',ev',es'⟩:=vf i jj ej
     have hi:i < vs.length:=(Zar.mp ev').1
     have:v'=v:=by
      unfold L2.de at e2
      rw[List.getElem?_append_left (by simpa using hi),q_,ev']at e2
      cases e2
      rfl
     subst this
     obtain⟨mm,_,hl⟩:=I3.loc
     obtain⟨u,ru,lk⟩:=hl jj y v' en es' (by
      rcases k2 with z |z
      ·exact .inr (.inl z)
      ·exact .inr (.inr z))
     refine⟨k1,u,cc,ru,ecl,?_⟩
     rcases lk with⟨z,_⟩ |⟨_,c2,e5,ic⟩
     ·rcases k2 with q |q
      ·rw[q]at z;cases z
      ·rw[q]at z;cases z
     ·rw[L.same y cc ecl]at e5
      cases e5
      exact ic
    ·unfold L2.de
     have:=L.len
     simp
     omega
   exact AG D (hr1.mono hkg) e01 (lam.keeps keep) (rp.same g3) (by rw[←rp.len,vl,L.len];exact dE _) (keep _ _ ho) (hrec.keeps keep) (fun s=>ha fa c' _ _ s H3) er (hbind _ _ _ _) sg sk hco hgen hcell hdb he hpl
  ·cases rr with
   |error er=>exact False.elim hq
   |ok fl=>
    cases fl with
    |ret u=>exact I4.after hq
    |next=>exact False.elim hq
    |brk=>exact False.elim hq
    |cont=>exact False.elim hq
 refine callWith_K (h₀:=X.base) I.ok.mod.kin kp ?_ he1 (by rw[he2];rfl)
 rw[he1]
 refine Calls.spliced_cons (PySem.W.kla_eval hdef ?_)
 cases hca:codeAmong lp pt.toList with
 |none=>
  refine PySem.W.kla_makeFunction L.clos I.ok.glob (I.mod.glob.keeps I.bk) hcode C hps ht hca hgP hbA fun c' ctv h' tk hx hge hlt hrec htb=>?_
  have I2:=pD (tk:=tk) I hT hps (fun b o hb e=>hx b o hb e) hge hrec htb
  have g:Same H (upd H c' (.own P)):=eJ (I.hok.fresh hge) _
  have I3:=I2.kept (t':=tk) (fun b o eb=>dF (kla_obj "<lambda>" (X.env.qual++"<lambda>") params (.Call (.Name gx gp) (e::es) [] gpos) scope cl ((X.mg "__name__").getD .none) c' ctv) eb)
  exact fin _ _ _ _ _ _ I3 g (ie _ rfl) (hrec.keeps fun b o e=>dF _ e)
 |some cv=>
  obtain⟨c',rfl,ho,hrec⟩:=hit lp cv hca
  refine PySem.W.kla_makeFunctionHit L.clos I.ok.glob (I.mod.glob.keeps I.bk) hcode C hps ht hca hbA fun ctv h' tk hx hsz=>?_
  have I3:=I.kept (t':=tk) (fun b o eb=>dF (kla_obj "<lambda>" (X.env.qual++"<lambda>") params (.Call (.Name gx gp) (e::es) [] gpos) scope cl ((X.mg "__name__").getD .none) c' ctv) (hx b o eb))
  exact fin _ _ _ _ _ _ I3 (Same.refl _) (ie _ rfl) (hrec.keeps fun b o e=>dF _ (hx b o e))
end
end PL
namespace L2
open PySem PySem.Spec PyProof.Rows PL
def jU(X:Cx):Prop:=∃(ea:Addr) (oe:Obj) (u:HO) (L:List (Addr×Obj)),X.A.handled=some (.ref ea)∧X.H₀ ea=some (.frz oe u)∧ChainP ((ea,oe)::L)∧∀q∈L,q∈X.pn∨(X.s₀.heap.get? q.1=some q.2∧X.H₀ q.1=none∧q.1∉X.fs∧q.1∉X.ex)
theorem ni{X:Cx}{pins:List (Addr×Obj)}{σ:St}{H:Hp}{s:Shared}{ea:Addr}{oe:Obj}{u:HO}{L:List (Addr×Obj)}(I:Inv X pins σ H s)(h1:X.H₀ ea=some (.frz oe u))(h2:∀q∈L,q∈X.pn∨(X.s₀.heap.get? q.1=some q.2∧X.H₀ q.1=none∧q.1∉X.fs∧q.1∉X.ex)):∀q∈(ea,oe)::L,s.heap.get? q.1=some q.2:=fun q hq=>by
 rcases Zaf.mp hq with z |z
 ·subst z
  exact(I.hok ea _ (I.base.frzs ea oe u h1)).1
 ·rcases h2 q z with m |⟨a,b,c,d⟩
  ·exact(I.pin q (Zb _ m)).1
  ·exact I.base.keep q.1 q.2 a b c d
structure TurnL (P:Program) (w:World) (K:Frag) (tg:Expr) (J:It) (fp:List Addr) (it:Addr) (tn:Nat→Heap→Prop):Prop where
 mem:it∈fp
 obj:∀i h,tn i h→∀b∈fp,∃o,h.get? b=some o∧∀v,o.data≠ .cell v
 keep:∀i h h',tn i h→(∀b∈fp,∀o,h.get? b=some o→h'.get? b=some o)→tn i h'
 item:∀(X:Cx),X.prog=P→X.w=w→X.K=K→jU X→∀(i:Nat) (pins:List (Addr×Obj)) (s:Shared) (σ:St) (H:Hp) (E:Value→Shared→Prop),Inv X pins σ H s→(∀b∈fp,ip X pins H b)→tn i s.heap→J.go i H→
  wpAny (model P w) X.A (pyNext (.ref it)) (fun r s1=>∃u,r=some u∧
   wpAny (model P w) X.A (letOwnedTupleGo tg (.ref it) u) (fun _ s2=>∃x H',Inv X pins σ H' s2∧RelV x u∧J.yld i H x H'∧tn (i+1) s2.heap∧∀b∈fp,H' b=none) E s1) E s
 done:∀(X:Cx),X.prog=P→X.w=w→X.K=K→jU X→∀(i:Nat) (pins:List (Addr×Obj)) (s:Shared) (σ:St) (H:Hp) (E:Value→Shared→Prop),Inv X pins σ H s→(∀b∈fp,ip X pins H b)→tn i s.heap→J.stop i H→
  wpAny (model P w) X.A (pyNext (.ref it)) (fun r s1=>r=none∧Inv X pins σ H s1) E s
 self:∀(A:Around) (i:Nat) (s:Shared) (Q:Value→Shared→Prop) (E:Value→Shared→Prop),tn i s.heap→Q (.ref it) s→wpAny (model P w) A (pyIter (.ref it)) Q E s
def Hz(X:Cx)(pins:List (Addr×Obj))(σ:St)(tg:Expr)(R:It→Hp→Prop)(itv:Value)(s2:Shared):Prop:=
 ∃(it:Addr) (fp:List Addr) (tn:Nat→Heap→Prop) (J:It) (H':Hp),itv=.ref it∧Inv X pins σ H' s2∧TurnL X.prog X.w X.K tg J fp it tn∧tn 0 s2.heap∧(∀b∈fp,ip X pins H' b)∧R J H'
def Gw(X:Cx)(tg iter:Expr)(wi:TI):Prop:=
 ∀(pins:List (Addr×Obj)) (s:Shared) (σ:St) (H:Hp) (R:It→Hp→Prop),Inv X pins σ H s→wi σ H R→
  wpAny (model X.prog X.w) X.A (eval iter X.env) (fun v s1=>wpAny (model X.prog X.w) X.A (pyIter v) (Hz X pins σ tg R) X.xe s1) X.xe s
theorem ti{P:Program}{w:World}{K:Frag}{tg:Expr}(it:Addr)(lo:Int)(n:Nat):TurnL P w K tg (Gr lo n) [it] it (fun i h=>IsRangeIter h it (lo+(i:Nat)*1) ((n:Int) - (i:Nat)) 1) where
 mem:=by simp
 obj:=fun i h st b hb=>by
  have e:b=it:=by simpa using hb
  subst e
  exact⟨_,st,fun v z=>by
   have z':Data.fields _=Data.cell v:=z
   cases z'⟩
 keep:=fun i h h' st k=>k it (by simp) _ st
 item:=by
  intro X hP hw hK hc i pins s σ H E I hf st hg
  subst hP hw hK
  obtain⟨f0,f1,f2,f3,f4,f5⟩:=hf it (by simp)
  refine wpAny_pyNext_range_item st (by have:i < n:=hg;omega) fun h' st' kk=>?_
  have I1:Inv X pins σ H {s with heap:=h',toks:=s.toks+1}:=I.turned (fun b o hb e=>(kk.2 b hb).trans e) f0 f1 f3 f4 f5
  have st2:IsRangeIter h' it (lo+((i+1:Nat):Int)*1) ((n:Int) - ((i+1:Nat):Int)) 1:=by
   have e1:lo+((i+1:Nat):Int)*1=lo+(i:Nat)*1+1:=by omega
   have e2:(n:Int) - ((i+1:Nat):Int)=(n:Int) - (i:Nat) - 1:=by omega
   rw[e1,e2];exact st'
  refine⟨_,rfl,oW (s:={s with heap:=h',toks:=s.toks+1}) (n:="range_iterator") st' rfl rfl (by decide) ⟨.int (lo+i),H,I1,⟨s.toks,?_⟩,⟨rfl,rfl⟩,st2,fun b hb=>(hf b hb).1⟩⟩
  rw[Int.mul_one]
 done:=by
  intro X hP hw hK hc i pins s σ H E I hf st hg
  subst hP hw hK
  obtain⟨f0,f1,f2,f3,f4,f5⟩:=hf it (by simp)
  obtain⟨ea,oe,u,L,h1,h2,h3,h4⟩:=hc
  exact uF (ea:=(ea,oe)) h1 h3 (ni I h2 h4) st (by have:n≤i:=hg;omega) fun h' eb=>⟨rfl,I.turned (t':=s.toks) (fun b o hb e=>eb b o hb e) f0 f1 f3 f4 f5⟩
 self:=fun _ _ _ _ _ st h=>wpAny_pyIter_rangeiter st h
section
variable {X:Cx} {tg:Expr}
theorem xX{pins:List (Addr×Obj)}{σ:St}{H:Hp}{s:Shared}{R:It→Hp→Prop}{E:Value→Shared→Prop}{lo hi:Int}{t u v:Tok}{tk:Nat}(I:Inv X pins σ H s)(h1: -(2 ^ 62)≤lo)(h2:lo < 2 ^ 62)(h3: -(2 ^ 62)≤hi)(h4:hi < 2 ^ 62)
  (q:R (Gr lo (hi - lo).toNat) H):wpAny (model X.prog X.w) X.A (pyIter (.ref s.heap.objs.size)) (Hz X pins σ tg R) E {s with heap:=s.heap.push {cls:=.type "range",data:=.fields #[.int lo t,.int hi u,.int 1 v]},toks:=tk}:=by
 refine wpAny_pyIter_range (IsRange.new ..) (small_one h1 h2 h3 h4) ?_
 have I1:Inv X pins σ H {s with heap:=s.heap.push {cls:=.type "range",data:=.fields #[.int lo t,.int hi u,.int 1 v]},toks:=tk}:=I.kept fun b o e=>dF _ e
 refine⟨(s.heap.push {cls:=.type "range",data:=.fields #[.int lo t,.int hi u,.int 1 v]}).objs.size,[(s.heap.push {cls:=.type "range",data:=.fields #[.int lo t,.int hi u,.int 1 v]}).objs.size],_,_,H,rfl,
  I1.kept (t':=tk) fun b o e=>dF _ e,ti _ lo (hi - lo).toNat,?_,fun b hb=>?_,q⟩
 ·have e1:lo+((0:Nat):Int)*1=lo:=by simp
  have e2:(((hi - lo).toNat:Nat):Int) - ((0:Nat):Int)=Builtin.Range.rangeSize lo hi 1:=by rw[rangeSize_one];split <;> omega
  show IsRangeIter _ _ (lo+((0:Nat):Int)*1) ((((hi - lo).toNat:Nat):Int) - ((0:Nat):Int)) 1
  rw[e1,e2]
  exact ie _ rfl
 ·have e:b=(s.heap.push {cls:=.type "range",data:=.fields #[.int lo t,.int hi u,.int 1 v]}).objs.size:=by simpa using hb
  subst e
  exact I1.fpOk (dE _) (I1.hok.fresh (dE _))
theorem uR {a:Expr} {ta:TA} {p pos:Pos} (hg:Gl X "range") (hm:X.mg "range"=none) (ha:PA X [a] ta) (hs:starEach [a] X.env=[(false,eval a X.env)]:=by rfl):Gw X tg (.Call (.Name "range" p) [a] [] pos) (DD ta):=by
 intro pins s σ H R I h
 refine Call_ (fX I hg hm boot_range (PyProof.Rows.callWith_type1 (bR (ha pos pins s σ H _ I h) fun us s1 ⟨vs,H1,I1,r1,q1⟩=>?_) hs rfl))
 obtain⟨j,e,q1,q2,q⟩:=q1
 subst e
 cases r1 with
 |cons r rr=>
  cases rr
  obtain⟨t,rfl⟩:=r
  exact call_range_1 (xX I1 (by omega) (by omega) q1 q2 (by simpa using q))
end
section
variable {X:Cx} {elt target iter:Expr} {ifs:List Expr} {scope sc:Scope} {cl:List (Str×Addr)} {N:List Str} {pos:Pos} {wi:TI} {g:TG} {tt:TT} {te:TE} {js:List (Option Nat)}
theorem xY{use:Option (Value→Sem Unit)}{Qv:Value→Shared→Prop}(K:CompOk X scope sc cl N js)(hc:jU X)(hi:Gw X target iter wi)
  (hgg:∀C s₀ H₀ fp,PG (X.comp sc cl N C s₀ H₀ fp) target g) (htt:∀C s₀ H₀ fp,EN (X.comp sc cl N C s₀ H₀ fp) ifs tt) (hee:∀C s₀ H₀ fp,PE (X.comp sc cl N C s₀ H₀ fp) elt te)
  (hs:∀x,foldedSetIterable iter X.env x=pure x) (pins:List (Addr×Obj)) (s:Shared) (σ:St) (H:Hp) (Q:VK) (I:Inv X pins σ H s) (h:o6 js wi g tt te σ H Q)
  (hend:∀(D C:Addr) (H4:Hp) (s5:Shared) (m:Str→Option Value),Inv X pins σ H4 s5→s5.heap.Ns C m→H4 C=none→C≠X.env.locals→C∉X.fs→X.s₀.heap.objs.size≤C→(∀x c,X.env.cells.lookup x=some c→c≠C)→(∀p∈X.pn++pins,p.1≠C)→Q (.ref D) H4→
   compPost (model X.prog X.w) X.A X.xe use Qv (.ref D) C (.ok .next) s5):
  wpAny (model X.prog X.w) X.A (comprehension (.ListComp elt [⟨target,iter,ifs,0⟩] scope pos) scope X.env (firstIterPos [⟨target,iter,ifs,0⟩] pos) (newList []) false (firstIter [⟨target,iter,ifs,0⟩] X.env) use) Qv X.xe s:=by
 refine wpAny_comprehension_free (use:=use) rfl hs K.clos K.kind K.names (bR (hi pins s σ H _ I h) fun v s1 h1=>bR h1 fun itv s2 h2=>?_)
 obtain⟨it,fp,tn,J,H2,e,I2,T,st2,f2,R⟩:=h2
 subst e
 refine wpAny_newObj_type (wpAny_newFunctionEnv K.nocell (by intro y hy;simp at hy) (fun h₁ hns₁ hsb₁=>?_) K.kind)
 dsimp only at hns₁ hsb₁ ⊢
 have I3:Inv X pins σ (upd H2 s2.heap.objs.size (.lst [])) {s2 with heap:=s2.heap.push {cls:=.type "list",dict:=none,data:=.seq ([]:List Value).toArray}}:=
  I2.lnew (t':=s2.toks) (its:=[]) .nil (Nat.zero_le _)
 obtain⟨W,⟨m0,w0⟩,turn⟩:=R s2.heap.objs.size (I2.hok.fresh (dE _))
 generalize hP:s2.heap.push {cls:=.type "list",dict:=none,data:=.seq ([]:List Value).toArray}=h3 at hns₁ hsb₁ I3 ⊢
 generalize hD:s2.heap.objs.size=D at w0 turn I3 ⊢
 have hsz3:h3.objs.size=D+1:=by rw[←hP,rh,hD]
 have old3:∀b o,s2.heap.get? b=some o→h3.get? b=some o:=fun b o e=>by rw[←hP];exact dF _ e
 have old:∀b o,h3.get? b=some o→h₁.get? b=some o:=fun b o e=>hsb₁.extBut b o (eF (dM e)) (dF _ e)
 have fpD:∀b∈fp,b < D:=fun b hb=>by
  obtain⟨o,e,_⟩:=T.obj _ _ st2 b hb
  rw[←hD];exact dM e
 have frD:∀b∈fp,(upd H2 D (.lst [])) b=none:=fun b hb=>by rw[ar (eF (fpD b hb))];exact(f2 b hb).1
 have f3:∀b∈fp,ip X pins (upd H2 D (.lst [])) b:=fun b hb=>⟨frD b hb,(f2 b hb).2⟩
 have Hfresh:∀a,h3.objs.size≤a→(upd H2 D (.lst [])) a=none:=fun a ha=>I3.hok.fresh ha
 have cellC:∀x c,X.env.cells.lookup x=some c→c < h3.objs.size:=fun x c e=>by
  obtain⟨v,q⟩:=I3.cell x c e
  exact q.lt
 have YOk:(X.comp sc cl N h3.objs.size {s2 with heap:=h3} (upd H2 D (.lst [])) fp).Ok:=by
  refine⟨I3.ok.mod,?_,I3.ok.glob,I3.ok.blt,dE _,fun x y c e1 e2=>I3.ok.inj x y c (K.same x c e1) (K.same y c e2),fun x hx=>K.has x hx,fun x c hf _=>absurd hf (by intro z;cases z),I3.ok.hd,I3.ok.frames,.inl rfl,fun b hb=>⟨?_,fun x c e=>(f2 b hb).2.2.2.2.1 x c (K.same x c e)⟩,
   I3.bs,kK I3.ok.bsz I3.sz,fun b o e hb=>?_,fun b hb hm=>?_,I3.stack,I3.stkFree,I3.tab⟩
  ·rw[←K.rel];exact K.kind
  ·exact eF (by rw[hsz3];exact vt (fpD b hb))
  ·rcases(f2 b hb).2.2.2.1 with z |z
   ·exact I3.ok.noex b o e z
   ·exact absurd (jH (dM (I3.ok.bs b o e).1) z) (Nat.lt_irrefl _)
  ·rcases Zaf.mp (I3.stkSub b hm)with z |z
   ·exact(f2 b hb).2.1 z
   ·exact(f2 b hb).2.2.1 z
 have hcC:jU (X.comp sc cl N h3.objs.size {s2 with heap:=h3} (upd H2 D (.lst [])) fp):=by
  obtain⟨ea,oe,u,LL,h1,h2,h4,h5⟩:=hc
  refine⟨ea,oe,u,LL,h1,I3.base.frzs ea oe u h2,h4,fun q hq=>.inr ?_⟩
  have hg:=ni I3 h2 h5 q (fJ _ hq)
  have fr:(upd H2 D (.lst [])) q.1=none∧q.1≠X.env.locals∧q.1∉X.fs∧q.1∉fp:=by
   rcases h5 q hq with m |⟨a,b,c,d⟩
   ·obtain⟨_,e2,e3,e4,_⟩:=I3.pin q (Zb _ m)
    exact⟨e2,e3,e4,fun z=>(f2 q.1 z).2.2.2.2.2 q (Zb _ m) rfl⟩
   ·refine⟨I3.base.free q.1 q.2 a b d,eF (jH (dM a) I3.ok.above),c,fun z=>?_⟩
    rcases(f2 q.1 z).2.2.2.1 with w |w
    ·exact d w
    ·exact absurd (jH (dM a) w) (Nat.lt_irrefl _)
  refine⟨hg,fr.1,fun z=>?_,fr.2.2.2⟩
  rcases Zaf.mp (I3.stkSub q.1 z)with w |w
  ·exact fr.2.1 w
  ·exact fr.2.2.1 w
 have IY:Inv (X.comp sc cl N h3.objs.size {s2 with heap:=h3} (upd H2 D (.lst [])) fp) [] (slots js σ) (upd H2 D (.lst [])) {s2 with heap:=h₁,toks:=s2.toks+([]:List (Str×Value)).length}:=by
  refine⟨YOk,rfl,I3.bare,Un.kept old,⟨_,hns₁,fun i x v e1 e2 e3=>?_⟩,fun x c e=>?_,Hfresh _ (dE _),fun x c e=>I3.freeC x c (K.same x c e),fun p hp=>absurd (show p∈([]:List (Addr×Obj))from hp) (by simp),I3.hok.kept old,?_⟩
  ·unfold slots at e2
   rw[q_]at e2
   cases ej:js[i]? with
   |none=>rw[ej]at e2;cases e2
   |some jo=>
    rw[ej]at e2
    cases jo with
    |none=>cases e2
    |some j=>
     obtain⟨y,n1,n2,k1,k2⟩:=K.from_ i j ej
     have exy:y=x:=Option.some.inj (n1.symm.trans e1)
     subst exy
     have e2':(σ[j]?).join=some v:=Option.some.inj e2
     have e4:σ[j]? =some (some v):=by
      cases es:σ[j]? with
      |none=>rw[es]at e2';cases e2'
      |some w=>rw[es]at e2';exact congrArg some e2'
     obtain⟨m,_,hl⟩:=I3.loc
     obtain⟨u,ru,lk⟩:=hl j y v n2 e4 (by
      rcases k2 with z |z
      ·exact .inr (.inl z)
      ·exact .inr (.inr z))
     refine⟨u,ru,.inr ⟨k1,?_⟩⟩
     obtain⟨c,hcl⟩:=K.has y k1
     refine⟨c,hcl,?_⟩
     rcases lk with⟨z,_⟩ |⟨_,c',e5,ic⟩
     ·rcases k2 with q |q
      ·rw[q]at z;cases z
      ·rw[q]at z;cases z
     ·have:c'=c:=Option.some.inj (e5.symm.trans (K.same y c hcl))
      subst this
      obtain⟨o,ho,hd⟩:=ic
      exact⟨o,old _ _ ho,hd⟩
  ·obtain⟨v,o,ho,hd⟩:=I3.cell x c (K.same x c e)
   exact⟨v,o,old _ _ ho,hd⟩
  ·unfold slots;rw[dY];exact K.len
 have loop:∀s₃:Shared,s₃={s2 with heap:=h₁,toks:=s2.toks+([]:List (Str×Value)).length}→
   codeAny (model X.prog X.w) X.A (.compLoop (.ListComp elt [⟨target,iter,ifs,0⟩] scope pos) 0 (.ref it) (.ref D) (X.comp sc cl N h3.objs.size {s2 with heap:=h3} (upd H2 D (.lst [])) fp).env)
    (compPost (model X.prog X.w) X.A X.xe use Qv (.ref D) h3.objs.size) s₃:=by
  rintro s₃ rfl
  refine j3 (fun n s'=>∃i σ' H',Inv (X.comp sc cl N h3.objs.size {s2 with heap:=h3} (upd H2 D (.lst [])) fp) [] σ' H' s'∧tn i s'.heap∧(∀b∈fp,H' b=none)∧W i n σ' H') ?_ m0
   ⟨0,_,_,IY,T.keep _ _ _ st2 (fun b hb o e=>old b o (old3 b o e)),frD,w0⟩
  rintro n s4 ⟨i,σ4,H4,I4,st4,fr4,w4⟩
  have ff:∀{H':Hp},(∀b∈fp,H' b=none)→∀b∈fp,ip (X.comp sc cl N h3.objs.size {s2 with heap:=h3} (upd H2 D (.lst [])) fp) [] H' b:=fun hn b hb=>
   ⟨hn b hb,(YOk.exf b hb).1,YOk.exfs b hb,.inl hb,(YOk.exf b hb).2,fun p hp=>absurd (show p∈([]:List (Addr×Obj))from hp) (by simp)⟩
  have hg:=hgg h3.objs.size {s2 with heap:=h3} (upd H2 D (.lst [])) fp
  have ht:=htt h3.objs.size {s2 with heap:=h3} (upd H2 D (.lst [])) fp
  have he:=hee h3.objs.size {s2 with heap:=h3} (upd H2 D (.lst [])) fp
  rcases turn i n σ4 H4 w4 with⟨stop,qn⟩ |⟨go,Nx,hN,step⟩
  ·refine bR (T.done (X.comp sc cl N h3.objs.size {s2 with heap:=h3} (upd H2 D (.lst [])) fp) rfl rfl rfl hcC i [] s4 σ4 H4 _ I4 (ff fr4) st4 stop) fun r s5 ⟨hr,I5⟩=>?_
   subst hr
   obtain⟨m,hn,_⟩:=I5.loc
   have IX:Inv X pins σ H4 s5:=I3.call' (ch:=fp) I5.os I5.base I5.hok I5.bare fun b hb=>⟨(f3 b hb).2.2.2.1,(f3 b hb).2.1,(f3 b hb).2.2.2.2.1,(f3 b hb).2.2.2.2.2⟩
   exact hend D h3.objs.size H4 s5 m IX hn I5.free (Ne.symm (eF I3.lt)) (I3.nofs (dE _)) I3.sz (fun x c e=>eF (cellC x c e)) (fun p hp=>eF (dM (I3.pin p hp).1)) qn
  ·refine bR (T.item (X.comp sc cl N h3.objs.size {s2 with heap:=h3} (upd H2 D (.lst [])) fp) rfl rfl rfl hcC i [] s4 σ4 H4 _ I4 (ff fr4) st4 go) fun r s5 ⟨u,hr,h5⟩=>?_
   subst hr
   refine bR h5 fun _ s6 ⟨x,H6,I6,r6,y6,st6,fr6⟩=>?_
   have I6':=I6.pinned (ff fr6) (T.obj _ _ st6)
   have back:∀{σ7:St} {H7:Hp} {s7:Shared},Inv (X.comp sc cl N h3.objs.size {s2 with heap:=h3} (upd H2 D (.lst [])) fp) ([]++jI fp s6.heap) σ7 H7 s7→
     Inv (X.comp sc cl N h3.objs.size {s2 with heap:=h3} (upd H2 D (.lst [])) fp) [] σ7 H7 s7∧tn (i+1) s7.heap∧∀b∈fp,H7 b=none:=fun {σ7 H7 s7} I7=>
    ⟨I7.unpinned,T.keep _ _ _ st6 fun b hb o e=>(I7.pin (b,o) (jx _ (jx _ (c_ hb e)))).1,fun b hb=>by
     obtain⟨o,e,d⟩:=T.obj _ _ st6 b hb
     exact(I7.pin (b,o) (jx _ (jx _ (c_ hb e)))).2.1⟩
   refine bR (hg _ s6 σ4 H6 x u _ I6' r6 (step x H6 y6)) fun _ s7 ⟨σ7,H7,I7,q7⟩=>?_
   refine bR (ht _ s7 σ7 H7 _ I7 q7) fun b s8 ⟨H8,I8,q8⟩=>?_
   cases b with
   |false=>
    obtain⟨m',hm,w8⟩:=hN σ7 H8 q8
    obtain⟨J1,J2,J3⟩:=back I8
    exact⟨m',hm,i+1,σ7,H8,J1,J2,J3,w8⟩
   |true=>
    refine bR (he _ s8 σ7 H8 _ I8 q8) fun yv s9 ⟨y,H9,I9,r9,ys,hl,hz,n9⟩=>?_
    obtain⟨m',hm,w9⟩:=hN _ _ n9
    refine bR (iW _ s9 σ7 H9 (.ref D) [y] (.ref D) [yv] (fun v H'=>v=.non∧H'=upd H9 D (.lst (ys++[y]))) I9 rfl (.cons r9 .nil) ⟨D,ys,y,rfl,rfl,hl,hz,rfl,rfl⟩) fun _ sA ⟨_,HA,IA,_,_,eA⟩=>?_
    subst eA
    obtain⟨J1,J2,J3⟩:=back IA
    exact⟨m',hm,i+1,σ7,_,J1,J2,J3,w9⟩
 rw[K.rel]
 exact codeAny_compStart_list (loop _ rfl) (T.self _ 0 _ _ _ (T.keep _ _ _ st2 (fun b hb o e=>old b o (old3 b o e))) (loop _ rfl))
theorem AI(K:CompOk X scope sc cl N js)(hc:jU X)(hi:Gw X target iter wi)
  (hgg:∀C s₀ H₀ fp,PG (X.comp sc cl N C s₀ H₀ fp) target g) (htt:∀C s₀ H₀ fp,EN (X.comp sc cl N C s₀ H₀ fp) ifs tt) (hee:∀C s₀ H₀ fp,PE (X.comp sc cl N C s₀ H₀ fp) elt te)
  (hs:∀x,foldedSetIterable iter X.env x=pure x:=by intro _;rfl):PE X (.ListComp elt [⟨target,iter,ifs,0⟩] scope pos) (o6 js wi g tt te):=by
 intro pins s σ H Q I h
 rw[eval_ListComp]
 refine xY (use:=none) K hc hi hgg htt hee hs pins s σ H Q I h fun D C H4 s5 m IX hn fC nL _ sz nc np qn=>?_
 exact⟨m,hn,fun h' hs'=>⟨.ref D,H4,IX.turned (t':=s5.toks) (it:=C) (fun b o hb e=>(hs'.2 b hb).trans e) fC nL (.inr sz) nc np,rfl,qn⟩⟩
end
end L2
namespace PL
open PySem L2 Nh
def Jq(X:Cx)(tg e:Expr)(m:Bool)(f:ij):Prop:=Gw X tg e (ri X.K m f)
section
variable {X:Cx} {tg e:Expr} {m:Bool} {g:j0} {p pos:Pos}
theorem Db{t t':TI}(h:Gw X tg e t)(k:∀σ H Q,t' σ H Q→t σ H Q):Gw X tg e t':=fun pins s σ H R I q=>h pins s σ H R I (k σ H R q)
theorem uT (hg:Gl X "range") (hm:X.mg "range"=none) (ha:AX X [e] m g) (hs:starEach [e] X.env=[(false,eval e X.env)]:=by rfl):Jq X tg (.Call (.Name "range" p) [e] [] pos) m (eO g):=Db (uR hg hm ha hs) fun σ H R z=>by
 obtain⟨B,E,xs,Xs,ds,E',fr,cl,e,q⟩:=z
 obtain⟨⟨rs,E1⟩,e1,e⟩:=Za.mp e
 refine⟨B,E,xs,Xs,rs,E1,fr,cl,e1,fun vs H1 hl ⟨F,A,fr1⟩=>?_⟩
 simp only at e
 split at e
 ·rename_i j ld
  split at e
  ·rename_i hj
   cases e
   obtain⟨r,A',fr2⟩:=fr1.looks hl ld
   obtain⟨v,rfl,r'⟩:=r.one
   cases r'
   exact⟨j,rfl,by omega,by omega,q B _ _ (Same.refl _) ⟨F,A',fr2⟩ mH⟩
  ·cases e
 ·cases e
end
section
variable {X:Cx} {elt target iter:Expr} {scope sc:Scope} {cl:List (Str×Addr)} {N:List Str} {pos:Pos} {js:List (Option Nat)}
theorem xZ{m m3:Bool}{it:ij}{tg:fZ}{el:aD}(C:CompOk X scope sc cl N js)(hc:jU X)(hi:Jq X target iter m it)(hg:∀C s₀ H₀ fp,GX (X.comp sc cl N C s₀ H₀ fp) target tg)(he:∀C s₀ H₀ fp,EX (X.comp sc cl N C s₀ H₀ fp) elt m3 el)
  (hs:∀x,foldedSetIterable iter X.env x=pure x:=by intro _;rfl):EX X (.ListComp elt [⟨target,iter,[],0⟩] scope pos) m (c7 js it tg d0 el):=
 bn (AI (g:=rg X.K tg) (te:=rd X.K m3 el) C hc hi hg (fun _ _ _ _=>vF) he hs) fun σ H Q z=>l7 (m2:=false) (fun σ H Q z=>by
  obtain⟨B,E,xs,Xs,b,E',fr,cl,e,q⟩:=z
  cases e
  exact q _ fr) z
theorem Dc{X:Cx}{ea C:Addr}{oe:Obj}{ex:List (Addr×Obj)}(h:ChainP ((ea,oe)::ex)):jU (hX X ea oe C ex):=⟨ea,oe,_,ex,rfl,upd_same,h,fun q hq=>.inl (Zb _ hq)⟩
end
end PL
namespace PL
open PySem L2 Nh
def AJ:Expr→Bool
 | .Starred .. =>false
 |_=>true
theorem De{e:Expr}{es:List Expr}{env:Env}(h:AJ e=true):starEach (e::es) env=(false,eval e env)::starEach es env:=by
 cases e <;> first |rfl |cases h
inductive DL (X:Cx):List Expr→Bool→ij→Prop
 |nil:DL X [] false bt
 |cons {e:Expr} {es:List Expr} {m1 m2:Bool} {f:aD} {d:ij}:EX X e m1 f→AJ e=true→DL X es m2 d→DL X (e::es) (m1||m2) (aq f d)
section
variable {X:Cx} {es:List Expr} {m:Bool} {d:ij} {pos:Pos}
theorem DL.dx(h:DL X es m d):DX X es m d:=by
 induction h with
 |nil=>exact zj
 |cons a n _ ih=>exact vR a ih (De n)
theorem cY(h:DL X es m d):EX X (.List es pos) m (bF d):=zk h.dx
theorem qz{x1}(h:DL X es m d):EX X (.Tuple es x1 pos) m (kR d):=EW h.dx
end
def iM:List Nat→Expr→Expr
 |[],e=>e
 |k::r,e=>match e with
  | .Call _ as _ _=>iM r (as.getD k e)
  | .BinOp a _ b _=>if k=0 then iM r a else iM r b
  | .Subscript a b _=>if k=0 then iM r a else iM r b
  | .Compare a _ cs _=>if k=0 then iM r a else iM r (cs.getD (k - 1) e)
  | .BoolOp _ vs _=>iM r (vs.getD k e)
  | .UnaryOp _ a _=>iM r a
  | .List es _=>iM r (es.getD k e)
  | .Tuple es _ _=>iM r (es.getD k e)
  | .ListComp _ (c::_) _ _=>iM r c.iter
  |e=>e
def iN(v:Expr):List Nat→Expr→Expr
 |[],_=>v
 |k::r,e=>match e with
  | .Call f as ks p=> .Call f (as.set k (iN v r (as.getD k e))) ks p
  | .BinOp a o b p=>if k=0 then .BinOp (iN v r a) o b p else .BinOp a o (iN v r b) p
  | .Subscript a b p=>if k=0 then .Subscript (iN v r a) b p else .Subscript a (iN v r b) p
  | .Compare a os cs p=>if k=0 then .Compare (iN v r a) os cs p else .Compare a os (cs.set (k - 1) (iN v r (cs.getD (k - 1) e))) p
  | .BoolOp o vs p=> .BoolOp o (vs.set k (iN v r (vs.getD k e))) p
  | .UnaryOp o a p=> .UnaryOp o (iN v r a) p
  | .List es p=> .List (es.set k (iN v r (es.getD k e))) p
  | .Tuple es n p=> .Tuple (es.set k (iN v r (es.getD k e))) n p
  | .ListComp el (c::cs) sc p=> .ListComp el ({c with iter:=iN v r c.iter}::cs) sc p
  |e=>e
def oH:List Nat→List Stmt→Expr
 |[],_=> .Constant .none 0 ⟨0,0,0,0⟩
 |i::r,b=>match b[i]? with
  |some (.Assign _ e _)=>iM r e
  |some (.Return (some e) _)=>iM r e
  |some (.Expr e _)=>iM r e
  |some (.If t bb _ _)=>match r with
   | 0::q=>iM q t
   | 1::q=>oH q bb
   |_=>t
  |some (.For t it bb _ _)=>match r with
   | 0::q=>iM q it
   | 1::q=>oH q bb
   |_=>t
  |_=> .Constant .none 0 ⟨0,0,0,0⟩
def x6(v:Expr):List Nat→List Stmt→List Stmt
 |[],b=>b
 |i::r,b=>match b[i]? with
  |some (.Assign t e p)=>b.set i (.Assign t (iN v r e) p)
  |some (.Return (some e) p)=>b.set i (.Return (some (iN v r e)) p)
  |some (.Expr e p)=>b.set i (.Expr (iN v r e) p)
  |some (.If t bb o p)=>match r with
   | 0::q=>b.set i (.If (iN v q t) bb o p)
   | 1::q=>b.set i (.If t (x6 v q bb) o p)
   |_=>b
  |some (.For t it bb o p)=>match r with
   | 0::q=>b.set i (.For t (iN v q it) bb o p)
   | 1::q=>b.set i (.For t it (x6 v q bb) o p)
   |_=>b
  |_=>b
def om:Expr→List Expr
 | .List es _=>es
 | .Tuple es _ _=>es
 |_=>[]
def wd(es:List Expr):Expr→Expr
 | .List _ p=> .List es p
 | .Tuple _ n p=> .Tuple es n p
 |e=>e
structure BodyOk (X:Cx) (body:List Stmt) (g:cI):Prop where
 of:qX X body g
theorem Df{X:Cx}{body:List Stmt}{g:cI}(path:List Nat){m:Bool}{d:ij}(hP:∀Y:Cx,DL Y (om (oH path body)) m d)(key:∀es,(∀Y:Cx,DL Y es m d)→BodyOk X (x6 (wd es (oH path body)) path body) g)(hb:x6 (wd (om (oH path body)) (oH path body)) path body=body:=by rfl):BodyOk X body g:=by
 have:=key _ hP
 rw[hb]at this
 exact this
theorem ko{X:Cx}{body:List Stmt}{g:cI}(path:List Nat){m:Bool}{d:ij}(hP:DL X (om (oH path body)) m d)(key:∀es,DL X es m d→BodyOk X (x6 (wd es (oH path body)) path body) g)(hb:x6 (wd (om (oH path body)) (oH path body)) path body=body:=by rfl):BodyOk X body g:=by
 have:=key _ hP
 rw[hb]at this
 exact this
end PL
namespace PL
open PySem L2 Nh
section
variable {X:Cx}
theorem FP{body:List Stmt}{h₀:ExceptHandler}{hs:List ExceptHandler}{pos:Pos}{g:cI}(hx:X.xe=fun _ _=>False)(h:qX X body g):SX X (.Try body (h₀::hs) [] [] pos) g:=by
 intro pins s σ H D I hw
 have q:=h pins s σ H D I hw
 rw[hx]at q
 refine wpAny_Try_except (wpAny_mono q (fun f s1 z=>?_) fun _ _ z=>z.elim)
 cases f with
 |next=>exact wpAny_execs_nil z
 |brk=>exact z
 |cont=>exact z
 |ret u=>exact z
end
end PL
namespace NH
def cP(w:List Nat):Nat→Nat
 | 0=>0
 |n+1=>cP w n+if 97+n∈w then 2 ^ n else 0
theorem pG(w:List Nat):∀n,cP w n < 2 ^ n
 | 0=>by simp[cP]
 |n+1=>by
  have:=pG w n
  rw[cP,Nat.pow_succ]
  split <;> omega
theorem i_(w:List Nat):∀n i,(cP w n).testBit i=(decide (i < n)&&decide (97+i∈w))
 | 0,i=>by simp[cP]
 |n+1,i=>by
  have ih:=i_ w n i
  have lt:=pG w n
  rw[cP]
  by_cases h:97+n∈w
  ·rw[if_pos h,Nat.add_comm]
   by_cases e:i=n
   ·subst e
    rw[Nat.testBit_two_pow_add_eq,ih]
    simp[h]
   ·by_cases l:i < n
    ·rw[Nat.testBit_two_pow_add_gt l,ih]
     simp[l,show i < n+1 by omega]
    ·have big:2 ^ n+cP w n < 2 ^ i:=by
      have:2 ^ (n+1)≤2 ^ i:=Nat.pow_le_pow_right (by decide) (by omega)
      rw[Nat.pow_succ]at this
      omega
     rw[Nat.testBit_lt_two_pow big]
     simp[show ¬i < n+1 by omega]
  ·rw[if_neg h,Nat.add_zero,ih]
   by_cases e:i=n
   ·subst e;simp[h]
   ·by_cases l:i < n
    ·simp[l,show i < n+1 by omega]
    ·simp[l,show ¬i < n+1 by omega]
def eQ(w:List Nat):Nat:=cP w 26
def x8(w:List Nat):Prop:=∀a∈w,97≤a∧a < 97+26
theorem x9{a b:List Nat}(ha:x8 a):eQ a &&& eQ b=eQ a↔∀x∈a,x∈b:=by
 unfold eQ
 constructor
 ·intro h x hx
  have l:=ha x hx
  have:=congrArg (fun n=>n.testBit (x - 97)) h
  simp only[Nat.testBit_and,i_,show 97+(x - 97)=x by omega,show x - 97 < 26 by omega,hx]at this
  simpa using this
 ·intro h
  refine Nat.eq_of_testBit_eq fun i=>?_
  rw[Nat.testBit_and,i_,i_]
  by_cases m:97+i∈a
  ·simp[m,h _ m]
  ·simp[m]
end NH
namespace NhFam
abbrev Tx:=List Nat
def Srt(w:Tx):Prop:=w.Pairwise (· < ·)
def le(v w:Tx):Prop:=∀x∈v,x∈w
instance (v w:Tx):Decidable (le v w):=inferInstanceAs (Decidable (∀x∈v,x∈w))
theorem le.refl(v:Tx):le v v:=fun _ h=>h
theorem le.trans{u v w:Tx}(a:le u v)(b:le v w):le u w:=fun x h=>b x (a x h)
def Sub(U w:Tx):Prop:=Srt w∧le w U
theorem Srt.nodup{w:Tx}(h:Srt w):w.Nodup:=h.imp fun h=>eF h
theorem d_:∀{w v:Tx},Srt v→Srt w→le v w→v.Sublist w
 |[],v,_,_,h=>by
  cases v with
  |nil=>exact .slnil
  |cons x v=>cases h x (gk ..)
 |y::w,v,hv,hw,h=>by
  cases v with
  |nil=>exact List.nil_sublist _
  |cons x v=>
   have hw':=List.pairwise_cons.mp hw
   have hv':=List.pairwise_cons.mp hv
   by_cases e:x=y
   ·subst e
    refine(d_ hv'.2 hw'.2 fun z hz=>?_).cons_cons _
    rcases Zaf.mp (h z (fJ _ hz))with q |q
    ·have:=hv'.1 z hz;omega
    ·exact q
   ·have hx:x∈w:=(Zaf.mp (h x (gk ..))).resolve_left e
    have lt:=hw'.1 x hx
    refine(d_ hv hw'.2 fun z hz=>?_).cons _
    rcases Zaf.mp (h z hz)with q |q
    ·subst q
     rcases Zaf.mp hz with q |q
     ·omega
     ·have:=hv'.1 z q;omega
    ·exact q
theorem Srt.ext{v w:Tx}(hv:Srt v)(hw:Srt w)(a:le v w)(b:le w v):v=w:=
 (d_ hv hw a).eq_of_length (Nat.le_antisymm (d_ hv hw a).length_le (d_ hw hv b).length_le)
theorem AK{v w:Tx}(hv:Srt v)(hw:Srt w)(a:le v w)(n:v≠w):v.length < w.length:=by
 have s:=d_ hv hw a
 rcases Nat.lt_or_ge v.length w.length with h |h
 ·exact h
 ·exact absurd (s.eq_of_length (Nat.le_antisymm s.length_le h)) n
def key(w:Tx):NhSG.Ky:=((w.length:Int),w)
def iO(v w:Tx):Prop:=NhSG.e8 (key v) (key w)=true
theorem nj{v w:Tx}(h:v.length < w.length):iO v w:=NhSG.ltKy_iff.mpr (.inl (by simp only[key];omega))
theorem gY(v:Tx):¬iO v v:=fun h=>by
 have:=(NhSG.fj default).irrefl (key v)
 unfold iO at h
 rw[show NhSG.e8 (key v) (key v)=false from this]at h
 cases h
theorem ja{v w:Tx}(h1:¬iO v w)(h2:¬iO w v):v=w:=by
 have h:=(NhSG.fj default).total (key v) (key w) (by simpa[iO]using h1) (by simpa[iO]using h2)
 exact congrArg Prod.snd h
theorem pH{u v w:Tx}(a:iO u v)(b:iO v w):iO u w:=(NhSG.fj default).trans _ _ _ a b
theorem lg{v w:Tx}(a:iO v w):¬iO w v:=fun b=>gY v (pH a b)
def up(F:List Tx)(w:Tx):Prop:=∃v∈F,le v w
def IN(U:Tx)(f:Tx→Prop)(w:Tx):Prop:=Sub U w∧f w∧∀v,Sub U v→f v→le v w→v=w
structure Told (U:Tx) (L:List Tx) (f:Tx→Prop):Prop where
 srt:L.Pairwise iO
 mem:∀w,w∈L↔IN U f w
def HB(U:Tx)(f:Tx→Prop):Prop:=∀v w,Sub U v→Sub U w→le v w→f v→f w
theorem nq{U:Tx}{f:Tx→Prop}:∀(n:Nat) (w:Tx),w.length≤n→Sub U w→f w→∃v,IN U f v∧le v w
 |n,w,hn,hw,hf=>by
  by_cases h:∀v,Sub U v→f v→le v w→v=w
  ·exact⟨w,⟨hw,hf,h⟩,le.refl w⟩
  ·obtain⟨v,h⟩:=Classical.not_forall.mp h
   obtain⟨v1,h⟩:=Classical.not_imp.mp h
   obtain⟨v2,h⟩:=Classical.not_imp.mp h
   obtain⟨v3,v4⟩:=Classical.not_imp.mp h
   have:=AK v1.1 hw.1 v3 v4
   cases n with
   |zero=>omega
   |succ n=>
    obtain⟨u,a,b⟩:=nq n v (by omega) v1 v2
    exact⟨u,a,b.trans v3⟩
theorem Told.sub{U:Tx}{L:List Tx}{f:Tx→Prop}(h:Told U L f):∀w∈L,Sub U w:=fun w hw=>((h.mem w).mp hw).1
theorem Told.up_iff{U:Tx}{L:List Tx}{f:Tx→Prop}(h:Told U L f)(m:HB U f){w:Tx}(hw:Sub U w):up L w↔f w:=by
 constructor
 ·rintro⟨v,hv,l⟩
  have:=(h.mem v).mp hv
  exact m v w this.1 hw l this.2.1
 ·intro hf
  obtain⟨v,a,b⟩:=nq w.length w (dE _) hw hf
  exact⟨v,(h.mem v).mpr a,b⟩
theorem x_{L:List Tx}(h:L.Pairwise iO):L.Nodup:=h.imp fun {a b} h e=>by subst e;exact gY a h
theorem Dg(U:Tx)(F:List Tx):HB U (up F):=fun v w _ _ l ⟨u,hu,h⟩=>⟨u,hu,h.trans l⟩
theorem uU{U:Tx}{F:List Tx}(hF:∀v∈F,Sub U v){w:Tx}:IN U (up F) w↔w∈F∧∀v∈F,le v w→v=w:=by
 constructor
 ·rintro⟨a,⟨v,hv,l⟩,c⟩
  have e:=c v (hF v hv) ⟨v,hv,le.refl v⟩ l
  subst e
  exact⟨hv,fun u hu l=>c u (hF u hu) ⟨u,hu,le.refl u⟩ l⟩
 ·rintro⟨a,b⟩
  refine⟨hF w a,⟨w,a,le.refl w⟩,fun v hv ⟨u,hu,l⟩ lv=>?_⟩
  have e:=b u hu (l.trans lv)
  subst e
  exact hv.1.ext (hF u hu).1 lv l
def gu(K:List Tx):List Tx→List Tx
 |[]=>K
 |w::r=>if K.any (fun k=>decide (le k w))then gu K r else gu (K++[w]) r
theorem jV:∀(S K Pre:List Tx),(∀v∈Pre++S,Srt v)→(∀v∈Pre,∃k∈K,le k v)→(∀k∈K,k∈Pre)→(∀v∈Pre,∀w∈S,¬iO w v)→S.Pairwise (fun a b=>¬iO b a)→
  (∀k∈K,∀v∈Pre,le v k→v=k)→K.Pairwise iO→(gu K S).Pairwise iO∧∀w,w∈gu K S↔w∈Pre++S∧∀v∈Pre++S,le v w→v=w
 |[],K,Pre,hs,h1,h2,h3,h4,h5,h6=>by
  refine⟨h6,fun w=>?_⟩
  simp only[gu,tR]
  refine⟨fun hw=>⟨h2 w hw,h5 w hw⟩,fun⟨a,b⟩=>?_⟩
  obtain⟨k,hk,l⟩:=h1 w a
  rw[←b k (h2 k hk) l]
  exact hk
 |w::S,K,Pre,hs,h1,h2,h3,h4,h5,h6=>by
  have e:Pre++w::S=(Pre++[w])++S:=by simp
  have h4':=List.pairwise_cons.mp h4
  have sw:Srt w:=hs w (by simp)
  have back:∀k∈K,le w k→w=k:=fun k hk l=>Classical.byContradiction fun n=>h3 k (h2 k hk) w (by simp) (nj (AK sw (hs k (by simp[h2 k hk])) l n))
  have o3:∀v∈Pre++[w],∀u∈S,¬iO u v:=fun v hv u hu=>by
   rcases Zao.mp hv with q |q
   ·exact h3 v q u (fJ _ hu)
   ·rw[Zak.mp q];exact h4'.1 u hu
  rw[e]at hs ⊢
  by_cases h:K.any (fun k=>decide (le k w))=true
  ·rw[gu,if_pos h]
   obtain⟨k0,hk0,l0⟩:=List.any_eq_true.mp h
   refine jV S K (Pre++[w]) hs (fun v hv=>?_) (fun k hk=>by simp[h2 k hk]) o3 h4'.2 (fun k hk v hv l=>?_) h6
   ·rcases Zao.mp hv with q |q
    ·exact h1 v q
    ·rw[Zak.mp q];exact⟨k0,hk0,of_decide_eq_true l0⟩
   ·rcases Zao.mp hv with q |q
    ·exact h5 k hk v q l
    ·rw[Zak.mp q]at l ⊢;exact back k hk l
  ·rw[gu,if_neg h]
   have no:∀k∈K,¬le k w:=fun k hk l=>h (List.any_eq_true.mpr ⟨k,hk,decide_eq_true l⟩)
   refine jV S (K++[w]) (Pre++[w]) hs (fun v hv=>?_) (fun k hk=>?_) o3 h4'.2 (fun k hk v hv l=>?_) ?_
   ·rcases Zao.mp hv with q |q
    ·obtain⟨k,hk,l⟩:=h1 v q;exact⟨k,by simp[hk],l⟩
    ·rw[Zak.mp q];exact⟨w,by simp,le.refl w⟩
   ·rcases Zao.mp hk with q |q
    ·simp[h2 k q]
    ·simp[Zak.mp q]
   ·rcases Zao.mp hk with p |p <;> rcases Zao.mp hv with q |q
    ·exact h5 k p v q l
    ·rw[Zak.mp q]at l ⊢;exact back k p l
    ·rw[Zak.mp p]at l ⊢
     obtain⟨k',hk',l'⟩:=h1 v q
     exact absurd (l'.trans l) (no k' hk')
    ·rw[Zak.mp p,Zak.mp q]
   ·refine List.pairwise_append.mpr ⟨h6,List.pairwise_singleton _ _,fun k hk u hu=>?_⟩
    rw[Zak.mp hu]
    refine Classical.byContradiction fun n=>no k hk ?_
    rw[ja n (h3 k (h2 k hk) w (by simp))]
    exact le.refl w
def eR(F:List Tx):List Tx:=F.mergeSort fun a b=> !NhSG.e8 (key b) (key a)
theorem sortT_mem{F:List Tx}{w:Tx}:w∈eR F↔w∈F:=(List.mergeSort_perm F _).mem_iff
theorem jb(F:List Tx):(eR F).Pairwise fun a b=>¬iO b a:=by
 have h:=List.pairwise_mergeSort (le:=fun a b=> !NhSG.e8 (key b) (key a)) (fun a b c h1 h2=>by
  have h1':¬iO b a:=by simpa[iO]using h1
  have h2':¬iO c b:=by simpa[iO]using h2
  have:¬iO c a:=fun z=>by
   by_cases q:iO a b
   ·exact h2' (pH z q)
   ·rw[ja q h1']at z;exact h2' z
  simpa[iO]using this) (fun a b=>by
  by_cases q:NhSG.e8 (key b) (key a)=true
  ·have:¬iO a b:=lg q
   have:NhSG.e8 (key a) (key b)=false:=by simpa[iO]using this
   simp[this]
  ·simp[Bool.not_eq_true _▸q]) F
 exact h.imp fun {a b} h=>by simpa[iO]using h
def dJ(F:List Tx):List Tx:=gu [] (eR F)
theorem lI{U:Tx}{F:List Tx}(hF:∀v∈F,Sub U v):Told U (dJ F) (up F):=by
 obtain⟨a,b⟩:=jV (eR F) [] [] (fun v hv=>(hF v (sortT_mem.mp (by simpa using hv))).1) (fun v hv=>by cases hv) (fun v hv=>by cases hv) (fun v hv=>by cases hv) (jb F) (fun v hv=>by cases hv) .nil
 refine⟨a,fun w=>(b w).trans ?_⟩
 rw[uU hF]
 simp only[Z8,sortT_mem]
def comp(U w:Tx):Tx:=U.filter fun x=> !decide (x∈w)
end NhFam
namespace NhFam
def b8:Tx→Nat→Tx
 |[],_=>[]
 |x::U,m=>if m % 2=1 then x::b8 U (m / 2)else b8 U (m / 2)
theorem gM:∀(U:Tx) (m:Nat),(b8 U m).Sublist U
 |[],_=>.slnil
 |x::U,m=>by
  unfold b8
  split
  ·exact(gM U _).cons_cons _
  ·exact(gM U _).cons _
theorem nu{U:Tx}(hU:Srt U)(m:Nat):Sub U (b8 U m):=⟨List.Pairwise.sublist (gM U m) hU,fun x hx=>(gM U m).subset hx⟩
theorem AL{a b:Nat}:a &&& b=a↔(a % 2=1→b % 2=1)∧(a / 2) &&& (b / 2)=a / 2:=by
 have h1:(a &&& b) % 2=(a % 2) &&& (b % 2):=by
  have:=Nat.and_mod_two_pow (a:=a) (b:=b) (n:=1)
  simpa using this
 have h2:(a &&& b) / 2=(a / 2) &&& (b / 2):=Nat.and_div_two
 have ha:a % 2=0∨a % 2=1:=by omega
 have hb:b % 2=0∨b % 2=1:=by omega
 constructor
 ·intro h
  rw[h]at h1 h2
  refine⟨fun z=>?_,h2.symm⟩
  rcases hb with q |q
  ·rw[q,Nat.and_zero]at h1;omega
  ·exact q
 ·rintro⟨p,q⟩
  rw[q]at h2
  have h3:(a &&& b) % 2=a % 2:=by
   rw[h1]
   rcases ha with z |z
   ·rw[z,Nat.zero_and]
   ·rw[z,p z];rfl
  omega
theorem kq:∀{U:Tx} {a b:Nat},U.Nodup→a < 2 ^ U.length→b < 2 ^ U.length→(le (b8 U a) (b8 U b)↔a &&& b=a)
 |[],a,b,_,ha,hb=>by
  have:a=0:=by simpa using ha
  subst this
  simp[b8,le]
 |x::U,a,b,hU,ha,hb=>by
  have hU':=List.nodup_cons.mp hU
  rw[List.length_cons,Nat.pow_succ]at ha hb
  have ih:=kq (a:=a / 2) (b:=b / 2) hU'.2 (by omega) (by omega)
  have nx:∀m,x∉b8 U m:=fun m h=>hU'.1 ((gM U m).subset h)
  rw[AL,←ih]
  by_cases p:a % 2=1 <;> by_cases q:b % 2=1
  ·simp only[b8,if_pos p,if_pos q]
   constructor
   ·intro h
    refine⟨fun _=>q,fun y hy=>?_⟩
    rcases Zaf.mp (h y (fJ _ hy))with z |z
    ·subst z;exact absurd hy (nx _)
    ·exact z
   ·rintro⟨_,h⟩ y hy
    rcases Zaf.mp hy with z |z
    ·rw[z];exact gk ..
    ·exact fJ _ (h y z)
  ·simp only[b8,if_pos p,if_neg q]
   exact⟨fun h=>absurd (h x (gk ..)) (nx _),fun h=>absurd (h.1 p) q⟩
  ·simp only[b8,if_neg p,if_pos q]
   constructor
   ·intro h
    refine⟨fun z=>absurd z p,fun y hy=>?_⟩
    rcases Zaf.mp (h y hy)with z |z
    ·subst z;exact absurd hy (nx _)
    ·exact z
   ·rintro⟨_,h⟩ y hy
    exact fJ _ (h y hy)
  ·simp only[b8,if_neg p,if_neg q]
   exact⟨fun h=>⟨fun z=>absurd z p,h⟩,fun h=>h.2⟩
theorem nv{U:Tx}{a b:Nat}(hU:U.Nodup)(ha:a < 2 ^ U.length)(hb:b < 2 ^ U.length)(h:b8 U a=b8 U b):a=b:=by
 have h1:=(kq hU ha hb).mp (by rw[h];exact le.refl _)
 have h2:=(kq hU hb ha).mp (by rw[h];exact le.refl _)
 rw[Nat.and_comm]at h2
 rw[←h1,h2]
structure LeastM (M D:List Nat):Prop where
 nd:D.Nodup
 mem:∀m,m∈D↔m∈M∧∀k∈M,k &&& m=k→k=m
theorem uV{U:Tx}{M D:List Nat}(hU:Srt U)(h:LeastM M D)(hM:∀m∈M,m < 2 ^ U.length):Told U (eR (D.map (b8 U))) (up (M.map (b8 U))):=by
 have nd:=Srt.nodup hU
 have lt:∀m∈D,m < 2 ^ U.length:=fun m hm=>hM m ((h.mem m).mp hm).1
 have hF:∀v∈M.map (b8 U),Sub U v:=fun v hv=>by
  obtain⟨m,_,rfl⟩:=Zau.mp hv
  exact nu hU m
 refine⟨?_,fun w=>?_⟩
 ·have n1:(D.map (b8 U)).Nodup:=by
   rw[List.Nodup,List.pairwise_map]
   exact List.Pairwise.imp_of_mem (fun {a b} ha hb q e=>q (nv nd (lt a ha) (lt b hb) e)) h.nd
  have n2:(eR (D.map (b8 U))).Nodup:=(List.mergeSort_perm _ _).nodup_iff.mpr n1
  have o:=jb (D.map (b8 U))
  exact(List.pairwise_and_iff.mpr ⟨o,n2⟩).imp fun {a b} q=>Classical.byContradiction fun z=>q.2 (ja z q.1)
 ·rw[sortT_mem,uU hF]
  constructor
  ·intro hw
   obtain⟨m,hm,rfl⟩:=Zau.mp hw
   obtain⟨a,b⟩:=(h.mem m).mp hm
   refine⟨Zau.mpr ⟨m,a,rfl⟩,fun v hv l=>?_⟩
   obtain⟨k,hk,rfl⟩:=Zau.mp hv
   rw[b k hk ((kq nd (hM k hk) (hM m a)).mp l)]
  ·rintro⟨a,b⟩
   obtain⟨m,hm,rfl⟩:=Zau.mp a
   refine Zau.mpr ⟨m,(h.mem m).mpr ⟨hm,fun k hk l=>?_⟩,rfl⟩
   exact nv nd (hM k hk) (hM m hm) (b _ (Zau.mpr ⟨k,hk,rfl⟩) ((kq nd (hM k hk) (hM m hm)).mpr l))
end NhFam
namespace Nhk41
open PySem L2 Nh PL
def ny:List (Str×Bool):=[("NoNails",false),("NoRule",false)]
def lJ:List (Str×Bool):=[("NoNails",true),("NoRule",false)]
def nz:List (Str×Bool):=[("NoNails",false),("NoRule",true)]
def nD:List (Str×Bool):=[("NoNails",false),("NoRule",false)]
def nG:List (Str×Bool):=[("NoNails",false),("NoRule",false)]
def nH:List (Str×Bool):=[("NoNails",false),("NoRule",false)]
def nI:List (Str×Bool):=[("NoNails",false),("NoRule",false)]
def kr:List (Str×Bool):=[("NoNails",false),("NoRule",false)]
def lK:List (Str×Bool):=[("NoNails",false),("NoRule",false)]
def lL:List (Str×Bool):=[("NoNails",false),("NoRule",false)]
def iP:List (Str×Bool):=[("NoNails",true),("NoRule",true)]
def fW:cI:=(aV (mF (fM (eM .str) (aa 0)) (mF (af fU false (bG cu (ag false (aa 0) ao)) (pC (.int 1))) (eL (fG .le) (fG .le) false false (pC (.str "a")) (aa 0) (pC (.str "z"))))))
def a_:List PyData→Option Sl:=fV 1 1 fW
def bu:fZ:=(bp 1)
def bv:cI:=(bh (aJ (bL (aw a_ (ag false (aa 1) ao))))
 cO
 aB)
def ku:cI:=(aE (bh (aJ (bL (fM (eM .str) (aa 0))))
 cO
 aB)
 (aE (eD (cN (aa 0)) bu
 bv)
 (aV (fK "" (f_ (aa 0))))))
def dz:List PyData→Option Sl:=fV 1 2 ku
def kz:gb:=(uG (qZ (aJ (bL (fM (eM .str) (aa 0)))) (jD "NoNails"))
 (qw (bh (aJ (bL (fM (eM .str) (aa 0))))
 cO
 aB)
 (Hr (cN (aa 0)) bu bv (qZ (aJ (bL (aw a_ (ag false (aa 1) ao)))) (jD "NoNails")))))
def dA:List PyData→Option Str:=Al 1 2 kz
def eS:fZ:=(bp 3)
def eT:cI:=(aE (bh (cf (af (r8 false) false (aa 3) (aa 0)))
 (a8 1 (af aO false (aa 1) (aa 2)))
 aB)
 (a8 2 (af jt false (aa 2) (pC (.int 2)))))
def jc:cI:=(aE (a8 1 (pC (.int 0)))
 (aE (a8 2 (pC (.int 1)))
 (aE (eD (cN (pC (.str "abcdefghijklmnopqrstuvwxyz"))) eS
 eT)
 (aV (aa 1)))))
def dm:List PyData→Option Sl:=fV 1 4 jc
def dS:cI:=(aV (iL (aa 0)))
def aS:List PyData→Option Sl:=fV 1 1 dS
def bq:fZ:=(bp 2)
def aW:cI:=(bh (cf (af fU false (af ue false (aa 2) (aa 0)) (aa 2)))
 (aV (pC (.bool true)))
 aB)
def cw:cI:=(aE (eD (cN (aa 1)) bq
 aW)
 (aV (pC (.bool false))))
def aF:List PyData→Option Sl:=fV 2 3 cw
def cm:fZ:=(bp 3)
def bN:cI:=(aE (a8 4 (aw dm (ag false (aa 3) ao)))
 (bh (aJ (bL (aw aF (ag false (aa 4) (ag false (aa 2) ao)))))
 (aE (iz (dR 2 (aa 4)))
 (iz (dR 1 (aa 3))))
 aB))
def gh:cI:=(aE (a8 1 (bF bt))
 (aE (a8 2 (bF bt))
 (aE (eD (cN (aw aS (ag false (aa 0) ao))) cm
 bN)
 (aV (aa 1)))))
def cJ:List PyData→Option Sl:=fV 1 5 gh
def b9:fZ:=(bp 0)
def b_:aD:=(aw dz (ag false (aa 0) ao))
def fN:cI:=(aV (aw cJ (ag false (c7 [none] (cN (aa 0)) b9 d0 b_) ao)))
def bO:List PyData→Option Sl:=fV 1 1 fN
def fO:gb:=(sU [none] (cN (aa 0)) (bp 0) (aw dz (ag false (aa 0) ao)) (fA dA (ag false (aa 0) ao)))
def bD:List PyData→Option Str:=Al 1 1 fO
def cQ:cI:=(aV (aw bO (ag false (aa 0) ao)))
def av:List PyData→Option Sl:=fV 1 1 cQ
def dX:gb:=(m9 ["NoNails"] "NoRule" (fA bD (ag false (aa 0) ao)))
def aM:List PyData→Option Str:=Al 1 1 dX
def fP:cI:=(aE (bh (e_ (aJ (bL (fM (eM .list) (aa 0)))) (cf (af fU false (bG cu (ag false (aa 0) ao)) (pC (.int 0)))))
 cO
 aB)
 (aE (bh (cf (af yE false (aw av (ag false (aa 0) ao)) (aa 0)))
 cO
 aB)
 (bh (cf (af fU false (af l5 false (aa 0) (pC (.int 0))) (pC (.str ""))))
 cO
 aB)))
def bE:List PyData→Option Sl:=fV 1 1 fP
def fQ:gb:=(uG (qZ (e_ (aJ (bL (fM (eM .list) (aa 0)))) (cf (af fU false (bG cu (ag false (aa 0) ao)) (pC (.int 0))))) (jD "NoRule"))
 (qw (bh (e_ (aJ (bL (fM (eM .list) (aa 0)))) (cf (af fU false (bG cu (ag false (aa 0) ao)) (pC (.int 0)))))
 cO
 aB)
 (uG (uG (fA aM (ag false (aa 0) ao)) (qZ (cf (af yE false (aw av (ag false (aa 0) ao)) (aa 0))) (jD "NoRule")))
 (qw (bh (cf (af yE false (aw av (ag false (aa 0) ao)) (aa 0)))
 cO
 aB)
 (qZ (cf (af fU false (af l5 false (aa 0) (pC (.int 0))) (pC (.str "")))) (jD "NoRule"))))))
def bi:List PyData→Option Str:=Al 1 1 fQ
def kA:cI:=(aE (bh (cf (af (eK (fG .lt)) false (aa 1) (bG cu (ag false (aa 0) ao))))
 (aV (af l5 false (aa 0) (aa 1)))
 aB)
 (aV (pC (.int 0))))
def aK:List PyData→Option Sl:=fV 2 2 kA
def gZ:cI:=(aE (a8 2 (af dw false (af aO false (af aO false (af aO false (af dw false (aa 0) (pC (.int 2147483629))) (af jt false (pC (.int 7919)) (aa 1))) (af jt false (aa 1) (aa 1))) (pC (.int 11))) (pC (.int 2147483629))))
 (aE (a8 2 (af dw false (af jt false (aa 2) (aa 2)) (pC (.int 2147483587))))
 (aV (af df false (af dw false (af aO false (af jt false (aa 2) (pC (.int 48271))) (af jt false (pC (.int 31)) (aa 1))) (pC (.int 2147483563))) (pC (.int 13))))))
def cK:List PyData→Option Sl:=fV 2 3 gZ
def dq:fZ:=(bp 0)
def cy:aD:=(af l5 false (aa 1) (af dw false (af aO false (aa 2) (af jt false (aa 0) (aa 3))) (pC (.int 26))))
def gv:cI:=(aE (a8 2 (pC (.str "abcdefghijklmnopqrstuvwxyz")))
 (aE (a8 3 (af l5 false (bF (zC [1,3,5,7,9,11,15,17,19,21,23,25])) (af dw false (af df false (aa 0) (pC (.int 26))) (pC (.int 12)))))
 (aV (c7 [none,some 2,some 0,some 3] (eO (ag false (aa 1) ao)) dq d0 cy))))
def ci:List PyData→Option Sl:=fV 2 4 gv
def dB:fZ:=(bp 0)
def cR:aD:=(af l5 false (aa 1) (aa 0))
def cS:ig:=(cf (af fU false (af ue false (af zH false (aa 2) (aa 0)) (pC (.int 1))) (pC (.int 1))))
def jd:cI:=(aV (fK "" (c7 [none,some 1,some 0] (eO (ag false (bG cu (ag false (aa 1) ao)) ao)) dB cS cR)))
def fe:List PyData→Option Sl:=fV 2 2 jd
def cA:fZ:=(bp 0)
def cB:aD:=(aa 0)
def bU:ig:=(lA (cf (af fU false (af ue false (aa 0) (aa 1)) (aa 0))) (cf (af yE false (aa 0) (aa 1))))
def bV:fZ:=(bp 2)
def bH:cI:=(aE (a8 3 (c7 [none,some 2] (cN (aa 0)) cA bU cB))
 (bh (lA (cf (af fU false (aa 3) (bF bt))) (cf (af (r8 true) false (aa 2) (aa 1))))
 (iz (dR 1 (aa 2)))
 aB))
def fB:cI:=(aE (a8 1 (bF bt))
 (aE (eD (cN (aa 0)) bV
 bH)
 (aV (aa 1))))
def cT:List PyData→Option Sl:=fV 1 4 fB
def cC:fZ:=(bp 0)
def cD:aD:=(aw fe (ag false (aa 0) (ag false (aa 1) ao)))
def gw:cI:=(aV (iL (c7 [none,some 1] (cN (aa 0)) cC d0 cD)))
def cU:List PyData→Option Sl:=fV 2 2 gw
def cE:fZ:=(bp 7)
def bW:cI:=(aE (bh (aJ (cf (eL (fG .lt) (fG .lt) false false (fM xb (af rF false (pC (.int 10)) (pC (.int 18)))) (aa 5) (af rF false (pC (.int 10)) (pC (.int 18))))))
 (aE (a8 8 (af aO false (pC (.int 1)) (af dw false (aa 6) (af t7 false (af ud false (pC (.int 1)) (aa 2)) (pC (.int 1))))))
 (a8 6 (af df false (aa 6) (af t7 false (af ud false (pC (.int 1)) (aa 2)) (pC (.int 1))))))
 (a8 8 (af aO false (pC (.int 1)) (af dw false (aw cK (ag false (af aO false (aw aK (ag false (aa 0) (ag false (af aO false (af aO false (aa 1) (pC (.int 1))) (af dw false (aa 7) (pC (.int 4)))) ao))) (aa 7)) (ag false (aa 7) ao))) (af t7 false (af ud false (pC (.int 1)) (aa 2)) (pC (.int 1)))))))
 (iz (dR 4 (aa 8))))
def fD:cI:=(aE (a8 4 (bF bt))
 (aE (a8 5 (aw aK (ag false (aa 0) (ag false (aa 1) ao))))
 (aE (a8 6 (af df false (aa 5) (af jt false (pC (.int 2)) (aa 3))))
 (aE (eD (eO (ag false (af aO false (pC (.int 1)) (af dw false (af df false (aa 5) (pC (.int 2))) (aa 3))) ao)) cE
 bW)
 (aV (aa 4))))))
def cV:List PyData→Option Sl:=fV 4 9 fD
def iQ:cI:=(aE (a8 1 (bF (aq (fM (jv ny) (aa 0)) (aq (fM (jv lJ) (aa 0)) (aq (fM (jv nz) (aa 0)) (aq (fM (jv nD) (aa 0)) bt))))))
 (aE (a8 1 (af aO false (aa 1) (bF (aq (fM (jv nG) (aa 0)) (aq (fM (jv nH) (aa 0)) (aq (fM (jv nI) (aa 0)) (aq (fM (jv kr) (aa 0)) bt)))))))
 (aV (af aO false (aa 1) (bF (aq (fM (jv lK) (aa 0)) (aq (fM (jv lL) (aa 0)) bt)))))))
def fR:List PyData→Option Sl:=fV 1 2 iQ
def gN:fZ:=(bp 0)
def gO:aD:=(af fU false (aa 1) (aa 0))
def gH:cI:=(aV (mF (fM (jv iP) (aa 2)) (af fU false (aw fR (ag false (aa 2) ao)) (c7 [none,some 1] (eO (ag false (pC (.int 10)) ao)) gN d0 gO))))
def cG:Str→PyData→Option Sl:=IK 3 2 gH
def dO:cI:=(aE (a8 3 (af dw false (aa 1) (pC (.int 12))))
 (aE (a8 4 (af dw false (af df false (aa 1) (pC (.int 12))) (bG cu (ag false (aa 0) ao))))
 (aE (a8 5 (af l5 false (aa 0) (aa 4)))
 (aE (bh (cf (af fU false (aa 3) (pC (.int 0))))
 (aV (af aO false (b7 false (aa 0) (aP (aa 4)) aR) (b7 false (aa 0) aR (aP (aa 4)))))
 aB)
 (aE (bh (cf (af fU false (aa 3) (pC (.int 1))))
 (aV (af aO false (af aO false (b7 false (aa 0) aR (aP (aa 4))) (bF (aq (aa 5) bt))) (b7 false (aa 0) (aP (aa 4)) aR)))
 aB)
 (aE (bh (cf (af fU false (aa 3) (pC (.int 2))))
 (aV (af aO false (aa 0) (bF (aq (fK "" (f_ (af aO false (aa 5) (af l5 false (aa 2) (af dw false (af df false (aa 1) (pC (.int 60))) (bG cu (ag false (aa 2) ao))))))) bt))))
 aB)
 (aE (bh (cf (af fU false (aa 3) (pC (.int 3))))
 (aV (af aO false (af aO false (b7 false (aa 0) aR (aP (aa 4))) (bF (aq (fK "" (sG (aa 5))) bt))) (b7 false (aa 0) (aP (af aO false (aa 4) (pC (.int 1)))) aR)))
 aB)
 (aE (bh (cf (af fU false (aa 3) (pC (.int 4))))
 (aV (af aO false (af aO false (b7 false (aa 0) aR (aP (aa 4))) (bF (aq (af aO false (b7 false (aa 5) aR (aP (pC (.int 1)))) (aa 5)) bt))) (b7 false (aa 0) (aP (af aO false (aa 4) (pC (.int 1)))) aR)))
 aB)
 (aE (bh (cf (af fU false (aa 3) (pC (.int 5))))
 (aV (af aO false (af aO false (b7 false (aa 0) aR (aP (aa 4))) (b7 false (b7 false (bF (aq (pC (.str "")) (aq (pC (.str "A")) (aq (pC (.str "a b")) (aq (pC .none) (aq (pC (.int 3)) (aq (pC (.bool true)) (aq (bF (aq (pC (.str "a")) bt)) (aq (kR (aq (pC (.str "a")) bt)) (aq (pC (.str "a\n")) bt)))))))))) (aP (af dw false (af df false (aa 1) (pC (.int 60))) (pC (.int 9)))) aR) aR (aP (pC (.int 1))))) (b7 false (aa 0) (aP (aa 4)) aR)))
 aB)
 (aE (bh (cf (af fU false (aa 3) (pC (.int 6))))
 (aV (af l5 false (bF (aq (bF bt) (aq (uv (aa 0)) (aq (fK " " (aa 0)) (aq (pC .none) (aq (pC (.int 0)) (aq (vT (((pC (.str "a")),(pC (.int 1)))::[])) (aq (bF (aq (aa 0) bt)) (aq (kR (aq (pC (.str "a")) bt)) bt))))))))) (af dw false (af df false (aa 1) (pC (.int 60))) (pC (.int 8)))))
 aB)
 (aE (bh (cf (af fU false (aa 3) (pC (.int 7))))
 (aV (af aO false (b7 false (aa 0) aR (aP (aa 4))) (b7 false (aa 0) (aP (af aO false (aa 4) (pC (.int 1)))) aR)))
 aB)
 (aV (aa 0)))))))))))))
def bX:List PyData→Option Sl:=fV 3 6 dO
def bJ:fZ:=(bp 2)
def bw:cI:=(aE (bh (e_ (cf (af (r8 true) false (aa 2) (pC (.str "abcdefghijklmnopqrstuvwxyz")))) (cf (af (eK (fG .le)) false (aa 2) (aa 1))))
 (aV (pC (.bool false)))
 aB)
 (a8 1 (aa 2)))
def cW:cI:=(aE (bh (e_ (aJ (bL (fM (eM .str) (aa 0)))) (cf (af fU false (aa 0) (pC (.str "")))))
 (aV (pC (.bool false)))
 aB)
 (aE (a8 1 (pC (.str "")))
 (aE (eD (cN (aa 0)) bJ
 bw)
 (aV (pC (.bool true))))))
def aL:List PyData→Option Sl:=fV 1 3 cW
def cH:fZ:=(bp 0)
def bP:aD:=(af (r8 false) false (aa 0) (aa 1))
def bA:fZ:=(bp 3)
def ba:cI:=(bh (e_ (bL (bG Cz (ag false (c7 [none,some 2] (cN (aa 3)) cH d0 bP) ao))) (cf (af (eK sI) false (kR (aq (bG cu (ag false (aa 3) ao)) (aq (aa 3) bt))) (kR (aq (bG cu (ag false (aa 2) ao)) (aq (aa 2) bt))))))
 (aV (pC (.bool false)))
 aB)
def bc:fZ:=(zv 2 (t_ (bp 1) (t_ (bp 2) zu)))
def aT:cI:=(aE (bh (aJ (bL (aw aL (ag false (aa 2) ao))))
 (aV (pC (.bool false)))
 aB)
 (eD (cN (b7 false (aa 0) aR (aP (aa 1)))) bA
 ba))
def fm:cI:=(aE (bh (e_ (aJ (bL (fM (eM .list) (aa 0)))) (cf (af fU false (aa 0) (bF bt))))
 (aV (pC (.bool false)))
 aB)
 (aE (eD (mI (aa 0)) bc
 aT)
 (aV (pC (.bool true)))))
def aC:List PyData→Option Sl:=fV 1 4 fm
def gP:fZ:=(bp 3)
def gQ:cI:=(aE (a8 4 (aw cU (ag false (aw cT (ag false (aw cV (ag false (aa 0) (ag false (aa 3) (ag false (bG cu (ag false (aa 2) ao)) (ag false (pC (.int 8)) ao))))) ao)) (ag false (aa 2) ao))))
 (aE (a8 5 (aw bX (ag false (aa 4) (ag false (aw aK (ag false (aa 0) (ag false (af aO false (aa 3) (pC (.int 1))) ao))) (ag false (aa 2) ao)))))
 (aE (bh (aJ (bL (aw aC (ag false (aa 5) ao))))
 (bh (aJ (bL (AH [5] 1 bi (ag false (aa 0) ao) ["NoNails","NoRule"] cG 2)))
 (aV (pC (.bool false)))
 aB)
 (bh (cf (af (eK (rG true)) false (aw bE (ag false (aa 5) ao)) (pC .none)))
 (aV (pC (.bool false)))
 aB))
 (bh (e_ (aJ (bL (aw aC (ag false (aa 4) ao)))) (cf (af (eK (rG true)) false (aw bE (ag false (aa 4) ao)) (pC .none))))
 (aV (pC (.bool false)))
 aB))))
def tj:cI:=(aE (a8 1 (af aO false (pC (.int 1)) (af dw false (aw aK (ag false (aa 0) (ag false (pC (.int 1)) ao))) (pC (.int 5)))))
 (aE (bh (cf (af fU false (af dw false (af df false (aw aK (ag false (aa 0) (ag false (pC (.int 1)) ao))) (pC (.int 5))) (pC (.int 8))) (pC (.int 4))))
 (a8 1 (pC (.int 26)))
 aB)
 (aE (a8 2 (l9 (aw ci (ag false (aw aK (ag false (aa 0) (ag false (pC (.int 0)) ao))) (ag false (aa 1) ao)))))
 (aE (eD (mK (ag false (pC (.int 2)) (ag false (bG Cl (ag false (pC (.int 4)) (ag false (bG zr (ag false (bG cu (ag false (aa 0) ao)) (ag false (pC (.int 42)) ao))) ao))) (ag false (pC (.int 2)) ao)))) gP
 gQ)
 (aV (pC (.bool true)))))))
def jW:List PyData→Option Sl:=fV 1 6 tj
end Nhk41
namespace Nhk41
open PySem L2 Nh PL
def nJ(i:Nat):Stmt:=PySem.Challenge.pw_nailhang_k41_what_is_a_rule.main.body.getD i (.Pass ⟨0,0,0,0⟩)
structure XF (K:Frag) (mg:Str→Option Value):Prop where
 c_NoCord:∃C,mg "NoCord"=some (.ref C)∧XT K (.ref C) ny
 c_NoNails:∃C,mg "NoNails"=some (.ref C)∧XT K (.ref C) lJ∧XC K mg "NoNails" C
 c_NoRule:∃C,mg "NoRule"=some (.ref C)∧XT K (.ref C) nz∧XC K mg "NoRule" C
 c_NoText:∃C,mg "NoText"=some (.ref C)∧XT K (.ref C) nD
 c_NoMove:∃C,mg "NoMove"=some (.ref C)∧XT K (.ref C) nG
 c_NoLine:∃C,mg "NoLine"=some (.ref C)∧XT K (.ref C) nH
 c_NoName:∃C,mg "NoName"=some (.ref C)∧XT K (.ref C) nI
 c_NoNumber:∃C,mg "NoNumber"=some (.ref C)∧XT K (.ref C) kr
 c_TooMany:∃C,mg "TooMany"=some (.ref C)∧XT K (.ref C) lK
 c_TooLong:∃C,mg "TooLong"=some (.ref C)∧XT K (.ref C) lL
 v_ValueError:mg "ValueError"=none∧XT K (.type "ValueError") iP
 e_HangError:∃C,mg "HangError"=some (.ref C)∧∀n∈[("NoNails":Str),("NoRule":Str)],∀D,nsIn K mainGlobals n=some (some (.ref D))→exmOne K (.ref D) (.ref C)=some true
 e_NoNails:∃C,mg "NoNails"=some (.ref C)∧∀n∈[("NoNails":Str)],∀D,nsIn K mainGlobals n=some (some (.ref D))→exmOne K (.ref D) (.ref C)=some true
section
variable {P:Program} {w:World} {K:Frag} {mg:Str→Option Value} {base:Heap}
abbrev je:Stmt:=nJ 13
theorem uW:FnScope ["thing"] ["thing"] (ah je):=by and_intros
theorem uX (D:Def K mg "is_nail" je ["thing"]) (B:Bn mg):Own P w K mg base 1 "is_nail" ["thing"] (eN K a_):=by
 delta a_
 refine ii (g:=fW) D uW rfl rfl (by decide) fun f cdv A outer s H E hr=>?_
 delta fW
 exact(aj (aH (t9 (gT .str (by rfl) (by exact B.isinstance) (ae 0) (by rfl) (by exact B.str) PyProof.Rows.boot_str) (t9 (ze hr.units (fF (by rfl) (by exact B.len) (ai (ae 0) au)) am) (zg (Hd .le .le dH (ae 0) dH))))))
abbrev iR:Stmt:=nJ 15
theorem sc_set_of:FnScope ["nails","sign"] ["nails"] (ah iR):=by and_intros
theorem ya (D:Def K mg "set_of" iR ["nails"]) (B:Bn mg) (D_is_nail:Own P w K mg base 1 "is_nail" ["thing"] (eN K a_)) (XX:XF K mg):Own P w K mg base 2 "set_of" ["nails"] (eN K dz):=by
 obtain⟨C_NoNails,m_NoNails,t_NoNails,z_NoNails⟩:=XX.c_NoNails
 delta dz
 refine ii (g:=ku) D sc_set_of rfl rfl (by decide) fun f cdv A outer s H E hr=>?_
 delta ku
 exact(ak (bK (dh (di (gT .str (by rfl) (by exact B.isinstance) (ae 0) (by rfl) (by exact B.str) PyProof.Rows.boot_str)))
 (aj eP)
 aG)
 (ak (gG PassesOwn.never (by rfl) (fb (ae 0)) (by delta bu;exact(bI 1 sc_set_of.nd))
 (by delta bv;exact(aj (bK (dh (di (a9 D_is_nail (hr.mono (by decide)) (by rfl) (ai (ae 1) au))))
 (aj eP)
 aG))))
 (aj (aH (j_ (mV rfl (by rfl) (by exact B.sorted) (by rfl) (by exact B.set) (ae 0)))))))
theorem uY (D:Def K mg "set_of" iR ["nails"]) (B:Bn mg) (D_is_nail:Own P w K mg base 1 "is_nail" ["thing"] (eN K a_)) (XX:XF K mg):OwnR P w K mg base 2 "set_of" ["nails"] (sQ K dA):=by
 obtain⟨C_NoNails,m_NoNails,t_NoNails,z_NoNails⟩:=XX.c_NoNails
 delta dA
 refine CP (mk:=true) (al:=true) (r:=kz) D sc_set_of rfl rfl (by decide) fun f cdv A outer s H E hr=>?_
 delta kz
 exact(Aj (c8 (sP (dh (di (gT .str (by rfl) (by exact B.isinstance) (ae 0) (by rfl) (by exact B.str) PyProof.Rows.boot_str))) (c8 (iH (by rfl) (by rfl) z_NoNails))))
 (uH (bK (dh (di (gT .str (by rfl) (by exact B.isinstance) (ae 0) (by rfl) (by exact B.str) PyProof.Rows.boot_str)))
 (aj eP)
 aG)
 (c8 (FB rfl rfl (by rfl) (fun W=>(fb (ae 0))) (fun W=>by delta bu;exact(bI 1 sc_set_of.nd)) (by delta bv;exact(aj (bK (dh (di (a9 D_is_nail (hr.mono (by decide)) (by rfl) (ai (ae 1) au))))
 (aj eP)
 aG))) (fun W=>(c8 (sP (dh (di (a9 D_is_nail (hr.mono (by decide)) (by rfl) (ai (ae 1) au)))) (c8 (iH (by rfl) (by rfl) z_NoNails)))))))))
abbrev jf:Stmt:=nJ 18
theorem sc_bits_of:FnScope ["nails","bits","bit","letter"] ["nails"] (ah jf):=by and_intros
theorem uZ (D:Def K mg "bits_of" jf ["nails"]) (B:Bn mg) {t_LETTERS:Tok} (G_LETTERS:mg "LETTERS"=some (.str "abcdefghijklmnopqrstuvwxyz" t_LETTERS)):Own P w K mg base 1 "bits_of" ["nails"] (eN K dm):=by
 delta dm
 refine ii (g:=jc) D sc_bits_of rfl rfl (by decide) fun f cdv A outer s H E hr=>?_
 delta jc
 exact(ak (bg 1 sc_bits_of.nd am)
 (ak (bg 2 sc_bits_of.nd am)
 (ak (gG PassesOwn.never (by rfl) (fb (CC (by rfl) (by exact G_LETTERS))) (by delta eS;exact(bI 3 sc_bits_of.nd))
 (by delta eT;exact(ak (bK (Hh (ae 3) (ae 0))
 (aj (bg 1 sc_bits_of.nd (aY (ae 1) (ae 2))))
 aG)
 (aj (bg 2 sc_bits_of.nd (iv (ae 2) am))))))
 (aj (aH (ae 1))))))
abbrev cb:Stmt:=nJ 19
theorem lh:FnScope ["sets"] ["sets"] (ah cb):=by and_intros
theorem lj {c T:Addr} (D:DefT K mg "in_told_order" cb ["sets"] c T) (B:Bn mg):Own P w K mg base 1 "in_told_order" ["sets"] (eN K aS):=by
 delta aS
 refine IJ (g:=dS) D lh rfl rfl (by decide) fun f A outer s H E hr=>?_
 delta dS
 exact(aj (aH (Az rfl D.tp D.hd hr (by rfl) (by exact B.sorted) (by exact B.len) (ae 0) (by show(Str.ofString "in_told_order"++Str.ofString ".<locals>.")++Str.ofString "<lambda>"=_;decide+kernel))))
abbrev dC:Stmt:=nJ 20
theorem sc_has_part_among:FnScope ["bits","parts","part"] ["bits","parts"] (ah dC):=by and_intros
theorem kB (D:Def K mg "has_part_among" dC ["bits","parts"]) (B:Bn mg):Own P w K mg base 1 "has_part_among" ["bits","parts"] (eN K aF):=by
 delta aF
 refine ii (g:=cw) D sc_has_part_among rfl rfl (by decide) fun f cdv A outer s H E hr=>?_
 delta cw
 exact(ak (gG PassesOwn.never (by rfl) (fb (ae 1)) (by delta bq;exact(bI 2 sc_has_part_among.nd))
 (by delta aW;exact(aj (bK (dZ hr.units (qe (ae 2) (ae 0)) (ae 2))
 (aj (aH gl))
 aG))))
 (aj (aH gl)))
abbrev g0:Stmt:=nJ 21
theorem sc_least_of:FnScope ["sets","told","kept","nails","bits"] ["sets"] (ah g0):=by and_intros
theorem tm (D:Def K mg "least_of" g0 ["sets"]) (B:Bn mg) (D_in_told_order:Own P w K mg base 1 "in_told_order" ["sets"] (eN K aS)) (D_bits_of:Own P w K mg base 1 "bits_of" ["nails"] (eN K dm)) (D_has_part_among:Own P w K mg base 1 "has_part_among" ["bits","parts"] (eN K aF)):Own P w K mg base 2 "least_of" ["sets"] (eN K cJ):=by
 delta cJ
 refine ii (g:=gh) D sc_least_of rfl rfl (by decide) fun f cdv A outer s H E hr=>?_
 delta gh
 exact(ak (bg 1 sc_least_of.nd (cY DL.nil))
 (ak (bg 2 sc_least_of.nd (cY DL.nil))
 (ak (gG PassesOwn.never (by rfl) (fb (a9 D_in_told_order (hr.mono (by decide)) (by rfl) (ai (ae 0) au))) (by delta cm;exact(bI 3 sc_least_of.nd))
 (by delta bN;exact(ak (bg 4 sc_least_of.nd (a9 D_bits_of (hr.mono (by decide)) (by rfl) (ai (ae 3) au)))
 (aj (bK (dh (di (a9 D_has_part_among (hr.mono (by decide)) (by rfl) (ai (ae 4) (ai (ae 2) au)))))
 (ak (l6 (i0 2 (ae 4)))
 (aj (l6 (i0 1 (ae 3)))))
 aG)))))
 (aj (aH (ae 1))))))
abbrev eU:Stmt:=nJ 22
theorem jE:FnScope ["family"] ["family"] (ah eU):=by and_intros
theorem oI (D:Def K mg "least_sets" eU ["family"]) (B:Bn mg) (D_set_of:Own P w K mg base 2 "set_of" ["nails"] (eN K dz)) (D_least_of:Own P w K mg base 2 "least_of" ["sets"] (eN K cJ)) (R_set_of:OwnR P w K mg base 2 "set_of" ["nails"] (sQ K dA)):Own P w K mg base 3 "least_sets" ["family"] (eN K bO):=by
 delta bO
 refine ii (g:=fN) D jE rfl rfl (by decide) fun f cdv A outer s H E hr=>?_
 delta fN
 exact(aj (aH (a9 D_least_of (hr.mono (by decide)) (by rfl) (ai (j9 (N:=["nails"]) (js:=[none]) mw (by rfl) (fb (ae 0)) (fun _ _ _ _=>(by delta b9;exact(bI 0 (show(["nails"]:List Str).Nodup by decide+kernel)))) (fun _ _ _ _=>(by delta b_;exact(a9 D_set_of (hr.mono (by decide)) (by rfl) (ai (ae 0) au))))) au))))
theorem nK (D:Def K mg "least_sets" eU ["family"]) (B:Bn mg) (D_set_of:Own P w K mg base 2 "set_of" ["nails"] (eN K dz)) (D_least_of:Own P w K mg base 2 "least_of" ["sets"] (eN K cJ)) (R_set_of:OwnR P w K mg base 2 "set_of" ["nails"] (sQ K dA)):OwnR P w K mg base 3 "least_sets" ["family"] (sQ K bD):=by
 delta bD
 refine CP (mk:=true) (al:=true) (r:=fO) D jE rfl rfl (by decide) fun f cdv A outer s H E hr=>?_
 delta fO
 exact(c8 (CW (FC D_least_of (by rfl) (CZ (N:=["nails"]) (js:=[none]) mw rfl rfl (by rfl) (fb (ae 0)) (fun _ _ _ _=>(bI 0 (show(["nails"]:List Str).Nodup by decide+kernel))) (fun _ _ _ _=>(a9 D_set_of (hr.mono (by decide)) (by rfl) (ai (ae 0) au))) (fun _ _ _ _ _=>(v9 R_set_of (hr.mono (by decide)) (by rfl) (ai (ae 0) au)))))))
abbrev bY:Stmt:=nJ 24
theorem fL:FnScope ["sets"] ["sets"] (ah bY):=by and_intros
theorem jw (D:Def K mg "least_or_no_rule" bY ["sets"]) (B:Bn mg) (D_least_sets:Own P w K mg base 3 "least_sets" ["family"] (eN K bO)) (R_least_sets:OwnR P w K mg base 3 "least_sets" ["family"] (sQ K bD)) (XX:XF K mg):Own P w K mg base 4 "least_or_no_rule" ["sets"] (eN K av):=by
 obtain⟨C_NoNails,m_NoNails,e_NoNails⟩:=XX.e_NoNails
 obtain⟨C_NoRule,m_NoRule,t_NoRule,z_NoRule⟩:=XX.c_NoRule
 delta av
 refine ii (g:=cQ) D fL rfl rfl (by decide) fun f cdv A outer s H E hr=>?_
 delta cQ
 exact(aj (FP rfl
 (aj (aH (a9 D_least_sets (hr.mono (by decide)) (by rfl) (ai (ae 0) au))))))
theorem iT (D:Def K mg "least_or_no_rule" bY ["sets"]) (B:Bn mg) (D_least_sets:Own P w K mg base 3 "least_sets" ["family"] (eN K bO)) (R_least_sets:OwnR P w K mg base 3 "least_sets" ["family"] (sQ K bD)) (XX:XF K mg):OwnR P w K mg base 4 "least_or_no_rule" ["sets"] (sQ K aM):=by
 obtain⟨C_NoNails,m_NoNails,e_NoNails⟩:=XX.e_NoNails
 obtain⟨C_NoRule,m_NoRule,t_NoRule,z_NoRule⟩:=XX.c_NoRule
 delta aM
 refine CP (mk:=true) (al:=true) (r:=dX) D fL rfl rfl (by decide) fun f cdv A outer s H E hr=>?_
 delta dX
 exact(c8 (CV rfl rfl rfl (by rfl) (by exact m_NoNails) e_NoNails (fun W=>(c8 (Fw R_least_sets (hr.mono (by decide)) (by rfl) (ai (ae 0) au)))) (by rfl) z_NoRule))
abbrev eV:Stmt:=nJ 25
theorem jF:FnScope ["thing"] ["thing"] (ah eV):=by and_intros
theorem oJ (D:Def K mg "check_rule" eV ["thing"]) (B:Bn mg) (D_least_or_no_rule:Own P w K mg base 4 "least_or_no_rule" ["sets"] (eN K av)) (R_least_or_no_rule:OwnR P w K mg base 4 "least_or_no_rule" ["sets"] (sQ K aM)) (XX:XF K mg):Own P w K mg base 5 "check_rule" ["thing"] (eN K bE):=by
 obtain⟨C_NoRule,m_NoRule,t_NoRule,z_NoRule⟩:=XX.c_NoRule
 delta bE
 refine ii (g:=fP) D jF rfl rfl (by decide) fun f cdv A outer s H E hr=>?_
 delta fP
 exact(ak (bK (oj (lB (dh (di (gT .list (by rfl) (by exact B.isinstance) (ae 0) (by rfl) (by exact B.list) PyProof.Rows.boot_list))) (iw (dZ hr.units (fF (by rfl) (by exact B.len) (ai (ae 0) au)) am))))
 (aj eP)
 aG)
 (ak (bK (vO hr.units (a9 D_least_or_no_rule (hr.mono (by decide)) (by rfl) (ai (ae 0) au)) (ae 0))
 (aj eP)
 aG)
 (aj (bK (dZ hr.units (j6 (ae 0) am) dH)
 (aj eP)
 aG))))
theorem nM (D:Def K mg "check_rule" eV ["thing"]) (B:Bn mg) (D_least_or_no_rule:Own P w K mg base 4 "least_or_no_rule" ["sets"] (eN K av)) (R_least_or_no_rule:OwnR P w K mg base 4 "least_or_no_rule" ["sets"] (sQ K aM)) (XX:XF K mg):OwnR P w K mg base 5 "check_rule" ["thing"] (sQ K bi):=by
 obtain⟨C_NoRule,m_NoRule,t_NoRule,z_NoRule⟩:=XX.c_NoRule
 delta bi
 refine CP (mk:=true) (al:=true) (r:=fQ) D jF rfl rfl (by decide) fun f cdv A outer s H E hr=>?_
 delta fQ
 exact(Aj (c8 (sP (oj (lB (dh (di (gT .list (by rfl) (by exact B.isinstance) (ae 0) (by rfl) (by exact B.list) PyProof.Rows.boot_list))) (iw (dZ hr.units (fF (by rfl) (by exact B.len) (ai (ae 0) au)) am)))) (c8 (iH (by rfl) (by rfl) z_NoRule))))
 (uH (bK (oj (lB (dh (di (gT .list (by rfl) (by exact B.isinstance) (ae 0) (by rfl) (by exact B.list) PyProof.Rows.boot_list))) (iw (dZ hr.units (fF (by rfl) (by exact B.len) (ai (ae 0) au)) am))))
 (aj eP)
 aG)
 (Aj (c8 (FL (FK (v9 R_least_or_no_rule (hr.mono (by decide)) (by rfl) (ai (ae 0) au))) (sP (vO hr.units (a9 D_least_or_no_rule (hr.mono (by decide)) (by rfl) (ai (ae 0) au)) (ae 0)) (c8 (iH (by rfl) (by rfl) z_NoRule)))))
 (uH (bK (vO hr.units (a9 D_least_or_no_rule (hr.mono (by decide)) (by rfl) (ai (ae 0) au)) (ae 0))
 (aj eP)
 aG)
 (c8 (sP (dZ hr.units (j6 (ae 0) am) dH) (c8 (iH (by rfl) (by rfl) z_NoRule))))))))
abbrev kC:Stmt:=nJ 27
theorem yb:FnScope ["_law_script","_law_k"] ["_law_script","_law_k"] (ah kC):=by and_intros
theorem yc (D:Def K mg "_law_at" kC ["_law_script","_law_k"]) (B:Bn mg):Own P w K mg base 1 "_law_at" ["_law_script","_law_k"] (eN K aK):=by
 delta aK
 refine ii (g:=kA) D yb rfl rfl (by decide) fun f cdv A outer s H E hr=>?_
 delta kA
 exact(ak (bK (DT .lt (ae 1) (fF (by rfl) (by exact B.len) (ai (ae 0) au)))
 (aj (aH (j6 (ae 0) (ae 1))))
 aG)
 (aj (aH am)))
abbrev g5:Stmt:=nJ 28
theorem sc_law_stir:FnScope ["_law_cell","_law_k","_law_value"] ["_law_cell","_law_k"] (ah g5):=by and_intros
theorem tu (D:Def K mg "_law_stir" g5 ["_law_cell","_law_k"]) (B:Bn mg):Own P w K mg base 1 "_law_stir" ["_law_cell","_law_k"] (eN K cK):=by
 delta cK
 refine ii (g:=gZ) D sc_law_stir rfl rfl (by decide) fun f cdv A outer s H E hr=>?_
 delta gZ
 exact(ak (bg 2 sc_law_stir.nd (dg (aY (aY (aY (dg (ae 0) am) (iv am (ae 1))) (iv (ae 1) (ae 1))) am) am))
 (ak (bg 2 sc_law_stir.nd (dg (iv (ae 2) (ae 2)) am))
 (aj (aH (fg (dg (aY (iv (ae 2) am) (iv am (ae 1))) am) am)))))
abbrev gy:Stmt:=nJ 29
theorem sc_law_nails:FnScope ["_law_cell","_law_many","_law_letters","_law_step"] ["_law_cell","_law_many"] (ah gy):=by and_intros
theorem qA (D:Def K mg "_law_nails" gy ["_law_cell","_law_many"]) (B:Bn mg):Own P w K mg base 1 "_law_nails" ["_law_cell","_law_many"] (eN K ci):=by
 delta ci
 refine ii (g:=gv) D sc_law_nails rfl rfl (by decide) fun f cdv A outer s H E hr=>?_
 refine ub 1 [1,3,5,7,9,11,15,17,19,21,23,25] rfl rfl fun es hes=>?_
 delta gv
 exact(ak (bg 2 sc_law_nails.nd dH)
 (ak (bg 3 sc_law_nails.nd (j6 (zk (vU hes)) (dg (fg (ae 0) am) am)))
 (aj (aH (j9 (N:=["_law_k","_law_letters","_law_cell","_law_step"]) (js:=[none,some 2,some 0,some 3]) gK (by rfl) (kT (by rfl) (by exact B.range) (ai (ae 1) au)) (fun _ _ _ _=>(by delta dq;exact(bI 0 (show(["_law_k","_law_letters","_law_cell","_law_step"]:List Str).Nodup by decide+kernel)))) (fun _ _ _ _=>(by delta cy;exact(j6 (ae 1) (dg (aY (ae 2) (iv (ae 0) (ae 3))) am)))))))))
abbrev gI:Stmt:=nJ 30
abbrev jg:Stmt:=nJ 31
theorem u0:FnScope ["_law_mask","_law_some"] ["_law_mask","_law_some"] (ah jg):=by and_intros
theorem u3 (D:Def K mg "_law_set" jg ["_law_mask","_law_some"]) (B:Bn mg):Own P w K mg base 1 "_law_set" ["_law_mask","_law_some"] (eN K fe):=by
 delta fe
 refine ii (g:=jd) D u0 rfl rfl (by decide) fun f cdv A outer s H E hr=>?_
 delta jd
 exact(aj (aH (j_ (zA (N:=["_law_k","_law_some","_law_mask"]) (js:=[none,some 1,some 0]) gK (by rfl) (kT (by rfl) (by exact B.range) (ai (fF (by rfl) (by exact B.len) (ai (ae 1) au)) au)) (fun _ _ _ _=>(by delta dB;exact(bI 0 (show(["_law_k","_law_some","_law_mask"]:List Str).Nodup by decide+kernel)))) (fun _ _ _ _=>(by delta cS;exact(dZ hr.units (qe (Fm (ae 2) (ae 0)) am) am))) (fun _ _ _ _=>(by delta cR;exact(j6 (ae 1) (ae 0))))))))
abbrev gz:Stmt:=nJ 32
theorem sc_law_least:FnScope ["_law_masks_here","_law_found","_law_one","_law_smaller"] ["_law_masks_here"] (ah gz):=by and_intros
theorem qB (D:Def K mg "_law_least" gz ["_law_masks_here"]) (B:Bn mg):Own P w K mg base 1 "_law_least" ["_law_masks_here"] (eN K cT):=by
 delta cT
 refine ii (g:=fB) D sc_law_least rfl rfl (by decide) fun f cdv A outer s H E hr=>?_
 delta fB
 exact(ak (bg 1 sc_law_least.nd (cY DL.nil))
 (ak (gG PassesOwn.never (by rfl) (fb (ae 0)) (by delta bV;exact(bI 2 sc_law_least.nd))
 (by delta bH;exact(ak (zB 3 sc_law_least.nd (N:=["_law_other","_law_one"]) (js:=[none,some 2]) gK (by rfl) (fb (ae 0)) (fun _ _ _ _=>(by delta cA;exact(bI 0 (show(["_law_other","_law_one"]:List Str).Nodup by decide+kernel)))) (fun _ _ _ _=>(by delta bU;exact(oj (zh (dZ hr.units (qe (ae 0) (ae 1)) (ae 0)) (vQ (vO hr.units (ae 0) (ae 1))))))) (fun _ _ _ _=>(by delta cB;exact(ae 0))))
 (aj (bK (oj (zh (dZ hr.units (ae 3) (cY DL.nil)) (vQ (zJ (ae 2) (ae 1)))))
 (aj (l6 (i0 1 (ae 2))))
 aG)))))
 (aj (aH (ae 1)))))
abbrev gA:Stmt:=nJ 33
theorem qC:FnScope ["_law_masks_here","_law_some"] ["_law_masks_here","_law_some"] (ah gA):=by and_intros
theorem qD (D:Def K mg "_law_texts" gA ["_law_masks_here","_law_some"]) (B:Bn mg) (D_law_set:Own P w K mg base 1 "_law_set" ["_law_mask","_law_some"] (eN K fe)) (D_law_by_size:Def K mg "_law_by_size" gI ["_law_one"]):Own P w K mg base 2 "_law_texts" ["_law_masks_here","_law_some"] (eN K cU):=by
 delta cU
 refine ii (g:=gw) D qC rfl rfl (by decide) fun f cdv A outer s H E hr=>?_
 delta gw
 exact(aj (aH (Ay D_law_by_size hr (by rfl) (by exact B.sorted) (by exact B.len) (by rfl) (j9 (N:=["_law_mask","_law_some"]) (js:=[none,some 1]) gK (by rfl) (fb (ae 0)) (fun _ _ _ _=>(by delta cC;exact(bI 0 (show(["_law_mask","_law_some"]:List Str).Nodup by decide+kernel)))) (fun _ _ _ _=>(by delta cD;exact(a9 D_law_set (hr.mono (by decide)) (by rfl) (ai (ae 0) (ai (ae 1) au)))))))))
abbrev gB:Stmt:=nJ 34
theorem sc_law_masks:FnScope ["_law_script","_law_first","_law_many","_law_most","_law_masks_here","_law_cell","_law_rest","_law_k","_law_mask"] ["_law_script","_law_first","_law_many","_law_most"] (ah gB):=by and_intros
theorem qF (D:Def K mg "_law_masks" gB ["_law_script","_law_first","_law_many","_law_most"]) (B:Bn mg) (D_law_at:Own P w K mg base 1 "_law_at" ["_law_script","_law_k"] (eN K aK)) (D_law_stir:Own P w K mg base 1 "_law_stir" ["_law_cell","_law_k"] (eN K cK)):Own P w K mg base 2 "_law_masks" ["_law_script","_law_first","_law_many","_law_most"] (eN K cV):=by
 delta cV
 refine ii (g:=fD) D sc_law_masks rfl rfl (by decide) fun f cdv A outer s H E hr=>?_
 delta fD
 exact(ak (bg 4 sc_law_masks.nd (cY DL.nil))
 (ak (bg 5 sc_law_masks.nd (a9 D_law_at (hr.mono (by decide)) (by rfl) (ai (ae 0) (ai (ae 1) au))))
 (ak (bg 6 sc_law_masks.nd (fg (ae 5) (iv am (ae 3))))
 (ak (gG PassesOwn.never (by rfl) (kT (by rfl) (by exact B.range) (ai (aY am (dg (fg (ae 5) am) (ae 3))) au)) (by delta cE;exact(bI 7 sc_law_masks.nd))
 (by delta bW;exact(ak (bK (dh (He .lt .lt (ET (zb am am)) (ae 5) (zb am am)))
 (ak (bg 8 sc_law_masks.nd (aY am (dg (ae 6) (t8 (uf am (ae 2)) am))))
 (aj (bg 6 sc_law_masks.nd (fg (ae 6) (t8 (uf am (ae 2)) am)))))
 (aj (bg 8 sc_law_masks.nd (aY am (dg (a9 D_law_stir (hr.mono (by decide)) (by rfl) (ai (aY (a9 D_law_at (hr.mono (by decide)) (by rfl) (ai (ae 0) (ai (aY (aY (ae 1) am) (dg (ae 7) am)) au))) (ae 7)) (ai (ae 7) au))) (t8 (uf am (ae 2)) am))))))
 (aj (l6 (i0 4 (ae 8)))))))
 (aj (aH (ae 4)))))))
abbrev gC:Stmt:=nJ 35
theorem sc_law_kinds:FnScope ["_law_e","_law_some"] ["_law_e"] (ah gC):=by and_intros
theorem qG (D:Def K mg "_law_kinds" gC ["_law_e"]) (B:Bn mg) (XX:XF K mg):OwnH P w K mg base 1 "_law_kinds" ["_law_e"] (eN K fR):=by
 obtain⟨C_NoCord,m_NoCord,t_NoCord⟩:=XX.c_NoCord
 obtain⟨C_NoNails,m_NoNails,t_NoNails,z_NoNails⟩:=XX.c_NoNails
 obtain⟨C_NoRule,m_NoRule,t_NoRule,z_NoRule⟩:=XX.c_NoRule
 obtain⟨C_NoText,m_NoText,t_NoText⟩:=XX.c_NoText
 obtain⟨C_NoMove,m_NoMove,t_NoMove⟩:=XX.c_NoMove
 obtain⟨C_NoLine,m_NoLine,t_NoLine⟩:=XX.c_NoLine
 obtain⟨C_NoName,m_NoName,t_NoName⟩:=XX.c_NoName
 obtain⟨C_NoNumber,m_NoNumber,t_NoNumber⟩:=XX.c_NoNumber
 obtain⟨C_TooMany,m_TooMany,t_TooMany⟩:=XX.c_TooMany
 obtain⟨C_TooLong,m_TooLong,t_TooLong⟩:=XX.c_TooLong
 delta fR
 refine IE (g:=iQ) D sc_law_kinds rfl rfl (by decide) fun f cdv A outer s H E hr=>?_
 refine BodyOk.of ?_
 refine ko [0] (DL.cons (fi (by rfl) (by exact B.isinstance) (ae 0) (by rfl) (by exact m_NoCord) t_NoCord) rfl (DL.cons (fi (by rfl) (by exact B.isinstance) (ae 0) (by rfl) (by exact m_NoNails) t_NoNails) rfl (DL.cons (fi (by rfl) (by exact B.isinstance) (ae 0) (by rfl) (by exact m_NoRule) t_NoRule) rfl (DL.cons (fi (by rfl) (by exact B.isinstance) (ae 0) (by rfl) (by exact m_NoText) t_NoText) rfl DL.nil)))) fun e0 hd0=>?_
 refine ko [1,1] (DL.cons (fi (by rfl) (by exact B.isinstance) (ae 0) (by rfl) (by exact m_NoMove) t_NoMove) rfl (DL.cons (fi (by rfl) (by exact B.isinstance) (ae 0) (by rfl) (by exact m_NoLine) t_NoLine) rfl (DL.cons (fi (by rfl) (by exact B.isinstance) (ae 0) (by rfl) (by exact m_NoName) t_NoName) rfl (DL.cons (fi (by rfl) (by exact B.isinstance) (ae 0) (by rfl) (by exact m_NoNumber) t_NoNumber) rfl DL.nil)))) fun e1 hd1=>?_
 refine ko [2,1] (DL.cons (fi (by rfl) (by exact B.isinstance) (ae 0) (by rfl) (by exact m_TooMany) t_TooMany) rfl (DL.cons (fi (by rfl) (by exact B.isinstance) (ae 0) (by rfl) (by exact m_TooLong) t_TooLong) rfl DL.nil)) fun e2 yD=>?_
 refine⟨?_⟩
 delta iQ
 exact(ak (bg 1 sc_law_kinds.nd (cY hd0))
 (ak (bg 1 sc_law_kinds.nd (aY (ae 1) (cY hd1)))
 (aj (aH (aY (ae 1) (cY yD))))))
abbrev fq:Stmt:=nJ 36
theorem nN:FnScope ["_law_deed","_law_due","_law_e"] ["_law_deed","_law_due"] (ah fq):=by and_intros
theorem nO (D:Def K mg "_law_refused" fq ["_law_deed","_law_due"]) (B:Bn mg) (D_law_kinds:OwnH P w K mg base 1 "_law_kinds" ["_law_e"] (eN K fR)) (XX:XF K mg):OwnF P w K mg base 6 "_law_refused" ["NoNails","NoRule"] cG:=by
 obtain⟨C_HangError,m_HangError,e_HangError⟩:=XX.e_HangError
 obtain⟨v_ValueError,t_ValueError⟩:=XX.v_ValueError
 delta cG
 refine IM (hs:=gH) D nN rfl rfl (by exact m_HangError) e_HangError fun f cdv A outer s H hr ea oe C ex hx=>?_
 delta gH
 exact(aj (aH (t9 (CS (by rfl) (by exact B.isinstance) (ae 2) (by rfl) (by exact v_ValueError) PyProof.Rows.Boot.«ValueError» t_ValueError) (zg (ze (Room.mark hr _).units (CT D_law_kinds ((Room.mark hr _).mono (by decide)) (by rfl) (ai (ae 2) au)) (xZ (N:=["_law_k","_law_due"]) (js:=[none,some 1]) gK (Dc hx) (uT (by rfl) (by exact B.range) (ai am au)) (fun _ _ _ _=>(by delta gN;exact(bI 0 (show(["_law_k","_law_due"]:List Str).Nodup by decide+kernel)))) (fun _ _ _ _=>(by delta gO;exact(ze (Room.mark hr _).units (ae 1) (ae 0))))))))))
abbrev ft:Stmt:=nJ 37
theorem sc_law_spoiled:FnScope ["_law_rule","_law_cell","_law_some","_law_way","_law_at_here","_law_one"] ["_law_rule","_law_cell","_law_some"] (ah ft):=by and_intros
theorem nP (D:Def K mg "_law_spoiled" ft ["_law_rule","_law_cell","_law_some"]) (B:Bn mg):Own P w K mg base 1 "_law_spoiled" ["_law_rule","_law_cell","_law_some"] (eN K bX):=by
 delta bX
 refine ii (g:=dO) D sc_law_spoiled rfl rfl (by decide) fun f cdv A outer s H E hr=>?_
 refine BodyOk.of ?_
 refine ko [5,1,0,1] (DL.cons (j_ (mV rfl (by rfl) (by exact B.sorted) (by rfl) (by exact B.set) (aY (ae 5) (j6 (ae 2) (dg (fg (ae 1) am) (fF (by rfl) (by exact B.len) (ai (ae 2) au))))))) rfl DL.nil) fun e0 hd0=>?_
 refine Df [8,1,0,0,1,0,0] (fun _=>(DL.cons dH rfl (DL.cons dH rfl (DL.cons dH rfl (DL.cons p7 rfl (DL.cons am rfl (DL.cons gl rfl (DL.cons (cY (DL.cons dH rfl DL.nil)) rfl (DL.cons (qz (DL.cons dH rfl DL.nil)) rfl (DL.cons dH rfl DL.nil)))))))))) fun e1 hd1=>?_
 refine ko [9,1,0,0] (DL.cons (cY DL.nil) rfl (DL.cons (zT (by rfl) (by exact B.tuple) (ae 0)) rfl (DL.cons (j_ (ae 0)) rfl (DL.cons p7 rfl (DL.cons am rfl (DL.cons (Cs (Cr dH am Ff)) rfl (DL.cons (cY (DL.cons (ae 0) rfl DL.nil)) rfl (DL.cons (qz (DL.cons dH rfl DL.nil)) rfl DL.nil)))))))) fun e2 yD=>?_
 refine⟨?_⟩
 delta dO
 exact(ak (bg 3 sc_law_spoiled.nd (dg (ae 1) am))
 (ak (bg 4 sc_law_spoiled.nd (dg (fg (ae 1) am) (fF (by rfl) (by exact B.len) (ai (ae 0) au))))
 (ak (bg 5 sc_law_spoiled.nd (j6 (ae 0) (ae 4)))
 (ak (bK (dZ hr.units (ae 3) am)
 (aj (aH (aY (dI (ae 0) (cr (ae 4)) cq) (dI (ae 0) cq (cr (ae 4))))))
 aG)
 (ak (bK (dZ hr.units (ae 3) am)
 (aj (aH (aY (aY (dI (ae 0) cq (cr (ae 4))) (cY (DL.cons (ae 5) rfl DL.nil))) (dI (ae 0) (cr (ae 4)) cq))))
 aG)
 (ak (bK (dZ hr.units (ae 3) am)
 (aj (aH (aY (ae 0) (cY hd0))))
 aG)
 (ak (bK (dZ hr.units (ae 3) am)
 (aj (aH (aY (aY (dI (ae 0) cq (cr (ae 4))) (cY (DL.cons (j_ (CG rfl (by rfl) (by exact B.list) (by rfl) (by exact B.reversed) (ae 5))) rfl DL.nil))) (dI (ae 0) (cr (aY (ae 4) am)) cq))))
 aG)
 (ak (bK (dZ hr.units (ae 3) am)
 (aj (aH (aY (aY (dI (ae 0) cq (cr (ae 4))) (cY (DL.cons (aY (dI (ae 5) cq (cr am)) (ae 5)) rfl DL.nil))) (dI (ae 0) (cr (aY (ae 4) am)) cq))))
 aG)
 (ak (bK (dZ hr.units (ae 3) am)
 (aj (aH (aY (aY (dI (ae 0) cq (cr (ae 4))) (dI (dI (cY (hd1 _)) (cr (dg (fg (ae 1) am) am)) cq) cq (cr am))) (dI (ae 0) (cr (ae 4)) cq))))
 aG)
 (ak (bK (dZ hr.units (ae 3) am)
 (aj (aH (j6 (cY yD) (dg (fg (ae 1) am) am))))
 aG)
 (ak (bK (dZ hr.units (ae 3) am)
 (aj (aH (aY (dI (ae 0) cq (cr (ae 4))) (dI (ae 0) (cr (aY (ae 4) am)) cq))))
 aG)
 (aj (aH (ae 0))))))))))))))
abbrev fS:Stmt:=nJ 38
theorem sc_law_is_set:FnScope ["_law_thing","_law_last","_law_nail"] ["_law_thing"] (ah fS):=by and_intros
theorem oK (D:Def K mg "_law_is_set" fS ["_law_thing"]) (B:Bn mg):Own P w K mg base 1 "_law_is_set" ["_law_thing"] (eN K aL):=by
 delta aL
 refine ii (g:=cW) D sc_law_is_set rfl rfl (by decide) fun f cdv A outer s H E hr=>?_
 delta cW
 exact(ak (bK (oj (lB (dh (di (gT .str (by rfl) (by exact B.isinstance) (ae 0) (by rfl) (by exact B.str) PyProof.Rows.boot_str))) (iw (dZ hr.units (ae 0) dH))))
 (aj (aH gl))
 aG)
 (ak (bg 1 sc_law_is_set.nd dH)
 (ak (gG PassesOwn.never (by rfl) (fb (ae 0)) (by delta bJ;exact(bI 2 sc_law_is_set.nd))
 (by delta bw;exact(ak (bK (oj (lB (zJ (ae 2) dH) (iw (DT .le (ae 2) (ae 1)))))
 (aj (aH gl))
 aG)
 (aj (bg 1 sc_law_is_set.nd (ae 2))))))
 (aj (aH gl)))))
abbrev fu:Stmt:=nJ 39
theorem sc_law_is_rule:FnScope ["_law_thing","_law_k","_law_one","_law_other"] ["_law_thing"] (ah fu):=by and_intros
theorem nQ (D:Def K mg "_law_is_rule" fu ["_law_thing"]) (B:Bn mg) (D_law_is_set:Own P w K mg base 1 "_law_is_set" ["_law_thing"] (eN K aL)):Own P w K mg base 2 "_law_is_rule" ["_law_thing"] (eN K aC):=by
 delta aC
 refine ii (g:=fm) D sc_law_is_rule rfl rfl (by decide) fun f cdv A outer s H E hr=>?_
 delta fm
 exact(ak (bK (oj (lB (dh (di (gT .list (by rfl) (by exact B.isinstance) (ae 0) (by rfl) (by exact B.list) PyProof.Rows.boot_list))) (iw (dZ hr.units (ae 0) (cY DL.nil)))))
 (aj (aH gl))
 aG)
 (ak (gG PassesOwn.never (by rfl) (Cv (by rfl) (by exact B.enumerate) (ae 0)) (by delta bc;exact(Fb (by rfl) (rQ (bI 1 sc_law_is_rule.nd) (rQ (bI 2 sc_law_is_rule.nd) Co))))
 (by delta aT;exact(ak (bK (dh (di (a9 D_law_is_set (hr.mono (by decide)) (by rfl) (ai (ae 2) au))))
 (aj (aH gl))
 aG)
 (aj (gG PassesOwn.never (by rfl) (fb (dI (ae 0) cq (cr (ae 1)))) (by delta bA;exact(bI 3 sc_law_is_rule.nd))
 (by delta ba;exact(aj (bK (oj (lB (di (Fq (by rfl) (by rfl) (by exact B.all) (ai (j9 (N:=["_law_nail","_law_one"]) (js:=[none,some 2]) gK (by rfl) (fb (ae 3)) (fun _ _ _ _=>(by delta cH;exact(bI 0 (show(["_law_nail","_law_one"]:List Str).Nodup by decide+kernel)))) (fun _ _ _ _=>(by delta bP;exact(Hg (ae 0) (ae 1))))) au))) (iw (CK hr.units2 (qz (DL.cons (fF (by rfl) (by exact B.len) (ai (ae 3) au)) rfl (DL.cons (ae 3) rfl DL.nil))) (qz (DL.cons (fF (by rfl) (by exact B.len) (ai (ae 2) au)) rfl (DL.cons (ae 2) rfl DL.nil)))))))
 (aj (aH gl))
 aG))))))))
 (aj (aH gl))))
abbrev kD:Stmt:=nJ 40
theorem sc_law:FnScope ["_law_script","_law_many","_law_some","_law_at_here","_law_rule","_law_thing"] ["_law_script"] (ah kD):=by and_intros
theorem FQ {f0 c T:Addr} {fd:FuncData} (D:FunT K "law" kD f0 fd c T) (B:Bn mg) (D_law_at:Own P w K mg base 1 "_law_at" ["_law_script","_law_k"] (eN K aK)) (D_law_nails:Own P w K mg base 1 "_law_nails" ["_law_cell","_law_many"] (eN K ci)) (D_law_masks:Own P w K mg base 2 "_law_masks" ["_law_script","_law_first","_law_many","_law_most"] (eN K cV)) (D_law_least:Own P w K mg base 1 "_law_least" ["_law_masks_here"] (eN K cT)) (D_law_texts:Own P w K mg base 2 "_law_texts" ["_law_masks_here","_law_some"] (eN K cU)) (D_law_spoiled:Own P w K mg base 1 "_law_spoiled" ["_law_rule","_law_cell","_law_some"] (eN K bX)) (D_law_is_rule:Own P w K mg base 2 "_law_is_rule" ["_law_thing"] (eN K aC)) (D_law_refused:OwnF P w K mg base 6 "_law_refused" ["NoNails","NoRule"] cG) (R_check_rule:OwnR P w K mg base 5 "check_rule" ["thing"] (sQ K bi)) (D_check_rule:Own P w K mg base 5 "check_rule" ["thing"] (eN K bE)):FnOk P w K mg base mv 8 f0 fd ["_law_script"] (eN K jW):=by
 delta jW
 refine JD (g:=tj) D sc_law rfl rfl (by decide) fun A outer s H E hr=>?_
 delta tj
 exact(ak (bg 1 sc_law.nd (aY am (dg (a9 D_law_at (hr.mono (by decide)) (by rfl) (ai (ae 0) (ai am au))) am)))
 (ak (bK (dZ hr.units (dg (fg (a9 D_law_at (hr.mono (by decide)) (by rfl) (ai (ae 0) (ai am au))) am) am) am)
 (aj (bg 1 sc_law.nd am))
 aG)
 (ak (bg 2 sc_law.nd (xv (by rfl) (by exact B.sorted) (a9 D_law_nails (hr.mono (by decide)) (by rfl) (ai (a9 D_law_at (hr.mono (by decide)) (by rfl) (ai (ae 0) (ai am au))) (ai (ae 1) au)))))
 (ak (gG PassesOwn.never (by rfl) (xr (by rfl) (by exact B.range) (ai am (ai (E_ (by rfl) (by rfl) (by exact B.max) (ai am (ai (E9 (by rfl) (by rfl) (by exact B.min) (ai (fF (by rfl) (by exact B.len) (ai (ae 0) au)) (ai am au))) au))) (ai am au)))) (by delta gP;exact(bI 3 sc_law.nd))
 (by delta gQ;exact(ak (bg 4 sc_law.nd (a9 D_law_texts (hr.mono (by decide)) (by rfl) (ai (a9 D_law_least (hr.mono (by decide)) (by rfl) (ai (a9 D_law_masks (hr.mono (by decide)) (by rfl) (ai (ae 0) (ai (ae 3) (ai (fF (by rfl) (by exact B.len) (ai (ae 2) au)) (ai am au))))) au)) (ai (ae 2) au))))
 (ak (bg 5 sc_law.nd (a9 D_law_spoiled (hr.mono (by decide)) (by rfl) (ai (ae 4) (ai (a9 D_law_at (hr.mono (by decide)) (by rfl) (ai (ae 0) (ai (aY (ae 3) am) au))) (ai (ae 2) au)))))
 (ak (bK (dh (di (a9 D_law_is_rule (hr.mono (by decide)) (by rfl) (ai (ae 5) au))))
 (aj (bK (dh (di (FO (N:=["_law_thing"]) (js:=[5]) D_law_refused rfl D.tp D.hd (hr.mono (by decide)) (by rfl) R_check_rule (by decide) Da (fun _ _ _ _ _ _=>(ai (ae 0) au)))))
 (aj (aH gl))
 aG))
 (aj (bK (vP (a9 D_check_rule (hr.mono (by decide)) (by rfl) (ai (ae 5) au)) p7)
 (aj (aH gl))
 aG)))
 (aj (bK (oj (lB (dh (di (a9 D_law_is_rule (hr.mono (by decide)) (by rfl) (ai (ae 4) au)))) (iw (vP (a9 D_check_rule (hr.mono (by decide)) (by rfl) (ai (ae 4) au)) p7))))
 (aj (aH gl))
 aG)))))))
 (aj (aH gl))))))
end
end Nhk41
namespace Nhk41
open PySem L2 Nh PL
theorem aI{f g:cI}{E E1:List Sl}(h:f E=some (E1,.nx)):aE f g E=g E1:=by
 unfold aE
 rw[h]
 rfl
theorem c9{c:ig}{a b:cI}{E E1:List Sl}{r:Option (List Sl×Fl)}(h:c E=some (false,E1))(k:b E1=r):bh c a b E=r:=by
 unfold bh
 rw[h,←k]
 rfl
theorem eW{c:ig}{a b:cI}{E E1:List Sl}{r:Option (List Sl×Fl)}(h:c E=some (true,E1))(k:a E1=r):bh c a b E=r:=by
 unfold bh
 rw[h,←k]
 rfl
theorem me{tg:fZ}{elt:aD}{d r:PyData}{ds rs:List PyData}{E E1:List Sl}(t:tg d E=some E1)(el:elt E1=some (.sh r,E1))(h:dN tg d0 elt ds E1=some rs):dN tg d0 elt (d::ds) E=some (r::rs):=by
 rw[dN,t,Option.bind_some]
 simp only[d0,Z0,el,frz,h,Z1,if_true]
theorem Dh(cell k:Int)(a:∀i:Int,gm i k=true)(b:∀i j:Int,gm (i % 2147483629) j=true)(c:∀i j:Int,gm (i % 2147483587) j=true):∃z:Int,cK [.int cell,.int k]=some (.sh (.int z)):=by
 have d1:mD 13=true:=by decide
 simp only[cK,fV,Z4,Z5,Nat.reduceAdd,ju,gZ,aE,a8,af,aa,aZ,dQ,oa,Nat.reduceSub,List.replicate,Z9,Z8,Z2,Sl.isBr,pC,dw,eK,look,Sl.val,p9,Z0,Int.reduceLT,Z1,jt,jr,j4,aO,Z3,a,PL.settle,frz,frzAll,Nat.reduceLT,Z7,Z6,aV,df,b,c,d1,dk,cZ,du,bQ]
 exact⟨_,rfl⟩
theorem tw(cell k:Int)(h1: -100000≤k)(h2:k≤100000):∃z:Int,cK [.int cell,.int k]=some (.sh (.int z)):=by
 refine Dh cell k (fun i=>qk (by omega) (by omega)) (fun i j=>?_) (fun i j=>?_)
 ·have m0:=Int.emod_nonneg i (show(2147483629:Int)≠0 by decide)
  have m1:=Int.emod_lt_of_pos i (show(0:Int) < 2147483629 by decide)
  exact ql (by omega) (by omega)
 ·have m0:=Int.emod_nonneg i (show(2147483587:Int)≠0 by decide)
  have m1:=Int.emod_lt_of_pos i (show(0:Int) < 2147483587 by decide)
  exact ql (by omega) (by omega)
def cj(a:Nat):PyData:=.str ⟨#[a]⟩
theorem nR:∀w:List Nat,bT (w.map cj)=true
 |[]=>rfl
 |a::w=>by simp[bT,du,nR w,cj]
theorem AM(cell step k:Int)(m:gm k step=true):cy [.sh (.int k),.sh (.str "abcdefghijklmnopqrstuvwxyz"),.sh (.int cell),.sh (.int step)]=some (.sh (cj (97+((cell+k*step) % 26).toNat)),[.sh (.int k),.sh (.str "abcdefghijklmnopqrstuvwxyz"),.sh (.int cell),.sh (.int step)]):=by
 simp only[cy,af,aa,Z3,Z2,Sl.isBr,jt,look,Sl.val,jr,j4,aO,pC,dw,eK,p9,Z0,l5,m,Int.reduceLT,Z1,Fr,IB,cj,bQ]
theorem yd (cell many step i:Int) (n:Nat) (ws:List PyData) (dd:mD 26=true) (hi:cell / 26 % 12=i) (hs:atI [PyData.int 1,.int 3,.int 5,.int 7,.int 9,.int 11,.int 15,.int 17,.int 19,.int 21,.int 23,.int 25] i=some (.int step)) (o1: -1000000≤many) (o2:many≤1000000) (hn:many.toNat=n) (e:dN dq d0 cy (j8 0 n) [.no,.sh (.str "abcdefghijklmnopqrstuvwxyz"),.sh (.int cell),.sh (.int step)]=some ws) (fl:bT ws=true) (ll:ws.length≤1000000):ci [.int cell,.int many]=some (.ow ws):=by
 simp only[ci,fV,Z4,Z5,Nat.reduceAdd,ju,gv,aE,a8,pC,aZ,dQ,oa,Nat.reduceSub,List.replicate,Z9,Z8,PL.settle,frz,frzAll,Z0,Nat.reduceLT,Z7,Z6,af,bF,zC,Nat.reduceLeDiff,Sl.isBr,aa,df,eK,look,Sl.val,p9,dw,l5,jr,j4,aV,c7,eO,ag,ao,Z1,jN,zz,Z2,dd,Int.reduceLT,hi,hs,Z3,bB,o1,o2,and_self,hn,e,fl,ll,dk,cZ,bQ]
theorem AN:∀i,i < 12→∃v:Int,[PyData.int 1,.int 3,.int 5,.int 7,.int 9,.int 11,.int 15,.int 17,.int 19,.int 21,.int 23,.int 25][i]? =some (.int v)∧0≤v∧v≤100∧∀d:Nat,1≤d→d < 26→((d:Int)*v) % 26≠0
 | 0,_=>⟨1,rfl,by decide,by decide,by omega⟩
 | 1,_=>⟨3,rfl,by decide,by decide,by omega⟩
 | 2,_=>⟨5,rfl,by decide,by decide,by omega⟩
 | 3,_=>⟨7,rfl,by decide,by decide,by omega⟩
 | 4,_=>⟨9,rfl,by decide,by decide,by omega⟩
 | 5,_=>⟨11,rfl,by decide,by decide,by omega⟩
 | 6,_=>⟨15,rfl,by decide,by decide,by omega⟩
 | 7,_=>⟨17,rfl,by decide,by decide,by omega⟩
 | 8,_=>⟨19,rfl,by decide,by decide,by omega⟩
 | 9,_=>⟨21,rfl,by decide,by decide,by omega⟩
 | 10,_=>⟨23,rfl,by decide,by decide,by omega⟩
 | 11,_=>⟨25,rfl,by decide,by decide,by omega⟩
def jX(cell step:Int)(k:Nat):Nat:=97+((cell+(k:Int)*step) % 26).toNat
theorem u4{cell step:Int}(hs:∀d:Nat,1≤d→d < 26→((d:Int)*step) % 26≠0){j k:Nat}(h:j < k)(hk:k < 26):jX cell step j≠jX cell step k:=by
 intro e
 unfold jX at e
 have m0:=Int.emod_nonneg (cell+(k:Int)*step) (show(26:Int)≠0 by decide)
 have n0:=Int.emod_nonneg (cell+(j:Int)*step) (show(26:Int)≠0 by decide)
 have e2:(cell+(k:Int)*step) % 26=(cell+(j:Int)*step) % 26:=by omega
 have e3:=Int.emod_eq_emod_iff_emod_sub_eq_zero.mp e2
 apply hs (k - j) (by omega) (by omega)
 rw[←e3]
 congr 1
 rw[show((k - j:Nat):Int)=(k:Int) - j by omega,Int.sub_mul]
 omega
theorem pI(cell step:Int)(h1:0≤step)(h2:step≤100):∀(n lo:Nat) (x:Sl),dN dq d0 cy (j8 lo n) [x,.sh (.str "abcdefghijklmnopqrstuvwxyz"),.sh (.int cell),.sh (.int step)]=some (((List.range' lo n).map (jX cell step)).map cj)
 | 0,lo,x=>rfl
 |n+1,lo,x=>by
  have e:=pI cell step h1 h2 n (lo+1) (.sh (.int lo))
  have s:=AM cell step lo (qk (by omega) (by omega))
  have t:dq (.int lo) [x,.sh (.str "abcdefghijklmnopqrstuvwxyz"),.sh (.int cell),.sh (.int step)]=some [.sh (.int lo),.sh (.str "abcdefghijklmnopqrstuvwxyz"),.sh (.int cell),.sh (.int step)]:=rfl
  rw[show((lo+1:Nat):Int)=(lo:Int)+1 by omega]at e
  rw[kU,List.range'_succ,dQ,dQ]
  exact me t s e
def az(a:Nat):Prop:=97≤a∧a < 123
theorem g7{a:Nat}(h:az a):a∈List.range' 97 26:=List.mem_range'_1.mpr ⟨h.1,h.2⟩
theorem ye(cell step:Int)(k:Nat):az (jX cell step k):=by
 unfold jX az
 have m0:=Int.emod_nonneg (cell+(k:Int)*step) (show(26:Int)≠0 by decide)
 have m1:=Int.emod_lt_of_pos (cell+(k:Int)*step) (show(0:Int) < 26 by decide)
 generalize (cell+(k:Int)*step) % 26=z at m0 m1
 omega
theorem be{c:List PyData→Option Sl}{g:j0}{E E1:List Sl}{ss:List Sl}{ds:List PyData}{r:Sl}(h:g E=some (ss,E1))(hl:bB E1 ss=some ds)(hc:c ds=some r):aw c g E=some (r,E1):=by
 unfold aw
 rw[h,Option.bind_some]
 show(bB E1 ss).bind _=_
 rw[hl,Option.bind_some,hc]
 rfl
theorem tz{x:Int}{f:aD}{E:List Sl}{y:Int}{g:aD}(hf:g E=some (.sh (.int x),E))(h:f E=some (.sh (.int y),E))(ok:gm x y=true):af jt false g f E=some (.sh (.int (x*y)),E):=by
 simp only[af,jt,hf,h,Z0,look,Sl.val,ok,bQ]
theorem eX{x:Int}{f:aD}{E:List Sl}{y:Int}{g:aD}(hf:g E=some (.sh (.int x),E))(h:f E=some (.sh (.int y),E)):af aO false g f E=some (.sh (.int (x+y)),E):=by
 simp only[af,aO,hf,h,Z0,look,Sl.val,bQ]
theorem fI{f:aD}{E E1:List Sl}{d:PyData}{i:Nat}(h:f E=some (.sh d,E1))(hi:i < E1.length):a8 i f E=some (E1.set i (.sh d),.nx):=by
 unfold a8
 rw[h]
 simp only[Z0,PL.settle,hi,if_true]
theorem FR{x y:Int}{f g:aD}{E:List Sl}(hg:g E=some (.sh (.int x),E))(hf:f E=some (.sh (.int y),E)):af yE false g f E=some (.sh (.bool (!decide (x=y))),E):=by
 simp only[af,yE,eK,hg,hf,Z0,look,Sl.val,i7,Z1,bQ]
theorem HC{a b:ig}{E E1:List Sl}{r:Option (Bool×List Sl)}(h:a E=some (false,E1))(k:b E1=r):e_ a b E=r:=by
 unfold e_
 rw[h,Option.bind_some]
 exact k
theorem jh(ns:List Int)(k:Nat):aK [.list (ns.map .int),.int k]=some (.sh (.int (ns.getD k 0))):=by
 simp only[aK,fV,Z4,Z5,Nat.reduceAdd,ju,kA,aE,bh,cf,af,aa,aZ,dQ,oa,Nat.sub_self,List.replicate,Z9,Z8,Z3,Z2,Sl.isBr,bG,ag,ao,Z1,cu,eK,look,Sl.val,fG,Cm.i,Cm.s,Z0,bB,aV,l5,jr,j4,aB,pC,dk,cZ,bQ]
 by_cases h:k < ns.length
 ·simp[h,iA,du,dk,cZ]
 ·simp[h,List.getElem?_eq_none (Nat.le_of_not_lt h),du,dk,cZ]
theorem qH(w:List Nat)(a:Nat):(Builtin.Str.occurrences ⟨w.toArray⟩ ⟨#[a]⟩ 0 (⟨w.toArray⟩:Str).length 1).isEmpty= !decide (a∈w):=by
 have h:=PySem.StrLaws.found_one ⟨w.toArray⟩ a
 rw[List.toList_toArray]at h
 rw[←h,Bool.not_not]
def dD(a:Nat):Str:=⟨#[a]⟩
theorem AO{a b:Nat}(h:dD a=dD b):a=b:=by
 simp[dD]at h;exact h
theorem Di{a b:Nat}(h:a≤b):qY (dD a) (dD b)=true:=by
 have:[a]≤[b]:=by
  rcases Nat.lt_or_ge a b with k |k
  ·exact List.le_of_lt (List.Lex.rel k)
  ·rw[Nat.le_antisymm h k];exact List.le_refl _
 exact decide_eq_true this
theorem Dj(ks:List Str)(x y:Str):y∈BB ks x↔y∈ks∨y=x:=by
 unfold BB
 split
 ·rename_i h
  exact⟨.inl,fun z=>z.elim id fun e=>e▸h⟩
 ·simp
theorem yf{ks:List Str}(h:ks.Nodup)(x:Str):(BB ks x).Nodup:=by
 unfold BB
 split
 ·exact h
 ·rename_i k
  rw[Zbc]
  refine⟨h,by simp,fun a ha b hb=>?_⟩
  rw[Zak.mp hb]
  exact fun e=>k (e▸ha)
theorem qI:∀(ss ks:List Str),ks.Nodup→(ss.foldl BB ks).Nodup∧∀y,y∈ss.foldl BB ks↔y∈ks∨y∈ss
 |[],ks,h=>⟨h,fun y=>by simp⟩
 |s::ss,ks,h=>by
  obtain⟨a,b⟩:=qI ss (BB ks s) (yf h s)
  refine⟨a,fun y=>?_⟩
  rw[List.foldl_cons,b y,Dj,Zaf,or_assoc]
theorem yg(ss:List Str):(iE ss).Nodup:=(qI ss [] List.nodup_nil).1
theorem Dk(ss:List Str)(y:Str):y∈iE ss↔y∈ss:=by
 rw[iE,(qI ss [] List.nodup_nil).2 y];simp
def cL(w:List Nat):List Nat:=(List.range' 97 26).filter fun a=>decide (a∈w)
theorem inOrd_mem{w:List Nat}{a:Nat}:a∈cL w↔a∈List.range' 97 26∧a∈w:=by simp[cL]
theorem g8{α:Type}[DecidableEq α]:∀{l m:List α},l.Nodup→m.Nodup→(∀a,a∈l↔a∈m)→l.Perm m
 |[],m,_,_,h=>by
  have:m=[]:=by
   cases m with
   |nil=>rfl
   |cons b m=>exact absurd ((h b).mpr (by simp)) (by simp)
  rw[this]
 |a::l,m,hl,hm,h=>by
  have ha:a∈m:=(h a).mp (by simp)
  have hl':=List.nodup_cons.mp hl
  have p:=List.perm_cons_erase ha
  refine((g8 hl'.2 (hm.erase a) fun b=>?_).cons a).trans p.symm
  rw[List.Nodup.mem_erase_iff hm,←h b,Zaf]
  exact⟨fun k=>⟨fun e=>hl'.1 (e▸k),.inr k⟩,fun k=>k.2.resolve_left k.1⟩
theorem jY{w:List Nat}(h:w.Nodup):(w.map dD).Nodup:=by
 rw[List.Nodup,List.pairwise_map]
 exact h.imp fun k e=>k (AO e)
theorem iU(w:List Nat):(cL w).Nodup:=List.Nodup.sublist List.filter_sublist (List.nodup_range' ..)
theorem kE(w:List Nat):((cL w).map dD).Pairwise fun a b=>qY a b=true:=by
 rw[List.pairwise_map]
 have h:(List.range' 97 26).Pairwise (· < ·):=List.pairwise_lt_range'
 exact(h.sublist List.filter_sublist).imp fun k=>Di (Nat.le_of_lt k)
theorem nT{w:List Nat}(hw:∀a∈w,a∈List.range' 97 26):hJ (iE (w.map dD))=(cL w).map dD:=by
 refine(List.Perm.eq_of_pairwise (fun _ _ _ _ h k=>mM h k) (kE w) (List.pairwise_mergeSort i6 kX _) ?_).symm
 refine List.Perm.trans ?_ (List.mergeSort_perm _ qY).symm
 refine g8 (jY (iU w)) (yg _) fun y=>?_
 rw[Dk,Zau,Zau]
 constructor
 ·rintro⟨a,ha,rfl⟩
  exact⟨a,(inOrd_mem.mp ha).2,rfl⟩
 ·rintro⟨a,ha,rfl⟩
  exact⟨a,inOrd_mem.mpr ⟨hw a ha,ha⟩,rfl⟩
theorem we{w:List Nat}(hw:∀a∈w,a∈List.range' 97 26):(iE (w.map dD)).length≤26:=by
 rw[←kY,nT hw,dY]
 refine kK (List.length_filter_le _ _) (by simp)
theorem Dl{a:Nat}(h:az a):decide ([a] < (Str.ofString "a").cps.toList)=false:=by
 have e:(Str.ofString "a").cps.toList=[97]:=by decide+kernel
 rw[e]
 refine decide_eq_false fun k=>?_
 have:a < 97:=by
  cases k with
  |rel k=>exact k
  |cons k=>cases k
 exact absurd this (Nat.not_lt.mpr h.1)
theorem Dm{a:Nat}(h:az a):decide ((Str.ofString "z").cps.toList < [a])=false:=by
 have e:(Str.ofString "z").cps.toList=[122]:=by decide+kernel
 rw[e]
 refine decide_eq_false fun k=>?_
 have:122 < a:=by
  cases k with
  |rel k=>exact k
  |cons k=>cases k
 exact absurd this (Nat.not_lt.mpr (Nat.le_of_lt_succ h.2))
theorem jZ{a:Nat}(h:az a):a_ [.str ⟨#[a]⟩]=some (.sh (.bool true)):=by
 have l:(⟨#[a]⟩:Str).length=1:=rfl
 have t:(#[a]:Array Nat).toList=[a]:=rfl
 have lo:=Dl h
 have hi:=Dm h
 simp only[a_,fV,Z4,Z5,ju,fW,aV,mF,fM,aa,aZ,dQ,oa,Nat.sub_self,List.replicate,Z9,Z8,Z2,look,Sl.val,eM,Ty.is,zt,Z0,Z1,af,bG,ag,Sl.isBr,ao,cu,pC,fU,eK,eL,Bool.or_false,fG,Cm.i,Cm.s,bB,l,Nat.reduceLeDiff,Int.cast_ofNat_Int,i7,hi,lo,dk,cZ,du,bQ]
theorem pJ(x0:Sl):∀(w:List Nat) (a:Sl),(∀y∈w,az y)→∃a',bM bu bv (w.map cj) [x0,a]=some ([x0,a'],.nx)
 |[],a,_=>⟨a,rfl⟩
 |y::w,a,h=>by
  have n:=jZ (h y (gk ..))
  have e:(bu (cj y) [x0,a]).bind bv=some ([x0,.sh (cj y)],.nx):=by
   simp only[bu,bp,Z4,Z5,Nat.reduceAdd,Nat.reduceLT,cj,Z7,Z6,bv,Z0,bh,aJ,bL,aw,ag,aa,Z3,Z2,Sl.isBr,ao,Z1,bB,look,Sl.val,n,gE,aB,bQ]
  obtain⟨a',ih⟩:=pJ x0 w (.sh (cj y)) fun z hz=>h z (fJ _ hz)
  refine⟨a',?_⟩
  rw[dQ,bM,e]
  exact ih
theorem mf(w:List Nat):iB ⟨w.toArray⟩=w.map cj:=by simp[iB,cj]
theorem D0(w:List Nat):kc ⟨w.toArray⟩=w.map dD:=by simp[kc,dD]
theorem tB:∀(w:List Nat),jz (w.map cj)=some (w.map dD)
 |[]=>rfl
 |a::w=>by simp only[dQ,cj,jz];rw[tB w];rfl
theorem nU(w:List Nat):fH ((w.map dD).map PyData.str)=some (w.map dD):=by
 induction w with
 |nil=>rfl
 |cons a w ih=>simp only[dQ,fH,ih,Z1]
theorem lM:∀(w:List Nat),fH (w.map cj)=some (w.map dD)
 |[]=>rfl
 |a::w=>by simp only[dQ,cj,fH];rw[lM w];rfl
theorem qJ(w:List Nat):((w.map dD).map (·.length)).sum+(w.map dD).length*(Str.ofString "").length=w.length:=by
 have:(Str.ofString "").length=0:=rfl
 rw[this,Nat.mul_zero,Nat.add_zero]
 induction w with
 |nil=>rfl
 |cons a w ih=>simp only[dQ,List.sum_cons,ih,Z4];show 1+_=_;omega
theorem nV:∀(w:List Nat),Txt.join "" (w.map dD)=⟨w.toArray⟩:=by
 intro w
 show Builtin.Str.glued "" _=_
 rw[StrLaws.glued_eq_join]
 induction w with
 |nil=>rfl
 |cons a w ih=>
  cases w with
  |nil=>rfl
  |cons b w=>
   have e:Str.join "" ((a::b::w).map dD)=(⟨#[a]⟩:Str)++""++Str.join "" ((b::w).map dD):=rfl
   rw[e,ih]
   show(⟨(#[a]++(Str.ofString "").cps)++(b::w).toArray⟩:Str)=_
   rw[show(Str.ofString "").cps=#[] by decide+kernel]
   simp
theorem yh(w:List Nat):(cL w).length≤1000000:=kK (List.length_filter_le _ _) (by simp)
theorem lq{w:List Nat}(h:∀y∈w,az y)(hl:w.length≤3900):dz [.str ⟨w.toArray⟩]=some (.sh (.str ⟨(cL w).toArray⟩)):=by
 obtain⟨a,e⟩:=pJ (.sh (.str ⟨w.toArray⟩)) w .no h
 have d:=nT fun y hy=>g7 (h y hy)
 have d2:(w.map dD).length < 4000∧(iE (w.map dD)).length < 64:=⟨by rw[dY];omega,Nat.lt_of_le_of_lt (we fun y hy=>g7 (h y hy)) (by decide)⟩
 have l:=qJ (cL w)
 have l2:=yh w
 simp only[dz,fV,Z4,Z5,ju,ku,aE,bh,aJ,bL,fM,aa,aZ,dQ,oa,Nat.reduceSub,List.replicate,Z9,Z8,Z2,look,Sl.val,eM,Ty.is,zt,Z0,Z1,gE,aB,eD,cN,frz,aV,fK,f_,ph,mf,e,D0,d2,and_self,d,nU,l,l2,nV,dk,cZ,du,bQ]
theorem yi:(Str.ofString "abcdefghijklmnopqrstuvwxyz")=(⟨(List.range' 97 26).toArray⟩:Str):=by decide+kernel
theorem FS(w:List Nat)(a:Nat):Cw (.str ⟨#[a]⟩) (.str ⟨w.toArray⟩)=some (decide (a∈w)):=by
 show some (!(Builtin.Str.occurrences ⟨w.toArray⟩ ⟨#[a]⟩ 0 (⟨w.toArray⟩:Str).length 1).isEmpty)=_
 rw[qH,Bool.not_not]
theorem HE{E:List Sl}{f g:aD}{d1 d2:PyData}{b:Bool}(hf:f E=some (.sh d1,E))(hg:g E=some (.sh d2,E))(hd:Cw d1 d2=some b):cf (af (r8 false) false f g) E=some (b,E):=by
 simp only[cf,af,r8,eK,hf,hg,hd,Z0,look,Sl.val,Z1,bQ]
theorem Do(w:List Nat)(n:Nat)(c:Nat)(hc:c=97+n)(p:Int)(hp:p=2 ^ n)(a:Sl):(eS (.str ⟨#[c]⟩) [.sh (.str ⟨w.toArray⟩),.sh (.int (NH.cP w n)),.sh (.int p),a]).bind eT=some ([.sh (.str ⟨w.toArray⟩),.sh (.int (NH.cP w (n+1))),.sh (.int (p*2)),.sh (.str ⟨#[c]⟩)],.nx):=by
 have i1:=FS w c
 have ok:gm p 2=true:=qk (by decide) (by decide)
 have b:(NH.cP w (n+1):Int)=if c∈w then (NH.cP w n:Int)+p else (NH.cP w n:Int):=by
  rw[NH.cP,hc,hp]
  split
  ·push_cast;rfl
  ·simp
 generalize (NH.cP w (n+1):Int)=B1 at b ⊢
 generalize (NH.cP w n:Int)=B0 at b ⊢
 have tg:eS (.str ⟨#[c]⟩) [.sh (.str ⟨w.toArray⟩),.sh (.int B0),.sh (.int p),a]=some [.sh (.str ⟨w.toArray⟩),.sh (.int B0),.sh (.int p),.sh (.str ⟨#[c]⟩)]:=rfl
 have t1:cf (af (r8 false) false (aa 3) (aa 0)) [.sh (.str ⟨w.toArray⟩),.sh (.int B0),.sh (.int p),.sh (.str ⟨#[c]⟩)]=some (decide (c∈w),[.sh (.str ⟨w.toArray⟩),.sh (.int B0),.sh (.int p),.sh (.str ⟨#[c]⟩)]):=HE rfl rfl i1
 have s2:∀x:Int,a8 2 (af jt false (aa 2) (pC (.int 2))) [.sh (.str ⟨w.toArray⟩),.sh (.int x),.sh (.int p),.sh (.str ⟨#[c]⟩)]=some ([.sh (.str ⟨w.toArray⟩),.sh (.int x),.sh (.int (p*2)),.sh (.str ⟨#[c]⟩)],.nx):=fun x=>fI (tz (g:=aa 2) (f:=pC (.int 2)) rfl rfl ok) (show 2 < 4 by decide)
 rw[tg,Option.bind_some,eT]
 by_cases h:c∈w
 ·rw[if_pos h]at b
  rw[decide_eq_true h]at t1
  have s1:a8 1 (af aO false (aa 1) (aa 2)) [.sh (.str ⟨w.toArray⟩),.sh (.int B0),.sh (.int p),.sh (.str ⟨#[c]⟩)]=some ([.sh (.str ⟨w.toArray⟩),.sh (.int B1),.sh (.int p),.sh (.str ⟨#[c]⟩)],.nx):=by
   rw[b]
   exact fI (eX (g:=aa 1) (f:=aa 2) rfl rfl) (show 1 < 4 by decide)
  rw[aI (eW t1 s1)]
  exact s2 B1
 ·rw[if_neg h]at b
  rw[decide_eq_false h]at t1
  rw[aI (c9 (b:=aB) t1 rfl),b]
  exact s2 B0
theorem wf(w:List Nat):∀(k n:Nat) (a:Sl),n+k=26→∃a' b',bM eS eT ((List.range' (97+n) k).map fun c=>.str ⟨#[c]⟩) [.sh (.str ⟨w.toArray⟩),.sh (.int (NH.cP w n)),.sh (.int (2 ^ n)),a]=some ([.sh (.str ⟨w.toArray⟩),.sh (.int (NH.eQ w)),b',a'],.nx)
 | 0,n,a,h=>⟨a,.sh (.int (2 ^ n)),by rw[show n=26 by omega];rfl⟩
 |k+1,n,a,h=>by
  have s:=Do w n (97+n) rfl (2 ^ n) rfl a
  rw[(Int.pow_succ 2 n).symm]at s
  obtain⟨a',b',e⟩:=wf w k (n+1) (.sh (.str ⟨#[97+n]⟩)) (by omega)
  refine⟨a',b',?_⟩
  rw[List.range'_succ,dQ,bM,s]
  exact e
theorem u5(w:List Nat):dm [.str ⟨w.toArray⟩]=some (.sh (.int (NH.eQ w))):=by
 obtain⟨a,b,e⟩:=wf w 26 0 .no rfl
 have z0:((NH.cP w 0:Nat):Int)=0:=rfl
 have z1:(2:Int) ^ 0=1:=rfl
 rw[z0,z1,Nat.add_zero]at e
 have sg:iB (⟨(List.range' 97 26).toArray⟩:Str)=(List.range' 97 26).map fun c=>.str ⟨#[c]⟩:=by simp[iB]
 simp only[dm,fV,Z4,Z5,ju,jc,aE,a8,pC,aZ,dQ,oa,Nat.reduceSub,List.replicate,Z9,Z8,PL.settle,frz,frzAll,Z0,Nat.reduceAdd,Nat.reduceLT,Z7,Z6,eD,cN,yi,sg,aV,aa,e,Z3,Z2,dk,cZ,du,bQ]
theorem u7(a b:Nat):Builtin.bitAnd (a:Int) (b:Int)=((a &&& b:Nat):Int):=by
 simp[Builtin.bitAnd]
theorem u8{E:List Sl}{f g:aD}{x y:Nat}(hf:f E=some (.sh (.int x),E))(hg:g E=some (.sh (.int y),E)):af ue false f g E=some (.sh (.int ((x &&& y:Nat):Int)),E):=by
 simp only[af,ue,eK,p9,hf,hg,Z0,look,Sl.val,Z1,u7,bQ]
theorem tD{E:List Sl}{f g:aD}{x y:Int}(hf:f E=some (.sh (.int x),E))(hg:g E=some (.sh (.int y),E)):cf (af fU false f g) E=some (decide (x=y),E):=by
 simp only[cf,af,fU,eK,hf,hg,Z0,look,Sl.val,Z1,i7,bQ]
def aX(n:Nat):PyData:=.int n
theorem wg(x1:Sl)(b:Nat):∀(ps:List Nat) (a:Sl),∃E,bM bq aW (ps.map aX) [.sh (.int b),x1,a]=some (E,if ps.any (fun p=>decide (p &&& b=p))then .rt (.sh (.bool true))else .nx)
 |[],a=>⟨_,rfl⟩
 |p::ps,a=>by
  have t1:cf (af fU false (af ue false (aa 2) (aa 0)) (aa 2)) [.sh (.int b),x1,.sh (.int p)]=some (decide (((p &&& b:Nat):Int)=(p:Int)),[.sh (.int b),x1,.sh (.int p)]):=tD (u8 (f:=aa 2) (g:=aa 0) (x:=p) (y:=b) rfl rfl) rfl
  have tg:bq (aX p) [.sh (.int b),x1,a]=some [.sh (.int b),x1,.sh (.int p)]:=rfl
  by_cases h:p &&& b=p
  ·rw[decide_eq_true (by rw[h])]at t1
   refine⟨[.sh (.int b),x1,.sh (.int p)],?_⟩
   have st:(bq (aX p) [.sh (.int b),x1,a]).bind aW=some ([.sh (.int b),x1,.sh (.int p)],.rt (.sh (.bool true))):=by
    rw[tg,Option.bind_some,aW]
    exact eW t1 rfl
   rw[dQ,bM,st,List.any_cons,decide_eq_true h]
   rfl
  ·rw[decide_eq_false (by omega)]at t1
   obtain⟨E,ih⟩:=wg x1 b ps (.sh (.int p))
   refine⟨E,?_⟩
   have st:(bq (aX p) [.sh (.int b),x1,a]).bind aW=some ([.sh (.int b),x1,.sh (.int p)],.nx):=by
    rw[tg,Option.bind_some,aW]
    exact c9 t1 rfl
   rw[dQ,bM,st,List.any_cons,decide_eq_false h,Bool.false_or]
   exact ih
theorem Dp(b:Nat)(ps:List Nat):aF [.int b,.list (ps.map aX)]=some (.sh (.bool (ps.any fun p=>decide (p &&& b=p)))):=by
 obtain⟨E,e⟩:=wg (.sh (.list (ps.map aX))) b ps .no
 cases h:ps.any (fun p=>decide (p &&& b=p))with
 |true=>
  rw[h]at e
  simp only[if_true]at e
  simp only[aF,fV,Z4,Z5,Nat.reduceAdd,ju,cw,aE,eD,cN,aa,aZ,dQ,oa,Nat.reduceSub,List.replicate,Z9,Z8,Z3,Z2,frz,Z0,e,aV,pC,dk,cZ,du,bQ]
 |false=>
  rw[h]at e
  simp only[bQ]at e
  simp only[aF,fV,Z4,Z5,Nat.reduceAdd,ju,cw,aE,eD,cN,aa,aZ,dQ,oa,Nat.reduceSub,List.replicate,Z9,Z8,Z3,Z2,frz,Z0,e,aV,pC,dk,cZ,du,bQ]
def aA(w:List Nat):PyData:=.str ⟨w.toArray⟩
abbrev nS(l:List Int):Sl:=.sh (.list (l.map .int))
abbrev xS(l:List (List Nat)):Sl:=.sh (.list (l.map aA))
abbrev uS(l:List Nat):Sl:=.sh (.list (l.map cj))
abbrev kS(l:List Nat):Sl:=.sh (.list (l.map aX))
abbrev xO(l:List (List Nat)):Sl:=.ow (l.map aA)
abbrev uO(l:List Nat):Sl:=.ow (l.map cj)
abbrev kO(l:List Nat):Sl:=.ow (l.map aX)
abbrev tS(w:List Nat):Sl:=.sh (aA w)
abbrev iS(z:Int):Sl:=.sh (.int z)
abbrev bS(b:Bool):Sl:=.sh (.bool b)
abbrev xL(l:List (List Nat)):PyData:=.list (l.map aA)
abbrev uL(l:List Nat):PyData:=.list (l.map cj)
theorem gi(l:List (List Nat)):bT (l.map aA)=true:=by
 induction l with
 |nil=>rfl
 |cons a l ih=>show(du (aA a)&&bT (l.map aA))=true;rw[ih];rfl
theorem AQ(u v:List Nat):(⟨u.toArray⟩:Str)++(⟨v.toArray⟩:Str)=⟨(u++v).toArray⟩:=by
 show(⟨u.toArray++v.toArray⟩:Str)=_
 simp
theorem g9(w:List Nat):(⟨w.toArray⟩:Str).length=w.length:=by show w.toArray.size=_;simp
open NhFam in
theorem wj(w:List Nat):NhSG.gL ⟨w.toArray⟩=key w:=by
 show(((⟨w.toArray⟩:Str).length:Int),w.toArray.toList)=((w.length:Int),w)
 rw[g9]
theorem nW:∀F:List (List Nat),jz (F.map aA)=some (F.map fun w=>(⟨w.toArray⟩:Str))
 |[]=>rfl
 |w::F=>by
  show(jz (F.map aA)).map ((⟨w.toArray⟩:Str):: ·)=_
  rw[nW F]
  rfl
theorem tE(F:List (List Nat)):NhSG.iK (F.map fun w=>(⟨w.toArray⟩:Str))=(NhFam.eR F).map fun w=>(⟨w.toArray⟩:Str):=by
 refine(NhSG.pB ((List.mergeSort_perm F _).map _) ?_).symm
 rw[List.pairwise_map]
 exact(NhFam.jb F).imp fun {a b} h=>by
  unfold NhSG.q9
  rw[wj,wj]
  have:NhSG.e8 (NhFam.key b) (NhFam.key a)=false:=by simpa[NhFam.iO]using h
  rw[this];rfl
theorem wk(F:List (List Nat)):(F.map fun w=>(⟨w.toArray⟩:Str)).map PyData.str=F.map aA:=by rw[List.map_map];rfl
def Fit(F:List (List Nat)):Prop:=F.length < 64∧∀w∈F,NH.x8 w∧w.length≤1000
theorem Fit.chk{F:List (List Nat)}(h:Fit F):(decide ((F.map fun w=>(⟨w.toArray⟩:Str)).length < 64)&&(F.map fun w=>(⟨w.toArray⟩:Str)).all fun z=>decide (z.length≤1000))=true:=by
 simp only[lQ,decide_eq_true_eq,Zbj,dY]
 refine⟨h.1,fun z hz=>?_⟩
 obtain⟨w,hw,rfl⟩:=Zau.mp hz
 rw[g9]
 exact(h.2 w hw).2
theorem oM{F:List (List Nat)}(h:Fit F):aS [xL F]=some (xO (NhFam.eR F)):=by
 have a:iL (aa 0) [xS F]=some (xO (NhFam.eR F),[xS F]):=by
  unfold iL
  simp only[aa,Z2,Z0,look,Sl.val,nW,h.chk,if_true,tE,wk]
 have fl:=gi (NhFam.eR F)
 simp only[aS,dS,fV,ju,aZ,aV,a,Z0,Z1,dk,cZ,fl,Z4,Z5,Nat.sub_self,List.replicate,dQ,oa,tR,Nat.reduceAdd,bQ]
def lY(w:List Nat):PyData:=aX (NH.eQ w)
theorem AR(K:List (List Nat)):K.map lY=(K.map NH.eQ).map aX:=by rw[List.map_map];rfl
theorem AS{K:List (List Nat)}(h:∀k∈K,NH.x8 k)(w:List Nat):(K.map NH.eQ).any (fun p=>decide (p &&& NH.eQ w=p))=K.any (fun k=>decide (NhFam.le k w)):=by
 induction K with
 |nil=>rfl
 |cons k K ih=>
  rw[dQ,List.any_cons,List.any_cons,ih fun k hk=>h k (fJ _ hk)]
  congr 1
  exact decide_eq_decide.mpr (NH.x9 (h k (gk ..)))
abbrev qE(x0:Sl)(K:List (List Nat))(w:List Nat):List Sl:=[x0,xO K,.ow (K.map lY),tS w,iS (NH.eQ w)]
theorem nX(x0:Sl):∀(S K:List (List Nat)) (a b:Sl),(∀w∈S,NH.x8 w)→(∀w∈K,NH.x8 w)→K.length+S.length≤2000→∃y a' b',bM cm bN (S.map aA) [x0,.ow (K.map aA),.ow (K.map lY),a,b]=some ([x0,.ow ((NhFam.gu K S).map aA),y,a',b'],.nx)
 |[],K,a,b,_,_,_=>⟨_,a,b,rfl⟩
 |w::S,K,a,b,hS,hK,hl=>by
  have tg:cm (aA w) [x0,.ow (K.map aA),.ow (K.map lY),a,b]=some [x0,.ow (K.map aA),.ow (K.map lY),.sh (aA w),b]:=rfl
  have c1:aw dm (ag false (aa 3) ao) [x0,.ow (K.map aA),.ow (K.map lY),.sh (aA w),b]=some (.sh (.int (NH.eQ w)),[x0,.ow (K.map aA),.ow (K.map lY),.sh (aA w),b]):=be (ss:=[.sh (aA w)]) rfl rfl (u5 w)
  have s1:a8 4 (aw dm (ag false (aa 3) ao)) [x0,.ow (K.map aA),.ow (K.map lY),.sh (aA w),b]=some ((qE x0 K w),.nx):=fI c1 (show 4 < 5 by decide)
  have pp:=Dp (NH.eQ w) (K.map NH.eQ)
  rw[←AR,AS hK w]at pp
  have c2:bL (aw aF (ag false (aa 4) (ag false (aa 2) ao))) (qE x0 K w)=some (K.any (fun k=>decide (NhFam.le k w)),(qE x0 K w)):=by
   have c3:aw aF (ag false (aa 4) (ag false (aa 2) ao)) (qE x0 K w)=some (.sh (.bool (K.any (fun k=>decide (NhFam.le k w)))),(qE x0 K w)):=be (ss:=[.sh (.int (NH.eQ w)),.al 2]) rfl rfl pp
   simp only[bL,c3,Z0,look,Sl.val,gE,Z1]
  by_cases h:K.any (fun k=>decide (NhFam.le k w))=true
  ·rw[h]at c2
   have st:(cm (aA w) [x0,.ow (K.map aA),.ow (K.map lY),a,b]).bind bN=some ((qE x0 K w),.nx):=by
    rw[tg,Option.bind_some,bN,aI s1]
    refine c9 ?_ rfl
    simp only[aJ,c2,Z1,Bool.not_true]
   obtain⟨y,a',b',e⟩:=nX x0 S K (.sh (aA w)) (.sh (.int (NH.eQ w))) (fun v hv=>hS v (fJ _ hv)) hK (by simp at hl;omega)
   refine⟨y,a',b',?_⟩
   rw[dQ,bM,st,NhFam.gu,if_pos h]
   exact e
  ·have h':K.any (fun k=>decide (NhFam.le k w))=false:=by simpa using h
   rw[h']at c2
   have b1:K.length < 1000000:=by simp at hl;omega
   have st:(cm (aA w) [x0,.ow (K.map aA),.ow (K.map lY),a,b]).bind bN=some ([x0,.ow ((K++[w]).map aA),.ow ((K++[w]).map lY),.sh (aA w),.sh (.int (NH.eQ w))],.nx):=by
    rw[tg,Option.bind_some,bN,aI s1]
    have n2:aJ (bL (aw aF (ag false (aa 4) (ag false (aa 2) ao)))) (qE x0 K w)=some (true,(qE x0 K w)):=by
     simp only[aJ,c2,Z1,Bool.not_false]
    refine eW n2 ?_
    have a1:iz (dR 2 (aa 4)) (qE x0 K w)=some ([x0,.ow (K.map aA),.ow ((K++[w]).map lY),.sh (aA w),.sh (.int (NH.eQ w))],.nx):=by
     simp only[iz,dR,Z3,Z2,aa,frz,Z0,dY,b1,Z7,Z6,if_true,Z1,tU,dQ,oa]
     rfl
    rw[aI a1]
    simp only[iz,dR,tU,dQ,oa,Z3,Z2,aa,frz,Z0,dY,b1,Z7,Z6,if_true,Z1]
   obtain⟨y,a',b',e⟩:=nX x0 S (K++[w]) (.sh (aA w)) (.sh (.int (NH.eQ w))) (fun v hv=>hS v (fJ _ hv)) (fun v hv=>by
    rcases Zao.mp hv with q |q
    ·exact hK v q
    ·rw[Zak.mp q];exact hS w (gk ..)) (by simp at hl ⊢;omega)
   refine⟨y,a',b',?_⟩
   rw[dQ,bM,st,NhFam.gu,if_neg h]
   exact e
theorem tF{F:List (List Nat)}(h:Fit F):cJ [xL F]=some (xO (NhFam.dJ F)):=by
 obtain⟨y,a,b,e⟩:=nX (xS F) (NhFam.eR F) [] .no .no (fun w hw=>(h.2 w (NhFam.sortT_mem.mp hw)).1) (fun w hw=>by cases hw) (by
  have:(NhFam.eR F).length=F.length:=(List.mergeSort_perm F _).length_eq
  have:=h.1
  simp;omega)
 have it:cN (aw aS (ag false (aa 0) ao)) [xS F,.ow [],.ow [],.no,.no]=some ((NhFam.eR F).map aA,[xS F,.ow [],.ow [],.no,.no]):=by
  have c:aw aS (ag false (aa 0) ao) [xS F,.ow [],.ow [],.no,.no]=some (xO (NhFam.eR F),[xS F,.ow [],.ow [],.no,.no]):=be (ss:=[xS F]) rfl rfl (oM h)
  unfold cN
  rw[c]
  rfl
 have fo:eD (cN (aw aS (ag false (aa 0) ao))) cm bN [xS F,.ow [],.ow [],.no,.no]=some ([xS F,xO (NhFam.dJ F),y,a,b],.nx):=by
  unfold eD
  rw[it,Option.bind_some]
  exact e
 have g:cJ [xL F]=(gh [xS F,.no,.no,.no,.no]).bind fun a=>match a.2 with |.rt r=>dk r |.nx=>some (.sh .none) |_=>none:=rfl
 have s1:a8 1 (bF bt) [xS F,.no,.no,.no,.no]=some ([xS F,.ow [],.no,.no,.no],.nx):=by simp only[a8,bF,bt,Z0,Z5,Nat.reduceLeDiff,PL.settle,frz,frzAll,Z4,Nat.reduceAdd,Nat.reduceLT,Z7,Z6,bQ]
 have s2:a8 2 (bF bt) [xS F,.ow [],.no,.no,.no]=some ([xS F,.ow [],.ow [],.no,.no],.nx):=by simp only[a8,bF,bt,Z0,Z5,Nat.reduceLeDiff,PL.settle,frz,frzAll,Z4,Nat.reduceAdd,Nat.reduceLT,Z7,Z6,bQ]
 have fl:=gi (NhFam.dJ F)
 rw[g,gh,aI s1,aI s2,aI fo]
 simp only[aV,aa,Z3,Z2,Z0,Z7,Z6,Z1,dk,cZ,fl,if_true]
def FT(w:List Nat):Str:=⟨w.toArray⟩
theorem lr(w:List Nat):NhFam.Srt (cL w):=List.Pairwise.sublist List.filter_sublist (List.pairwise_lt_range' ..)
theorem AT{w:List Nat}(h:NhFam.Srt w)(a:∀y∈w,az y):cL w=w:=
 (lr w).ext h (fun x hx=>(inOrd_mem.mp hx).2) fun x hx=>inOrd_mem.mpr ⟨g7 (a x hx),hx⟩
theorem pK:∀F:List (List Nat),fH (F.map aA)=some (F.map FT)
 |[]=>rfl
 |w::F=>by
  show(fH (F.map aA)).map (FT w:: ·)=_
  rw[pK F]
  rfl
theorem kF{js:List (Option Nat)}{it:ij}{tg:fZ}{c:ig}{el:aD}{E E1:List Sl}{ds rs:List PyData}(hi:it E=some (ds,E1))(hl:dN tg c el ds (jN js E1)=some rs)(fl:bT rs=true)(ll:rs.length≤1000000):c7 js it tg c el E=some (.ow rs,E1):=by
 simp only[c7,hi,Z0,hl,fl,ll,and_self,Z1,Bool.and_self,bQ]
theorem nY(l:List Nat):bT (l.map aX)=true:=by
 induction l with
 |nil=>rfl
 |cons a l ih=>show(du (aX a)&&bT (l.map aX))=true;rw[ih];rfl
theorem D1{tg:fZ}{cond:ig}{elt:aD}{d r:PyData}{ds rs:List PyData}{E E1:List Sl}{b:Bool}(t:tg d E=some E1)(c:cond E1=some (b,E1))(el:elt E1=some (.sh r,E1))(h:dN tg cond elt ds E1=some rs):dN tg cond elt (d::ds) E=some (if b then r::rs else rs):=by
 cases b with
 |true=>simp only[dN,t,c,el,h,Z0,Z1,if_true,frz]
 |false=>simp only[dN,t,c,h,Z0,bQ]
theorem u9{f:aD}{E E1:List Sl}{ds:List PyData}{i:Nat}(h:f E=some (.ow ds,E1))(hi:i < E1.length):a8 i f E=some (E1.set i (.ow ds),.nx):=by
 simp only[a8,h,Z0,PL.settle,Sl.isAl,hi,Z1,bQ]
theorem D2{f g:aD}{E:List Sl}{s1 s2:Sl}(hf:f E=some (s1,E))(hg:g E=some (s2,E)):ag false f (ag false g ao) E=some ([s1,s2],E):=by
 simp only[ag,ao,hf,hg,Z0,Z1,bQ]
theorem gj{E:List Sl}{f g:aD}{x y:Int}(hf:f E=some (iS x,E))(hg:g E=some (iS y,E))(h:0 < y):af dw false f g E=some (iS (x % y),E):=by
 simp only[af,hf,hg,Z0,dw,eK,p9,look,Sl.val,h,Z1,bQ]
theorem gD{E:List Sl}{f g:aD}{x y:Int}(hf:f E=some (iS x,E))(hg:g E=some (iS y,E))(h:mD y=true):af df false f g E=some (iS (x / y),E):=by
 simp only[af,hf,hg,Z0,df,eK,p9,look,Sl.val,h,Z1,bQ]
theorem FU{E:List Sl}{f g:aD}{x y:Int}(hf:f E=some (iS x,E))(hg:g E=some (iS y,E)):af t7 false f g E=some (iS (x - y),E):=by
 simp only[af,hf,hg,Z0,t7,eK,p9,look,Sl.val,Z1,bQ]
theorem HS{f:aD}{E:List Sl}{s1:Sl}(hf:f E=some (s1,E)):ag false f ao E=some ([s1],E):=by
 simp only[ag,ao,hf,Z0,Z1,bQ]
structure Uni (U:List Nat):Prop where
 srt:NhFam.Srt U
 lt:∀a∈U,az a
 len:U.length≤26
theorem Uni.ltrs{U w:List Nat}(h:Uni U)(s:NhFam.Sub U w):NH.x8 w:=fun a ha=>by
 have:=h.lt a (s.2 a ha)
 exact⟨this.1,this.2⟩
theorem Uni.azw{U w:List Nat}(h:Uni U)(s:NhFam.Sub U w):∀a∈w,az a:=fun a ha=>h.lt a (s.2 a ha)
theorem Uni.short{U w:List Nat}(h:Uni U)(s:NhFam.Sub U w):w.length≤26:=kK (NhFam.d_ s.1 h.srt s.2).length_le h.len
structure Wrt (U:List Nat) (W:List (List Nat)):Prop where
 sub:∀t∈W,NhFam.le t U
 tl:∀t∈W,t.length≤100
 len:W.length≤60
def eY(W:List (List Nat)):List (List Nat):=W.map cL
theorem Dq{U t:List Nat}(u:Uni U)(h:NhFam.le t U):NhFam.Sub U (cL t):=⟨lr t,fun x hx=>h x (inOrd_mem.mp hx).2⟩
theorem Wrt.sets{U:List Nat}{W:List (List Nat)}(u:Uni U)(h:Wrt U W):∀v∈eY W,NhFam.Sub U v:=fun v hv=>by
 obtain⟨t,ht,rfl⟩:=Zau.mp hv
 exact Dq u (h.sub t ht)
theorem FV{U:List Nat}{F:List (List Nat)}(u:Uni U)(h:∀v∈F,NhFam.Sub U v)(hl:F.length < 64):Fit F:=⟨hl,fun w hw=>⟨u.ltrs (h w hw),by have:=u.short (h w hw);omega⟩⟩
theorem jG{U:List Nat}(u:Uni U):∀(W:List (List Nat)) (x:Sl),(∀t∈W,NhFam.le t U)→(∀t∈W,t.length≤100)→dN b9 d0 b_ (W.map aA) [x]=some ((eY W).map aA)
 |[],x,_,_=>rfl
 |v::W,x,h,hl=>by
  have t:b9 (aA v) [x]=some [tS v]:=rfl
  have so:=lq (w:=v) (fun y hy=>u.lt y (h v (gk ..) y hy)) (by have:=hl v (gk ..);omega)
  have e:b_ [tS v]=some (tS (cL v),[tS v]):=be (ss:=[tS v]) rfl rfl so
  exact me t e (jG u W _ (fun v hv=>h v (fJ _ hv)) fun v hv=>hl v (fJ _ hv))
theorem oN{U:List Nat}{W:List (List Nat)}(u:Uni U)(h:Wrt U W):bO [xL W]=some (xO (NhFam.dJ (eY W))):=by
 have ls:(eY W).length=W.length:=by unfold eY;rw[dY]
 have hl:=h.len
 have c:c7 [none] (cN (aa 0)) b9 d0 b_ [xS W]=some (xO (eY W),[xS W]):=kF rfl (jG u W _ h.sub h.tl) (gi _) (by rw[dY];omega)
 have b:aw cJ (ag false (c7 [none] (cN (aa 0)) b9 d0 b_) ao) [xS W]=some (xO (NhFam.dJ (eY W)),[xS W]):=be (ss:=[xO (eY W)]) (by simp only[ag,ao,c,Z0,Z1,bQ]) rfl (tF (FV u (h.sets u) (by omega)))
 have fl:=gi (NhFam.dJ (eY W))
 simp only[bO,fN,fV,ju,aZ,aV,b,Z0,Z1,dk,cZ,fl,Z4,Z5,Nat.sub_self,List.replicate,dQ,oa,tR,Nat.reduceAdd,bQ]
theorem u_{w:List Nat}(h:∀a∈w,az a):(aA w).canLay0=true:=by
 have:∀a∈w,a < 1114112:=fun a ha=>by have:=h a ha;unfold az at this;omega
 simp only[aA,PyData.canLay0,PyData.strOk]
 simpa using this
theorem qK:∀{L:List (List Nat)},(∀w∈L,∀a∈w,az a)→PyData.canLayAll0 (L.map aA)=true∧PyData.depthAll (L.map aA)=0
 |[],_=>by simp[PyData.canLayAll0,PyData.depthAll]
 |w::L,h=>by
  obtain⟨x,y⟩:=qK (L:=L) fun v hv=>h v (fJ _ hv)
  have h1:=u_ (h w (gk ..))
  have h2:(aA w).depth=0:=by simp[aA,PyData.depth]
  simp only[dQ,PyData.canLayAll0,PyData.depthAll,h1,h2,x,y,Bool.and_self,true_and]
  rfl
theorem jk{L:List (List Nat)}(h:∀w∈L,∀a∈w,az a):SeqAt.shaped (xL L)=true:=by
 obtain⟨x,y⟩:=qK h
 unfold SeqAt.shaped
 simp only[PyData.canLay0,PyData.depth,x,y,Bool.true_and]
 decide
theorem FW(cell:Int)(many:Nat)(hm:many≤26):∃w:List Nat,ci [.int cell,.int many]=some (uO w)∧w.length=many∧(∀a∈w,az a)∧w.Nodup:=by
 have m0:=Int.emod_nonneg (cell / 26) (show(12:Int)≠0 by decide)
 have m1:=Int.emod_lt_of_pos (cell / 26) (show(0:Int) < 12 by decide)
 obtain⟨i,hi⟩:∃i:Nat,cell / 26 % 12=i:=⟨(cell / 26 % 12).toNat,by omega⟩
 obtain⟨v,ev,v0,v1,v2⟩:=AN i (by omega)
 have e:=pI cell v v0 v1 many 0 .no
 simp only[Int.natCast_zero]at e
 refine⟨(List.range' 0 many).map (jX cell v),yd cell many v i many _ (by decide) hi (by rw[iA,ev]) (by omega) (by omega) (by simp) e (nR _) (by simp;omega),by simp,fun a ha=>?_,?_⟩
 ·obtain⟨k,_,rfl⟩:=Zau.mp ha
  exact ye cell v k
 ·rw[List.Nodup,List.pairwise_map]
  refine List.Pairwise.imp_of_mem ?_ (List.pairwise_lt_range' (s:=0) (n:=many))
  intro a b ha hb hab
  exact u4 v2 hab (by have:=List.mem_range'_1.mp hb;omega)
theorem yj{w:List Nat}(n:w.Nodup)(a:∀y∈w,az y):hJ (w.map dD)=(cL w).map dD:=by
 refine(List.Perm.eq_of_pairwise (fun _ _ _ _ h k=>mM h k) (kE w) (List.pairwise_mergeSort i6 kX _) ?_).symm
 refine List.Perm.trans ?_ (List.mergeSort_perm _ _).symm
 refine g8 (jY (iU w)) (jY n) fun y=>?_
 constructor
 ·intro h
  obtain⟨a,ha,rfl⟩:=Zau.mp h
  exact Zau.mpr ⟨a,(inOrd_mem.mp ha).2,rfl⟩
 ·intro h
  obtain⟨b,hb,rfl⟩:=Zau.mp h
  exact Zau.mpr ⟨b,inOrd_mem.mpr ⟨g7 (a b hb),hb⟩,rfl⟩
theorem tH{w:List Nat}(n:w.Nodup)(a:∀y∈w,az y):(cL w).length=w.length:=
 (g8 (iU w) n fun y=>⟨fun h=>(inOrd_mem.mp h).2,fun h=>inOrd_mem.mpr ⟨g7 (a y h),h⟩⟩).length_eq
def Gx(U:List Nat)(m lo:Nat):List Nat→List Nat
 |[]=>[]
 |x::r=>if (m >>> lo) % 2=1 then x::Gx U m (lo+1) r else Gx U m (lo+1) r
theorem tI(U:List Nat)(m:Nat):∀(r:List Nat) (lo:Nat),Gx U m lo r=NhFam.b8 r (m >>> lo)
 |[],_=>rfl
 |x::r,lo=>by
  rw[Gx,NhFam.b8,tI U m r (lo+1),Nat.shiftRight_succ]
theorem FX{E:List Sl}{f g:aD}{x y:Nat}(hf:f E=some (iS x,E))(hg:g E=some (iS y,E)):af zH false f g E=some (iS ((x >>> y:Nat):Int),E):=by
 have e:(x:Int) / 2 ^ y=((x >>> y:Nat):Int):=by
  rw[Nat.shiftRight_eq_div_pow]
  push_cast
  rfl
 have h0:(0:Int)≤(y:Int):=Int.natCast_nonneg _
 simp only[af,hf,hg,Z0,zH,eK,p9,look,Sl.val,h0,Z1,wN,e,bQ]
theorem FY{E:List Sl}{f:aD}{z:Int}{c:Nat}(hf:f E=some (iS z,E))(h1:z=(c:Int))(h2:c≤1000):eO (ag false f ao) E=some (j8 0 c,E):=by
 have o1:(-1000000:Int)≤z:=by omega
 have o2:z≤1000000:=by omega
 have t:z.toNat=c:=by omega
 simp only[eO,ag,ao,hf,Z0,Z1,bB,look,Sl.val,o1,o2,and_self,t,bQ]
theorem yk{E:List Sl}{f:aD}{w:List Nat}(hf:f E=some (uO w,E))(hl:w.length < 64)(n:w.Nodup)(a:∀y∈w,az y):l9 f E=some (uO (cL w),E):=by
 have l:(w.map dD).length < 64:=by rw[dY];exact hl
 have m:((cL w).map dD).map PyData.str=(cL w).map cj:=by rw[List.map_map];rfl
 simp only[l9,hf,Z0,look,Sl.val,tB,l,if_true,yj n a,m]
theorem AU(U:List Nat)(m lo x:Nat)(h:U[lo]? =some x):cR [iS lo,uS U,iS m]=some (.sh (cj x),[iS lo,uS U,iS m]):=by
 have a:atI (U.map cj) (lo:Int)=some (cj x):=by rw[iA,q_,h];rfl
 simp only[cR,af,aa,Z3,Z2,Sl.isBr,l5,look,Sl.val,jr,j4,Z0,a,cj,Z1,bQ]
theorem AV(U:List Nat)(m lo:Nat)(y:Sl):cS [iS lo,y,iS m]=some (decide ((m >>> lo) % 2=1),[iS lo,y,iS m]):=by
 have a:=FX (E:=[iS lo,y,iS m]) (f:=aa 2) (g:=aa 0) (x:=m) (y:=lo) rfl rfl
 have b:=u8 (f:=af zH false (aa 2) (aa 0)) (g:=pC (.int 1)) (x:=m >>> lo) (y:=1) a rfl
 have e:=tD b (show pC (.int 1) [iS lo,y,iS m]=some (iS 1,[iS lo,y,iS m])from rfl)
 unfold cS
 rw[e,Nat.and_one_is_mod]
 congr 2
 exact decide_eq_decide.mpr (by omega)
theorem AW(U:List Nat)(m:Nat):∀(r:List Nat) (lo:Nat) (x:Sl),(∀i,r[i]? =U[lo+i]?)→dN dB cS cR (j8 lo r.length) [x,uS U,iS m]=some ((Gx U m lo r).map cj)
 |[],lo,x,_=>rfl
 |y::r,lo,x,h=>by
  have h0:U[lo]? =some y:=by have:=h 0;simpa using this.symm
  have ih:=AW U m r (lo+1) (iS lo) (fun i=>by have:=h (i+1);rw[List.getElem?_cons_succ]at this;rw[this];congr 1;omega)
  have t:dB (.int lo) [x,uS U,iS m]=some [iS lo,uS U,iS m]:=rfl
  rw[show((lo+1:Nat):Int)=(lo:Int)+1 by omega]at ih
  rw[List.length_cons,kU,D1 t (AV U m lo _) (AU U m lo y h0) ih,Gx]
  by_cases q:(m >>> lo) % 2=1
  ·simp only[q,dQ,bQ]
  ·simp only[q,bQ]
theorem vd(U:List Nat)(m:Nat)(hl:U.length≤1000):fe [.int m,.list (U.map cj)]=some (.sh (aA (NhFam.b8 U m))):=by
 have e:=AW U m U 0 .no (fun i=>by rw[Nat.zero_add])
 rw[tI,Nat.shiftRight_zero]at e
 have o1:(-1000000:Int)≤(U.length:Int):=by omega
 have o2:(U.length:Int)≤1000000:=by omega
 have lb:U.length≤1000000:=by omega
 have it:eO (ag false (bG cu (ag false (aa 1) ao)) ao) [.sh (.int m),.sh (.list (U.map cj))]=some (j8 0 U.length,[.sh (.int m),.sh (.list (U.map cj))]):=by
  simp only[eO,ag,bG,aa,Z3,Z2,Sl.isBr,ao,Z1,Z0,cu,bB,look,Sl.val,dY,o1,o2,and_self,wN,bQ]
 have ll:(NhFam.b8 U m).length≤1000000:=kK (NhFam.gM U m).length_le lb
 have p:c7 [none,some 1,some 0] (eO (ag false (bG cu (ag false (aa 1) ao)) ao)) dB cS cR [.sh (.int m),.sh (.list (U.map cj))]=some (.ow ((NhFam.b8 U m).map cj),[.sh (.int m),.sh (.list (U.map cj))]):=kF it e (nR _) (by rw[dY];exact ll)
 have l:=qJ (NhFam.b8 U m)
 have j:=nV (NhFam.b8 U m)
 have a:fK "" (c7 [none,some 1,some 0] (eO (ag false (bG cu (ag false (aa 1) ao)) ao)) dB cS cR) [.sh (.int m),.sh (.list (U.map cj))]=some (.sh (.str ⟨(NhFam.b8 U m).toArray⟩),[.sh (.int m),.sh (.list (U.map cj))]):=by
  simp only[fK,fM,ph,p,Z0,look,Sl.val,lM,l,ll,if_true,Z1,j]
 have fx:du (PyData.str ⟨(NhFam.b8 U m).toArray⟩)=true:=rfl
 simp only[fe,jd,fV,ju,aZ,aV,a,Z0,Z1,dk,cZ,fx,Z4,Z5,Nat.sub_self,List.replicate,dQ,oa,tR,Nat.reduceAdd,aA,bQ]
theorem tJ{U:List Nat}(hl:U.length≤1000):∀(D:List Nat) (x:Sl),dN cC d0 cD (D.map aX) [x,uS U]=some ((D.map (NhFam.b8 U)).map aA)
 |[],x=>rfl
 |m::D,x=>by
  have t:cC (aX m) [x,uS U]=some [iS m,uS U]:=rfl
  have e:cD [iS m,uS U]=some (tS (NhFam.b8 U m),[iS m,uS U]):=be (ss:=[iS m,uS U]) rfl rfl (vd U m hl)
  exact me t e (tJ hl D _)
theorem qL{U:List Nat}(u:Uni U)(D:List Nat)(hD:D.length < 60):cU [.list (D.map aX),uL U]=some (xO (NhFam.eR (D.map (NhFam.b8 U)))):=by
 have hl:U.length≤1000:=by have:=u.len;omega
 have p:c7 [none,some 1] (cN (aa 0)) cC d0 cD [kS D,uS U]=some (xO (D.map (NhFam.b8 U)),[kS D,uS U]):=kF rfl (tJ hl D _) (gi _) (by simp;omega)
 have fit:Fit (D.map (NhFam.b8 U)):=⟨by rw[dY];omega,fun w hw=>by
  obtain⟨m,_,rfl⟩:=Zau.mp hw
  have s:=NhFam.nu u.srt m
  exact⟨u.ltrs s,by have:=u.short s;omega⟩⟩
 have a:iL (c7 [none,some 1] (cN (aa 0)) cC d0 cD) [kS D,uS U]=some (xO (NhFam.eR (D.map (NhFam.b8 U))),[kS D,uS U]):=by
  unfold iL
  simp only[p,Z0,look,Sl.val,nW,fit.chk,if_true,tE,wk]
 have fl:=gi (NhFam.eR (D.map (NhFam.b8 U)))
 simp only[cU,gw,fV,ju,aZ,aV,a,Z0,Z1,dk,cZ,fl,Z4,Z5,Nat.sub_self,List.replicate,dQ,oa,tR,Nat.reduceAdd,bQ]
theorem tK:∀l:List Nat,jO (l.map aX)=some (l.map fun n:Nat=>(n:Int))
 |[]=>rfl
 |a::l=>by
  show(jO (l.map aX)).map ((a:Int):: ·)=_
  rw[tK l]
  rfl
theorem qM(l:List Nat)(m:Nat):(l.map fun n:Nat=>(n:Int)).contains (m:Int)=decide (m∈l):=by
 rw[Bool.eq_iff_iff]
 simp only[List.contains_eq_mem,decide_eq_true_eq,Zau]
 constructor
 ·rintro⟨a,ha,e⟩
  have:a=m:=by omega
  rw[←this]
  exact ha
 ·intro h
  exact⟨m,h,rfl⟩
theorem FZ{E:List Sl}{m:Nat}{K:List Nat}{i:Nat}(f:aD)(hf:f E=some (iS m,E))(hi:E[i]? =some (kO K)):cf (af (r8 true) false f (aa i)) E=some (!decide (m∈K),E):=by
 have d:Cw (.int m) (.list (K.map aX))=some (decide (m∈K)):=by
  show(jO (K.map aX)).map _=_
  rw[tK,Option.map_some,qM]
 have e:look E (.al i)=some (.list (K.map aX)):=by simp only[look,hi,Z0,Sl.val]
 have e0:look E (iS m)=some (.int m):=rfl
 simp only[cf,af,r8,eK,hf,aa,hi,Z0,e,e0,d,Z1,bQ]
theorem wl:∀l:List Nat,PyData.canLayAll0 (l.map aX)=true∧PyData.depthAll (l.map aX)=0
 |[]=>by simp[PyData.canLayAll0,PyData.depthAll]
 |a::l=>by
  obtain⟨x,y⟩:=wl l
  have h1:(aX a).canLay0=true:=by simp[aX,PyData.canLay0]
  have h2:(aX a).depth=0:=by simp[aX,PyData.depth]
  simp only[dQ,PyData.canLayAll0,PyData.depthAll,h1,h2,x,y,Bool.and_self,true_and]
  rfl
theorem nZ(l:List Nat):SeqAt.shaped (.list (l.map aX))=true:=by
 obtain⟨x,y⟩:=wl l
 unfold SeqAt.shaped
 simp only[PyData.canLay0,PyData.depth,x,y,Bool.true_and]
 decide
theorem tL(l:List Nat):vN (.list (l.map aX)) (.list [])=some (decide (l=[])):=by
 have e:vN (.list (l.map aX)) (.list [])=(if SeqAt.shaped (.list (l.map aX))&&SeqAt.shaped (.list [])then some (PyData.eqv (.list (l.map aX)) (.list []))else none):=rfl
 rw[e,nZ,show SeqAt.shaped (.list [])=true from nZ []]
 cases l with
 |nil=>rfl
 |cons a l=>simp[PyData.eqv,PyData.eqvAll]
def aU(M:List Nat)(m:Nat):List Nat:=M.filter fun k=>decide (k &&& m=k)&& !decide (k=m)
theorem ve(k m:Nat):bU [iS k,iS m]=some (decide (k &&& m=k)&& !decide (k=m),[iS k,iS m]):=by
 have b:=u8 (E:=[iS k,iS m]) (f:=aa 0) (g:=aa 1) (x:=k) (y:=m) rfl rfl
 have e:=tD b (show aa 0 [iS k,iS m]=some (iS k,[iS k,iS m])from rfl)
 have n:cf (af yE false (aa 0) (aa 1)) [iS k,iS m]=some (!decide (k=m),[iS k,iS m]):=by
  have:=FR (E:=[iS k,iS m]) (g:=aa 0) (f:=aa 1) (x:=k) (y:=m) rfl rfl
  simp only[cf,this,Z0]
  congr 2
  exact congrArg not (decide_eq_decide.mpr (by omega))
 unfold bU
 have e':decide (((k &&& m:Nat):Int)=(k:Int))=decide (k &&& m=k):=decide_eq_decide.mpr (by omega)
 rw[e']at e
 cases h:decide (k &&& m=k)with
 |true=>rw[h]at e;simp only[lA,e,Z0,n,bQ]
 |false=>rw[h]at e;simp only[lA,e,Z0,bQ]
theorem n5(m:Nat):∀(M:List Nat) (x:Sl),dN cA bU cB (M.map aX) [x,iS m]=some ((aU M m).map aX)
 |[],x=>rfl
 |k::M,x=>by
  have t:cA (aX k) [x,iS m]=some [iS k,iS m]:=rfl
  have el:cB [iS k,iS m]=some (.sh (aX k),[iS k,iS m]):=rfl
  rw[dQ,D1 t (ve k m) el (n5 m M _)]
  have e:aU (k::M) m=if decide (k &&& m=k)&& !decide (k=m)then k::aU M m else aU M m:=by
   unfold aU
   rw[List.filter_cons]
  rw[e]
  cases decide (k &&& m=k)&& !decide (k=m) <;> rfl
def oO(M K:List Nat):List Nat→List Nat
 |[]=>K
 |m::r=>if aU M m=[]∧m∉K then oO M (K++[m]) r else oO M K r
theorem kG(M:List Nat):∀(r K:List Nat),K.Nodup→(oO M K r).Nodup∧∀m,m∈oO M K r↔m∈K∨(m∈r∧aU M m=[])
 |[],K,h=>⟨h,fun m=>by simp[oO]⟩
 |x::r,K,h=>by
  by_cases c:aU M x=[]∧x∉K
  ·rw[oO,if_pos c]
   obtain⟨a,b⟩:=kG M r (K++[x]) (by
    refine Zbc.mpr ⟨h,by simp,fun p hp q hq e=>?_⟩
    rw[Zak.mp hq]at e
    subst e
    exact c.2 hp)
   refine⟨a,fun m=>(b m).trans ?_⟩
   constructor
   ·rintro(q |q)
    ·rcases Zao.mp q with z |z
     ·exact .inl z
     ·rw[Zak.mp z];exact .inr ⟨by simp,c.1⟩
    ·exact .inr ⟨fJ _ q.1,q.2⟩
   ·rintro(q |⟨q,s⟩)
    ·exact .inl (by simp[q])
    ·rcases Zaf.mp q with z |z
     ·exact .inl (by simp[z])
     ·exact .inr ⟨z,s⟩
  ·rw[oO,if_neg c]
   obtain⟨a,b⟩:=kG M r K h
   refine⟨a,fun m=>(b m).trans ?_⟩
   constructor
   ·rintro(q |q)
    ·exact .inl q
    ·exact .inr ⟨fJ _ q.1,q.2⟩
   ·rintro(q |⟨q,s⟩)
    ·exact .inl q
    ·rcases Zaf.mp q with z |z
     ·subst z
      exact .inl (Classical.byContradiction fun n=>c ⟨s,n⟩)
     ·exact .inr ⟨z,s⟩
theorem ym(M:List Nat):NhFam.LeastM M (oO M [] M):=by
 obtain⟨a,b⟩:=kG M M [] List.nodup_nil
 refine⟨a,fun m=>(b m).trans ?_⟩
 have:aU M m=[]↔∀k∈M,k &&& m=k→k=m:=by
  unfold aU
  rw[List.filter_eq_nil_iff]
  constructor
  ·intro h k hk e
   have:=h k hk
   simpa[e]using this
  ·intro h k hk
   simp only[lQ,decide_eq_true_eq,Bool.not_eq_true',decide_eq_false_iff_not,not_and,Classical.not_not]
   exact h k hk
 rw[this]
 simp
abbrev sE(M K:List Nat)(a b:Sl):List Sl:=[kS M,kO K,a,b]
theorem g_(M:List Nat)(hM:M.length≤1000):∀(r K:List Nat) (a b:Sl),K.length+r.length≤1000→∃a' b',bM bV bH (r.map aX) (sE M K a b)=some ([.sh (.list (M.map aX)),.ow ((oO M K r).map aX),a',b'],.nx)
 |[],K,a,b,_=>⟨a,b,rfl⟩
 |m::r,K,a,b,hl=>by
  have tg:bV (aX m) (sE M K a b)=some (sE M K (.sh (.int m)) b):=rfl
  have sl:(aU M m).length≤1000000:=kK (List.length_filter_le _ _) (by omega)
  have p1:c7 [none,some 2] (cN (aa 0)) cA bU cB (sE M K (.sh (.int m)) b)=some (.ow ((aU M m).map aX),(sE M K (.sh (.int m)) b)):=kF rfl (n5 m M _) (nY _) (by rw[dY];exact sl)
  have s1:a8 3 (c7 [none,some 2] (cN (aa 0)) cA bU cB) (sE M K (.sh (.int m)) b)=some ((sE M K (.sh (.int m)) (.ow ((aU M m).map aX))),.nx):=u9 p1 (show 3 < 4 by decide)
  have dn:=tL (aU M m)
  have e1:cf (af fU false (aa 3) (bF bt)) (sE M K (.sh (.int m)) (.ow ((aU M m).map aX)))=some (decide (aU M m=[]),(sE M K (.sh (.int m)) (.ow ((aU M m).map aX)))):=by
   simp only[cf,af,aa,Z3,Z2,Sl.isBr,bF,bt,Z0,Z5,Nat.reduceLeDiff,fU,eK,look,Sl.val,dn,Z1,bQ]
  have e2:=FZ (E:=(sE M K (.sh (.int m)) (.ow ((aU M m).map aX)))) (m:=m) (K:=K) (i:=1) (aa 2) rfl rfl
  have lb:K.length < 1000000:=by simp at hl;omega
  have cond:lA (cf (af fU false (aa 3) (bF bt))) (cf (af (r8 true) false (aa 2) (aa 1))) (sE M K (.sh (.int m)) (.ow ((aU M m).map aX)))=some (decide (aU M m=[]∧m∉K),(sE M K (.sh (.int m)) (.ow ((aU M m).map aX)))):=by
   by_cases h:aU M m=[]
   ·rw[decide_eq_true h]at e1
    simp only[lA,e1,Z0,if_true,e2]
    congr 2
    rw[←decide_not]
    exact decide_eq_decide.mpr (by simp[h])
   ·rw[decide_eq_false h]at e1
    simp only[lA,e1,Z0,bQ]
    congr 2
    exact(decide_eq_false (fun z=>h z.1)).symm
  by_cases h:aU M m=[]∧m∉K
  ·rw[decide_eq_true h]at cond
   have st:(bV (aX m) (sE M K a b)).bind bH=some ([.sh (.list (M.map aX)),.ow ((K++[m]).map aX),.sh (.int m),.ow ((aU M m).map aX)],.nx):=by
    rw[tg,Option.bind_some,bH,aI s1]
    refine eW cond ?_
    simp only[iz,dR,Z3,Z2,aa,frz,Z0,dY,lb,Z7,Z6,if_true,Z1,tU,dQ,oa]
    rfl
   obtain⟨a',b',e⟩:=g_ M hM r (K++[m]) (.sh (.int m)) (.ow ((aU M m).map aX)) (by simp at hl ⊢;omega)
   refine⟨a',b',?_⟩
   rw[dQ,bM,st,oO,if_pos h]
   exact e
  ·rw[decide_eq_false h]at cond
   have st:(bV (aX m) (sE M K a b)).bind bH=some ((sE M K (.sh (.int m)) (.ow ((aU M m).map aX))),.nx):=by
    rw[tg,Option.bind_some,bH,aI s1]
    exact c9 cond rfl
   obtain⟨a',b',e⟩:=g_ M hM r K (.sh (.int m)) (.ow ((aU M m).map aX)) (by simp at hl ⊢;omega)
   refine⟨a',b',?_⟩
   rw[dQ,bM,st,oO,if_neg h]
   exact e
theorem qN(M:List Nat)(hM:M.length≤1000):cT [.list (M.map aX)]=some (kO (oO M [] M)):=by
 obtain⟨a,b,e⟩:=g_ M hM M [] .no .no (by simpa using hM)
 have s1:a8 1 (bF bt) [kS M,.no,.no,.no]=some ([kS M,.ow [],.no,.no],.nx):=by simp only[a8,bF,bt,Z0,Z5,Nat.reduceLeDiff,PL.settle,frz,frzAll,Z4,Nat.reduceAdd,Nat.reduceLT,Z7,Z6,bQ]
 have fo:eD (cN (aa 0)) bV bH [kS M,.ow [],.no,.no]=some ([kS M,kO (oO M [] M),a,b],.nx):=by
  unfold eD
  exact e
 have g:cT [.list (M.map aX)]=(fB [kS M,.no,.no,.no]).bind fun a=>match a.2 with |.rt r=>dk r |.nx=>some (.sh .none) |_=>none:=rfl
 have fl:=nY (oO M [] M)
 rw[g,fB,aI s1,aI fo]
 simp only[aV,aa,Z3,Z2,Z0,Z7,Z6,Z1,dk,cZ,fl,if_true]
theorem F8{E:List Sl}{f g:aD}{y:Nat}(hf:f E=some (iS 1,E))(hg:g E=some (iS y,E))(h:y≤1000):af ud false f g E=some (iS ((2 ^ y:Nat):Int),E):=by
 have c:(0:Int)≤(y:Int)∧(y:Int)≤1000000∧ -(2 ^ 64) < (1:Int)∧(1:Int) < 2 ^ 64:=⟨by omega,by omega,by decide,by decide⟩
 have e:(1:Int)*2 ^ y=((2 ^ y:Nat):Int):=by push_cast;omega
 simp only[af,hf,hg,Z0,ud,eK,p9,look,Sl.val,c,and_self,Z1,wN,e,bQ]
theorem yn{E:List Sl}{c:Int}{i:Nat}(h:E[i]? =some (iS c)):∃b,aJ (cf (eL (fG .lt) (fG .lt) false false (fM xb (af rF false (pC (.int 10)) (pC (.int 18)))) (aa i) (af rF false (pC (.int 10)) (pC (.int 18))))) E=some (b,E):=by
 have v:aa i E=some (iS c,E):=by simp only[aa,h]
 have p:af rF false (pC (.int 10)) (pC (.int 18)) E=some (iS 1000000000000000000,E):=by
  simp only[af,pC,Z0,rF,eK,p9,look,Sl.val,Z1,bQ]
  rfl
 have n:fM xb (af rF false (pC (.int 10)) (pC (.int 18))) E=some (iS (-1000000000000000000),E):=by
  simp only[fM,p,Z0,look,Sl.val,xb,Z1]
 by_cases h1:(-1000000000000000000:Int) < c
 ·by_cases h2:c < 1000000000000000000
  ·exact⟨false,by simp only[aJ,cf,eL,n,v,p,Z0,look,Sl.val,fG,Cm.i,h1,h2,Z1,Bool.or_self,Sl.isBr,bQ]⟩
  ·exact⟨true,by simp only[aJ,cf,eL,n,v,p,Z0,look,Sl.val,fG,Cm.i,h1,h2,Z1,Bool.or_self,Sl.isBr,bQ]⟩
 ·exact⟨true,by simp only[aJ,cf,eL,n,v,p,Z0,look,Sl.val,fG,Cm.i,h1,Z1,Bool.or_self,Sl.isBr,bQ]⟩
theorem AY{E:List Sl}{n:Nat}{i:Nat}(h:E[i]? =some (iS n))(hn:1≤n)(hn2:n≤100):af t7 false (af ud false (pC (.int 1)) (aa i)) (pC (.int 1)) E=some (iS ((2 ^ n - 1:Nat):Int),E):=by
 have v:aa i E=some (iS n,E):=by simp only[aa,h]
 have a:=FU (F8 (E:=E) (f:=pC (.int 1)) (g:=aa i) (y:=n) rfl v (by omega)) (show pC (.int 1) E=some (iS 1,E)from rfl)
 rw[a]
 have p:1≤2 ^ n:=Nat.one_le_two_pow
 congr 4
 omega
def F_(n m:Nat):Prop:=1≤m∧m < 2 ^ n
theorem wm{n:Nat}(hn:1≤n)(z:Int):∃m:Nat,1+z % ((2 ^ n - 1:Nat):Int)=(m:Int)∧F_ n m:=by
 have p:2≤2 ^ n:=by
  have:2 ^ 1≤2 ^ n:=Nat.pow_le_pow_right (by decide) hn
  simpa using this
 have h0:=Int.emod_nonneg z (show((2 ^ n - 1:Nat):Int)≠0 by omega)
 have h1:=Int.emod_lt_of_pos z (show(0:Int) < ((2 ^ n - 1:Nat):Int) by omega)
 exact⟨(1+z % ((2 ^ n - 1:Nat):Int)).toNat,by omega,by omega,by omega⟩
theorem AZ{n:Nat}(hn:1≤n):(0:Int) < ((2 ^ n - 1:Nat):Int):=by
 have p:2≤2 ^ n:=by
  have:2 ^ 1≤2 ^ n:=Nat.pow_le_pow_right (by decide) hn
  simpa using this
 omega
theorem IO{n:Nat}(hn:1≤n)(hn2:n≤100):mD ((2 ^ n - 1:Nat):Int)=true:=by
 refine zU (AZ hn) ?_
 have p:2 ^ n≤2 ^ 100:=Nat.pow_le_pow_right (by decide) hn2
 have q:(2 ^ 100:Nat) < 2 ^ 200:=by decide
 have r:((2 ^ 200:Nat):Int)=2 ^ 200:=Int.natCast_pow 2 200
 rw[←r]
 omega
theorem wn{E:List Sl}{K:List Nat}{m:Nat}{i j:Nat}(hi:E[i]? =some (.ow (K.map aX)))(hj:E[j]? =some (.sh (.int m)))(hl:K.length < 1000000):iz (dR i (aa j)) E=some (E.set i (.ow ((K++[m]).map aX)),.nx):=by
 have e:(K++[m]).map aX=K.map aX++[PyData.int m]:=by rw[tU];rfl
 have f:du (PyData.int (m:Int))=true:=rfl
 rw[e]
 simp only[iz,dR,aa,hj,Z0,hi,frz,look,Sl.val,dY,hl,Z1,f,and_self,Bool.and_self,bQ]
abbrev mE(ns:List Int)(first n:Nat)(x3:Sl)(K:List Nat)(cell aQ:Int)(a b:Sl):List Sl:=[nS ns,iS first,iS n,x3,kO K,iS cell,iS aQ,a,b]
theorem A_(ns:List Int)(first n:Nat)(hf:first≤100)(hn:1≤n)(hn2:n≤100)(cell aQ:Int)(x3 a b:Sl)(K:List Nat)(k:Nat)(hk:k≤1000)(hK:K.length≤1000):
  ∃(m:Nat) (r:Int),F_ n m∧(cE (.int k) (mE ns first n x3 K cell aQ a b)).bind bW=
   some ([nS ns,iS first,iS n,x3,kO (K++[m]),iS cell,iS r,iS k,iS m],.nx):=by
 have tg:cE (.int k) (mE ns first n x3 K cell aQ a b)=some (mE ns first n x3 K cell aQ (iS k) b):=rfl
 obtain⟨bb,cond⟩:=yn (E:=(mE ns first n x3 K cell aQ (iS k) b)) (i:=5) (c:=cell) rfl
 cases bb with
 |true=>
  obtain⟨m,em,lm⟩:=wm hn aQ
  refine⟨m,aQ / ((2 ^ n - 1:Nat):Int),lm,?_⟩
  have w1:=AY (E:=(mE ns first n x3 K cell aQ (iS k) b)) (i:=2) rfl hn hn2
  have v1:=eX (E:=(mE ns first n x3 K cell aQ (iS k) b)) (g:=pC (.int 1)) (x:=1) rfl (gj (f:=aa 6) (x:=aQ) rfl w1 (AZ hn))
  rw[em]at v1
  have s1:=fI (i:=8) v1 (show 8 < 9 by decide)
  have w2:=AY (E:=(mE ns first n x3 K cell aQ (iS k) (iS m))) (i:=2) rfl hn hn2
  have v2:=gD (E:=(mE ns first n x3 K cell aQ (iS k) (iS m))) (f:=aa 6) (x:=aQ) rfl w2 (IO hn hn2)
  have s2:=fI (i:=6) v2 (show 6 < 9 by decide)
  have ap:=wn (E:=[nS ns,iS first,iS n,x3,kO K,iS cell,iS (aQ / ((2 ^ n - 1:Nat):Int)),iS k,iS m]) (K:=K) (m:=m) (i:=4) (j:=8) rfl rfl (by omega)
  rw[tg,Option.bind_some,bW,aI (eW cond ((aI s1).trans s2))]
  exact ap
 |false=>
  have md:=gj (E:=(mE ns first n x3 K cell aQ (iS k) b)) (f:=aa 7) (g:=pC (.int 4)) (x:=k) (y:=4) rfl rfl (by decide)
  have a1:=eX (E:=(mE ns first n x3 K cell aQ (iS k) b)) (g:=aa 1) (f:=pC (.int 1)) (x:=first) (y:=1) rfl rfl
  have a2:=eX a1 md
  have ei:(first:Int)+1+(k:Int) % 4=((first+1+k % 4:Nat):Int):=by omega
  rw[ei]at a2
  have lat:=jh ns (first+1+k % 4)
  have c1:=be (c:=aK) (g:=ag false (aa 0) (ag false (af aO false (af aO false (aa 1) (pC (.int 1))) (af dw false (aa 7) (pC (.int 4)))) ao)) (E:=(mE ns first n x3 K cell aQ (iS k) b)) (ss:=[nS ns,iS ((first+1+k % 4:Nat):Int)]) (D2 rfl a2) rfl lat
  have a3:=eX c1 (show aa 7 (mE ns first n x3 K cell aQ (iS k) b)=some (iS k,(mE ns first n x3 K cell aQ (iS k) b))from rfl)
  obtain⟨z,ez⟩:=tw (ns.getD (first+1+k % 4) 0+(k:Int)) (k:Int) (by omega) (by omega)
  have c2:=be (c:=cK) (g:=ag false (af aO false (aw aK (ag false (aa 0) (ag false (af aO false (af aO false (aa 1) (pC (.int 1))) (af dw false (aa 7) (pC (.int 4)))) ao))) (aa 7)) (ag false (aa 7) ao)) (E:=(mE ns first n x3 K cell aQ (iS k) b)) (ss:=[iS (ns.getD (first+1+k % 4) 0+(k:Int)),iS k]) (D2 a3 rfl) rfl ez
  obtain⟨m,em,lm⟩:=wm hn z
  refine⟨m,aQ,lm,?_⟩
  have w1:=AY (E:=(mE ns first n x3 K cell aQ (iS k) b)) (i:=2) rfl hn hn2
  have v1:=eX (E:=(mE ns first n x3 K cell aQ (iS k) b)) (g:=pC (.int 1)) (x:=1) rfl (gj c2 w1 (AZ hn))
  rw[em]at v1
  have s1:=fI (i:=8) v1 (show 8 < 9 by decide)
  have ap:=wn (E:=(mE ns first n x3 K cell aQ (iS k) (iS m))) (K:=K) (m:=m) (i:=4) (j:=8) rfl rfl (by omega)
  rw[tg,Option.bind_some,bW,aI (c9 cond s1)]
  exact ap
theorem tM(ns:List Int)(first n:Nat)(hf:first≤100)(hn:1≤n)(hn2:n≤100)(cell:Int)(x3:Sl):∀(c lo:Nat) (aQ:Int) (a b:Sl) (K:List Nat),lo+c≤1000→K.length+c≤1000→(∀m∈K,F_ n m)→
  ∃(M:List Nat) (r:Int) (a' b':Sl),M.length=K.length+c∧(∀m∈M,F_ n m)∧bM cE bW (j8 lo c) (mE ns first n x3 K cell aQ a b)=
   some ([nS ns,iS first,iS n,x3,kO M,iS cell,iS r,a',b'],.nx)
 | 0,lo,aQ,a,b,K,_,_,hK=>⟨K,aQ,a,b,by simp,hK,rfl⟩
 |c+1,lo,aQ,a,b,K,h1,h2,hK=>by
  obtain⟨m,r,lm,st⟩:=A_ ns first n hf hn hn2 cell aQ x3 a b K lo (by omega) (by omega)
  obtain⟨M,r',a',b',l,hM,e⟩:=tM ns first n hf hn hn2 cell x3 c (lo+1) r (iS lo) (iS m) (K++[m]) (by omega) (by simp;omega) (fun q hq=>by
   rcases Zao.mp hq with z |z
   ·exact hK q z
   ·rw[Zak.mp z];exact lm)
  refine⟨M,r',a',b',by rw[l];simp;omega,hM,?_⟩
  rw[show((lo+1:Nat):Int)=(lo:Int)+1 by omega]at e
  rw[kU,bM,st]
  exact e
abbrev nE(ns:List Int)(first n:Nat)(a b c d e:Sl):List Sl:=[nS ns,iS first,iS n,iS 8,a,b,c,d,e]
theorem qO(ns:List Int)(first n:Nat)(hf:first≤100)(hn:1≤n)(hn2:n≤100):∃M:List Nat,(1≤M.length∧M.length≤8)∧(∀m∈M,F_ n m)∧cV [.list (ns.map .int),.int first,.int n,.int 8]=some (kO M):=by
 have h0:=Int.emod_nonneg (ns.getD first 0 / 2) (show(8:Int)≠0 by decide)
 have h1:=Int.emod_lt_of_pos (ns.getD first 0 / 2) (show(0:Int) < 8 by decide)
 generalize ec:ns.getD first 0=cell at h0 h1
 obtain⟨c,hc⟩:∃c:Nat,1+cell / 2 % 8=(c:Int):=⟨(1+cell / 2 % 8).toNat,by omega⟩
 obtain⟨M,r,a,b,l,hM,e⟩:=tM ns first n hf hn hn2 cell (iS 8) c 0 (cell / 16) .no .no [] (by omega) (by simp;omega) (fun m hm=>by cases hm)
 refine⟨M,by rw[l];simp only[Z5];omega,hM,?_⟩
 have lat:=jh ns first
 rw[ec]at lat
 have s1:a8 4 (bF bt) (nE ns first n .no .no .no .no .no)=some ((nE ns first n (.ow []) .no .no .no .no),.nx):=by simp only[a8,bF,bt,Z0,Z5,Nat.reduceLeDiff,PL.settle,frz,frzAll,Z4,Nat.reduceAdd,Nat.reduceLT,Z7,Z6,bQ]
 have c2:=be (c:=aK) (g:=ag false (aa 0) (ag false (aa 1) ao)) (E:=(nE ns first n (.ow []) .no .no .no .no)) (ss:=[nS ns,iS first]) rfl rfl lat
 have s2:=fI (i:=5) c2 (show 5 < 9 by decide)
 have mu:=tz (E:=(nE ns first n (.ow []) (iS cell) .no .no .no)) (g:=pC (.int 2)) (f:=aa 3) (x:=2) (y:=8) rfl rfl (ql (by decide) (by decide))
 have d3:=gD (E:=(nE ns first n (.ow []) (iS cell) .no .no .no)) (f:=aa 5) (x:=cell) rfl mu (by decide)
 have s3:=fI (i:=6) d3 (show 6 < 9 by decide)
 have e16:(2:Int)*8=16:=rfl
 rw[e16]at s3
 have v1:=gD (E:=(nE ns first n (.ow []) (iS cell) (iS (cell / 16)) .no .no)) (f:=aa 5) (g:=pC (.int 2)) (x:=cell) (y:=2) rfl rfl (by decide)
 have v2:=gj v1 (show aa 3 (nE ns first n (.ow []) (iS cell) (iS (cell / 16)) .no .no)=some (iS 8,(nE ns first n (.ow []) (iS cell) (iS (cell / 16)) .no .no))from rfl) (by decide)
 have v3:=eX (g:=pC (.int 1)) (x:=1) (E:=(nE ns first n (.ow []) (iS cell) (iS (cell / 16)) .no .no)) rfl v2
 have it:=FY (c:=c) v3 hc (by omega)
 have fo:eD (eO (ag false (af aO false (pC (.int 1)) (af dw false (af df false (aa 5) (pC (.int 2))) (aa 3))) ao)) cE bW (nE ns first n (.ow []) (iS cell) (iS (cell / 16)) .no .no)=some ((nE ns first n (kO M) (iS cell) (iS r) a b),.nx):=by
  unfold eD
  rw[it,Option.bind_some]
  exact e
 have g:cV [.list (ns.map .int),.int first,.int n,.int 8]=(fD (nE ns first n .no .no .no .no .no)).bind fun a=>match a.2 with |.rt r=>dk r |.nx=>some (.sh .none) |_=>none:=rfl
 have fl:=nY M
 rw[g,fD,aI s1,aI s2]
 have s3':a8 6 (af df false (aa 5) (af jt false (pC (.int 2)) (aa 3))) ((nE ns first n (.ow []) .no .no .no .no).set 5 (iS cell))=some ((nE ns first n (.ow []) (iS cell) (iS (cell / 16)) .no .no),.nx):=s3
 rw[aI s3',aI fo]
 simp only[aV,aa,Z3,Z2,Z0,Z7,Z6,Z1,dk,cZ,fl,if_true]
theorem Ba:(Str.ofString "")=⟨([]:List Nat).toArray⟩:=by decide+kernel
theorem Ga{u v:List Nat}:(⟨u.toArray⟩:Str)=⟨v.toArray⟩↔u=v:=⟨fun h=>by simpa using h,fun h=>by rw[h]⟩
theorem HF(u v:List Nat):vN (.str ⟨u.toArray⟩) (.str ⟨v.toArray⟩)=some (decide (u=v)):=congrArg some (decide_eq_decide.mpr Ga)
theorem wo(u:List Nat):vN (.str ⟨u.toArray⟩) (.str "")=some (decide (u=[])):=by
 rw[Ba]
 exact HF u []
theorem Gb{E:List Sl}{f:aD}{u:List Nat}(hf:f E=some (.sh (aA u),E)):cf (af fU false f (pC (.str ""))) E=some (decide (u=[]),E):=by
 have q:=wo u
 unfold aA at hf
 simp only[cf,af,hf,Sl.isBr,pC,fU,eK,look,Sl.val,Z0,q,Z1,bQ]
theorem Gc{X W:List (List Nat)}{E:List Sl}{f g:aD}{s1 s2:Sl}{b:Bool}(hf:f E=some (s1,E))(hg:g E=some (s2,E))(l1:look E s1=some (xL X))(l2:look E s2=some (xL W))(d:vN (xL X) (xL W)=some b):cf (af yE false f g) E=some (!b,E):=by
 simp only[cf,af,hf,hg,Z0,yE,eK,l1,l2,d,Z1,bQ]
structure IsR (W:List (List Nat)):Prop where
 nil:W≠[]
 set:∀w∈W,w≠[]∧NhFam.Srt w
 ord:W.Pairwise fun v w=>¬NhFam.le v w∧NhFam.iO v w
def abc:List Nat:=List.range' 97 26
theorem abc_uni:Uni abc:=⟨List.pairwise_lt_range' ..,fun a h=>by
 have:=List.mem_range'_1.mp h
 exact⟨this.1,this.2⟩,by unfold abc;rw[List.length_range'];decide⟩
theorem Bc{w:List Nat}(h:∀a∈w,az a):NhFam.le w abc:=fun a ha=>g7 (h a ha)
structure Txs (W:List (List Nat)):Prop where
 az:∀w∈W,∀a∈w,az a
 tl:∀w∈W,w.length≤100
 len:W.length≤60
theorem Txs.wrt{W:List (List Nat)}(h:Txs W):Wrt abc W:=⟨fun w hw=>Bc (h.az w hw),h.tl,by have:=h.len;omega⟩
theorem Dr{W:List (List Nat)}(a:∀w∈W,∀x∈w,az x)(h:∀w∈W,NhFam.Srt w):eY W=W:=by
 unfold eY
 conv=>rhs;rw[←List.map_id W]
 exact List.map_congr_left fun w hw=>AT (h w hw) (a w hw)
open NhFam in
theorem pL:∀(S K:List (List Nat)),(K++S).Pairwise (fun v w=>¬le v w)→gu K S=K++S
 |[],K,_=>by rw[gu,tR]
 |w::S,K,h=>by
  have n:¬(K.any (fun k=>decide (le k w))=true):=fun z=>by
   obtain⟨k,hk,e⟩:=List.any_eq_true.mp z
   exact(List.pairwise_append.mp h).2.2 k hk w (gk ..) (of_decide_eq_true e)
  rw[gu,if_neg n,pL S (K++[w]) (by rw[List.append_assoc];exact h),List.append_assoc]
  rfl
open NhFam in
theorem yo{W:List (List Nat)}(h:W.Pairwise iO):eR W=W:=
 List.Perm.eq_of_pairwise (fun a b _ _ x y=>ja y x) (jb W) (h.imp fun {a b} z=>lg z) (List.mergeSort_perm W _)
open NhFam in
theorem yp{W:List (List Nat)}(a:∀w∈W,∀x∈w,az x)(h:IsR W):dJ (eY W)=W:=by
 rw[Dr a fun w hw=>(h.set w hw).2]
 unfold dJ
 rw[yo (h.ord.imp fun z=>z.2)]
 exact pL W [] (h.ord.imp fun z=>z.1)
open NhFam in
theorem yq{W:List (List Nat)}(a:Txs W)(n:W≠[])(e:dJ (eY W)=W)(h0:W.head? ≠some []):IsR W:=by
 have t:=lI (a.wrt.sets abc_uni)
 rw[e]at t
 refine⟨n,fun w hw=>⟨fun z=>?_,(t.sub w hw).1⟩,t.srt.imp_of_mem fun {v w} hv hw l=>⟨fun k=>?_,l⟩⟩
 ·subst z
  cases W with
  |nil=>cases hw
  |cons w0 W'=>
   have n0:w0≠[]:=fun z=>h0 (by rw[z];rfl)
   have hw':[]∈W':=(Zaf.mp hw).resolve_left fun z=>n0 z.symm
   have l:=(List.pairwise_cons.mp t.srt).1 [] hw'
   exact lg l (nj (by cases w0 with
    |nil=>exact absurd rfl n0
    |cons x r=>simp))
 ·have m:=((t.mem w).mp hw).2.2 v (t.sub v hv) ((t.mem v).mp hv).2.1 k
  subst m
  exact gY _ l
theorem wq:∀(X W:List (List Nat)),PyData.eqvAll (X.map aA) (W.map aA)=decide (X=W)
 |[],[]=>by simp[PyData.eqvAll]
 |[],w::W=>by simp[PyData.eqvAll]
 |x::X,[]=>by simp[PyData.eqvAll]
 |x::X,w::W=>by
  have b:((⟨x.toArray⟩:Str) == ⟨w.toArray⟩)=decide (x=w):=by
   rw[Bool.eq_iff_iff,beq_iff_eq,decide_eq_true_iff]
   exact⟨fun h=>by simpa using h,fun h=>by rw[h]⟩
  simp only[dQ,PyData.eqvAll,wq X W]
  simp[aA,PyData.eqv,b]
theorem Ds{X W:List (List Nat)}(h:∀w∈X,∀a∈w,az a)(k:∀w∈W,∀a∈w,az a):vN (xL X) (xL W)=some (decide (X=W)):=by
 have e:vN (xL X) (xL W)=(if SeqAt.shaped (xL X)&&SeqAt.shaped (xL W)then some (PyData.eqv (xL X) (xL W))else none):=rfl
 rw[e,jk h,jk k]
 simp only[PyData.eqv,wq,Bool.and_self,if_true]
theorem vg{W:List (List Nat)}(h:Txs W):av [xL W]=some (xO (NhFam.dJ (eY W))):=by
 have c:=be (c:=bO) (g:=ag false (aa 0) ao) (E:=[xS W]) (ss:=[xS W]) rfl rfl (oN abc_uni h.wrt)
 have fl:=gi (NhFam.dJ (eY W))
 simp only[av,cQ,fV,ju,aZ,aV,c,Z0,Z1,dk,cZ,fl,Z4,Z5,Nat.sub_self,List.replicate,dQ,oa,tR,Nat.reduceAdd,bQ]
def oP:ig:=e_ (aJ (bL (fM (eM .list) (aa 0)))) (cf (af fU false (bG cu (ag false (aa 0) ao)) (pC (.int 0))))
def Gy:ig:=cf (af yE false (aw av (ag false (aa 0) ao)) (aa 0))
def HU:ig:=cf (af fU false (af l5 false (aa 0) (pC (.int 0))) (pC (.str "")))
theorem vh{L:List PyData}(n:L≠[])(hl:L.length≤1000000):oP [.sh (.list L)]=some (false,[.sh (.list L)]):=by
 have n0:¬((L.length:Int)=0):=by
  cases L with
  |nil=>exact absurd rfl n
  |cons a L=>simp;omega
 simp only[oP,e_,aJ,bL,fM,aa,Z2,look,Sl.val,eM,Ty.is,zt,Z0,Z1,gE,cf,af,bG,ag,Sl.isBr,ao,cu,pC,fU,eK,bB,i7,n0,bQ]
theorem D3{W:List (List Nat)}(h:Txs W):Gy [xS W]=some (!decide (NhFam.dJ (eY W)=W),[xS W]):=by
 have c:aw av (ag false (aa 0) ao) [xS W]=some (xO (NhFam.dJ (eY W)),[xS W]):=be (ss:=[xS W]) rfl rfl (vg h)
 have t:=NhFam.lI (h.wrt.sets abc_uni)
 have q:=Ds (X:=NhFam.dJ (eY W)) (W:=W) (fun w hw=>abc_uni.azw (t.sub w hw)) h.az
 exact Gc c rfl rfl rfl q
theorem D4{w:List Nat}{W:List (List Nat)}:HU [.sh (.list ((w::W).map aA))]=some (decide (w=[]),[.sh (.list ((w::W).map aA))]):=by
 refine Gb ?_
 rw[dQ]
 unfold aA
 simp only[af,aa,Z2,Sl.isBr,pC,l5,look,Sl.val,jr,j4,Z0,Hb,Z1,bQ]
theorem Bd{W:List (List Nat)}(h:Txs W)(r:IsR W):bE [xL W]=some (.sh .none):=by
 obtain⟨w,W',e⟩:∃w W',W=w::W':=by
  have:=r.nil
  cases W with
  |nil=>exact absurd rfl this
  |cons w W'=>exact⟨w,W',rfl⟩
 have hw:w≠[]:=(r.set w (by rw[e];exact gk ..)).1
 have g:bE [xL W]=(fP [xS W]).bind fun a=>match a.2 with |.rt r=>dk r |.nx=>some (.sh .none) |_=>none:=rfl
 have s1:bh oP cO aB [xS W]=some ([xS W],.nx):=c9 (vh (by rw[e];simp) (by rw[dY];have:=h.len;omega)) rfl
 have n2:=D3 h
 rw[yp h.az r,decide_eq_true rfl,Bool.not_true]at n2
 have s2:bh Gy cO aB [xS W]=some ([xS W],.nx):=c9 n2 rfl
 have n3:=D4 (w:=w) (W:=W')
 rw[←e,decide_eq_false hw]at n3
 have s3:bh HU cO aB [xS W]=some ([xS W],.nx):=c9 n3 rfl
 rw[g]
 show((aE (bh oP cO aB) (aE (bh Gy cO aB) (bh HU cO aB))) _).bind _=_
 rw[aI s1,aI s2,s3]
 rfl
def IQ:gb:=fA aM (ag false (aa 0) ao)
theorem Ge(E:List Sl):fQ E=uG (qZ oP (jD "NoRule")) (qw (bh oP cO aB) (uG (uG IQ (qZ Gy (jD "NoRule"))) (qw (bh Gy cO aB) (qZ HU (jD "NoRule"))))) E:=rfl
theorem wt{a b:gb}{E:List Sl}{x:Str×List Sl}(h:a E=some x):uG a b E=some x:=by
 unfold uG
 rw[h]
theorem tN{a b:gb}{E:List Sl}(h:a E=none):uG a b E=b E:=by
 unfold uG
 rw[h]
theorem Be{t:ig}{r:gb}{E E1:List Sl}(h:t E=some (true,E1)):qZ t r E=r E1:=by
 unfold qZ
 rw[h]
theorem Bf{t:ig}{r:gb}{E E1:List Sl}(h:t E=some (false,E1)):qZ t r E=none:=by
 unfold qZ
 rw[h]
theorem IR{f:cI}{r:gb}{E E1:List Sl}(h:f E=some (E1,.nx)):qw f r E=r E1:=by
 unfold qw
 rw[h]
theorem yr{r:gb}{ds:List PyData}{k n:Nat}{x:Str×List Sl}(h:ds.length=k)(e:r (aZ n ds)=some x):Al k n r ds=some x.1:=by
 unfold Al
 rw[if_pos h,e]
 rfl
theorem Gf{r:gb}{ds:List PyData}{k n:Nat}(e:r (aZ n ds)=none):Al k n r ds=none:=by
 unfold Al
 rw[e]
 split <;> rfl
theorem Dt{a:Nat}(h:¬az a):a_ [cj a]=some (bS false):=by
 have l:(⟨#[a]⟩:Str).length=1:=rfl
 have t:(#[a]:Array Nat).toList=[a]:=rfl
 have ea:(Str.ofString "a").cps.toList=[97]:=by decide+kernel
 have ez:(Str.ofString "z").cps.toList=[122]:=by decide+kernel
 by_cases h1:a < 97
 ·have lo:decide ([a] < (Str.ofString "a").cps.toList)=true:=by rw[ea];exact decide_eq_true (List.Lex.rel h1)
  simp only[a_,fV,cj,Z4,Z5,ju,fW,aV,mF,fM,aa,aZ,dQ,oa,Nat.sub_self,List.replicate,Z9,Z8,Z2,look,Sl.val,eM,Ty.is,zt,Z0,Z1,af,bG,ag,Sl.isBr,ao,cu,pC,fU,eK,eL,Bool.or_false,fG,Cm.i,Cm.s,bB,l,Nat.reduceLeDiff,Int.cast_ofNat_Int,i7,lo,dk,cZ,du,bQ]
 ·have h2:122 < a:=by unfold az at h;omega
  have lo:decide ([a] < (Str.ofString "a").cps.toList)=false:=by
   rw[ea]
   refine decide_eq_false fun k=>?_
   cases k with
   |rel k=>exact h1 k
   |cons k=>cases k
  have hi:decide ((Str.ofString "z").cps.toList < [a])=true:=by rw[ez];exact decide_eq_true (List.Lex.rel h2)
  simp only[a_,fV,cj,Z4,Z5,ju,fW,aV,mF,fM,aa,aZ,dQ,oa,Nat.sub_self,List.replicate,Z9,Z8,Z2,look,Sl.val,eM,Ty.is,zt,Z0,Z1,af,bG,ag,Sl.isBr,ao,cu,pC,fU,eK,eL,Bool.or_false,fG,Cm.i,Cm.s,bB,l,Nat.reduceLeDiff,Int.cast_ofNat_Int,i7,hi,lo,dk,cZ,du,bQ]
def kH:gb:=qZ (aJ (bL (aw a_ (ag false (aa 1) ao)))) (jD "NoNails")
theorem qP(x0:Sl)(a:Nat)(b:Bool)(h:a_ [cj a]=some (bS b)):aJ (bL (aw a_ (ag false (aa 1) ao))) [x0,.sh (cj a)]=some (!b,[x0,.sh (cj a)]):=by
 have e:aw a_ (ag false (aa 1) ao) [x0,.sh (cj a)]=some (bS b,[x0,.sh (cj a)]):=be (ss:=[.sh (cj a)]) rfl rfl h
 simp only[aJ,bL,e,Z0,Sl.val,gE,Z1]
theorem Du{g:fZ}{b:cI}{r:gb}{d:PyData}{ds:List PyData}{E E1:List Sl}{x:Str×List Sl}(t:g d E=some E1)(h:r E1=some x):iI g b r (d::ds) E=some x:=by
 show(g d E).bind _=_
 rw[t,Option.bind_some]
 simp only[h]
theorem Bg{g:fZ}{b:cI}{r:gb}{d:PyData}{ds:List PyData}{E E1 E2:List Sl}(t:g d E=some E1)(h:r E1=none)(q:b E1=some (E2,.nx)):iI g b r (d::ds) E=iI g b r ds E2:=by
 show(g d E).bind _=_
 rw[t,Option.bind_some]
 simp only[h,q]
theorem Bh(x0:Sl):∀(w:List Nat) (x:Sl),(∃a∈w,¬az a)→∃E',iI bu bv kH (w.map cj) [x0,x]=some (("NoNails":Str),E')
 |[],x,h=>by obtain⟨a,h,_⟩:=h;cases h
 |a::w,x,h=>by
  have t:bu (cj a) [x0,x]=some [x0,.sh (cj a)]:=rfl
  by_cases ha:az a
  ·have n:=qP x0 a true (jZ ha)
   have r:kH [x0,.sh (cj a)]=none:=by unfold kH qZ;rw[n];rfl
   have g:bv [x0,.sh (cj a)]=some ([x0,.sh (cj a)],.nx):=c9 n rfl
   obtain⟨E',q⟩:=Bh x0 w (.sh (cj a)) (by
    obtain⟨b,hb,nb⟩:=h
    rcases Zaf.mp hb with rfl |hb
    ·exact absurd ha nb
    ·exact⟨b,hb,nb⟩)
   refine⟨E',?_⟩
   rw[dQ,Bg t r g]
   exact q
  ·have n:=qP x0 a false (Dt ha)
   have r:kH [x0,.sh (cj a)]=some (("NoNails":Str),[x0,.sh (cj a)]):=by unfold kH qZ;rw[n];rfl
   refine⟨[x0,.sh (cj a)],?_⟩
   rw[dQ,Du t r]
theorem wu(x0:Sl):∀(w:List Nat) (x:Sl),(∀a∈w,az a)→iI bu bv kH (w.map cj) [x0,x]=none
 |[],x,h=>rfl
 |a::w,x,h=>by
  have t:bu (cj a) [x0,x]=some [x0,.sh (cj a)]:=rfl
  have n:=qP x0 a true (jZ (h a (gk ..)))
  have r:kH [x0,.sh (cj a)]=none:=by unfold kH qZ;rw[n];rfl
  have g:bv [x0,.sh (cj a)]=some ([x0,.sh (cj a)],.nx):=c9 n rfl
  rw[dQ,Bg t r g]
  exact wu x0 w _ fun b hb=>h b (fJ _ hb)
theorem wv(w:List Nat):kz [tS w,.no]=iI bu bv kH (w.map cj) [tS w,.no]:=by
 rw[←mf]
 rfl
theorem tO{w:List Nat}(h:∃a∈w,¬az a):dA [aA w]=some "NoNails":=by
 obtain⟨E',q⟩:=Bh (tS w) w .no h
 exact yr (x:=("NoNails",E')) rfl ((wv w).trans q)
theorem ww{w:List Nat}(h:∀a∈w,az a):dA [aA w]=none:=Gf ((wv w).trans (wu _ w _ h))
def Bi(d:PyData):Prop:=dA [d]=some "NoNails"
theorem wx{r:List PyData→Option Str}{g:j0}{E E1:List Sl}{rs:List Sl}{ds:List PyData}{n:Str}(g1:g E=some (rs,E1))(l:bB E1 rs=some ds)(h:r ds=some n):fA r g E=some (n,E1):=by
 unfold fA
 rw[g1,Option.bind_some]
 simp only[l,Z0,h,Z1]
theorem Gg{E E1:List Sl}{js:List Nat}{ds:List PyData}{n:Nat}{r:List PyData→Option Str}{g:j0}{ok:List Str}{c:Str→PyData→Option Sl}{due:Int}{nm:Str}{sv:Sl}(v:vals E js=some ds)(rc:fA r g (aZ n ds)=some (nm,E1))(ho:nm∈ok)(hc:c nm (.int due)=some sv):AH js n r g ok c due E=some (sv,E):=by
 unfold AH
 rw[v,Option.bind_some,rc,Option.bind_some]
 simp only[if_pos ho,hc,Z1]
theorem Gh{f:aD}{E:List Sl}(h:f E=some (bS true,E)):(bh (aJ (bL f)) (aV (pC (.bool false))) aB) E=some (E,.nx):=by
 have t:(aJ (bL f)) E=some (false,E):=by
  simp only[aJ,bL,h,Z0,Sl.val,gE,Z1,Bool.not_true]
 exact c9 t rfl
theorem wy{r:List PyData→Option Str}{g:j0}{E E1:List Sl}{rs:List Sl}{ds:List PyData}(g1:g E=some (rs,E1))(l:bB E1 rs=some ds)(h:r ds=none):fA r g E=none:=by
 unfold fA
 rw[g1,Option.bind_some]
 simp only[l,Z0,h,Option.map_none]
theorem Dv{tg:fZ}{el:aD}{re:gb}{d:PyData}{ds:List PyData}{E E1:List Sl}{x:Str×List Sl}(t:tg d E=some E1)(h:re E1=some x):gf tg el re (d::ds) E=some x.1:=by
 rw[gf,t,Option.bind_some]
 simp only[h]
theorem Bj{tg:fZ}{el:aD}{re:gb}{d r:PyData}{ds:List PyData}{E E1 E2:List Sl}(t:tg d E=some E1)(h:re E1=none)(e:el E1=some (.sh r,E2)):gf tg el re (d::ds) E=gf tg el re ds E2:=by
 rw[gf,t,Option.bind_some]
 simp only[h,e,Z0,frz]
def yt:aD:=aw dz (ag false (aa 0) ao)
def sC:gb:=fA dA (ag false (aa 0) ao)
def Gd(d:PyData):Prop:=∃w:List Nat,d=aA w∧(∀a∈w,az a)∧w.length≤3900
theorem wz{d:PyData}(hd:Bi d)(es:List PyData):∀(ds:List PyData) (x:Sl),(∀g∈ds,Gd g)→gf (bp 0) yt sC (ds++d::es) [x]=some ("NoNails":Str)
 |[],x,_=>Dv (x:=("NoNails",[.sh d])) (show bp 0 d [x]=some [.sh d]from rfl) (wx (rs:=[.sh d]) (ds:=[d]) rfl rfl hd)
 |g::ds,x,h=>by
  obtain⟨w,rfl,hw,hl⟩:=h g (gk ..)
  have e1:sC [tS w]=none:=wy (rs:=[tS w]) (ds:=[aA w]) rfl rfl (ww hw)
  have e2:yt [tS w]=some (tS (cL w),[tS w]):=be (ss:=[tS w]) rfl rfl (lq hw hl)
  rw[List.cons_append,Bj (show bp 0 (aA w) [x]=some [tS w]from rfl) e1 e2]
  exact wz hd es ds _ fun g hg=>h g (fJ _ hg)
theorem tP:∀(ds:List PyData) (x:Sl),(∀g∈ds,Gd g)→gf (bp 0) yt sC ds [x]=none
 |[],x,_=>rfl
 |g::ds,x,h=>by
  obtain⟨w,rfl,hw,hl⟩:=h g (gk ..)
  have e1:sC [tS w]=none:=wy (rs:=[tS w]) (ds:=[aA w]) rfl rfl (ww hw)
  have e2:yt [tS w]=some (tS (cL w),[tS w]):=be (ss:=[tS w]) rfl rfl (lq hw hl)
  rw[Bj (show bp 0 (aA w) [x]=some [tS w]from rfl) e1 e2]
  exact tP ds _ fun g hg=>h g (fJ _ hg)
theorem Bk(L:List PyData)(hl:L.length≤1000000):fO [.sh (.list L)]=(gf (bp 0) yt sC L [.no]).map fun n=>(n,[.sh (.list L)]):=by
 show sU [none] (cN (aa 0)) (bp 0) yt sC [.sh (.list L)]=_
 have e:cN (aa 0) [.sh (.list L)]=some (L,[.sh (.list L)]):=rfl
 unfold sU
 rw[e,Option.bind_some]
 simp only[if_pos hl]
 rfl
theorem qQ{ds es:List PyData}{d:PyData}(hd:Bi d)(h:∀g∈ds,Gd g)(hl:(ds++d::es).length≤1000000):bD [.list (ds++d::es)]=some ("NoNails":Str):=
 yr (x:=("NoNails",_)) rfl ((Bk _ hl).trans (by rw[wz hd es ds _ h];rfl))
theorem oQ{L:List PyData}(h:∀g∈L,Gd g)(hl:L.length≤1000000):bD [.list L]=none:=
 Gf ((Bk _ hl).trans (by rw[tP L _ h];rfl))
theorem IS:cG "NoRule" (.int 2)=some (bS true):=by kernel_rfl
theorem vi{d:PyData}(h:eM .list d=some (.bool false)):bi [d]=some ("NoRule":Str):=by
 have t:oP [.sh d]=some (true,[.sh d]):=by
  unfold oP e_ aJ bL fM
  simp only[aa,Z2,Z0,look,Sl.val,h,Z1,gE,bQ]
 exact yr (x:=("NoRule",[.sh d])) rfl ((Ge _).trans (wt ((Be t).trans rfl)))
theorem yu:bi [.list []]=some ("NoRule":Str):=by kernel_rfl
theorem lZ{ds es:List PyData}{d:PyData}(hd:Bi d)(h:∀g∈ds,Gd g)(hl:(ds++d::es).length≤1000000):aM [.list (ds++d::es)]=some ("NoRule":Str):=by
 have c:=wx (E:=[.sh (.list (ds++d::es))]) (g:=ag false (aa 0) ao) (E1:=[.sh (.list (ds++d::es))]) (rs:=[.sh (.list (ds++d::es))]) (ds:=[.list (ds++d::es)]) rfl rfl (qQ hd h hl)
 refine yr (x:=("NoRule",[.sh (.list (ds++d::es))])) rfl ?_
 show m9 ["NoNails"] "NoRule" (fA bD (ag false (aa 0) ao)) _=_
 unfold m9
 rw[show aZ 1 [PyData.list (ds++d::es)]=[.sh (.list (ds++d::es))]from rfl,c]
 rfl
theorem lx{L:List PyData}(h:∀g∈L,Gd g)(hl:L.length≤1000000):aM [.list L]=none:=by
 have c:=wy (E:=[.sh (.list L)]) (g:=ag false (aa 0) ao) (E1:=[.sh (.list L)]) (rs:=[.sh (.list L)]) (ds:=[.list L]) rfl rfl (oQ h hl)
 refine Gf ?_
 show m9 ["NoNails"] "NoRule" (fA bD (ag false (aa 0) ao)) _=_
 unfold m9
 rw[show aZ 1 [PyData.list L]=[.sh (.list L)]from rfl,c]
theorem Dw{ds es:List PyData}{d:PyData}(hd:Bi d)(h:∀g∈ds,Gd g)(hl:(ds++d::es).length≤1000000):bi [.list (ds++d::es)]=some ("NoRule":Str):=by
 have n1:=vh (L:=ds++d::es) (by simp) hl
 have s1:bh oP cO aB [.sh (.list (ds++d::es))]=some ([.sh (.list (ds++d::es))],.nx):=c9 n1 rfl
 have c:IQ [.sh (.list (ds++d::es))]=some (("NoRule":Str),[.sh (.list (ds++d::es))]):=wx (rs:=[.sh (.list (ds++d::es))]) (ds:=[.list (ds++d::es)]) rfl rfl (lZ hd h hl)
 exact yr (x:=("NoRule",[.sh (.list (ds++d::es))])) rfl ((Ge _).trans ((tN (Bf n1)).trans ((IR s1).trans (wt (wt c)))))
theorem Txs.gd{W:List (List Nat)}(h:Txs W):∀g∈W.map aA,Gd g:=fun g hg=>by
 obtain⟨w,hw,rfl⟩:=Zau.mp hg
 exact⟨w,rfl,h.az w hw,by have:=h.tl w hw;omega⟩
theorem Dx{W:List (List Nat)}(h:Txs W)(n:W≠[])(r:¬IsR W):bi [xL W]=some ("NoRule":Str):=by
 have hl:(W.map aA).length≤1000000:=by rw[dY];have:=h.len;omega
 have n1:=vh (L:=W.map aA) (by simpa using n) hl
 have s1:bh oP cO aB [xS W]=some ([xS W],.nx):=c9 n1 rfl
 have c:IQ [xS W]=none:=wy (rs:=[xS W]) (E1:=[xS W]) (ds:=[xL W]) rfl rfl (lx h.gd hl)
 have n2:=D3 h
 refine yr (x:=("NoRule",[xS W])) rfl ((Ge _).trans ((tN (Bf n1)).trans ((IR s1).trans ?_)))
 by_cases e:NhFam.dJ (eY W)=W
 ·rw[decide_eq_true e,Bool.not_true]at n2
  have s2:bh Gy cO aB [xS W]=some ([xS W],.nx):=c9 n2 rfl
  refine(tN ((tN c).trans (Bf n2))).trans ((IR s2).trans ?_)
  cases W with
  |nil=>exact absurd rfl n
  |cons w W'=>
   have hw:w=[]:=Decidable.byContradiction fun z=>r (yq h n e fun k=>z (Option.some.inj k))
   have n3:=D4 (w:=w) (W:=W')
   rw[decide_eq_true hw]at n3
   exact(Be n3).trans rfl
 ·rw[decide_eq_false e,Bool.not_false]at n2
  exact wt ((tN c).trans ((Be n2).trans rfl))
theorem HG:(Str.ofString "abcdefghijklmnopqrstuvwxyz")=⟨abc.toArray⟩:=by decide+kernel
theorem az_abc{a:Nat}:a∈abc↔az a:=⟨fun h=>by
 have:=List.mem_range'_1.mp h
 exact⟨this.1,this.2⟩,g7⟩
def yw(l:List Nat):List Nat→Bool
 |[]=>true
 |c::w=>decide (c∈abc)&&decide (l < [c])&&yw [c] w
theorem Gi(c b:Nat):([c] < [b])↔c < b:=by
 constructor
 ·intro k
  cases k with
  |rel k=>exact k
  |cons k=>cases k
 ·exact fun k=>List.Lex.rel k
theorem wA:∀(w:List Nat) (c:Nat),yw [c] w=true↔(∀a∈w,a∈abc)∧(c::w).Pairwise (· < ·)
 |[],c=>by simp[yw]
 |b::w,c=>by
  have lt:=Gi c b
  rw[yw,lQ,lQ,decide_eq_true_iff,decide_eq_true_iff,wA w b,lt]
  constructor
  ·rintro⟨⟨h1,h2⟩,h3,h4⟩
   refine⟨fun a ha=>(Zaf.mp ha).elim (fun z=>z▸h1) (h3 a),List.pairwise_cons.mpr ⟨fun a ha=>?_,h4⟩⟩
   rcases Zaf.mp ha with rfl |ha
   ·exact h2
   ·exact Nat.lt_trans h2 ((List.pairwise_cons.mp h4).1 a ha)
  ·rintro⟨h1,h2⟩
   exact⟨⟨h1 b (gk ..),(List.pairwise_cons.mp h2).1 b (gk ..)⟩,fun a ha=>h1 a (fJ _ ha),(List.pairwise_cons.mp h2).2⟩
theorem Dy(w:List Nat):yw [] w=true↔(∀a∈w,az a)∧NhFam.Srt w:=by
 cases w with
 |nil=>simp[yw,NhFam.Srt]
 |cons c w=>
  have lt:([]:List Nat) < [c]:=List.Lex.nil
  rw[yw,decide_eq_true lt,Bool.and_true,lQ,decide_eq_true_iff,wA]
  constructor
  ·rintro⟨h1,h2,h3⟩
   exact⟨fun a ha=>(Zaf.mp ha).elim (fun z=>az_abc.mp (z▸h1)) fun k=>az_abc.mp (h2 a k),h3⟩
  ·rintro⟨h1,h2⟩
   exact⟨az_abc.mpr (h1 c (gk ..)),fun a ha=>az_abc.mpr (h1 a (fJ _ ha)),h2⟩
theorem Bl(x0:Sl)(l:List Nat)(c:Nat):e_ (cf (af (r8 true) false (aa 2) (pC (.str "abcdefghijklmnopqrstuvwxyz")))) (cf (af (eK (fG .le)) false (aa 2) (aa 1))) [x0,tS l,.sh (cj c)]=some (!(decide (c∈abc)&&decide (l < [c])),[x0,tS l,.sh (cj c)]):=by
 have o:=qH abc c
 have e:(#[c]:Array Nat).toList=[c]:=rfl
 have e2:l.toArray.toList=l:=by simp
 rw[HG]
 by_cases h:c∈abc
 ·rw[decide_eq_true h]at o
  simp only[e_,cf,af,aa,aA,cj,Z3,Z2,Sl.isBr,pC,r8,eK,look,Sl.val,Cw,Z0,o,Z1,fG,Cm.i,Cm.s,h,bQ]
 ·rw[decide_eq_false h]at o
  simp only[e_,cf,af,aa,aA,cj,Z3,Z2,Sl.isBr,pC,r8,eK,look,Sl.val,Cw,Z0,o,Z1,fG,Cm.i,Cm.s,h,bQ]
theorem pM(x0:Sl):∀(w l:List Nat) (x:Sl),∃E',bM bJ bw (w.map cj) [x0,tS l,x]=some (E',if yw l w then .nx else .rt (bS false))
 |[],l,x=>⟨_,rfl⟩
 |c::w,l,x=>by
  have tg:bJ (cj c) [x0,tS l,x]=some [x0,tS l,.sh (cj c)]:=rfl
  have t:=Bl x0 l c
  by_cases h:(decide (c∈abc)&&decide (l < [c]))=true
  ·rw[h,Bool.not_true]at t
   have st:(bJ (cj c) [x0,tS l,x]).bind bw=some ([x0,tS [c],.sh (cj c)],.nx):=by
    rw[tg,Option.bind_some,bw,aI (c9 t rfl)]
    rfl
   obtain⟨E',e⟩:=pM x0 w [c] (.sh (cj c))
   refine⟨E',?_⟩
   rw[dQ,bM,st,yw,h,Bool.true_and]
   exact e
  ·have h':(decide (c∈abc)&&decide (l < [c]))=false:=by simpa using h
   rw[h',Bool.not_false]at t
   have st:(bJ (cj c) [x0,tS l,x]).bind bw=some ([x0,tS l,.sh (cj c)],.rt (bS false)):=by
    rw[tg,Option.bind_some,bw]
    unfold aE
    rw[eW t (r:=some ([x0,tS l,.sh (cj c)],.rt (bS false))) rfl]
    rfl
   refine⟨[x0,tS l,.sh (cj c)],?_⟩
   rw[dQ,bM,st,yw,h',Bool.false_and]
   rfl
def Bm(w:List Nat):Bool:= !decide (w=[])&&yw [] w
theorem kI(w:List Nat):Bm w=true↔w≠[]∧(∀a∈w,az a)∧NhFam.Srt w:=by
 unfold Bm
 rw[lQ,Dy]
 simp
theorem yx(w:List Nat):aL [aA w]=some (bS (Bm w)):=by
 have g:aL [aA w]=(cW [tS w,.no,.no]).bind fun a=>match a.2 with |.rt r=>dk r |.nx=>some (.sh .none) |_=>none:=rfl
 have q:=wo w
 have t:e_ (aJ (bL (fM (eM .str) (aa 0)))) (cf (af fU false (aa 0) (pC (.str "")))) [tS w,.no,.no]=some (decide (w=[]),[tS w,.no,.no]):=by
  simp only[e_,aJ,bL,fM,aa,aA,Z2,look,Sl.val,eM,Ty.is,zt,Z0,Z1,gE,cf,af,Sl.isBr,pC,fU,eK,q,bQ]
 rw[g,cW]
 by_cases h:w=[]
 ·rw[decide_eq_true h]at t
  unfold aE
  rw[eW t (r:=some ([tS w,.no,.no],.rt (bS false))) rfl,Bm,decide_eq_true h]
  rfl
 ·rw[decide_eq_false h]at t
  have s1:bh (e_ (aJ (bL (fM (eM .str) (aa 0)))) (cf (af fU false (aa 0) (pC (.str ""))))) (aV (pC (.bool false))) aB [tS w,.no,.no]=some ([tS w,.no,.no],.nx):=c9 t rfl
  have s2:a8 1 (pC (.str "")) [tS w,.no,.no]=some ([tS w,tS [],.no],.nx):=by
   rw[Ba]
   rfl
  obtain⟨E',e⟩:=pM (tS w) w [] .no
  have it:cN (aa 0) [tS w,tS [],.no]=some (w.map cj,[tS w,tS [],.no]):=by
   simp only[cN,aa,aA,Z2,frz,Z0,mf]
  have fo:eD (cN (aa 0)) bJ bw [tS w,tS [],.no]=some (E',if yw [] w then .nx else .rt (bS false)):=by
   unfold eD
   rw[it,Option.bind_some]
   exact e
  rw[aI s1,aI s2,Bm,decide_eq_false h,Bool.not_false,Bool.true_and]
  unfold aE
  rw[fo]
  cases yw [] w <;> rfl
theorem qR{d:PyData}(h:eM .str d=some (.bool false)):aL [d]=some (bS false):=by
 have g:aL [d]=(cW [.sh d,.no,.no]).bind fun a=>match a.2 with |.rt r=>dk r |.nx=>some (.sh .none) |_=>none:=rfl
 have t:e_ (aJ (bL (fM (eM .str) (aa 0)))) (cf (af fU false (aa 0) (pC (.str "")))) [.sh d,.no,.no]=some (true,[.sh d,.no,.no]):=by
  unfold e_ aJ bL fM
  simp only[aa,Z2,Z0,look,Sl.val,h,Z1,gE,bQ]
 rw[g,cW]
 unfold aE
 rw[eW t (r:=some ([.sh d,.no,.no],.rt (bS false))) rfl]
 rfl
open NhFam in
theorem HH{v w:List Nat}(hv:∀a∈v,az a)(hw:∀a∈w,az a):sI (.tuple [.int v.length,aA v]) (.tuple [.int w.length,aA w])=some (.bool (!NhSG.e8 (key v) (key w))):=by
 have sh:∀{u:List Nat},(∀a∈u,az a)→SeqAt.shaped (.tuple [.int u.length,aA u])=true:=fun {u} hu=>by
  have h1:=u_ hu
  have h2:(aA u).depth=0:=by simp[aA,PyData.depth]
  unfold SeqAt.shaped
  simp only[PyData.canLay0,PyData.depth,PyData.canLayAll0,PyData.depthAll,h1,h2]
  decide
 have e:sI (.tuple [.int v.length,aA v]) (.tuple [.int w.length,aA w])=(if SeqAt.shaped (.tuple [.int v.length,aA v])&&SeqAt.shaped (.tuple [.int w.length,aA w])then some (.bool (CI v.length w.length ⟨v.toArray⟩ ⟨w.toArray⟩))else none):=rfl
 have q1:PyData.eqv (.int (v.length:Int)) (.int (w.length:Int))=decide ((v.length:Int)=w.length):=by
  rw[Bool.eq_iff_iff,decide_eq_true_iff]
  simp[PyData.eqv]
 have q2:PyData.eqv (.str ⟨v.toArray⟩) (.str ⟨w.toArray⟩)=decide (v=w):=by
  rw[Bool.eq_iff_iff,decide_eq_true_iff]
  simp[PyData.eqv]
 rw[e,sh hv,sh hw,CI,q1,q2]
 unfold NhSG.e8 key
 by_cases h:(v.length:Int)=w.length
 ·by_cases k:v=w
  ·subst k
   simp[List.lt_irrefl]
  ·simp[h,k]
 ·simp[h]
  rw[Bool.eq_iff_iff]
  simp
def yy(v w:List Nat):Bool:= !decide (NhFam.le v w)&&NhSG.e8 (NhFam.key v) (NhFam.key w)
theorem IT(w:List Nat)(a:Nat):bP [.sh (.str ⟨#[a]⟩),tS w]=some (bS (decide (a∈w)),[.sh (.str ⟨#[a]⟩),tS w]):=by
 have o:=qH w a
 simp only[bP,af,aa,aA,Z2,Sl.isBr,r8,eK,look,Sl.val,Cw,Z0,Z3,o,Bool.not_not,Z1,bQ]
theorem D5(w:List Nat):∀(v:List Nat) (x:Sl),dN cH d0 bP (v.map cj) [x,tS w]=some (v.map fun a=>PyData.bool (decide (a∈w)))
 |[],x=>rfl
 |a::v,x=>by
  have t:cH (cj a) [x,tS w]=some [.sh (cj a),tS w]:=rfl
  exact me t (IT w a) (D5 w v _)
theorem lN{α:Type}(f:α→Bool):∀l:List α,gU (l.map fun a=>PyData.bool (f a))=some (l.map f)
 |[]=>rfl
 |a::l=>by
  show(gU (l.map fun a=>PyData.bool (f a))).map (f a:: ·)=_
  rw[lN f l]
  rfl
theorem pN{α:Type}(f:α→Bool):∀l:List α,bT (l.map fun a=>PyData.bool (f a))=true
 |[]=>rfl
 |a::l=>by show(du (.bool (f a))&&_)=true;rw[pN f l];rfl
def p3:aD:=kR (aq (bG cu (ag false (aa 3) ao)) (aq (aa 3) bt))
def p2:aD:=kR (aq (bG cu (ag false (aa 2) ao)) (aq (aa 2) bt))
def c3:ig:=bL (bG Cz (ag false (c7 [none,some 2] (cN (aa 3)) cH d0 bP) ao))
theorem IU(x0 x1:Sl){v w:List Nat}(hv:∀a∈v,az a)(hw:∀a∈w,az a)(lv:v.length≤1000)(lw:w.length≤1000):e_ c3 (cf (af (eK sI) false p3 p2)) [x0,x1,tS w,tS v]=some (!yy v w,[x0,x1,tS w,tS v]):=by
 have it:cN (aa 3) [x0,x1,tS w,tS v]=some (v.map cj,[x0,x1,tS w,tS v]):=by
  simp only[cN,aa,aA,Z3,Z2,frz,Z0,mf]
 have k:=kF (js:=[none,some 2]) it (D5 w v .no) (pN _ v) (by rw[dY];omega)
 have bo:=lN (fun a=>decide (a∈w)) v
 have al:(v.map fun a=>decide (a∈w)).all id=decide (NhFam.le v w):=by
  rw[List.all_map]
  exact Bool.eq_iff_iff.mpr (by rw[decide_eq_true_iff];simp[NhFam.le])
 have t1:c3 [x0,x1,tS w,tS v]=some (decide (NhFam.le v w),[x0,x1,tS w,tS v]):=by
  simp only[c3,bL,bG,HS k,Z0,Z1,bB,PL.look,Sl.val,Cz,bo,al,gE]
 have h3:p3 [x0,x1,tS w,tS v]=some (.sh (.tuple [.int v.length,aA v]),[x0,x1,tS w,tS v]):=by
  have l:=g9 v
  have b:v.length≤1000000:=by omega
  simp only[p3,kR,aq,bG,ag,aa,aA,Z3,Z2,Sl.isBr,ao,Z1,Z0,cu,bB,look,Sl.val,l,b,frz,bt,Z4,Z5,Nat.reduceAdd,Nat.reduceLeDiff,bQ]
 have h2:p2 [x0,x1,tS w,tS v]=some (.sh (.tuple [.int w.length,aA w]),[x0,x1,tS w,tS v]):=by
  have l:=g9 w
  have b:w.length≤1000000:=by omega
  simp only[p2,kR,aq,bG,ag,aa,aA,Z3,Z2,Sl.isBr,ao,Z1,Z0,cu,bB,look,Sl.val,l,b,frz,bt,Z4,Z5,Nat.reduceAdd,Nat.reduceLeDiff,bQ]
 have t2:cf (af (eK sI) false p3 p2) [x0,x1,tS w,tS v]=some (!NhSG.e8 (NhFam.key v) (NhFam.key w),[x0,x1,tS w,tS v]):=by
  simp only[cf,af,h3,h2,Z0,eK,PL.look,Sl.val,HH hv hw,Z1,bQ]
 unfold e_ yy
 rw[t1,Option.bind_some]
 by_cases h:NhFam.le v w
 ·simp only[decide_eq_true h,bQ]
 ·simp only[decide_eq_false h,bQ]
  exact t2
theorem D6(x0 x1:Sl){w:List Nat}(hw:∀a∈w,az a)(lw:w.length≤1000):∀(P:List (List Nat)) (x:Sl),(∀v∈P,∀a∈v,az a)→(∀v∈P,v.length≤1000)→∃y,bM bA ba (P.map aA) [x0,x1,tS w,x]=some ([x0,x1,tS w,y],if P.all (fun v=>yy v w)then .nx else .rt (bS false))
 |[],x,_,_=>⟨x,rfl⟩
 |v::P,x,h,hl=>by
  have tg:bA (aA v) [x0,x1,tS w,x]=some [x0,x1,tS w,tS v]:=rfl
  have t:=IU x0 x1 (h v (gk ..)) hw (hl v (gk ..)) lw
  rw[List.all_cons]
  by_cases k:yy v w=true
  ·rw[k,Bool.not_true]at t
   have st:(bA (aA v) [x0,x1,tS w,x]).bind ba=some ([x0,x1,tS w,tS v],.nx):=by
    rw[tg,Option.bind_some,ba]
    exact c9 t rfl
   obtain⟨y,e⟩:=D6 x0 x1 hw lw P (tS v) (fun v hv=>h v (fJ _ hv)) fun v hv=>hl v (fJ _ hv)
   refine⟨y,?_⟩
   rw[dQ,bM,st,k,Bool.true_and]
   exact e
  ·have k':yy v w=false:=by simpa using k
   rw[k',Bool.not_false]at t
   have st:(bA (aA v) [x0,x1,tS w,x]).bind ba=some ([x0,x1,tS w,tS v],.rt (bS false)):=by
    rw[tg,Option.bind_some,ba]
    exact eW t rfl
   refine⟨tS v,?_⟩
   rw[dQ,bM,st,k',Bool.false_and]
   rfl
def yF:PyData→Option (List Nat)
 |.str x=>some x.cps.toList
 |_=>none
def chk(P:List (List Nat)):List PyData→Bool
 |[]=>true
 |d::ds=>match yF d with
  |none=>false
  |some w=>Bm w&&P.all (fun v=>yy v w)&&chk (P++[w]) ds
def Bo(d:PyData):Prop:=yF d=none→eM .str d=some (.bool false)
theorem HI{x:Str}:PyData.str x=aA x.cps.toList:=by
 unfold aA
 rw[Array.toArray_toList]
abbrev rE(L:List PyData)(P:List (List Nat))(d:PyData)(c:Sl):List Sl:=[.sh (.list L),iS (P.length:Int),.sh d,c]
theorem wB(L:List PyData):∀(ds:List PyData) (P:List (List Nat)) (a b c:Sl),L=P.map aA++ds→(∀v∈P,∀a∈v,az a)→(∀v∈P,v.length≤1000)→(∀d∈ds,Bo d)→∃E',bM bc aT (gn P.length ds) [.sh (.list L),a,b,c]=some (E',if chk P ds then .nx else .rt (bS false))
 |[],P,a,b,c,_,_,_,_=>⟨_,rfl⟩
 |d::ds,P,a,b,c,hL,hP,hl,hd=>by
  have tg:bc (.tuple [.int (P.length:Int),d]) [.sh (.list L),a,b,c]=some (rE L P d c):=rfl
  have bad:aL [d]=some (bS false)→(bc (.tuple [.int (P.length:Int),d]) [.sh (.list L),a,b,c]).bind aT=some ((rE L P d c),.rt (bS false)):=fun hs=>by
   have cl:aw aL (ag false (aa 2) ao) (rE L P d c)=some (bS false,(rE L P d c)):=be (ss:=[.sh d]) rfl rfl hs
   have t:aJ (bL (aw aL (ag false (aa 2) ao))) (rE L P d c)=some (true,(rE L P d c)):=by
    simp only[aJ,bL,cl,Z0,PL.look,Sl.val,gE,Z1,Bool.not_false]
   rw[tg,Option.bind_some,aT]
   unfold aE
   rw[eW t (r:=some ((rE L P d c),.rt (bS false))) rfl]
   rfl
  cases ha:yF d with
  |none=>
   refine⟨(rE L P d c),?_⟩
   rw[gn,bM,bad (qR (hd d (gk ..) ha)),chk,ha]
   rfl
  |some w=>
   have ed:d=aA w:=by
    cases d <;> first |(cases ha;exact HI) |cases ha
   subst ed
   have hs:=yx w
   by_cases hw:Bm w=true
   ·have hw3:=(kI w).mp hw
    rw[hw]at hs
    have lw:w.length≤1000:=by
     have:=(NhFam.d_ hw3.2.2 abc_uni.srt (Bc hw3.2.1)).length_le
     have:=abc_uni.len
     omega
    have cl:aw aL (ag false (aa 2) ao) (rE L P (aA w) c)=some (bS true,(rE L P (aA w) c)):=be (ss:=[tS w]) rfl rfl hs
    have t:aJ (bL (aw aL (ag false (aa 2) ao))) (rE L P (aA w) c)=some (false,(rE L P (aA w) c)):=by
     simp only[aJ,bL,cl,Z0,PL.look,Sl.val,gE,Z1,Bool.not_true]
    have ct:rJ L none (some (P.length:Int))=P.map aA:=by
     have:=pc L (k:=(P.length:Int)) (by omega)
     rw[wN]at this
     refine Eq.trans this ?_
     rw[hL,List.take_append_of_le_length (by rw[dY];exact dE _),List.take_of_length_le (by rw[dY];exact dE _)]
    have it:cN (b7 false (aa 0) aR (aP (aa 1))) (rE L P (aA w) c)=some (P.map aA,(rE L P (aA w) c)):=by
     have z:b7 false (aa 0) aR (aP (aa 1)) (rE L P (aA w) c)=some (.ow (rJ L none (some (P.length:Int))),(rE L P (aA w) c)):=rfl
     rw[ct]at z
     unfold cN
     rw[z]
     rfl
    obtain⟨y,e⟩:=D6 (.sh (.list L)) (iS (P.length:Int)) hw3.2.1 lw P c hP hl
    have fo:eD (cN (b7 false (aa 0) aR (aP (aa 1)))) bA ba (rE L P (aA w) c)=some ((rE L P (aA w) y),if P.all (fun v=>yy v w)then .nx else .rt (bS false)):=by
     unfold eD
     rw[it,Option.bind_some]
     exact e
    have st:(bc (.tuple [.int (P.length:Int),aA w]) [.sh (.list L),a,b,c]).bind aT=some ((rE L P (aA w) y),if P.all (fun v=>yy v w)then .nx else .rt (bS false)):=by
     rw[tg,Option.bind_some,aT,aI (c9 t rfl)]
     exact fo
    rw[gn,bM,st,chk,ha]
    simp only[hw,Bool.true_and]
    cases hP2:P.all (fun v=>yy v w)with
    |false=>exact⟨_,rfl⟩
    |true=>
     obtain⟨E',r⟩:=wB L ds (P++[w]) (iS (P.length:Int)) (tS w) y (by rw[hL,tU,List.append_assoc];rfl)
      (fun v hv=>(Zao.mp hv).elim (hP v) fun k=>by rw[Zak.mp k];exact hw3.2.1)
      (fun v hv=>(Zao.mp hv).elim (hl v) fun k=>by rw[Zak.mp k];exact lw)
      fun d hd'=>hd d (fJ _ hd')
     rw[wM]at r
     exact⟨E',r⟩
   ·have hw':Bm w=false:=by simpa using hw
    rw[hw']at hs
    refine⟨(rE L P (aA w) c),?_⟩
    rw[gn,bM,bad hs,chk,ha]
    simp only[hw',Bool.false_and]
    rfl
theorem wC:∀(W P:List (List Nat)),chk P (W.map aA)=true↔(∀w∈W,Bm w=true)∧W.Pairwise (fun v w=>yy v w=true)∧∀v∈P,∀w∈W,yy v w=true
 |[],P=>by simp[chk]
 |w::W,P=>by
  have ha:yF (aA w)=some w:=by simp[yF,aA]
  rw[dQ,chk,ha]
  simp only[lQ,Zbj,wC W (P++[w])]
  constructor
  ·rintro⟨⟨h1,h2⟩,h3,h4,h5⟩
   refine⟨fun v hv=>(Zaf.mp hv).elim (fun z=>z▸h1) (h3 v),List.pairwise_cons.mpr ⟨fun v hv=>h5 w (by simp) v hv,h4⟩,fun v hv u hu=>?_⟩
   rcases Zaf.mp hu with rfl |hu
   ·exact h2 v hv
   ·exact h5 v (by simp[hv]) u hu
  ·rintro⟨h1,h2,h3⟩
   have p:=List.pairwise_cons.mp h2
   refine⟨⟨h1 w (gk ..),fun v hv=>h3 v hv w (gk ..)⟩,fun v hv=>h1 v (fJ _ hv),p.2,fun v hv u hu=>?_⟩
   rcases Zao.mp hv with k |k
   ·exact h3 v k u (fJ _ hu)
   ·rw[Zak.mp k];exact p.1 u hu
theorem wD{d:PyData}(hd:∀w,yF d=some w→Bm w=false)(es:List PyData):∀(W P:List (List Nat)),chk P (W.map aA++d::es)=false
 |[],P=>by
  show chk P (d::es)=false
  rw[chk]
  cases h:yF d with
  |none=>rfl
  |some w=>simp only[hd w h,Bool.false_and]
 |w::W,P=>by
  have ha:yF (aA w)=some w:=by simp[yF,aA]
  rw[dQ,List.cons_append,chk,ha]
  simp only[wD hd es W (P++[w]),Bool.and_false]
theorem okP_iff{v w:List Nat}:yy v w=true↔¬NhFam.le v w∧NhFam.iO v w:=by
 unfold yy NhFam.iO
 rw[lQ]
 simp
theorem qS{W:List (List Nat)}(a:∀w∈W,∀x∈w,az x)(n:W≠[]):chk [] (W.map aA)=true↔IsR W:=by
 rw[wC]
 constructor
 ·rintro⟨h1,h2,_⟩
  exact⟨n,fun w hw=>⟨((kI w).mp (h1 w hw)).1,((kI w).mp (h1 w hw)).2.2⟩,h2.imp fun z=>okP_iff.mp z⟩
 ·intro h
  exact⟨fun w hw=>(kI w).mpr ⟨(h.set w hw).1,a w hw,(h.set w hw).2⟩,h.ord.imp fun z=>okP_iff.mpr z,fun v hv=>by cases hv⟩
theorem Bp{L:List PyData}(hs:SeqAt.shaped (.list L)=true):vN (.list L) (.list [])=some (decide (L=[])):=by
 have e:vN (.list L) (.list [])=(if SeqAt.shaped (.list L)&&SeqAt.shaped (.list [])then some (PyData.eqv (.list L) (.list []))else none):=rfl
 rw[e,hs]
 have s0:SeqAt.shaped (.list [])=true:=by decide
 rw[s0]
 cases L with
 |nil=>simp[PyData.eqv,PyData.eqvAll]
 |cons a L=>simp[PyData.eqv,PyData.eqvAll]
theorem wE(d:PyData):aC [d]=(fm [.sh d,.no,.no,.no]).bind fun a=>match a.2 with |.rt r=>dk r |.nx=>some (.sh .none) |_=>none:=rfl
def Gz:ig:=e_ (aJ (bL (fM (eM .list) (aa 0)))) (cf (af fU false (aa 0) (bF bt)))
theorem Gj{d:PyData}(t:Gz [.sh d,.no,.no,.no]=some (true,[.sh d,.no,.no,.no])):aC [d]=some (bS false):=by
 rw[wE]
 show((aE (bh Gz (aV (pC (.bool false))) aB) _) _).bind _=_
 unfold aE
 rw[eW t (r:=some ([.sh d,.no,.no,.no],.rt (bS false))) rfl]
 rfl
theorem yz{d:PyData}(h:eM .list d=some (.bool false)):aC [d]=some (bS false):=Gj (by
 unfold Gz e_ aJ bL fM
 simp only[aa,Z2,Z0,look,Sl.val,h,Z1,gE,bQ])
theorem Bq:aC [.list []]=some (bS false):=by kernel_rfl
theorem qT{L:List PyData}(n:L≠[])(hs:SeqAt.shaped (.list L)=true)(hd:∀d∈L,Bo d):aC [.list L]=some (bS (chk [] L)):=by
 have q:=Bp hs
 rw[decide_eq_false n]at q
 have t:Gz [.sh (.list L),.no,.no,.no]=some (false,[.sh (.list L),.no,.no,.no]):=by
  simp only[Gz,e_,aJ,bL,fM,aa,Z2,look,Sl.val,eM,Ty.is,zt,Z0,Z1,gE,cf,af,Sl.isBr,bF,bt,Z5,Nat.reduceLeDiff,fU,eK,q,bQ]
 obtain⟨E',e⟩:=wB L L [] .no .no .no rfl (fun v hv=>by cases hv) (fun v hv=>by cases hv) hd
 have it:mI (aa 0) [.sh (.list L),.no,.no,.no]=some (gn 0 L,[.sh (.list L),.no,.no,.no]):=rfl
 have fo:eD (mI (aa 0)) bc aT [.sh (.list L),.no,.no,.no]=some (E',if chk [] L then .nx else .rt (bS false)):=by
  unfold eD
  rw[it,Option.bind_some]
  exact e
 rw[wE]
 show((aE (bh Gz (aV (pC (.bool false))) aB) (aE (eD (mI (aa 0)) bc aT) (aV (pC (.bool true))))) _).bind _=_
 rw[aI (c9 t rfl)]
 unfold aE
 rw[fo]
 cases chk [] L <;> rfl
structure Odd (d:PyData):Prop where
 bad:Bi d
 ask:Bo d
 no:∀w,yF d=some w→Bm w=false
 lay:d.canLay0=true
 dep:d.depth≤10
inductive Thg:PyData→Prop
 |non {d:PyData}:eM .list d=some (.bool false)→Thg d
 |txs {W:List (List Nat)}:Txs W→Thg (xL W)
 |odd {W V:List (List Nat)} {d:PyData}:Txs W→Txs V→Odd d→Thg (.list (W.map aA++d::V.map aA))
theorem Gk(w:List Nat):Bo (aA w):=fun h=>by
 simp[yF,aA]at h
theorem mh(W:List (List Nat)):∀d∈W.map aA,Bo d:=fun d hd=>by
 obtain⟨w,_,rfl⟩:=Zau.mp hd
 exact Gk w
theorem wF{V:List (List Nat)}{d:PyData}(hV:∀w∈V,∀a∈w,az a)(o:Odd d):∀{W:List (List Nat)},(∀w∈W,∀a∈w,az a)→PyData.canLayAll0 (W.map aA++d::V.map aA)=true∧PyData.depthAll (W.map aA++d::V.map aA)≤10
 |[],_=>by
  obtain⟨x,y⟩:=qK hV
  have:=o.dep
  simp only[oa,Z8,PyData.canLayAll0,PyData.depthAll,o.lay,x,y,Bool.and_self,true_and]
  omega
 |w::W,h=>by
  obtain⟨x,y⟩:=wF hV o (W:=W) fun v hv=>h v (fJ _ hv)
  have h1:=u_ (h w (gk ..))
  have h2:(aA w).depth=0:=by simp[aA,PyData.depth]
  simp only[dQ,Z9,PyData.canLayAll0,PyData.depthAll,h1,h2,x,Bool.and_self,true_and]
  omega
theorem wG{d:PyData}(h:Thg d):(aC [d]=some (bS true)∧bE [d]=some (.sh .none))∨(aC [d]=some (bS false)∧bi [d]=some ("NoRule":Str)):=by
 cases h with
 |non h=>exact .inr ⟨yz h,vi h⟩
 | @txs W h=>
  by_cases n:W=[]
  ·subst n
   exact .inr ⟨Bq,yu⟩
  ·have i:=qT (L:=W.map aA) (by simpa using n) (jk h.az) (mh W)
   by_cases r:IsR W
   ·rw[(qS h.az n).mpr r]at i
    exact .inl ⟨i,Bd h r⟩
   ·rw[show chk [] (W.map aA)=false by simpa using fun z=>r ((qS h.az n).mp z)]at i
    exact .inr ⟨i,Dx h n r⟩
 | @odd W V d h hV o=>
  have sh:SeqAt.shaped (.list (W.map aA++d::V.map aA))=true:=by
   obtain⟨x,y⟩:=wF hV.az o h.az
   unfold SeqAt.shaped
   simp only[PyData.canLay0,PyData.depth,x,Bool.true_and]
   exact decide_eq_true (by omega)
  have i:=qT (L:=W.map aA++d::V.map aA) (by simp) sh fun e he=>by
   rcases Zao.mp he with k |k
   ·exact mh W e k
   ·rcases Zaf.mp k with rfl |k
    ·exact o.ask
    ·exact mh V e k
  rw[wD o.no]at i
  refine .inr ⟨i,Dw o.bad h.gd ?_⟩
  rw[wM,List.length_cons,dY,dY]
  have:=h.len
  have:=hV.len
  omega
structure Tb (n:Nat) (W:List (List Nat)):Prop where
 az:∀w∈W,∀a∈w,az a
 tl:∀w∈W,w.length≤60
 len:W.length≤n
theorem Tb.txs{n:Nat}{W:List (List Nat)}(h:Tb n W)(hn:n≤60):Txs W:=⟨h.az,fun w hw=>by have:=h.tl w hw;omega,kK h.len hn⟩
theorem Tb.app{n m:Nat}{W V:List (List Nat)}(h:Tb n W)(k:Tb m V):Tb (n+m) (W++V):=
 ⟨fun w hw=>(Zao.mp hw).elim (h.az w) (k.az w),fun w hw=>(Zao.mp hw).elim (h.tl w) (k.tl w),by rw[wM];exact Nat.add_le_add h.len k.len⟩
theorem Tb.take{n:Nat}{W:List (List Nat)}(h:Tb n W)(i:Nat):Tb n (W.take i):=
 ⟨fun w hw=>h.az w (List.mem_of_mem_take hw),fun w hw=>h.tl w (List.mem_of_mem_take hw),kK (List.length_take_le' ..) h.len⟩
theorem Tb.drop{n:Nat}{W:List (List Nat)}(h:Tb n W)(i:Nat):Tb n (W.drop i):=
 ⟨fun w hw=>h.az w (List.mem_of_mem_drop hw),fun w hw=>h.tl w (List.mem_of_mem_drop hw),by rw[List.length_drop];have:=h.len;omega⟩
theorem Tb.one{w:List Nat}(h:∀a∈w,Nhk41.az a)(l:w.length≤60):Tb 1 [w]:=⟨fun v hv=>by rw[Zak.mp hv];exact h,fun v hv=>by rw[Zak.mp hv];exact l,dE _⟩
inductive Sv:Sl→PyData→Prop
 |sh (d:PyData):Sv (.sh d) d
 |ow (ds:List PyData):Sv (.ow ds) (.list ds)
 |br (d:PyData):Sv (.br d) d
theorem Gm{s:Sl}{d:PyData}(h:Sv s d):∃s',dk s=some s'∧Sv s' d:=by
 unfold dk
 split
 ·exact⟨s,rfl,h⟩
 ·cases h with
  |sh d=>exact⟨_,rfl,.br d⟩
  |ow ds=>exact⟨_,rfl,.br _⟩
  |br d=>
   refine⟨_,rfl,?_⟩
   split
   ·exact .sh d
   ·exact .br d
theorem jm{E:List Sl}{f g:aD}{A B:List PyData}(hf:f E=some (.ow A,E))(hg:g E=some (.ow B,E))(hl:A.length+B.length≤1000000):af aO false f g E=some (.ow (A++B),E):=by
 unfold af
 rw[hf,Option.bind_some]
 simp only[hg,Z0,aO,PL.look,Sl.val,hl,jr,j4,Bool.and_self,bQ]
theorem Br{E:List Sl}{f g:aD}{A B:List PyData}(hf:f E=some (.sh (.list A),E))(hg:g E=some (.ow B,E))(hl:A.length+B.length≤1000000):af aO false f g E=some (.ow (A++B),E):=by
 unfold af
 rw[hf,Option.bind_some]
 simp only[hg,Z0,aO,PL.look,Sl.val,hl,jr,j4,Bool.and_self,bQ]
theorem qU{E:List Sl}{f g:aD}{s:Sl}{A:List PyData}{i:Nat}(hf:f E=some (s,E))(hl:PL.look E s=some (.list A))(hh:jr E s=false)(hg:g E=some (iS (i:Int),E)):b7 false f (aP g) aR E=some (.ow (A.drop i),E):=by
 have d:rJ A (some (i:Int)) none=A.drop i:=by
  have:=xj A (k:=(i:Int)) (by omega)
  rw[wN]at this
  exact this
 have o:aP g E=some (some (i:Int),E):=by simp only[aP,hg,Z0,PL.look,Sl.val]
 unfold b7
 rw[hf,Option.bind_some]
 simp only[o,Z0,aR,hl,hh,d,bQ]
theorem wH{E:List Sl}{f g:aD}{s:Sl}{A:List PyData}{i:Nat}(hf:f E=some (s,E))(hl:PL.look E s=some (.list A))(hh:jr E s=false)(hg:g E=some (iS (i:Int),E)):b7 false f aR (aP g) E=some (.ow (A.take i),E):=by
 have d:rJ A none (some (i:Int))=A.take i:=by
  have:=pc A (k:=(i:Int)) (by omega)
  rw[wN]at this
  exact this
 have o:aP g E=some (some (i:Int),E):=by simp only[aP,hg,Z0,PL.look,Sl.val]
 unfold b7
 rw[hf,Option.bind_some]
 simp only[o,Z0,aR,hl,hh,d,bQ]
theorem wI{E:List Sl}{f:aD}{d:PyData}(hf:f E=some (.sh d,E)):bF (aq f bt) E=some (.ow [d],E):=by
 simp only[bF,aq,hf,Z0,frz,bt,Z1,Z4,Z5]
 rfl
def ef(L:List (List Nat))(z:Int)(U:List Nat)(i:Nat)(w:List Nat):List Sl:=[xS L,iS z,uS U,iS (z % 12),iS (i:Int),tS w]
section
variable {L:List (List Nat)} {z:Int} {U:List Nat} {i:Nat} {w:List Nat}
theorem qV:b7 false (aa 0) aR (aP (aa 4)) (ef L z U i w)=some (.ow ((L.take i).map aA),ef L z U i w):=by
 rw[List.map_take]
 exact wH (s:=.sh (.list (L.map aA))) rfl rfl rfl rfl
theorem vj:b7 false (aa 0) (aP (aa 4)) aR (ef L z U i w)=some (.ow ((L.drop i).map aA),ef L z U i w):=by
 rw[List.map_drop]
 exact qU (s:=.sh (.list (L.map aA))) rfl rfl rfl rfl
theorem qW:b7 false (aa 0) (aP (af aO false (aa 4) (pC (.int 1)))) aR (ef L z U i w)=some (.ow ((L.drop (i+1)).map aA),ef L z U i w):=by
 rw[List.map_drop]
 exact qU (s:=.sh (.list (L.map aA))) rfl rfl rfl rfl
theorem Bs{f:aD}{v:List Nat}(hf:f (ef L z U i w)=some (.sh (aA v),ef L z U i w))(h:Tb 8 L){g:aD}{R:List (List Nat)}(hg:g (ef L z U i w)=some (.ow (R.map aA),ef L z U i w))(hR:R.length≤1000):af aO false (af aO false (b7 false (aa 0) aR (aP (aa 4))) (bF (aq f bt))) g (ef L z U i w)=some (.ow ((L.take i++[v]++R).map aA),ef L z U i w):=by
 have l:=h.len
 have lt:(L.take i).length≤8:=(h.take i).len
 have a:=jm qV (wI hf) (by simp;omega)
 have b:=jm a hg (by simp;omega)
 rw[b,tU,tU]
 rfl
end
theorem vk(x:Str)(l u:Option Int):Txt.slice x l u=PySem.StrLaws.sliceText x l u:=rfl
theorem yA(w:List Nat)(h:w≠[]):Txt.slice (⟨w.toArray⟩:Str) none (some 1)=⟨(w.take 1).toArray⟩:=by
 have e:(⟨w.toArray⟩:Str).cps.toList=w:=by simp
 have l:1≤w.length:=by
  cases w with
  |nil=>exact absurd rfl h
  |cons a w=>simp
 rw[vk,PySem.StrLaws.sliceText_to ⟨by omega,by rw[e];omega⟩,e]
 simp
def oddL:List PyData:=[.str "",.str "A",.str "a b",.none,.int 3,.bool true,.list [.str "a"],.tuple [.str "a"],.str "a\n"]
theorem Gn{d:PyData}(h:d∈oddL):d=aA []∨Odd d:=by
 have tx:∀{x:Str} {l:List Nat},x=⟨l.toArray⟩→(∃a∈l,¬az a)→(∀a∈l,a < 1114112)→Odd (.str x):=fun {x l} e b c=>by
  subst e
  refine⟨tO b,fun k=>(by cases k),fun w k=>?_,?_,by simp[PyData.depth]⟩
  ·have:w=l:=by simpa[yF]using k.symm
   subst this
   refine Bool.eq_false_iff.mpr fun q=>?_
   obtain⟨a,ha,na⟩:=b
   exact na (((kI w).mp q).2.1 a ha)
  ·simp only[PyData.canLay0,PyData.strOk]
   simpa using c
 simp only[oddL,Zaf,List.not_mem_nil,or_false]at h
 rcases h with rfl |rfl |rfl |rfl |rfl |rfl |rfl |rfl |rfl
 ·exact .inl (by unfold aA;rw[←Ba])
 ·exact .inr (tx (l:=[65]) (by decide+kernel) ⟨65,by decide,by unfold az;decide⟩ (by decide))
 ·exact .inr (tx (l:=[97,32,98]) (by decide+kernel) ⟨32,by decide,by unfold az;decide⟩ (by decide))
 ·exact .inr ⟨by unfold Bi;kernel_rfl,fun _=>rfl,fun w k=>(by cases k),by decide+kernel,by decide+kernel⟩
 ·exact .inr ⟨by unfold Bi;kernel_rfl,fun _=>rfl,fun w k=>(by cases k),by decide+kernel,by decide+kernel⟩
 ·exact .inr ⟨by unfold Bi;kernel_rfl,fun _=>rfl,fun w k=>(by cases k),by decide+kernel,by decide+kernel⟩
 ·exact .inr ⟨by unfold Bi;kernel_rfl,fun _=>rfl,fun w k=>(by cases k),by decide+kernel,by decide+kernel⟩
 ·exact .inr ⟨by unfold Bi;kernel_rfl,fun _=>rfl,fun w k=>(by cases k),by decide+kernel,by decide+kernel⟩
 ·exact .inr (tx (l:=[97,10]) (by decide+kernel) ⟨10,by decide,by unfold az;decide⟩ (by decide))
theorem Bt{L:List (List Nat)}(h:∀w∈L,∀a∈w,az a):Odd (xL L):=by
 obtain⟨x,y⟩:=qK h
 refine⟨?_,fun _=>rfl,fun w k=>(by cases k),by simpa only[PyData.canLay0]using x,by simp only[PyData.depth,y];decide⟩
 unfold Bi
 rfl
section
variable {L:List (List Nat)} {z:Int} {U:List Nat} {i:Nat} {w:List Nat}
def yG(L:List (List Nat))(z:Int)(U:List Nat)(i:Nat)(w:List Nat)(f:aD):Prop:=∃s d,f (ef L z U i w)=some (s,ef L z U i w)∧Sv s d∧Thg d
theorem jn{f:aD}{W:List (List Nat)}{n:Nat}(e:f (ef L z U i w)=some (.ow (W.map aA),ef L z U i w))(h:Tb n W)(hn:n≤60):yG L z U i w f:=⟨_,_,e,.ow _,.txs (h.txs hn)⟩
theorem IV(h:Tb 8 L):yG L z U i w (af aO false (b7 false (aa 0) (aP (aa 4)) aR) (b7 false (aa 0) aR (aP (aa 4)))):=
 jn (W:=L.drop i++L.take i) (by
  rw[tU]
  exact jm vj qV (by have:=(h.take i).len;have:=(h.drop i).len;simp only[dY];omega)) ((h.drop i).app (h.take i)) (by decide)
theorem IW(h:Tb 8 L)(hw:w∈L):yG L z U i w (af aO false (af aO false (b7 false (aa 0) aR (aP (aa 4))) (bF (aq (aa 5) bt))) (b7 false (aa 0) (aP (aa 4)) aR)):=
 jn (Bs (v:=w) rfl h vj (by have:=(h.drop i).len;omega)) (((h.take i).app (Tb.one (h.az w hw) (h.tl w hw))).app (h.drop i)) (by decide)
theorem IZ(h:Tb 8 L):yG L z U i w (af aO false (b7 false (aa 0) aR (aP (aa 4))) (b7 false (aa 0) (aP (af aO false (aa 4) (pC (.int 1)))) aR)):=
 jn (W:=L.take i++L.drop (i+1)) (by
  rw[tU]
  exact jm qV qW (by have:=(h.take i).len;have:=(h.drop (i+1)).len;simp only[dY];omega)) ((h.take i).app (h.drop (i+1))) (by decide)
theorem wJ{E:List Sl}{f:aD}{v:List Nat}(hf:f E=some (.ow ((v.map dD).map .str),E))(hl:v.length≤1000):fK "" f E=some (tS v,E):=by
 have l:=qJ v
 have l2:v.length≤1000000:=by omega
 unfold fK fM
 rw[hf,Option.bind_some]
 simp only[PL.look,Sl.val,Z0,ph,nU,l,l2,if_true,nV,Z1]
 rfl
def k2:aD:=af dw false (af df false (aa 1) (pC (.int 60))) (bG cu (ag false (aa 2) ao))
def i2:aD:=af l5 false (aa 2) k2
def j2:aD:=af aO false (aa 5) i2
theorem I_(h:Tb 8 L)(hw:w∈L)(u:Uni U)(u1:1≤U.length)(lw:w.length≤26):yG L z U i w (af aO false (aa 0) (bF (aq (fK "" (f_ j2)) bt))):=by
 have lU:=u.len
 have b:U.length≤1000000:=by omega
 have ln:bG cu (ag false (aa 2) ao) (ef L z U i w)=some (.sh (.int (U.length:Int)),ef L z U i w):=by
  simp only[bG,ag,aa,ef,Z3,Z2,Sl.isBr,ao,Z1,Z0,cu,bB,look,Sl.val,dY,bQ]
 have m0:=Int.emod_nonneg (z / 60) (show(U.length:Int)≠0 by omega)
 have m1:=Int.emod_lt_of_pos (z / 60) (show(0:Int) < U.length by omega)
 obtain⟨k,hk⟩:∃k:Nat,z / 60 % (U.length:Int)=(k:Int):=⟨(z / 60 % (U.length:Int)).toNat,by omega⟩
 have md:k2 (ef L z U i w)=some (.sh (.int (k:Int)),ef L z U i w):=by
  rw[←hk]
  exact gj (gD (E:=ef L z U i w) (f:=aa 1) (g:=pC (.int 60)) (x:=z) (y:=60) rfl rfl (by decide)) ln (by omega)
 have kl:k < U.length:=by omega
 have ix:i2 (ef L z U i w)=some (.sh (cj U[k]),ef L z U i w):=by
  have at1:atI (U.map cj) (k:Int)=some (cj U[k]):=by
   rw[qd (by omega),wN,q_,oR kl]
   rfl
  unfold i2 af
  rw[show aa 2 (ef L z U i w)=some (.sh (.list (U.map cj)),ef L z U i w)from rfl,Option.bind_some]
  simp only[md,Z0,l5,PL.look,Sl.val,at1,Z1,jr,j4,bQ]
 have ad:j2 (ef L z U i w)=some (.sh (aA (w++[U[k]])),ef L z U i w):=by
  unfold j2 af
  rw[show aa 5 (ef L z U i w)=some (.sh (aA w),ef L z U i w)from rfl,Option.bind_some]
  have l1:(⟨#[U[k]]⟩:Str).length=1:=rfl
  have lb:w.length+1≤1000000:=by omega
  have ap:(⟨w.toArray⟩:Str)++(⟨#[U[k]]⟩:Str)=⟨(w++[U[k]]).toArray⟩:=AQ w [U[k]]
  simp only[ix,Z0,aO,PL.look,Sl.val,aA,cj,g9,l1,lb,ap,bQ]
 have az':∀a∈w++[U[k]],az a:=fun a ha=>(Zao.mp ha).elim (h.az w hw a) fun q=>by rw[Zak.mp q];exact u.lt _ (List.getElem_mem kl)
 have d:=nT fun y hy=>g7 (az' y hy)
 have d2:((w++[U[k]]).map dD).length < 4000∧(iE ((w++[U[k]]).map dD)).length < 64:=⟨by rw[dY,wM,List.length_singleton];omega,Nat.lt_of_le_of_lt (we fun y hy=>g7 (az' y hy)) (by decide)⟩
 have ss:f_ j2 (ef L z U i w)=some (.ow (((cL (w++[U[k]])).map dD).map .str),ef L z U i w):=by
  unfold f_
  rw[ad,Option.bind_some]
  simp only[PL.look,Sl.val,aA,D0,d2,and_self,if_true,d]
 have li:(cL (w++[U[k]])).length≤26:=kK (List.length_filter_le _ _) (by simp)
 have j:=wJ ss (by omega)
 have e:=Br (f:=aa 0) (A:=L.map aA) (E:=ef L z U i w) rfl (wI j) (by have:=h.len;simp;omega)
 refine jn (W:=L++[cL (w++[U[k]])]) (n:=8+1) ?_ (h.app (Tb.one (fun a ha=>az_abc.mp (inOrd_mem.mp ha).1) (by omega))) (by decide)
 rw[tU]
 exact e
theorem Ja(h:Tb 8 L)(hw:w∈L):yG L z U i w (af aO false (af aO false (b7 false (aa 0) aR (aP (aa 4))) (bF (aq (fK "" (sG (aa 5))) bt))) (b7 false (aa 0) (aP (af aO false (aa 4) (pC (.int 1)))) aR)):=by
 have lw:=h.tl w hw
 have lb:w.length≤1000000:=by omega
 have bk:jC ⟨w.toArray⟩=w.reverse.map dD:=by
  unfold jC dD
  rw[List.toList_toArray]
 have r:sG (aa 5) (ef L z U i w)=some (.ow ((w.reverse.map dD).map .str),ef L z U i w):=by
  unfold sG
  rw[show aa 5 (ef L z U i w)=some (tS w,ef L z U i w)from rfl,Option.bind_some]
  simp only[PL.look,Sl.val,aA,g9,lb,if_true,bk]
 have j:=wJ r (by rw[List.length_reverse];omega)
 exact jn (Bs j h qW (by have:=(h.drop (i+1)).len;omega)) (((h.take i).app (Tb.one (fun a ha=>h.az w hw a (List.mem_reverse.mp ha)) (by rw[List.length_reverse];omega))).app (h.drop (i+1))) (by decide)
theorem Jb(h:Tb 8 L)(hw:w∈L)(n:w≠[])(lw:w.length≤26):yG L z U i w (af aO false (af aO false (b7 false (aa 0) aR (aP (aa 4))) (bF (aq (af aO false (b7 false (aa 5) aR (aP (pC (.int 1)))) (aa 5)) bt))) (b7 false (aa 0) (aP (af aO false (aa 4) (pC (.int 1)))) aR)):=by
 have lb:w.length≤1000000:=by omega
 have sl:=yA w n
 have c:b7 false (aa 5) aR (aP (pC (.int 1))) (ef L z U i w)=some (.sh (aA (w.take 1)),ef L z U i w):=by
  unfold b7
  rw[show aa 5 (ef L z U i w)=some (.sh (aA w),ef L z U i w)from rfl,Option.bind_some]
  have o:aP (pC (.int 1)) (ef L z U i w)=some (some 1,ef L z U i w):=rfl
  simp only[o,Z0,aR,PL.look,Sl.val,aA,g9,lb,sl,bQ]
 have lt:(w.take 1).length≤1:=List.length_take_le ..
 have a:af aO false (b7 false (aa 5) aR (aP (pC (.int 1)))) (aa 5) (ef L z U i w)=some (.sh (aA (w.take 1++w)),ef L z U i w):=by
  have l2:(w.take 1).length+w.length≤1000000:=by omega
  have ap:=AQ (w.take 1) w
  unfold af
  rw[c,Option.bind_some]
  simp only[show aa 5 (ef L z U i w)=some (.sh (aA w),ef L z U i w)from rfl,Z0,aO,PL.look,Sl.val,aA,g9,l2,ap,bQ]
 exact jn (Bs a h qW (by have:=(h.drop (i+1)).len;omega)) (((h.take i).app (Tb.one (fun a ha=>h.az w hw a ((Zao.mp ha).elim (fun q=>List.mem_of_mem_take q) id)) (by rw[wM];omega))).app (h.drop (i+1))) (by decide)
end
theorem Dz{α:Type}{l:List α}{i:Int}(h0:0≤i)(h1:i < l.length):∃a∈l,atI l i=some a:=by
 rw[qd h0]
 have hl:i.toNat < l.length:=by omega
 exact⟨l[i.toNat],List.getElem_mem hl,oR hl⟩
theorem lO{E:List Sl}{f:aD}{g:ij}{s:Sl}{d:PyData}{ds:List PyData}(hf:f E=some (s,E))(hz:frz E s=some (d,E))(hg:g E=some (ds,E)):aq f g E=some (d::ds,E):=by
 simp only[aq,hf,Z0,hz,hg,Z1]
def d6:ij:=aq (bF bt) (aq (uv (aa 0)) (aq (fK " " (aa 0)) (aq (pC .none) (aq (pC (.int 0)) (aq (vT (((pC (.str "a")),(pC (.int 1)))::[])) (aq (bF (aq (aa 0) bt)) (aq (kR (aq (pC (.str "a")) bt)) bt)))))))
def v6(L:List (List Nat))(x:Str):List PyData:=[.list [],.tuple (L.map aA),.str x,.none,.int 0,.dict [(.str "a",.int 1)],.list [xL L],.tuple [.str "a"]]
section
variable {L:List (List Nat)} {z:Int} {U:List Nat} {i:Nat} {w:List Nat}
theorem Jc(h:Tb 8 L):yG L z U i w (af aO false (af aO false (b7 false (aa 0) aR (aP (aa 4))) (b7 false (b7 false (bF (aq (pC (.str "")) (aq (pC (.str "A")) (aq (pC (.str "a b")) (aq (pC .none) (aq (pC (.int 3)) (aq (pC (.bool true)) (aq (bF (aq (pC (.str "a")) bt)) (aq (kR (aq (pC (.str "a")) bt)) (aq (pC (.str "a\n")) bt)))))))))) (aP (af dw false (af df false (aa 1) (pC (.int 60))) (pC (.int 9)))) aR) aR (aP (pC (.int 1))))) (b7 false (aa 0) (aP (aa 4)) aR)):=by
 have md:=gj (gD (E:=ef L z U i w) (f:=aa 1) (g:=pC (.int 60)) (x:=z) (y:=60) rfl rfl (by decide)) (g:=pC (.int 9)) (y:=9) rfl (by decide)
 have m0:=Int.emod_nonneg (z / 60) (show(9:Int)≠0 by decide)
 have m1:=Int.emod_lt_of_pos (z / 60) (show(0:Int) < 9 by decide)
 obtain⟨k,hk⟩:∃k:Nat,z / 60 % 9=(k:Int):=⟨(z / 60 % 9).toNat,by omega⟩
 rw[hk]at md
 have kl:k < oddL.length:=by show k < 9;omega
 have c1:=qU (E:=ef L z U i w) (f:=bF (aq (pC (.str "")) (aq (pC (.str "A")) (aq (pC (.str "a b")) (aq (pC .none) (aq (pC (.int 3)) (aq (pC (.bool true)) (aq (bF (aq (pC (.str "a")) bt)) (aq (kR (aq (pC (.str "a")) bt)) (aq (pC (.str "a\n")) bt)))))))))) (s:=.ow oddL) (A:=oddL) rfl rfl rfl md
 have c2:=wH (s:=.ow (oddL.drop k)) (A:=oddL.drop k) (g:=pC (.int 1)) (i:=1) c1 rfl rfl rfl
 have o:(oddL.drop k).take 1=[oddL[k]]:=by rw[By kl];rfl
 rw[o]at c2
 have lt:(L.take i).length≤8:=(h.take i).len
 have ld:(L.drop i).length≤8:=(h.drop i).len
 have a:=jm qV c2 (by rw[dY,List.length_singleton];omega)
 have b:=jm a vj (by rw[wM,dY,dY,List.length_singleton];omega)
 refine⟨_,_,b,.ow _,?_⟩
 rcases Gn (List.getElem_mem kl)with e |e
 ·rw[e]
  have:(L.take i).map aA++[aA []]++(L.drop i).map aA=(L.take i++[[]]++L.drop i).map aA:=by rw[tU,tU];rfl
  rw[this]
  exact .txs ((((h.take i).app (Tb.one (fun a ha=>by cases ha) (by decide))).app (h.drop i)).txs (by decide))
 ·rw[List.append_assoc]
  exact .odd ((h.take i).txs (by decide)) ((h.drop i).txs (by decide)) e
theorem Jd(h:Tb 8 L):yG L z U i w (af l5 false (bF d6) (af dw false (af df false (aa 1) (pC (.int 60))) (pC (.int 8)))):=by
 have md:=gj (gD (E:=ef L z U i w) (f:=aa 1) (g:=pC (.int 60)) (x:=z) (y:=60) rfl rfl (by decide)) (g:=pC (.int 8)) (y:=8) rfl (by decide)
 have m0:=Int.emod_nonneg (z / 60) (show(8:Int)≠0 by decide)
 have m1:=Int.emod_lt_of_pos (z / 60) (show(0:Int) < 8 by decide)
 have sm:∀{W:List (List Nat)},(∀w∈W,w.length≤60)→((W.map FT).map (·.length)).sum≤W.length*60:=fun {W}=>by
  induction W with
  |nil=>intro _;simp
  |cons v W ih=>
   intro hv
   have a:=ih fun u hu=>hv u (fJ _ hu)
   have b:=hv v (gk ..)
   have c:(FT v).length=v.length:=g9 v
   simp only[dQ,List.sum_cons,Z4,c]
   omega
 obtain⟨x,j⟩:∃x,fK " " (aa 0) (ef L z U i w)=some (.sh (.str x),ef L z U i w):=by
  have l:=sm h.tl
  have l8:=h.len
  have b:((L.map FT).map (·.length)).sum+(L.map FT).length*(Str.ofString " ").length≤1000000:=by
   have:(Str.ofString " ").length=1:=by decide+kernel
   rw[this,dY]
   omega
  refine⟨Txt.join " " (L.map FT),?_⟩
  unfold fK fM
  rw[show aa 0 (ef L z U i w)=some (xS L,ef L z U i w)from rfl,Option.bind_some]
  simp only[PL.look,Sl.val,Z0,ph,pK,b,if_true,Z1]
 have dl:d6 (ef L z U i w)=some ((v6 L x),ef L z U i w):=
  lO (s:=.ow []) rfl rfl (lO (s:=.sh (.tuple (L.map aA))) rfl rfl (lO j rfl (lO (s:=.sh .none) rfl rfl (lO (s:=iS 0) rfl rfl (lO (s:=.sh (.dict [(.str "a",.int 1)])) (by kernel_rfl) rfl (lO (s:=.ow [xL L]) rfl rfl (lO (s:=.sh (.tuple [.str "a"])) rfl rfl rfl)))))))
 have ls:bF d6 (ef L z U i w)=some (.ow (v6 L x),ef L z U i w):=by
  unfold bF
  unfold bF at dl
  rw[dl]
  rfl
 obtain⟨d,hd,e⟩:=Dz (l:=v6 L x) (i:=z / 60 % 8) m0 m1
 refine⟨.sh d,d,?_,.sh d,?_⟩
 ·generalize bF d6=X at ls ⊢
  generalize af dw false (af df false (aa 1) (pC (.int 60))) (pC (.int 8))=Y at md ⊢
  unfold af
  rw[ls,Option.bind_some]
  simp only[md,Z0,l5,PL.look,Sl.val,e,Z1,jr,j4,bQ]
 ·simp only[v6,Zaf,List.not_mem_nil,or_false]at hd
  rcases hd with rfl |rfl |rfl |rfl |rfl |rfl |rfl |rfl
  ·exact .txs (W:=[]) ⟨fun w hw=>(by cases hw),fun w hw=>(by cases hw),by decide⟩
  ·exact .non rfl
  ·exact .non rfl
  ·exact .non rfl
  ·exact .non rfl
  ·exact .non rfl
  ·have t0:Txs []:=⟨fun w hw=>(by cases hw),fun w hw=>(by cases hw),by decide⟩
   exact .odd (W:=[]) (V:=[]) t0 t0 (Bt h.az)
  ·exact .non rfl
theorem Je(h:Tb 8 L):yG L z U i w (aa 0):=⟨_,_,rfl,.sh _,.txs (h.txs (by decide))⟩
end
def Jr(k:Int)(f:aD)(r:cI):cI:=aE (bh (cf (af fU false (aa 3) (pC (.int k)))) (aV f) aB) r
section
variable {L:List (List Nat)} {z:Int} {U:List Nat} {i:Nat} {w:List Nat}
def Jf(L:List (List Nat))(z:Int)(U:List Nat)(i:Nat)(w:List Nat)(r:cI):Prop:=∃E' s d,r (ef L z U i w)=some (E',.rt s)∧Sv s d∧Thg d
theorem wK{f:aD}(h:yG L z U i w f):Jf L z U i w (aV f):=by
 obtain⟨s,d,e,v,t⟩:=h
 refine⟨ef L z U i w,s,d,?_,v,t⟩
 unfold aV
 rw[e]
 cases v <;> rfl
theorem lP{k:Int}{f:aD}{r:cI}(h:yG L z U i w f)(q:Jf L z U i w r):Jf L z U i w (Jr k f r):=by
 have t:=tD (E:=ef L z U i w) (f:=aa 3) (g:=pC (.int k)) (x:=z % 12) (y:=k) rfl rfl
 unfold Jr
 by_cases c:z % 12=k
 ·rw[decide_eq_true c]at t
  obtain⟨E',s,d,e,v,tg⟩:=wK h
  refine⟨E',s,d,?_,v,tg⟩
  unfold aE
  rw[eW t e]
  rfl
 ·rw[decide_eq_false c]at t
  obtain⟨E',s,d,e,v,tg⟩:=q
  exact⟨E',s,d,by rw[aI (c9 t rfl)];exact e,v,tg⟩
end
abbrev pE(L:List (List Nat))(z:Int)(U:List Nat)(a b c:Sl):List Sl:=[xS L,iS z,uS U,a,b,c]
theorem n6{L:List (List Nat)}{U:List Nat}(h:Tb 8 L)(n:L≠[])(ne:∀w∈L,w≠[])(lw:∀w∈L,w.length≤26)(u:Uni U)(u1:1≤U.length)(z:Int):∃s d,bX [xL L,.int z,uL U]=some s∧Sv s d∧Thg d:=by
 have l8:=h.len
 have l1:1≤L.length:=List.length_pos_iff.mpr n
 have b:L.length≤1000000:=by omega
 have m0:=Int.emod_nonneg (z / 12) (show(L.length:Int)≠0 by omega)
 have m1:=Int.emod_lt_of_pos (z / 12) (show(0:Int) < L.length by omega)
 obtain⟨i,hi⟩:∃i:Nat,z / 12 % (L.length:Int)=(i:Int):=⟨(z / 12 % (L.length:Int)).toNat,by omega⟩
 have il:i < L.length:=by omega
 have s1:a8 3 (af dw false (aa 1) (pC (.int 12))) (pE L z U .no .no .no)=some ((pE L z U (iS (z % 12)) .no .no),.nx):=
  fI (i:=3) (gj (f:=aa 1) (g:=pC (.int 12)) (x:=z) (y:=12) rfl rfl (by decide)) (show 3 < 6 by decide)
 have ln:bG cu (ag false (aa 0) ao) (pE L z U (iS (z % 12)) .no .no)=some (iS (L.length:Int),(pE L z U (iS (z % 12)) .no .no)):=by
  simp only[bG,ag,aa,Z2,Sl.isBr,ao,Z1,Z0,cu,bB,look,Sl.val,dY,bQ]
 have md:=gj (gD (f:=aa 1) (g:=pC (.int 12)) (x:=z) (y:=12) rfl rfl (by decide)) ln (by omega)
 rw[hi]at md
 have s2:a8 4 (af dw false (af df false (aa 1) (pC (.int 12))) (bG cu (ag false (aa 0) ao))) (pE L z U (iS (z % 12)) .no .no)=some ((pE L z U (iS (z % 12)) (iS (i:Int)) .no),.nx):=fI (i:=4) md (show 4 < 6 by decide)
 have at1:atI (L.map aA) (i:Int)=some (aA L[i]):=by
  rw[qd (by omega),wN,q_,oR il]
  rfl
 have ix:af l5 false (aa 0) (aa 4) (pE L z U (iS (z % 12)) (iS (i:Int)) .no)=some (.sh (aA L[i]),(pE L z U (iS (z % 12)) (iS (i:Int)) .no)):=by
  simp only[af,aa,Z2,Sl.isBr,l5,look,Sl.val,jr,j4,Z0,Z3,at1,Z1,bQ]
 have s3:a8 5 (af l5 false (aa 0) (aa 4)) (pE L z U (iS (z % 12)) (iS (i:Int)) .no)=some (ef L z U i L[i],.nx):=fI (i:=5) ix (show 5 < 6 by decide)
 have hw:L[i]∈L:=List.getElem_mem il
 generalize L[i]=w at s3 hw
 have g:bX [xL L,.int z,uL U]=(dO (pE L z U .no .no .no)).bind fun a=>match a.2 with |.rt r=>dk r |.nx=>some (.sh .none) |_=>none:=rfl
 have key:=lP (k:=0) (IV (z:=z) (U:=U) (i:=i) (w:=w) h) (lP (k:=1) (IW h hw) (lP (k:=2) (I_ h hw u u1 (lw w hw)) (lP (k:=3) (Ja h hw) (lP (k:=4) (Jb h hw (ne w hw) (lw w hw)) (lP (k:=5) (Jc h) (lP (k:=6) (Jd h) (lP (k:=7) (IZ h) (wK (Je h)))))))))
 obtain⟨E',s,d,e,v,t⟩:=key
 obtain⟨s',o,v'⟩:=Gm v
 refine⟨s',d,?_,v',t⟩
 rw[g,dO,aI s1,aI s2,aI s3]
 refine(congrArg (fun x=>Option.bind x _) e).trans ?_
 exact o
theorem yB(L M:List (List Nat))(hn:L.Nodup)(hm:∀w∈L,w∈M):L.length≤M.length:=by
 induction L generalizing M with
 |nil=>simp
 |cons a L ih=>
  have hn':=List.nodup_cons.mp hn
  have:=ih (M.erase a) hn'.2 fun w hw=>(List.mem_erase_of_ne (a:=w) (b:=a) (fun e=>hn'.1 (by rw[←e];exact hw))).mpr (hm w (fJ _ hw))
  rw[List.length_erase_of_mem (hm a (gk ..))]at this
  have pos:0 < M.length:=List.length_pos_of_mem (hm a (gk ..))
  simp only[Z4]
  omega
theorem vm{c:List PyData→Option PyData}{g:j0}{E E1:List Sl}{ss:List Sl}{ds:List PyData}{r:PyData}(h:g E=some (ss,E1))(hl:bB E1 ss=some ds)(hc:c ds=some r):bG c g E=some (.sh r,E1):=by
 simp only[bG,h,Z0,hl,hc,Z1]
open NhFam in
theorem Bu{U:List Nat}{L:List (List Nat)}{f:List Nat→Prop}(t:Told U L f)(n:L≠[])(ne:∀w∈L,w≠[]):IsR L:=
 ⟨n,fun w hw=>⟨ne w hw,(t.sub w hw).1⟩,t.srt.imp_of_mem fun {v w} hv hw l=>⟨fun k=>by
  have m:=((t.mem w).mp hw).2.2 v (t.sub v hv) ((t.mem v).mp hv).2.1 k
  subst m
  exact gY _ l,l⟩⟩
inductive Sw:Sl→PyData→Prop
 |sh (d:PyData):Sw (.sh d) d
 |ow (ds:List PyData):Sw (.ow ds) (.list ds)
theorem va{E:List Sl}{j:Nat}{s:Sl}{d:PyData}(h:E[j]? =some s)(v:Sw s d):∃s',aa j E=some (s',E)∧PL.look E s'=some d:=by
 cases v with
 |sh d=>exact⟨.sh d,by simp only[aa,h,Z0],rfl⟩
 |ow ds=>exact⟨.al j,by simp only[aa,h,Z0],by simp only[PL.look,h];rfl⟩
theorem tQ{E:List Sl}{j:Nat}{s r:Sl}{d:PyData}{c:List PyData→Option Sl}(h:E[j]? =some s)(v:Sw s d)(hc:c [d]=some r):aw c (ag false (aa j) ao) E=some (r,E):=by
 obtain⟨s',e,l⟩:=va h v
 exact be (ss:=[s']) (HS e) (by simp only[bB,l,Z0,Z1]) hc
theorem Js{f g h:aD}{E:List Sl}{s1 s2 s3:Sl}(hf:f E=some (s1,E))(hg:g E=some (s2,E))(hh:h E=some (s3,E)):ag false f (ag false g (ag false h ao)) E=some ([s1,s2,s3],E):=by
 simp only[ag,ao,hf,hg,hh,Z0,Z1,bQ]
theorem JE{f g h k:aD}{E:List Sl}{s1 s2 s3 s4:Sl}(hf:f E=some (s1,E))(hg:g E=some (s2,E))(hh:h E=some (s3,E))(hk:k E=some (s4,E)):ag false f (ag false g (ag false h (ag false k ao))) E=some ([s1,s2,s3,s4],E):=by
 simp only[ag,ao,hf,hg,hh,hk,Z0,Z1,bQ]
theorem Jg{S x1:PyData}{s2 s4 x5:Sl}{a:Int}{dU dL d:PyData}{f:aD}{s:Sl}(h2:Sw s2 dU)(h4:Sw s4 dL)(hf:f [.sh S,.sh x1,s2,iS a,s4,x5]=some (s,[.sh S,.sh x1,s2,iS a,s4,x5]))(v:Sv s d):∃s2' s4' s5',a8 5 f [.sh S,.sh x1,s2,iS a,s4,x5]=some ([.sh S,.sh x1,s2',iS a,s4',s5'],.nx)∧Sw s2' dU∧Sw s4' dL∧Sw s5' d:=by
 have fz:∀{s:Sl} {d:PyData},Sw s d→Sw (o8 s) d:=fun {s d} h=>by
  cases h with
  |sh d=>exact .sh d
  |ow ds=>exact .sh _
 unfold a8
 rw[hf,Option.bind_some]
 cases v with
 |sh d=>exact⟨s2,s4,.sh d,rfl,h2,h4,.sh d⟩
 |ow ds=>exact⟨s2,s4,.ow ds,rfl,h2,h4,.ow ds⟩
 |br d=>
  cases hd:du d with
  |true=>exact⟨s2,s4,.sh d,by simp only[PL.settle,hd,if_true];rfl,h2,h4,.sh d⟩
  |false=>exact⟨o8 s2,o8 s4,.sh d,by simp only[PL.settle,hd,bQ];rfl,fz h2,fz h4,.sh d⟩
theorem vn{f:aD}{E:List Sl}{b:Bool}(h:f E=some (bS b,E)):aJ (bL f) E=some (!b,E):=by
 simp only[aJ,bL,h,Z0,PL.look,Sl.val,gE,Z1]
theorem Bv{f:aD}{E:List Sl}(h:f E=some (.sh .none,E)):cf (af (eK (rG true)) false f (pC .none)) E=some (false,E):=by
 simp only[cf,af,h,Z0,pC,eK,PL.look,Sl.val,rG,Z1,bQ]
theorem pO:∀U:List Nat,NhFam.b8 U 0=[]
 |[]=>rfl
 |a::U=>by simp[NhFam.b8,pO U]
theorem DA{U:List Nat}(nd:U.Nodup){m:Nat}(h:F_ U.length m):NhFam.b8 U m≠[]:=fun z=>by
 have:=NhFam.nv nd h.2 (show 0 < 2 ^ U.length from Nat.pos_of_ne_zero (by have:=h.2;omega)) (z.trans (pO U).symm)
 have:=h.1
 omega
theorem DB{U M:List Nat}(u:Uni U)(m:∀k∈M,F_ U.length k)(m1:1≤M.length∧M.length≤8){L:List (List Nat)}(t:NhFam.Told U L (NhFam.up (M.map (NhFam.b8 U)))):Tb 8 L∧L≠[]∧(∀w∈L,w≠[])∧(∀w∈L,w.length≤26)∧IsR L:=by
 have all:∀v∈M.map (NhFam.b8 U),NhFam.Sub U v∧v≠[]:=fun v hv=>by
  obtain⟨k,hk,rfl⟩:=Zau.mp hv
  exact⟨NhFam.nu u.srt k,DA u.srt.nodup (m k hk)⟩
 have mem:∀v∈L,v∈M.map (NhFam.b8 U):=fun v hv=>((NhFam.uU fun v hv=>(all v hv).1).mp ((t.mem v).mp hv)).1
 have ne:∀w∈L,w≠[]:=fun v hv=>(all v (mem v hv)).2
 have nil:L≠[]:=fun z=>by
  obtain⟨k,hk⟩:=List.exists_mem_of_ne_nil M (fun z=>by have:=m1.1;rw[z]at this;simp at this)
  have hs:=(all _ (Zau.mpr ⟨k,hk,rfl⟩)).1
  obtain⟨v,hv,_⟩:=(t.up_iff (NhFam.Dg U _) hs).mpr ⟨_,Zau.mpr ⟨k,hk,rfl⟩,NhFam.le.refl _⟩
  rw[z]at hv
  cases hv
 have lw:∀w∈L,w.length≤26:=fun w hw=>u.short (t.sub w hw)
 refine⟨⟨fun w hw=>u.azw (t.sub w hw),fun w hw=>by have:=lw w hw;omega,?_⟩,nil,ne,lw,Bu t nil ne⟩
 have:=yB L (M.map (NhFam.b8 U)) (NhFam.x_ t.srt) mem
 rw[dY]at this
 omega
abbrev lE(ns:List Int)(x1:PyData)(s2:Sl)(a:Nat)(x4 x5:Sl):List Sl:=[nS ns,.sh x1,s2,iS (a:Int),x4,x5]
theorem Go(ns:List Int)(x1:PyData){U:List Nat}(u:Uni U)(u1:1≤U.length)(a:Nat)(ha:a≤100){s2:Sl}(h2:Sw s2 (.list (U.map cj)))(x3 x4 x5:Sl):∃s2' y4 y5,(gP (.int (a:Int)) [.sh (.list (ns.map .int)),.sh x1,s2,x3,x4,x5]).bind gQ=some ([.sh (.list (ns.map .int)),.sh x1,s2',.sh (.int (a:Int)),y4,y5],.nx)∧Sw s2' (.list (U.map cj)):=by
 have tg:gP (.int (a:Int)) [.sh (.list (ns.map .int)),.sh x1,s2,x3,x4,x5]=some (lE ns x1 s2 a x4 x5):=rfl
 have lU:=u.len
 have b:U.length≤1000000:=by omega
 obtain⟨M,m1,hM,em⟩:=qO ns a U.length ha u1 (by omega)
 have el:=qN M (by omega)
 have t:=NhFam.uV (U:=U) u.srt (ym M) fun k hk=>(hM k hk).2
 obtain⟨tb,nil,ne,lw,isr⟩:=DB u hM m1 t
 have lD:(oO M [] M).length < 60:=by
  have:=(kG M M [] List.nodup_nil)
  have s:=List.Nodup.length_le_of_subset this.1 (l₂:=M) fun k hk=>((this.2 k).mp hk).elim (fun z=>by cases z) fun z=>z.1
  omega
 have et:=qL u (oO M [] M) lD
 generalize NhFam.eR ((oO M [] M).map (NhFam.b8 U))=L at t tb nil ne lw isr et
 -- the rule
 obtain⟨v2,e2,k2⟩:=va (E:=(lE ns x1 s2 a x4 x5)) (j:=2) rfl h2
 have c1:bG cu (ag false (aa 2) ao) (lE ns x1 s2 a x4 x5)=some (.sh (.int (U.length:Int)),(lE ns x1 s2 a x4 x5)):=
  vm (ss:=[v2]) (ds:=[.list (U.map cj)]) (HS e2) (by simp only[bB,k2,Z0,Z1]) (by simp only[cu,dY,b,if_true])
 have c2:=be (c:=cV) (ss:=[.sh (.list (ns.map .int)),.sh (.int (a:Int)),.sh (.int (U.length:Int)),.sh (.int 8)]) (JE (E:=(lE ns x1 s2 a x4 x5)) (f:=aa 0) (g:=aa 3) (k:=pC (.int 8)) rfl rfl c1 rfl) rfl em
 have c3:=be (c:=cT) (ss:=[.ow (M.map aX)]) (HS c2) rfl el
 have c4:=be (c:=cU) (ss:=[.ow ((oO M [] M).map aX),v2]) (ds:=[.list ((oO M [] M).map aX),.list (U.map cj)]) (D2 c3 e2) (by
  have l0:PL.look (lE ns x1 s2 a x4 x5) (.ow ((oO M [] M).map aX))=some (.list ((oO M [] M).map aX)):=rfl
  simp only[bB,l0,k2,Z0,Z1]) et
 have s4:=u9 (i:=4) c4 (show 4 < 6 by decide)
 simp only[Z7,Z6]at s4
 -- the thing
 obtain⟨s,d,es,sv,tg5⟩:=n6 tb nil ne lw u u1 (ns.getD (a+1) 0)
 obtain⟨w2,f2,l2⟩:=va (E:=(lE ns x1 s2 a (.ow (L.map aA)) x5)) (j:=2) rfl h2
 have ad:af aO false (aa 3) (pC (.int 1)) (lE ns x1 s2 a (.ow (L.map aA)) x5)=some (.sh (.int ((a+1:Nat):Int)),(lE ns x1 s2 a (.ow (L.map aA)) x5)):=by
  rw[show((a+1:Nat):Int)=(a:Int)+1 by omega]
  exact eX (g:=aa 3) (f:=pC (.int 1)) rfl rfl
 have ca:=be (c:=aK) (ss:=[.sh (.list (ns.map .int)),.sh (.int ((a+1:Nat):Int))]) (D2 (f:=aa 0) (s1:=.sh (.list (ns.map .int))) rfl ad) rfl (jh ns (a+1))
 have c5:=be (c:=bX) (ss:=[.al 4,.sh (.int (ns.getD (a+1) 0)),w2]) (ds:=[.list (L.map aA),.int (ns.getD (a+1) 0),.list (U.map cj)]) (Js (f:=aa 4) (s1:=.al 4) rfl ca f2) (by
  have l4:PL.look (lE ns x1 s2 a (.ow (L.map aA)) x5) (.al 4)=some (.list (L.map aA)):=rfl
  simp only[bB,l4,l2,Z0,Z1]
  rfl) es
 obtain⟨s2',s4',s5',p5,q2,q4,q5⟩:=Jg h2 (.ow (L.map aA)) c5 sv
 refine⟨s2',s4',s5',?_,q2⟩
 -- the wG
 have p6:bh (aJ (bL (aw aC (ag false (aa 5) ao))))
   (bh (aJ (bL (AH [5] 1 bi (ag false (aa 0) ao) ["NoNails","NoRule"] cG 2))) (aV (pC (.bool false))) aB)
   (bh (cf (af (eK (rG true)) false (aw bE (ag false (aa 5) ao)) (pC .none))) (aV (pC (.bool false))) aB)
   (lE ns x1 s2' a s4' s5')=some ((lE ns x1 s2' a s4' s5'),.nx):=by
  rcases wG tg5 with⟨i,k⟩ |⟨i,k⟩
  ·have t1:=vn (tQ (E:=(lE ns x1 s2' a s4' s5')) (j:=5) rfl q5 i)
   have t2:=Bv (tQ (E:=(lE ns x1 s2' a s4' s5')) (j:=5) rfl q5 k)
   exact c9 t1 (c9 t2 rfl)
  ·have t1:=vn (tQ (E:=(lE ns x1 s2' a s4' s5')) (j:=5) rfl q5 i)
   have vl:vals (lE ns x1 s2' a s4' s5') [5]=some [d]:=by
    cases q5 <;> rfl
   have rf:=Gg (E:=(lE ns x1 s2' a s4' s5')) (js:=[5]) (n:=1) (due:=2) (ok:=["NoNails","NoRule"]) vl (wx (g:=ag false (aa 0) ao) (rs:=[.sh d]) (E1:=[.sh d]) (ds:=[d]) rfl rfl k) (by decide) IS
   exact eW t1 (Gh rf)
 have i4:=qT (L:=L.map aA) (by simpa using nil) (jk tb.az) (mh L)
 rw[(qS tb.az nil).mpr isr]at i4
 have k4:=Bd (tb.txs (by decide)) isr
 have n4:=vn (tQ (E:=(lE ns x1 s2' a s4' s5')) (j:=4) rfl q4 i4)
 have m4:=Bv (tQ (E:=(lE ns x1 s2' a s4' s5')) (j:=4) rfl q4 k4)
 rw[tg,Option.bind_some,gQ,aI s4,aI p5,aI p6]
 exact c9 (HC n4 m4) rfl
theorem Bw(ns:List Int)(x1:PyData){U:List Nat}(u:Uni U)(u1:1≤U.length):∀(L:List Nat) (s2 x3 x4 x5:Sl),Sw s2 (uL U)→(∀k∈L,k≤40)→∃E',bM gP gQ (L.map fun(k:Nat)=>PyData.int (2+(k:Int)*2)) [nS ns,.sh x1,s2,x3,x4,x5]=some (E',.nx)
 |[],s2,x3,x4,x5,_,_=>⟨_,rfl⟩
 |k::L,s2,x3,x4,x5,h2,hL=>by
  have hk:=hL k (gk ..)
  obtain⟨s2',y4,y5,st,q⟩:=Go ns x1 u u1 (2+k*2) (by omega) h2 x3 x4 x5
  obtain⟨E',e⟩:=Bw ns x1 u u1 L s2' (iS ((2+k*2:Nat):Int)) y4 y5 q fun j hj=>hL j (fJ _ hj)
  refine⟨E',?_⟩
  rw[dQ,show(2:Int)+(k:Int)*2=((2+k*2:Nat):Int) by omega,bM,st]
  exact e
abbrev oE(ns:List Int)(a b c d e:Sl):List Sl:=[nS ns,a,b,c,d,e]
theorem wL(ns:List Int)(k:Nat)(E:List Sl)(hE:E[0]? =some (nS ns)):aw aK (ag false (aa 0) (ag false (pC (.int (k:Int))) ao)) E=some (iS (ns.getD k 0),E):=by
 have v0:aa 0 E=some (nS ns,E):=by simp only[aa,hE,Z0]
 exact be (ss:=[nS ns,iS (k:Int)]) (D2 v0 rfl) rfl (jh ns k)
theorem DC(ns:List Int):∃n:Nat,1≤n∧n≤26∧∀r:cI,aE (a8 1 (af aO false (pC (.int 1)) (af dw false (aw aK (ag false (aa 0) (ag false (pC (.int 1)) ao))) (pC (.int 5))))) (aE (bh (cf (af fU false (af dw false (af df false (aw aK (ag false (aa 0) (ag false (pC (.int 1)) ao))) (pC (.int 5))) (pC (.int 8))) (pC (.int 4)))) (a8 1 (pC (.int 26))) aB) r) (oE ns .no .no .no .no .no)=r (oE ns (iS (n:Int)) .no .no .no .no):=by
 obtain⟨z,hz⟩:∃z,ns.getD 1 0=z:=⟨_,rfl⟩
 have at1:∀E:List Sl,E[0]? =some (nS ns)→aw aK (ag false (aa 0) (ag false (pC (.int 1)) ao)) E=some (iS z,E):=fun E h=>by
  rw[←hz]
  exact wL ns 1 E h
 have s0:=fI (i:=1) (eX (g:=pC (.int 1)) (x:=1) rfl (gj (at1 (oE ns .no .no .no .no .no) rfl) (g:=pC (.int 5)) (y:=5) rfl (by decide))) (show 1 < 6 by decide)
 simp only[Z7,Z6]at s0
 have z0:=Int.emod_nonneg z (show(5:Int)≠0 by decide)
 have z1:=Int.emod_lt_of_pos z (show(0:Int) < 5 by decide)
 have q:=tD (gj (gD (at1 (oE ns (iS (1+z % 5)) .no .no .no .no) rfl) (g:=pC (.int 5)) (y:=5) rfl (by decide)) (g:=pC (.int 8)) (y:=8) rfl (by decide)) (g:=pC (.int 4)) (y:=4) rfl
 by_cases h:z / 5 % 8=4
 ·rw[decide_eq_true h]at q
  have i1:=eW (a:=a8 1 (pC (.int 26))) (b:=aB) q (r:=some ((oE ns (iS 26) .no .no .no .no),.nx)) rfl
  exact⟨26,by decide,by decide,fun r=>by rw[aI s0,aI i1];rfl⟩
 ·rw[decide_eq_false h]at q
  obtain⟨n,hn⟩:∃n:Nat,1+z % 5=(n:Int):=⟨(1+z % 5).toNat,by omega⟩
  have i1:=c9 (a:=a8 1 (pC (.int 26))) (b:=aB) q (r:=some (_,.nx)) rfl
  rw[hn]at s0 i1
  exact⟨n,by omega,by omega,fun r=>by rw[aI s0,aI i1]⟩
def x4:aD:=bG Cl (ag false (pC (.int 4)) (ag false (bG zr (ag false (bG cu (ag false (aa 0) ao)) (ag false (pC (.int 42)) ao))) ao))
theorem Gp(ns:List Int)(hl:ns.length≤63):jW [.list (ns.map .int)]=some (bS true):=by
 have lb:ns.length≤1000000:=by omega
 obtain⟨n,n1,n2,st⟩:=DC ns
 obtain⟨w,nw,lw,azw,nd⟩:=FW (ns.getD 0 0) n n2
 have at0:aw aK (ag false (aa 0) (ag false (pC (.int 0)) ao)) (oE ns (iS (n:Int)) .no .no .no .no)=some (iS (ns.getD 0 0),(oE ns (iS (n:Int)) .no .no .no .no)):=wL ns 0 _ rfl
 have cn:=be (c:=ci) (ss:=[iS (ns.getD 0 0),iS (n:Int)]) (D2 at0 (g:=aa 1) (s2:=iS (n:Int)) rfl) rfl nw
 have s2:=u9 (i:=2) (yk cn (by omega) nd azw) (show 2 < 6 by decide)
 simp only[Z7,Z6]at s2
 have cnt:=tH nd azw
 have u:Uni (cL w):=⟨lr w,fun a ha=>azw a (inOrd_mem.mp ha).2,by omega⟩
 have u1:1≤(cL w).length:=by omega
 generalize cL w=U at s2 u u1 cnt
 have it:∃L:List Nat,(∀k∈L,k≤40)∧mK (ag false (pC (.int 2)) (ag false x4 (ag false (pC (.int 2)) ao))) (oE ns (iS (n:Int)) (uO U) .no .no .no)=some (L.map fun(k:Nat)=>PyData.int (2+(k:Int)*2),(oE ns (iS (n:Int)) (uO U) .no .no .no)):=by
  have h1:∃b:Int,x4 (oE ns (iS (n:Int)) (uO U) .no .no .no)=some (iS b,(oE ns (iS (n:Int)) (uO U) .no .no .no))∧0≤b∧b≤42:=by
   have lnn:bG cu (ag false (aa 0) ao) (oE ns (iS (n:Int)) (uO U) .no .no .no)=some (iS (ns.length:Int),(oE ns (iS (n:Int)) (uO U) .no .no .no)):=by
    simp only[bG,ag,aa,Z2,Sl.isBr,ao,Z1,Z0,cu,bB,look,Sl.val,dY,bQ]
   have mi:bG zr (ag false (bG cu (ag false (aa 0) ao)) (ag false (pC (.int 42)) ao)) (oE ns (iS (n:Int)) (uO U) .no .no .no)=some (iS (if (42:Int) < (ns.length:Int)then 42 else (ns.length:Int)),(oE ns (iS (n:Int)) (uO U) .no .no .no)):=vm (ss:=[iS (ns.length:Int),iS 42]) (D2 lnn rfl) rfl rfl
   refine⟨if (if (42:Int) < (ns.length:Int)then 42 else (ns.length:Int)) > 4 then (if (42:Int) < (ns.length:Int)then 42 else (ns.length:Int))else 4,?_,?_⟩
   ·exact vm (ss:=[iS 4,iS (if (42:Int) < (ns.length:Int)then 42 else (ns.length:Int))]) (D2 rfl mi) rfl rfl
   ·repeat' split
    all_goals omega
  obtain⟨b,q,b0,b1⟩:=h1
  refine⟨List.range (oo 2 b 2),fun k hk=>?_,?_⟩
  ·have:=List.mem_range.mp hk
   unfold oo Builtin.Range.rangeSize at this
   rw[if_pos (by decide)]at this
   split at this <;> omega
  unfold mK
  rw[Js (f:=pC (.int 2)) (h:=pC (.int 2)) rfl q rfl,Option.bind_some]
  show(if n8 2∧n8 b∧n8 2∧(2:Int)≠0 then some (xo 2 2 (oo 2 b 2),_)else none)=_
  rw[if_pos ⟨by decide,⟨by omega,by omega⟩,by decide,by decide⟩]
  rfl
 obtain⟨L,hL,it⟩:=it
 obtain⟨E',e⟩:=Bw ns (.int (n:Int)) u u1 L (uO U) .no .no .no (.ow _) hL
 have fo:eD (mK (ag false (pC (.int 2)) (ag false x4 (ag false (pC (.int 2)) ao)))) gP gQ (oE ns (iS (n:Int)) (uO U) .no .no .no)=some (E',.nx):=by
  unfold eD
  rw[it,Option.bind_some]
  exact e
 have g:jW [.list (ns.map .int)]=(tj (oE ns .no .no .no .no .no)).bind fun a=>match a.2 with |.rt r=>dk r |.nx=>some (.sh .none) |_=>none:=rfl
 unfold x4 at fo
 rw[g,tj,st,aI s2,aI fo]
 rfl
end Nhk41
namespace Nhk41
open PySem L2 Nh PL
open PySem.W (nsIn codeIn keepIn fnOf)
theorem ly{fd:FuncData}{xs:List Str}(h:∀a0,bindArgs fd ⟨[a0],[]⟩=pure (xs.zip [a0])):∀us:List Value,us.length=1→bindArgs fd ⟨us,[]⟩=pure (xs.zip us)
 |[a0],_=>h a0
theorem vo{fd:FuncData}{xs:List Str}(h:∀a0 a1,bindArgs fd ⟨[a0,a1],[]⟩=pure (xs.zip [a0,a1])):∀us:List Value,us.length=2→bindArgs fd ⟨us,[]⟩=pure (xs.zip us)
 |[a0,a1],_=>h a0 a1
theorem Jh{fd:FuncData}{xs:List Str}(h:∀a0 a1 a2,bindArgs fd ⟨[a0,a1,a2],[]⟩=pure (xs.zip [a0,a1,a2])):∀us:List Value,us.length=3→bindArgs fd ⟨us,[]⟩=pure (xs.zip us)
 |[a0,a1,a2],_=>h a0 a1 a2
theorem Ji{fd:FuncData}{xs:List Str}(h:∀a0 a1 a2 a3,bindArgs fd ⟨[a0,a1,a2,a3],[]⟩=pure (xs.zip [a0,a1,a2,a3])):∀us:List Value,us.length=4→bindArgs fd ⟨us,[]⟩=pure (xs.zip us)
 |[a0,a1,a2,a3],_=>h a0 a1 a2 a3
abbrev HD(K:Frag)(n:Str)(st:Stmt):Prop:=∃(f:Addr) (oc:Value) (od an:Option Addr) (sl:Array (Option Value)) (kV dc pm cd ct:Value),nsIn K mainGlobals n=some (some (.ref f))∧K.lookup f=some ⟨oc,od,.func (fnOf n n (cM st) (a7 st) (ah st) .none kV dc pm an cd ct),sl⟩∧codeIn K cd n=true∧keepIn K (.ref f)=true
theorem HJ{K:Frag}{n:Str}{st:Stmt}{f:Addr}{oc:Value}{od an:Option Addr}{sl:Array (Option Value)}{kV dc pm cd ct:Value}(a:nsIn K mainGlobals n=some (some (.ref f)))(l:K.lookup f=some ⟨oc,od,.func (fnOf n n (cM st) (a7 st) (ah st) .none kV dc pm an cd ct),sl⟩)(c:codeIn K cd n=true)(k:keepIn K (.ref f)=true):HD K n st:=⟨f,oc,od,an,sl,kV,dc,pm,cd,ct,a,l,c,k⟩
theorem dP{K:Frag}{h:Heap}{mg:Str→Option Value}{x:Str}{st:Stmt}{ps:List Str}(d:HD K x st)(X:K.In h)(G:h.Ns mainGlobals mg)(b:∀(kV doc pm:Value) (an:Option Addr) (cdv ct:Value) (us:List Value),us.length=ps.length→bindArgs (fnOf x x (cM st) (a7 st) (ah st) .none kV doc pm an cdv ct) ⟨us,[]⟩=pure (ps.zip us)):Def K mg x st ps:=by
 obtain⟨f,oc,od,an,sl,kV,dc,pm,cd,ct,a,l,c,k⟩:=d
 exact EQ X G a l c k b
theorem Gq {l:OpenLaw} {w:World} {K:Frag} {h:Heap} {mg:Str→Option Value} {fa f4 f23:Addr} (X:K.In h) (G:h.Ns mainGlobals mg) (hfa:mg "law"=some (.ref fa)) (B:Bn mg)
  {od4 od23 an4 an23:Option Addr} {sl4 sl23:Array (Option Value)} {oc4 kV4 dc4 pm4 ct4 oc23 kV23 dc23 pm23 ct23:Value}
  {PT4 PT23:Addr} (T:gr K oV [some PT4,none,none,none,none,none,none,none,some PT23])
  (d1:HD K "is_nail" je)
  (d2:HD K "set_of" iR)
  (d3:HD K "bits_of" jf)
  {cT4:Addr} (a4:nsIn K mainGlobals "in_told_order"=some (some (.ref f4))) (l4:K.lookup f4=some ⟨oc4,od4,.func (fnOf "in_told_order" "in_told_order" (cM cb) (a7 cb) (ah cb) .none kV4 dc4 pm4 an4 (.ref cT4) ct4),sl4⟩) (c4:codeIn K (.ref cT4) "in_told_order"=true) (k4:keepIn K (.ref f4)=true)
  (th4:codeHdIn K cT4 PT4=true) (tq4:io K PT4=some (("in_told_order":Str)++".<locals>."++"<lambda>"))
  (d5:HD K "has_part_among" dC)
  (d6:HD K "least_of" g0)
  (d7:HD K "least_sets" eU)
  (d8:HD K "least_or_no_rule" bY)
  (d9:HD K "check_rule" eV)
  (d10:HD K "_law_at" kC)
  (d11:HD K "_law_stir" g5)
  (d12:HD K "_law_nails" gy)
  (d13:HD K "_law_by_size" gI)
  (d14:HD K "_law_set" jg)
  (d15:HD K "_law_least" gz)
  (d16:HD K "_law_texts" gA)
  (d17:HD K "_law_masks" gB)
  (d18:HD K "_law_kinds" gC)
  (d19:HD K "_law_refused" fq)
  (d20:HD K "_law_spoiled" ft)
  (d21:HD K "_law_is_set" fS)
  (d22:HD K "_law_is_rule" fu)
  {cT23:Addr} (a23:nsIn K mainGlobals "law"=some (some (.ref f23))) (l23:K.lookup f23=some ⟨oc23,od23,.func (fnOf "law" "law" (cM kD) (a7 kD) (ah kD) .none kV23 dc23 pm23 an23 (.ref cT23) ct23),sl23⟩) (c23:codeIn K (.ref cT23) "law"=true) (k23:keepIn K (.ref f23)=true)
  (th23:codeHdIn K cT23 PT23=true) (tq23:io K PT23=some (("law":Str)++".<locals>."++"<lambda>"))
  {t_LETTERS:Tok} (g_LETTERS:nsIn K mainGlobals "LETTERS"=some (some (.str "abcdefghijklmnopqrstuvwxyz" t_LETTERS)))
  {ec_NoCord ec_NoNails ec_NoRule ec_NoText ec_NoMove ec_NoLine ec_NoName ec_NoNumber ec_TooMany ec_TooLong ec_HangError:Addr}
  (qc_NoCord:nsIn K mainGlobals "NoCord"=some (some (.ref ec_NoCord)))
  (qc_NoNails:nsIn K mainGlobals "NoNails"=some (some (.ref ec_NoNails)))
  (qc_NoRule:nsIn K mainGlobals "NoRule"=some (some (.ref ec_NoRule)))
  (qc_NoText:nsIn K mainGlobals "NoText"=some (some (.ref ec_NoText)))
  (qc_NoMove:nsIn K mainGlobals "NoMove"=some (some (.ref ec_NoMove)))
  (qc_NoLine:nsIn K mainGlobals "NoLine"=some (some (.ref ec_NoLine)))
  (qc_NoName:nsIn K mainGlobals "NoName"=some (some (.ref ec_NoName)))
  (qc_NoNumber:nsIn K mainGlobals "NoNumber"=some (some (.ref ec_NoNumber)))
  (qc_TooMany:nsIn K mainGlobals "TooMany"=some (some (.ref ec_TooMany)))
  (qc_TooLong:nsIn K mainGlobals "TooLong"=some (some (.ref ec_TooLong)))
  (qc_ValueError:nsIn K mainGlobals "ValueError"=some none)
  (qc_HangError:nsIn K mainGlobals "HangError"=some (some (.ref ec_HangError)))
  (w1_NoNails:excIn K ec_NoNails ID "ValueError.__new__"=true)
  (w2_NoNails:(PySem.W.clsIn K ec_NoNails).isSome=true)
  (w3_NoNails:findIn K (.ref ec_NoNails) "__getattribute__"=some (some (.builtin "BaseException.__getattribute__")))
  (w4_NoNails:findIn K (.ref ec_NoNails) "__getattr__"=some none)
  (w5_NoNails:findIn K (.ref ec_NoNails) "__class__"=some (some (.builtin "object.__class__")))
  (w6_NoNails:mroIn K ec_NoNails (.type "BaseException")=some true)
  (w7_NoNails:mroIn K ec_NoNails (.type "object")=some true)
  (y_NoNails_NoCord:kitOne K (.ref ec_NoNails) (.ref ec_NoCord)=some false)
  (y_NoNails_NoNails:kitOne K (.ref ec_NoNails) (.ref ec_NoNails)=some true)
  (y_NoNails_NoRule:kitOne K (.ref ec_NoNails) (.ref ec_NoRule)=some false)
  (y_NoNails_NoText:kitOne K (.ref ec_NoNails) (.ref ec_NoText)=some false)
  (y_NoNails_NoMove:kitOne K (.ref ec_NoNails) (.ref ec_NoMove)=some false)
  (y_NoNails_NoLine:kitOne K (.ref ec_NoNails) (.ref ec_NoLine)=some false)
  (y_NoNails_NoName:kitOne K (.ref ec_NoNails) (.ref ec_NoName)=some false)
  (y_NoNails_NoNumber:kitOne K (.ref ec_NoNails) (.ref ec_NoNumber)=some false)
  (y_NoNails_TooMany:kitOne K (.ref ec_NoNails) (.ref ec_TooMany)=some false)
  (y_NoNails_TooLong:kitOne K (.ref ec_NoNails) (.ref ec_TooLong)=some false)
  (y_NoNails_ValueError:kitOne K (.ref ec_NoNails) (.type "ValueError")=some true)
  (y_NoNails_ENoNails_HangError:exmOne K (.ref ec_NoNails) (.ref ec_NoNails)=some true)
  (y_NoNails_HangError:exmOne K (.ref ec_NoNails) (.ref ec_HangError)=some true)
  (w1_NoRule:excIn K ec_NoRule ID "ValueError.__new__"=true)
  (w2_NoRule:(PySem.W.clsIn K ec_NoRule).isSome=true)
  (w3_NoRule:findIn K (.ref ec_NoRule) "__getattribute__"=some (some (.builtin "BaseException.__getattribute__")))
  (w4_NoRule:findIn K (.ref ec_NoRule) "__getattr__"=some none)
  (w5_NoRule:findIn K (.ref ec_NoRule) "__class__"=some (some (.builtin "object.__class__")))
  (w6_NoRule:mroIn K ec_NoRule (.type "BaseException")=some true)
  (w7_NoRule:mroIn K ec_NoRule (.type "object")=some true)
  (y_NoRule_NoCord:kitOne K (.ref ec_NoRule) (.ref ec_NoCord)=some false)
  (y_NoRule_NoNails:kitOne K (.ref ec_NoRule) (.ref ec_NoNails)=some false)
  (y_NoRule_NoRule:kitOne K (.ref ec_NoRule) (.ref ec_NoRule)=some true)
  (y_NoRule_NoText:kitOne K (.ref ec_NoRule) (.ref ec_NoText)=some false)
  (y_NoRule_NoMove:kitOne K (.ref ec_NoRule) (.ref ec_NoMove)=some false)
  (y_NoRule_NoLine:kitOne K (.ref ec_NoRule) (.ref ec_NoLine)=some false)
  (y_NoRule_NoName:kitOne K (.ref ec_NoRule) (.ref ec_NoName)=some false)
  (y_NoRule_NoNumber:kitOne K (.ref ec_NoRule) (.ref ec_NoNumber)=some false)
  (y_NoRule_TooMany:kitOne K (.ref ec_NoRule) (.ref ec_TooMany)=some false)
  (y_NoRule_TooLong:kitOne K (.ref ec_NoRule) (.ref ec_TooLong)=some false)
  (y_NoRule_ValueError:kitOne K (.ref ec_NoRule) (.type "ValueError")=some true)
  (y_NoRule_HangError:exmOne K (.ref ec_NoRule) (.ref ec_HangError)=some true):
  ∃fd:FuncData,(∀(s:Shared) (v:Value),BindsTo s fd ⟨[v],[]⟩ [("_law_script",v)])∧∀base:Heap,K.In base→base.Ns mainGlobals mg→FnOk l.prog w K mg base mv 8 fa fd ["_law_script"] (eN K jW):=by
 have e:=hfa.symm.trans (mg_of X G a23)
 cases e
 have F0:FunT K "law" kD fa _ cT23 PT23:=⟨⟨_,_,_,_,_,_,_,_,rfl,l23,c23⟩,th23,tq23⟩
 have G_LETTERS:=mg_of X G g_LETTERS
 have Z_NoNails:ExCls K ec_NoNails:=⟨Option.isSome_iff_exists.mp w2_NoNails,w3_NoNails,w4_NoNails,w5_NoNails,w6_NoNails,w7_NoNails⟩
 have Z_NoRule:ExCls K ec_NoRule:=⟨Option.isSome_iff_exists.mp w2_NoRule,w3_NoRule,w4_NoRule,w5_NoRule,w6_NoRule,w7_NoRule⟩
 have XX:XF K mg:=⟨⟨ec_NoCord,mg_of X G qc_NoCord,(bx qc_NoNails Z_NoNails y_NoNails_NoCord (bx qc_NoRule Z_NoRule y_NoRule_NoCord gc))⟩,⟨ec_NoNails,mg_of X G qc_NoNails,(bx qc_NoNails Z_NoNails y_NoNails_NoNails (bx qc_NoRule Z_NoRule y_NoRule_NoNails gc)),⟨qc_NoNails,mg_of X G qc_NoNails,w1_NoNails,Z_NoNails⟩⟩,⟨ec_NoRule,mg_of X G qc_NoRule,(bx qc_NoNails Z_NoNails y_NoNails_NoRule (bx qc_NoRule Z_NoRule y_NoRule_NoRule gc)),⟨qc_NoRule,mg_of X G qc_NoRule,w1_NoRule,Z_NoRule⟩⟩,⟨ec_NoText,mg_of X G qc_NoText,(bx qc_NoNails Z_NoNails y_NoNails_NoText (bx qc_NoRule Z_NoRule y_NoRule_NoText gc))⟩,⟨ec_NoMove,mg_of X G qc_NoMove,(bx qc_NoNails Z_NoNails y_NoNails_NoMove (bx qc_NoRule Z_NoRule y_NoRule_NoMove gc))⟩,⟨ec_NoLine,mg_of X G qc_NoLine,(bx qc_NoNails Z_NoNails y_NoNails_NoLine (bx qc_NoRule Z_NoRule y_NoRule_NoLine gc))⟩,⟨ec_NoName,mg_of X G qc_NoName,(bx qc_NoNails Z_NoNails y_NoNails_NoName (bx qc_NoRule Z_NoRule y_NoRule_NoName gc))⟩,⟨ec_NoNumber,mg_of X G qc_NoNumber,(bx qc_NoNails Z_NoNails y_NoNails_NoNumber (bx qc_NoRule Z_NoRule y_NoRule_NoNumber gc))⟩,⟨ec_TooMany,mg_of X G qc_TooMany,(bx qc_NoNails Z_NoNails y_NoNails_TooMany (bx qc_NoRule Z_NoRule y_NoRule_TooMany gc))⟩,⟨ec_TooLong,mg_of X G qc_TooLong,(bx qc_NoNails Z_NoNails y_NoNails_TooLong (bx qc_NoRule Z_NoRule y_NoRule_TooLong gc))⟩,⟨mg_none_of X G qc_ValueError,(bx qc_NoNails Z_NoNails y_NoNails_ValueError (bx qc_NoRule Z_NoRule y_NoRule_ValueError gc))⟩,⟨ec_HangError,mg_of X G qc_HangError,fun n hn D hD=>by
  simp only[Zaf,List.not_mem_nil,or_false]at hn
  rcases hn with rfl |rfl
  ·rw[qc_NoNails]at hD;cases hD;exact y_NoNails_HangError
  ·rw[qc_NoRule]at hD;cases hD;exact y_NoRule_HangError⟩,⟨ec_NoNails,mg_of X G qc_NoNails,fun n hn D hD=>by
  simp only[Zaf,List.not_mem_nil,or_false]at hn
  rcases hn with rfl
  ·rw[qc_NoNails]at hD;cases hD;exact y_NoNails_ENoNails_HangError⟩⟩
 have e_is_nail:Def K mg "is_nail" je ["thing"]:=dP d1 X G fun _ _ _ _ _ _=>fun us hl=>ly (fun _=>rfl) us hl
 have e_set_of:Def K mg "set_of" iR ["nails"]:=dP d2 X G fun _ _ _ _ _ _=>fun us hl=>ly (fun _=>rfl) us hl
 have e_bits_of:Def K mg "bits_of" jf ["nails"]:=dP d3 X G fun _ _ _ _ _ _=>fun us hl=>ly (fun _=>rfl) us hl
 have e_in_told_order:DefT K mg "in_told_order" cb ["sets"] cT4 PT4:=⟨⟨f4,_,_,_,_,_,_,_,_,l4,c4,k4,mg_of X G a4,.all (fun us hl=>ly (fun _=>rfl) us hl)⟩,th4,tq4⟩
 have e_has_part_among:Def K mg "has_part_among" dC ["bits","parts"]:=dP d5 X G fun _ _ _ _ _ _=>fun us hl=>vo (fun _ _=>rfl) us hl
 have e_least_of:Def K mg "least_of" g0 ["sets"]:=dP d6 X G fun _ _ _ _ _ _=>fun us hl=>ly (fun _=>rfl) us hl
 have e_least_sets:Def K mg "least_sets" eU ["family"]:=dP d7 X G fun _ _ _ _ _ _=>fun us hl=>ly (fun _=>rfl) us hl
 have e_least_or_no_rule:Def K mg "least_or_no_rule" bY ["sets"]:=dP d8 X G fun _ _ _ _ _ _=>fun us hl=>ly (fun _=>rfl) us hl
 have e_check_rule:Def K mg "check_rule" eV ["thing"]:=dP d9 X G fun _ _ _ _ _ _=>fun us hl=>ly (fun _=>rfl) us hl
 have e_law_at:Def K mg "_law_at" kC ["_law_script","_law_k"]:=dP d10 X G fun _ _ _ _ _ _=>fun us hl=>vo (fun _ _=>rfl) us hl
 have e_law_stir:Def K mg "_law_stir" g5 ["_law_cell","_law_k"]:=dP d11 X G fun _ _ _ _ _ _=>fun us hl=>vo (fun _ _=>rfl) us hl
 have e_law_nails:Def K mg "_law_nails" gy ["_law_cell","_law_many"]:=dP d12 X G fun _ _ _ _ _ _=>fun us hl=>vo (fun _ _=>rfl) us hl
 have e_law_by_size:Def K mg "_law_by_size" gI ["_law_one"]:=dP d13 X G fun _ _ _ _ _ _=>fun us hl=>ly (fun _=>rfl) us hl
 have e_law_set:Def K mg "_law_set" jg ["_law_mask","_law_some"]:=dP d14 X G fun _ _ _ _ _ _=>fun us hl=>vo (fun _ _=>rfl) us hl
 have e_law_least:Def K mg "_law_least" gz ["_law_masks_here"]:=dP d15 X G fun _ _ _ _ _ _=>fun us hl=>ly (fun _=>rfl) us hl
 have e_law_texts:Def K mg "_law_texts" gA ["_law_masks_here","_law_some"]:=dP d16 X G fun _ _ _ _ _ _=>fun us hl=>vo (fun _ _=>rfl) us hl
 have e_law_masks:Def K mg "_law_masks" gB ["_law_script","_law_first","_law_many","_law_most"]:=dP d17 X G fun _ _ _ _ _ _=>fun us hl=>Ji (fun _ _ _ _=>rfl) us hl
 have e_law_kinds:Def K mg "_law_kinds" gC ["_law_e"]:=dP d18 X G fun _ _ _ _ _ _=>fun us hl=>ly (fun _=>rfl) us hl
 have e_law_refused:Def K mg "_law_refused" fq ["_law_deed","_law_due"]:=dP d19 X G fun _ _ _ _ _ _=>fun us hl=>vo (fun _ _=>rfl) us hl
 have e_law_spoiled:Def K mg "_law_spoiled" ft ["_law_rule","_law_cell","_law_some"]:=dP d20 X G fun _ _ _ _ _ _=>fun us hl=>Jh (fun _ _ _=>rfl) us hl
 have e_law_is_set:Def K mg "_law_is_set" fS ["_law_thing"]:=dP d21 X G fun _ _ _ _ _ _=>fun us hl=>ly (fun _=>rfl) us hl
 have e_law_is_rule:Def K mg "_law_is_rule" fu ["_law_thing"]:=dP d22 X G fun _ _ _ _ _ _=>fun us hl=>ly (fun _=>rfl) us hl
 refine⟨fnOf "law" "law" (cM kD) (a7 kD) (ah kD) .none kV23 dc23 pm23 an23 (.ref cT23) ct23,fun s v=>.of_eq rfl,fun base _ _=>?_⟩
 have D_is_nail:=uX (P:=l.prog) (w:=w) (base:=base) e_is_nail B
 have D_set_of:=ya (P:=l.prog) (w:=w) (base:=base) e_set_of B D_is_nail XX
 have R_set_of:=uY (P:=l.prog) (w:=w) (base:=base) e_set_of B D_is_nail XX
 have D_bits_of:=uZ (P:=l.prog) (w:=w) (base:=base) e_bits_of B G_LETTERS
 have D_in_told_order:=lj (P:=l.prog) (w:=w) (base:=base) e_in_told_order B
 have D_has_part_among:=kB (P:=l.prog) (w:=w) (base:=base) e_has_part_among B
 have D_least_of:=tm (P:=l.prog) (w:=w) (base:=base) e_least_of B D_in_told_order D_bits_of D_has_part_among
 have D_least_sets:=oI (P:=l.prog) (w:=w) (base:=base) e_least_sets B D_set_of D_least_of R_set_of
 have R_least_sets:=nK (P:=l.prog) (w:=w) (base:=base) e_least_sets B D_set_of D_least_of R_set_of
 have D_least_or_no_rule:=jw (P:=l.prog) (w:=w) (base:=base) e_least_or_no_rule B D_least_sets R_least_sets XX
 have R_least_or_no_rule:=iT (P:=l.prog) (w:=w) (base:=base) e_least_or_no_rule B D_least_sets R_least_sets XX
 have D_check_rule:=oJ (P:=l.prog) (w:=w) (base:=base) e_check_rule B D_least_or_no_rule R_least_or_no_rule XX
 have R_check_rule:=nM (P:=l.prog) (w:=w) (base:=base) e_check_rule B D_least_or_no_rule R_least_or_no_rule XX
 have D_law_at:=yc (P:=l.prog) (w:=w) (base:=base) e_law_at B
 have D_law_stir:=tu (P:=l.prog) (w:=w) (base:=base) e_law_stir B
 have D_law_nails:=qA (P:=l.prog) (w:=w) (base:=base) e_law_nails B
 have D_law_set:=u3 (P:=l.prog) (w:=w) (base:=base) e_law_set B
 have D_law_least:=qB (P:=l.prog) (w:=w) (base:=base) e_law_least B
 have D_law_texts:=qD (P:=l.prog) (w:=w) (base:=base) e_law_texts B D_law_set e_law_by_size
 have D_law_masks:=qF (P:=l.prog) (w:=w) (base:=base) e_law_masks B D_law_at D_law_stir
 have D_law_kinds:=qG (P:=l.prog) (w:=w) (base:=base) e_law_kinds B XX
 have D_law_refused:=nO (P:=l.prog) (w:=w) (base:=base) e_law_refused B D_law_kinds XX
 have D_law_spoiled:=nP (P:=l.prog) (w:=w) (base:=base) e_law_spoiled B
 have D_law_is_set:=oK (P:=l.prog) (w:=w) (base:=base) e_law_is_set B
 have D_law_is_rule:=nQ (P:=l.prog) (w:=w) (base:=base) e_law_is_rule B D_law_is_set
 exact FQ F0 B D_law_at D_law_nails D_law_masks D_law_least D_law_texts D_law_spoiled D_law_is_rule D_law_refused R_check_rule D_check_rule
theorem Jj{PT4 PT23:Addr}{l:OpenLaw}{q:Program}{loose:List Str}{XP:(Str→Option Value)→Heap→Prop}{YP:World→Heap→Prop}{d:DefRec}{K:Params→Frag}(hn:l.most=some 63)(hdf:d.params.defaults=[])
  (T:∀w:World,gr (K w.params) oV [some PT4,none,none,none,none,none,none,none,some PT23]) (hY:∀(w:World) (h:Heap),YP w h→(K w.params).In h∧nh (K w.params) h [some PT4,none,none,none,none,none,none,none,some PT23])
  (F:∀(w:World) (mg:Str→Option Value) (fa:Addr) (h:Heap),gr (K w.params) oV [some PT4,none,none,none,none,none,none,none,some PT23]→(K w.params).In h→h.Ns mainGlobals mg→mg d.name=some (.ref fa)→
   ∃fd:FuncData,(∀(s:Shared) (u:Value),BindsTo s fd ⟨[u],[]⟩ [("_law_script",u)])∧∀base:Heap,(K w.params).In base→base.Ns mainGlobals mg→FnOk l.prog w (K w.params) mg base mv 8 fa fd ["_law_script"] (eN (K w.params) jW)):
  PySem.W.WalkO q loose XP YP l.row.toRowW d [] (fun f vs=>PySem.call f vs):=
 L2.zV (n:=63) (k:=8) (x:="_law_script") (CX:=fun _=>mv) (sp:=fun w=>eN (K w.params) jW) hn (by decide) hdf ⟨rfl,by decide,by decide⟩ (fun w h Y=>⟨(hY w h Y).1,C9 (hY w h Y).1 (T w) (hY w h Y).2⟩) (fun w mg fa h=>F w mg fa h (T w)) (fun _ _ a ns hl hS=>Fc (Gp ns hl) hS) fun _ _ _ _ _ z=>z
end Nhk41
open PySem PySem.W PyProof.Rows
inductive PySem.W.Fast|tw5419647717260174560|tw7536083294456912128|tw5565143963633917216|tw532286647166930272|tw6092549188333506112|tw5795059118780737184|tw11868131079684916896|tw5850589318815267520|tw10438145919315845249|tw4663616832571788769|tw8440732625820988897|tw12217962014869230177|tw6408124307983485665|tw18018727887645444322|tw7779544366014216482|tw8769357756493805954|tw696104368023649826|tw15018477020580547202|tw9764828751002434370|tw3503297338506847074|tw7197897898886236066|tw3071614246394672066|tw3235228601978908771|tw18048011672572566659|tw6537084229834535299|tw9478873369109599651|tw1633184247777620483|tw11929198245623561827|tw17812120770881687139|tw14691274435056603875|tw14826475078867060643|tw5398466666754453700|tw6619171849467033796|tw1888008380651892004|tw16257415288836050372|tw4227425022558721508|tw2519944847012672100|tw4093278448217060036|tw8830412091345104580|tw10320979143523891012|tw10427399019435811748|tw17326445072197958693|tw16849125084744977477|tw3182002257130146885|tw18350475905961949349|tw7652728324724602085|tw1777341139354050821|tw1930983789790745989|tw4172088583977559493|tw15797284160776650277|tw531963021889317765|tw1897759017134956517|tw5990992640954785830|tw17361887888317284614|tw10992030972618177894|tw13704939088752238982|tw4365669579479294406|tw9817695569183030758|tw16839256702916490726|tw8304462809024861702|tw962121187044247110|tw9968378795636536070|tw11159065138091523910|tw536993193113436006|tw1653473506563832806|tw12494248259608062023|tw7467678407398657767|tw5056844862563002151|tw998305941366042471|tw6841690743764374407|tw935463118516830280|tw10055872248016733352|tw3133679384965996808|tw2011658811179643176|tw17404207528554678600|tw17810243109514204712|tw11416983469365570152|tw1615845452119603880|tw12803133439260177128|tw4929476610641185576|tw3279320876670475112|tw14706349490762054761|tw2042466474368592617|tw5915232031872418569|tw2462662125834598313|tw11128913273820436746|tw12623816288452417802|tw5047385245363555690|tw17715253939846248970|tw16158249931886510954|tw6963176854769200139|tw8985344609378137099|tw8701003185976453163|tw7768857566696284235|tw3839439147443326059|tw16840538148933890187|tw6098391106626406603|tw7803826006135491915|tw7377030327843659147|tw16690313524955692491|tw12350401854287203819|tw9315836098086131179|tw633215508863037963|tw12262419088595556939|tw2945585704511498827|tw6769965507063786123|tw3148812151761044331|tw10189853203397916555|tw10106429190735254475|tw3003154878468520076|tw16591597675005919564|tw11023298827998178668|tw2375248270937109964|tw1928878299360928268|tw22282281995854380|tw2633076011744004812|tw6094882410184742604|tw4947462664197768940|tw1075016241823418220|tw13895348668147504012|tw11838669242034354124|tw1183413589991188493|tw3321184689031600365|tw14502943417212012845|tw11718207855722868109|tw554474738077181741|tw3874381213138004781|tw4558025660697319405|tw4295476990138591310|tw12078913026639230734|tw12096765414061433742|tw5249800601246140334|tw1558663046432092303|tw16668404239140164911|tw4916297312512360751|tw5788661102746585583|tw2334822933341809231|tw8045519652166351439|tw9260353379447063247|tw17747994995532806927|tw10608546168440686415|tw5729661860561545071|tw16265676134739808207|tw13243104665401539567|tw17849165265255201808|tw5100753961513411024|tw15768999456131534352|tw12824947887632214640|tw11889071369041581712|tw5674939181413480144|tw10520100058741495760|tw12185270783755925553|tw6777039958974642513|tw8011190014101981649|tw14378622386246088241|tw8132151222942843601|tw17222231906059292369|tw2701628133561349841|tw10059898352290201329|tw11744138440111735569|tw2277558795772048273|tw9200712756584442769|tw10961795506369875921|tw3241813589397238769|tw11070493198399668242|tw6681195851083918386|tw2309369504910126354|tw10121504213934076562|tw17393173084329961170|tw2677625090015174386|tw3149542087291018066|tw10211605680255657874|tw11195793872163702770|tw8231375777390319699|tw5304530421066035411|tw12085298809721463123|tw15583929023858012659|tw17513396330111344243|tw2820044463362416403|tw13050005076670329651|tw7343444022429234131|tw10022525817107845140|tw4987792354915057876|tw3072475510045561076|tw9673891717710025076|tw4580836580539610580|tw8519190020753687060|tw7980413729126047316|tw11331288714469585524|tw14398531021966357140|tw15904846659989460660|tw11173512746622345044|tw7068339880108674996|tw10026125841565545621|tw4401286048173422037|tw11893221157452113493|tw17746976059117532757|tw17004743167423040277|tw375466694264874773|tw9681165169865593653|tw5537689354103989109|tw12003237533933887445|tw2404129455929479222|tw12307763966439013462|tw12037513779554216342|tw12679449851270202806|tw11998246727426373078|tw11988182892008553014|tw9794259729481583318|tw15934534592440107766|tw13968881561791782039|tw3390792288332817655|tw17237571555972897143|tw6887673667685050743|tw1670039987226187223|tw14200281990763265559|tw6358421172137640663|tw2124913418468277015|tw6256111466548224887|tw17092738496477419447|tw8270023155576735960|tw4277168849973468440|tw1404326724266396952|tw2574582432421447960|tw18178805082212609592|tw4117257196592884344|tw5755831362666452728|tw11551918300795866904|tw12007977723565326168|tw8483158912568698712|tw1834412782838644600|tw4002131542972918680|tw15062887904436975033|tw1865734701044178425|tw15839299298733969113|tw10121271709816087289|tw13583368527578168121|tw8358781358186220345|tw18081855712675358585|tw4636890274749162522|tw3820019844370518042|tw4256346853866919130|tw12718704036892721594|tw12965801287256128026|tw8046525561941768858|tw8093161021542766298|tw2381225886949588027|tw14965288240729515163|tw9755501260757424635|tw5825419981787765275|tw17079346083238677083|tw12695476511126453979|tw15702968420495481659|tw134385989060719451|tw15817435238202527579|tw16712326775650756507|tw7858571038286511132|tw13705781828865189980|tw17761346586548672604|tw2619585602263104764|tw7201413567723771164|tw14057450774333550940|tw6424912573173376540|tw17040894876679961212|tw132297508928878300|tw15226916859700628220|tw9795741725773792124|tw16395831387289894876|tw17418765763000988701|tw18283655176306173053|tw13924750047060700381|tw8220731135534124253|tw5909646850395659581|tw16010654476035696989|tw8544527174759197149|tw2670938019350777373|tw14813370341736277533|tw14166932236598288957|tw8702852459036175933|tw8937498165732129437|tw6390485013274170045|tw8003508434289829565|tw11246887917693779741|tw2534925153758369629|tw16111214583271111517|tw12490175815205488637|tw6029155030338744446|tw9278217383210177694|tw15629199711512356126|tw15451055043060955582|tw8214841970057628094|tw6068900528183375358|tw1701776838890501726|tw11887665664528111230|tw3902587723278485214|tw416198883685907519|tw13539107116780686431|tw15979933070785016415|tw2677275433826050751|tw10369026194536062751|tw16569382145771821855|tw14665077085395682207|tw9793801348041892799|tw9939060279679641535|tw7976789745987847785
set_option maxRecDepth 100000 in
set_option maxHeartbeats 0 in
theorem PySem.Challenge.cw_nailhang_k41_what_is_a_rule_holds : PySem.Challenge.rw_nailhang_k41_what_is_a_rule.Holds := by
 w_on;o_law;k_head;(case hw=>w_witness2)
 k_fill
 refine' Nhk41.Jj (l:=PySem.Challenge.rw_nailhang_k41_what_is_a_rule) rfl rfl ?T (fun w h Y=>⟨PySem.W.km_in_of Y,?Y⟩) ?F
 case T=>
  intro w
  refine' ⟨PL.s_ ?ta4 ?tb4 ?tc4 ?td4 ?te4 ?tf4,PL.dW ?tn1,PL.dW ?tn2,PL.dW ?tn3,PL.dW ?tn4,PL.dW ?tn5,PL.dW ?tn6,PL.dW ?tn7,PL.s_ ?ta23 ?tb23 ?tc23 ?td23 ?te23 ?tf23,trivial⟩
  (case ta4=>k_is)
  (case tb4=>k_is)
  (case tc4=>exact rfl)
  (case td4=>k_is)
  (case te4=>exact rfl)
  (case tf4=>kernel_rfl)
  (case tn1=>k_is)
  (case tn2=>k_is)
  (case tn3=>k_is)
  (case tn4=>k_is)
  (case tn5=>k_is)
  (case tn6=>k_is)
  (case tn7=>k_is)
  (case ta23=>k_is)
  (case tb23=>k_is)
  (case tc23=>exact rfl)
  (case td23=>k_is)
  (case te23=>exact rfl)
  (case tf23=>kernel_rfl)
 case Y=>
  refine' ⟨⟨PySem.W.km_tabs_of Y _ ?ua4,?uc4⟩,⟨⟨PySem.W.km_tabs_of Y _ ?ua23,?uc23⟩,trivial⟩⟩
  (case ua4=>k_mem)
  (case uc4=>kernel_rfl)
  (case ua23=>k_mem)
  (case uc23=>kernel_rfl)
 case F=>
  intro w mg fa h T KX G hmg
  refine' Nhk41.Gq KX G hmg (PL.Hj KX G ?_ ?_ ?_ ?_ ?_ ?_ ?_ ?_ ?_ ?_ ?_ ?_ ?_ ?_ ?_ ?_ ?_ ?_ ?_ ?_) T ?_ ?_ ?_ ?a4 ?l4 ?c4 ?k4 ?th4 ?tq4 ?_ ?_ ?_ ?_ ?_ ?_ ?_ ?_ ?_ ?_ ?_ ?_ ?_ ?_ ?_ ?_ ?_ ?_ ?a23 ?l23 ?c23 ?k23 ?th23 ?tq23 ?g_LETTERS ?qc_NoCord ?qc_NoNails ?qc_NoRule ?qc_NoText ?qc_NoMove ?qc_NoLine ?qc_NoName ?qc_NoNumber ?qc_TooMany ?qc_TooLong ?qc_ValueError ?qc_HangError ?w1_NoNails ?w2_NoNails ?w3_NoNails ?w4_NoNails ?w5_NoNails ?w6_NoNails ?w7_NoNails ?y_NoNails_NoCord ?y_NoNails_NoNails ?y_NoNails_NoRule ?y_NoNails_NoText ?y_NoNails_NoMove ?y_NoNails_NoLine ?y_NoNails_NoName ?y_NoNails_NoNumber ?y_NoNails_TooMany ?y_NoNails_TooLong ?y_NoNails_ValueError ?y_NoNails_ENoNails_HangError ?y_NoNails_HangError ?w1_NoRule ?w2_NoRule ?w3_NoRule ?w4_NoRule ?w5_NoRule ?w6_NoRule ?w7_NoRule ?y_NoRule_NoCord ?y_NoRule_NoNails ?y_NoRule_NoRule ?y_NoRule_NoText ?y_NoRule_NoMove ?y_NoRule_NoLine ?y_NoRule_NoName ?y_NoRule_NoNumber ?y_NoRule_TooMany ?y_NoRule_TooLong ?y_NoRule_ValueError ?y_NoRule_HangError
  (case a4=>k_is)
  (case l4=>k_is)
  (case c4=>k_is)
  (case k4=>k_is)
  (case th4=>kernel_rfl)
  (case tq4=>exact(PL.ma T).trans (by kernel_rfl))
  (case a23=>k_is)
  (case l23=>k_is)
  (case c23=>k_is)
  (case k23=>k_is)
  (case th23=>kernel_rfl)
  (case tq23=>exact(PL.ma T).trans (by kernel_rfl))
  (case g_LETTERS=>k_is)
  (case qc_NoCord=>k_is)
  (case qc_NoNails=>k_is)
  (case qc_NoRule=>k_is)
  (case qc_NoText=>k_is)
  (case qc_NoMove=>k_is)
  (case qc_NoLine=>k_is)
  (case qc_NoName=>k_is)
  (case qc_NoNumber=>k_is)
  (case qc_TooMany=>k_is)
  (case qc_TooLong=>k_is)
  (case qc_ValueError=>k_is)
  (case qc_HangError=>k_is)
  (case w1_NoNails=>k_exc)
  (case w2_NoNails=>kernel_rfl)
  (case w3_NoNails=>k_is)
  (case w4_NoNails=>k_is)
  (case w5_NoNails=>k_is)
  (case w6_NoNails=>k_is)
  (case w7_NoNails=>k_is)
  (case y_NoNails_NoCord=>kit_is)
  (case y_NoNails_NoNails=>kit_is)
  (case y_NoNails_NoRule=>kit_is)
  (case y_NoNails_NoText=>kit_is)
  (case y_NoNails_NoMove=>kit_is)
  (case y_NoNails_NoLine=>kit_is)
  (case y_NoNails_NoName=>kit_is)
  (case y_NoNails_NoNumber=>kit_is)
  (case y_NoNails_TooMany=>kit_is)
  (case y_NoNails_TooLong=>kit_is)
  (case y_NoNails_ValueError=>kit_is)
  (case y_NoNails_ENoNails_HangError=>kts_exm)
  (case y_NoNails_HangError=>kts_exm)
  (case w1_NoRule=>k_exc)
  (case w2_NoRule=>kernel_rfl)
  (case w3_NoRule=>k_is)
  (case w4_NoRule=>k_is)
  (case w5_NoRule=>k_is)
  (case w6_NoRule=>k_is)
  (case w7_NoRule=>k_is)
  (case y_NoRule_NoCord=>kit_is)
  (case y_NoRule_NoNails=>kit_is)
  (case y_NoRule_NoRule=>kit_is)
  (case y_NoRule_NoText=>kit_is)
  (case y_NoRule_NoMove=>kit_is)
  (case y_NoRule_NoLine=>kit_is)
  (case y_NoRule_NoName=>kit_is)
  (case y_NoRule_NoNumber=>kit_is)
  (case y_NoRule_TooMany=>kit_is)
  (case y_NoRule_TooLong=>kit_is)
  (case y_NoRule_ValueError=>kit_is)
  (case y_NoRule_HangError=>kts_exm)
  all_goals first |(refine' Nhk41.HJ ?_ ?_ ?_ ?_ <;> first |k_is |skip) |k_is
